import PyProof.Rows.All
import Wide.All
import OpenK.AllK
import Wide.FinOn
import PySem.Challenge.RW_causeloops_k70_whole_rings_by_an_own_jud
import HandS.ForMost
import HandS.ForExc
import HandS.Conv
import HandS.IsInst
import HandS.Wide
import HandS.Style
import HandS.TupAny
import HandS.Zip
import HandS.Codes
import HandS.Defaults
import PyProof.ListStr
import KE.KRevSl
import PyProof.ReprRoads
import PyProof.StrLawsRepr
import PyProof.FitsInt
import PyProof.CallFns
import HandS.Text
import PyProof.NeKinds
import OpenK.KMore
import KE.KSortTupG
import HandS.SortRule
import HandS.SetKeys
import HandS.WordsDict
import HandS.WideBits
import KE.DataCmp
import PyProof.P3In
import HandS.TupMul
import HandS.Deep
import HandS.SetFor
import HandS.SetTxt0
import HandS.Strs
import PyProof.Rows.SortStr
import HandS.TupSets
import PyProof.WalksMore
import KE.KDictZip
import PyProof.ListNew
import KE.GoesMore
import PyProof.Draws
import PyProof.EnumMake
import PyProof.TupleIter
import PyProof.AutoSeq1
import HandS.DictComp
import HandS.More
set_option Elab.async false
set_option linter.all false
set_option maxRecDepth 100000
set_option maxHeartbeats 4000000
namespace Cal
open PySem PySem.Spec PyProof.Rows L2
/-! ### data -/
inductive D where
  | non | bl (b : Bool) | int (i : Int) | str (s : Str) | raw (v : V)
  | lst (xs : List D) | tup (xs : List D) | dk (kvs : List (Key × D)) | dt (kvs : List (List Key × D)) | obj (C : Addr) (fs : List (Str × D))
instance : Inhabited D := ⟨.non⟩
mutual
def Dt (K : PySem.W.Frag) (G : Hp) : D → V → Prop
  | .non, v => v = .non
  | .bl b, v => v = .bl b
  | .int i, v => v = .int i
  | .str s, v => v = .str s
  | .raw u, v => v = u
  | .lst ds, v => ∃ a vs, v = .ref a ∧ G a = some (.lst vs) ∧ DtA K G ds vs
  | .tup ds, v => ∃ a vs, v = .ref a ∧ G a = some (.tup vs) ∧ DtA K G ds vs
  | .dk ds, v => ∃ a kvs, v = .ref a ∧ G a = some (.dK kvs) ∧ DtK K G ds kvs
  | .dt ds, v => ∃ a kvs, v = .ref a ∧ G a = some (.dT kvs) ∧ DtT K G ds kvs
  | .obj C ds, v => ∃ a dx kvs, v = .ref a ∧ G a = some (.ins C dx kvs) ∧ DtF K G ds kvs
def DtA (K : PySem.W.Frag) (G : Hp) : List D → List V → Prop
  | [], vs => vs = []
  | d :: ds, vs => ∃ v r, vs = v :: r ∧ Dt K G d v ∧ DtA K G ds r
def DtK (K : PySem.W.Frag) (G : Hp) : List (Key × D) → List (Key × V) → Prop
  | [], vs => vs = []
  | (k, d) :: ds, vs => ∃ v r, vs = (k, v) :: r ∧ Dt K G d v ∧ DtK K G ds r
def DtT (K : PySem.W.Frag) (G : Hp) : List (List Key × D) → List (List Key × V) → Prop
  | [], vs => vs = []
  | (k, d) :: ds, vs => ∃ v r, vs = (k, v) :: r ∧ Dt K G d v ∧ DtT K G ds r
def DtF (K : PySem.W.Frag) (G : Hp) : List (Str × D) → List (Str × V) → Prop
  | [], vs => vs = []
  | (k, d) :: ds, vs => ∃ v r, vs = (k, v) :: r ∧ Dt K G d v ∧ DtF K G ds r
end
theorem rd_mono {G G' : Hp} {a u} (e : Same G G') (h : Rd G a u) : Rd G' a u := by
  rcases h with h | ⟨o, h⟩
  · exact .inl (e _ _ h)
  · exact .inr ⟨o, e _ _ h⟩
theorem seqT_mono {K : PySem.W.Frag} {G G' : Hp} (e : Same G G') {a xs} (h : SqT K G a xs) : SqT K G' a xs := by
  rcases h with h | h
  · exact .inl (rd_mono e h)
  · exact .inr h
mutual
theorem Dt.mono {K : PySem.W.Frag} {G G' : Hp} (e : Same G G') : ∀ (d : D) {v : V}, Dt K G d v → Dt K G' d v
  | .non, _, h => h
  | .bl b, _, h => h
  | .int i, _, h => h
  | .str s, _, h => h
  | .raw u, _, h => h
  | .lst ds, _, ⟨a, vs, r, s, t⟩ => ⟨a, vs, r, e _ _ s, DtA.mono e ds t⟩
  | .tup ds, _, ⟨a, vs, r, s, t⟩ => ⟨a, vs, r, e _ _ s, DtA.mono e ds t⟩
  | .dk ds, _, ⟨a, vs, r, s, t⟩ => ⟨a, vs, r, e _ _ s, DtK.mono e ds t⟩
  | .dt ds, _, ⟨a, vs, r, s, t⟩ => ⟨a, vs, r, e _ _ s, DtT.mono e ds t⟩
  | .obj C ds, _, ⟨a, dx, vs, r, s, t⟩ => ⟨a, dx, vs, r, e _ _ s, DtF.mono e ds t⟩
theorem DtA.mono {K : PySem.W.Frag} {G G' : Hp} (e : Same G G') : ∀ (ds : List D) {vs : List V}, DtA K G ds vs → DtA K G' ds vs
  | [], _, h => h
  | d :: ds, _, ⟨v, r, q, s, t⟩ => ⟨v, r, q, Dt.mono e d s, DtA.mono e ds t⟩
theorem DtK.mono {K : PySem.W.Frag} {G G' : Hp} (e : Same G G') : ∀ (ds : List (Key × D)) {vs : List (Key × V)}, DtK K G ds vs → DtK K G' ds vs
  | [], _, h => h
  | (k, d) :: ds, _, ⟨v, r, q, s, t⟩ => ⟨v, r, q, Dt.mono e d s, DtK.mono e ds t⟩
theorem DtT.mono {K : PySem.W.Frag} {G G' : Hp} (e : Same G G') : ∀ (ds : List (List Key × D)) {vs : List (List Key × V)}, DtT K G ds vs → DtT K G' ds vs
  | [], _, h => h
  | (k, d) :: ds, _, ⟨v, r, q, s, t⟩ => ⟨v, r, q, Dt.mono e d s, DtT.mono e ds t⟩
theorem DtF.mono {K : PySem.W.Frag} {G G' : Hp} (e : Same G G') : ∀ (ds : List (Str × D)) {vs : List (Str × V)}, DtF K G ds vs → DtF K G' ds vs
  | [], _, h => h
  | (k, d) :: ds, _, ⟨v, r, q, s, t⟩ => ⟨v, r, q, Dt.mono e d s, DtF.mono e ds t⟩
end
theorem DtA.length {K : PySem.W.Frag} {G : Hp} : ∀ {ds : List D} {vs : List V}, DtA K G ds vs → vs.length = ds.length
  | [], _, h => by rw [show _ = [] from h]; rfl
  | d :: ds, _, ⟨v, r, q, s, t⟩ => by rw [q, List.length_cons, List.length_cons, DtA.length t]
theorem DtA.get {K : PySem.W.Frag} {G : Hp} : ∀ {ds : List D} {vs : List V} {i : Nat} {d : D}, DtA K G ds vs → ds[i]? = some d → ∃ v, vs[i]? = some v ∧ Dt K G d v
  | [], _, _, _, _, e => by simp at e
  | d :: ds, _, 0, _, ⟨v, r, q, s, t⟩, e => by
    simp at e; subst e; exact ⟨v, by rw [q]; rfl, s⟩
  | d :: ds, _, i + 1, _, ⟨v, r, q, s, t⟩, e => by
    obtain ⟨u, h1, h2⟩ := DtA.get (i := i) t (by simpa using e)
    exact ⟨u, by rw [q]; simpa using h1, h2⟩
theorem DtA.append {K : PySem.W.Frag} {G : Hp} : ∀ {ds es : List D} {vs us : List V}, DtA K G ds vs → DtA K G es us → DtA K G (ds ++ es) (vs ++ us)
  | [], _, _, _, h, k => by rw [show _ = [] from h]; exact k
  | d :: ds, _, _, _, ⟨v, r, q, s, t⟩, k => ⟨v, r ++ _, by rw [q]; rfl, s, DtA.append t k⟩
theorem DtA.take {K : PySem.W.Frag} {G : Hp} : ∀ (n : Nat) {ds : List D} {vs : List V}, DtA K G ds vs → DtA K G (ds.take n) (vs.take n)
  | 0, ds, vs, _ => by rw [List.take_zero, List.take_zero]; rfl
  | n + 1, [], _, h => by rw [show _ = [] from h]; rfl
  | n + 1, d :: ds, _, ⟨v, r, q, s, t⟩ => ⟨v, r.take n, by rw [q]; rfl, s, DtA.take n t⟩
theorem DtA.drop {K : PySem.W.Frag} {G : Hp} : ∀ (n : Nat) {ds : List D} {vs : List V}, DtA K G ds vs → DtA K G (ds.drop n) (vs.drop n)
  | 0, ds, vs, h => h
  | n + 1, [], _, h => by rw [show _ = [] from h]; rfl
  | n + 1, d :: ds, _, ⟨v, r, q, s, t⟩ => by rw [q]; exact DtA.drop n t
theorem DtA.ints {K : PySem.W.Frag} {G : Hp} : ∀ {is : List Int} {vs : List V}, DtA K G (is.map D.int) vs → vs = is.map V.int
  | [], _, h => h
  | i :: is, _, ⟨v, r, q, s, t⟩ => by rw [q, show v = V.int i from s, DtA.ints t]; rfl
theorem DtA.strs {K : PySem.W.Frag} {G : Hp} : ∀ {is : List Str} {vs : List V}, DtA K G (is.map D.str) vs → vs = is.map V.str
  | [], _, h => h
  | i :: is, _, ⟨v, r, q, s, t⟩ => by rw [q, show v = V.str i from s, DtA.strs t]; rfl
theorem DtA.bls {K : PySem.W.Frag} {G : Hp} : ∀ {is : List Bool} {vs : List V}, DtA K G (is.map D.bl) vs → vs = is.map V.bl
  | [], _, h => h
  | i :: is, _, ⟨v, r, q, s, t⟩ => by rw [q, show v = V.bl i from s, DtA.bls t]; rfl
theorem DtA.of_ints {K : PySem.W.Frag} {G : Hp} : ∀ (is : List Int), DtA K G (is.map D.int) (is.map V.int)
  | [] => rfl
  | i :: is => ⟨_, _, rfl, rfl, DtA.of_ints is⟩
theorem DtA.of_strs {K : PySem.W.Frag} {G : Hp} : ∀ (is : List Str), DtA K G (is.map D.str) (is.map V.str)
  | [] => rfl
  | i :: is => ⟨_, _, rfl, rfl, DtA.of_strs is⟩
theorem DtA.dropLast {K : PySem.W.Frag} {G : Hp} {ds : List D} {vs : List V} (h : DtA K G ds vs) : DtA K G ds.dropLast vs.dropLast := by
  rw [List.dropLast_eq_take, List.dropLast_eq_take, h.length]
  exact h.take _

/-! ### where one stands -/
inductive Cl where
  | lst (ds : List D) | dk (kvs : List (Key × D)) | dt (kvs : List (List Key × D)) | rg (lo hi : Int) | ob (C dx : Addr) (fs : List (Str × D))
def CellOk (K : PySem.W.Frag) (G H : Hp) (l : Addr) : Cl → Prop
  | .lst ds => ∃ vs, H l = some (.lst vs) ∧ DtA K G ds vs
  | .dk ds => ∃ kvs, H l = some (.dK kvs) ∧ DtK K G ds kvs
  | .dt ds => ∃ kvs, H l = some (.dT kvs) ∧ DtT K G ds kvs
  | .rg lo hi => H l = some (.rng lo hi)
  | .ob C dx ds => ∃ vs, H l = some (.ins C dx vs) ∧ DtF K G ds vs
theorem CellOk.mono {K : PySem.W.Frag} {G G' H H' : Hp} {l : Addr} (e : Same G G') (k : ∀ o, H l = some o → H' l = some o) : ∀ {c : Cl}, CellOk K G H l c → CellOk K G' H' l c
  | .lst ds, ⟨vs, a, b⟩ => ⟨vs, k _ a, DtA.mono e ds b⟩
  | .dk ds, ⟨vs, a, b⟩ => ⟨vs, k _ a, DtK.mono e ds b⟩
  | .dt ds, ⟨vs, a, b⟩ => ⟨vs, k _ a, DtT.mono e ds b⟩
  | .rg lo hi, a => k _ a
  | .ob C dx ds, ⟨vs, a, b⟩ => ⟨vs, k _ a, DtF.mono e ds b⟩
theorem CellOk.there {K : PySem.W.Frag} {G H : Hp} {l : Addr} : ∀ {c : Cl}, CellOk K G H l c → H l ≠ none
  | .lst ds, ⟨vs, a, b⟩ => by rw [a]; simp
  | .dk ds, ⟨vs, a, b⟩ => by rw [a]; simp
  | .dt ds, ⟨vs, a, b⟩ => by rw [a]; simp
  | .rg lo hi, a => by rw [show H l = some (.rng lo hi) from a]; simp
  | .ob C dx ds, ⟨vs, a, b⟩ => by rw [a]; simp
theorem ne_of_mem {M : List Addr} {p b : Addr} (n : p ∉ M) (h : b ∈ M) : b ≠ p := fun e => n (e ▸ h)
/-- there, and no tuple -/
def Ent (H : Hp) (b : Addr) : Prop := H b ≠ none ∧ ∀ vs, H b ≠ some (.tup vs)
theorem CellOk.noTup {K : PySem.W.Frag} {G H : Hp} {l : Addr} {vs : List V} : ∀ {c : Cl}, CellOk K G H l c → H l ≠ some (.tup vs)
  | .lst ds, ⟨vs, a, b⟩ => by rw [a]; simp
  | .dk ds, ⟨vs, a, b⟩ => by rw [a]; simp
  | .dt ds, ⟨vs, a, b⟩ => by rw [a]; simp
  | .rg lo hi, a => by rw [show H l = some (.rng lo hi) from a]; simp
  | .ob C dx ds, ⟨vs, a, b⟩ => by rw [a]; simp
structure Bs where
  K : PySem.W.Frag
  I : Hp → Prop
  M : List Addr
  loc : ∀ H H', I H → (∀ b ∈ M, H' b = H b) → I H'
  G0 : Hp
  H0 : Hp
structure AtG (B : Bs) (ρ : List (Option D)) (μ : List (Addr × Cl)) (τ : List (V × D)) (σ : L2.St) (H G : Hp) : Prop where
  sub : Same G H
  inv : B.I H
  out : ∀ b ∈ B.M, G b = none ∧ Ent H b
  tup : ∀ b vs, H b = some (.tup vs) → G b = some (.tup vs)
  base : ∀ b o, B.H0 b = some o → b ∉ B.M → H b = some o
  ext : ∀ b o, G b = some o → B.H0 b = none ∨ B.G0 b = some o
  len : ρ.length = σ.length
  slots : ∀ (i : Nat) (d : D), ρ[i]? = some (some d) → ∃ v, σ[i]? = some (some v) ∧ Dt B.K G d v
  cells : ∀ p ∈ μ, G p.1 = none ∧ B.H0 p.1 = none ∧ p.1 ∉ B.M ∧ CellOk B.K G H p.1 p.2
  nd : (μ.map (·.1)).Nodup
  temps : ∀ p ∈ τ, Dt B.K G p.2 p.1
def At (B : Bs) (ρ : List (Option D)) (μ : List (Addr × Cl)) (τ : List (V × D)) (σ : L2.St) (H : Hp) : Prop := ∃ G, AtG B ρ μ τ σ H G
section
variable {B : Bs} {ρ : List (Option D)} {μ : List (Addr × Cl)} {τ τ' : List (V × D)} {σ : L2.St} {H H' G G' : Hp} {v : V} {d : D} {p : Addr}
theorem At.sub (h : At B ρ μ τ σ H) (k : ∀ p ∈ τ', p ∈ τ) : At B ρ μ τ' σ H := by
  obtain ⟨G, h⟩ := h
  exact ⟨G, { h with temps := fun p hp => h.temps p (k p hp) }⟩
theorem At.pop (h : At B ρ μ ((v, d) :: τ) σ H) : At B ρ μ τ σ H := h.sub fun p hp => List.mem_cons_of_mem _ hp
theorem At.top (h : At B ρ μ ((v, d) :: τ) σ H) : ∃ G, AtG B ρ μ τ σ H G ∧ Dt B.K G d v := by
  obtain ⟨G, h⟩ := h
  exact ⟨G, { h with temps := fun p hp => h.temps p (List.mem_cons_of_mem _ hp) }, h.temps _ (List.mem_cons_self ..)⟩
theorem AtG.push (h : AtG B ρ μ τ σ H G) (k : Dt B.K G d v) : AtG B ρ μ ((v, d) :: τ) σ H G :=
  { h with temps := fun p hp => (List.mem_cons.mp hp).elim (fun e => by subst e; exact k) (h.temps p) }
theorem At.flat (h : At B ρ μ τ σ H) (k : ∀ G, Dt B.K G d v) : At B ρ μ ((v, d) :: τ) σ H := by
  obtain ⟨G, h⟩ := h
  exact ⟨G, h.push (k G)⟩
theorem At.var {i : Nat} (h : At B ρ μ τ σ H) (e : ρ[i]? = some (some d)) : ∃ v, σ[i]? = some (some v) ∧ At B ρ μ ((v, d) :: τ) σ H := by
  obtain ⟨G, h⟩ := h
  obtain ⟨v, h1, h2⟩ := h.slots i d e
  exact ⟨v, h1, G, h.push h2⟩
theorem At.set (i : Nat) (h : At B ρ μ ((v, d) :: τ) σ H) : At B (ρ.set i (some d)) μ τ (σ.set i (some v)) H := by
  obtain ⟨G, h, k⟩ := h.top
  refine ⟨G, { h with len := by rw [List.length_set, List.length_set, h.len], slots := fun j e q => ?_ }⟩
  by_cases hj : i = j
  · subst hj
    by_cases hl : i < ρ.length
    · rw [List.getElem?_set_self hl] at q
      have q1 : d = e := Option.some.inj (Option.some.inj q)
      subst q1
      exact ⟨v, by rw [List.getElem?_set_self (by rw [← h.len]; exact hl)], k⟩
    · rw [List.getElem?_eq_none (by rw [List.length_set]; omega)] at q
      cases q
  · rw [List.getElem?_set_ne hj] at q ⊢
    exact h.slots j e q
/-- a slot forgotten -/
theorem At.forget (h : At B ρ μ τ σ H) {ρ' : List (Option D)} (hl : ρ'.length = ρ.length) (k : ∀ (i : Nat) (d : D), ρ'[i]? = some (some d) → ρ[i]? = some (some d)) : At B ρ' μ τ σ H := by
  obtain ⟨G, h⟩ := h
  exact ⟨G, { h with len := by rw [hl, h.len], slots := fun i d e => h.slots i d (k i d e) }⟩
theorem AtG.laid (h : AtG B ρ μ τ σ H G) (hs : Same G G') (sub : Same G' H') (kp : ∀ b o, H b = some o → H' b = some o) (hext : ∀ b o, G' b = some o → B.H0 b = none ∨ B.G0 b = some o) (hcells : ∀ q ∈ μ, G' q.1 = none) (hM : ∀ b ∈ B.M, G' b = none) (hI : ∀ b ∈ B.M, H' b = H b) (ht : ∀ b vs, H' b = some (.tup vs) → G' b = some (.tup vs)) : AtG B ρ μ τ σ H' G' where
  sub := sub
  inv := B.loc H H' h.inv hI
  out := fun b hb => ⟨hM b hb, by unfold Ent; rw [hI b hb]; exact (h.out b hb).2⟩
  tup := ht
  base := fun b o e hb => kp b o (h.base b o e hb)
  ext := hext
  len := h.len
  slots := fun i d e => let ⟨v, a, b⟩ := h.slots i d e; ⟨v, a, Dt.mono hs d b⟩
  cells := fun q hq => let ⟨a, b, c, e⟩ := h.cells q hq; ⟨hcells q hq, b, c, e.mono hs (kp q.1)⟩
  nd := h.nd
  temps := fun q hq => Dt.mono hs q.2 (h.temps q hq)
theorem same_new {o : HO} (h : H p = none) : Same H (upd H p o) := fun b u e => by rw [upd_ne (ne_of_none e h)]; exact e
theorem AtG.notNew (h : AtG B ρ μ τ σ H G) (hp : H p = none) : G p = none ∧ B.H0 p = none ∧ p ∉ B.M ∧ ∀ q ∈ μ, q.1 ≠ p := by
  refine ⟨h.sub.free hp, ?_, fun m => (h.out p m).2.1 hp, fun q hq e => ?_⟩
  · cases e : B.H0 p with
    | none => rfl
    | some o =>
      by_cases m : p ∈ B.M
      · exact absurd hp (h.out p m).2.1
      · rw [h.base p o e m] at hp; cases hp
  · obtain ⟨_, _, _, c⟩ := h.cells q hq
    exact c.there (by rw [e]; exact hp)
/-- a new object that never changes -/
theorem AtG.new {o : HO} (h : AtG B ρ μ τ σ H G) (hp : H p = none) : AtG B ρ μ τ σ (upd H p o) (upd G p o) ∧ Same G (upd G p o) := by
  obtain ⟨n1, n2, n3, n4⟩ := h.notNew hp
  have hG : Same G (upd G p o) := same_new n1
  refine ⟨h.laid hG (fun b u e => ?_) (same_new hp) (fun b u e => ?_) (fun q hq => ?_) (fun b hb => ?_) (fun b hb => ?_) (fun b vs e => ?_), hG⟩
  · by_cases hb : b = p
    · subst hb; rw [upd_same] at e ⊢; exact e
    · rw [upd_ne hb] at e ⊢; exact h.sub b u e
  · by_cases hb : b = p
    · subst hb; exact .inl n2
    · rw [upd_ne hb] at e; exact h.ext b u e
  · rw [upd_ne (n4 q hq)]; exact (h.cells q hq).1
  · rw [upd_ne (ne_of_mem n3 hb)]; exact (h.out b hb).1
  · rw [upd_ne (ne_of_mem n3 hb)]
  · by_cases hb : b = p
    · subst hb; rw [upd_same] at e ⊢; exact e
    · rw [upd_ne hb] at e ⊢; exact h.tup b vs e
theorem At.new {o : HO} {dn : D} (h : At B ρ μ τ σ H) (hp : H p = none) (hd : ∀ G, (∀ q ∈ τ, Dt B.K G q.2 q.1) → G p = some o → Dt B.K G dn (.ref p)) : At B ρ μ ((.ref p, dn) :: τ) σ (upd H p o) := by
  obtain ⟨G, h⟩ := h
  obtain ⟨h', _⟩ := h.new (o := o) hp
  exact ⟨_, h'.push (hd _ h'.temps upd_same)⟩
/-- .. of known values -/
theorem AtG.newTup {vs : List V} {ds : List D} (h : AtG B ρ μ τ σ H G) (hp : H p = none) (k : DtA B.K G ds vs) : At B ρ μ ((.ref p, .tup ds) :: τ) σ (upd H p (.tup vs)) := by
  obtain ⟨h', s⟩ := h.new (o := .tup vs) hp
  exact ⟨_, h'.push ⟨p, vs, rfl, upd_same, DtA.mono s ds k⟩⟩
theorem AtG.newLst {vs : List V} {ds : List D} (h : AtG B ρ μ τ σ H G) (hp : H p = none) (k : DtA B.K G ds vs) : At B ρ μ ((.ref p, .lst ds) :: τ) σ (upd H p (.lst vs)) := by
  obtain ⟨h', s⟩ := h.new (o := .lst vs) hp
  exact ⟨_, h'.push ⟨p, vs, rfl, upd_same, DtA.mono s ds k⟩⟩
/-- a new object that will change -/
theorem At.newCell {c : Cl} {o : HO} (h : At B ρ μ τ σ H) (hp : H p = none) (hc : ∀ G, (∀ q ∈ τ, Dt B.K G q.2 q.1) → CellOk B.K G (upd H p o) p c) : At B ρ ((p, c) :: μ) τ σ (upd H p o) ∧ ∀ q ∈ μ, q.1 ≠ p := by
  obtain ⟨G, h⟩ := h
  obtain ⟨n1, n2, n3, n4⟩ := h.notNew hp
  have h' : AtG B ρ μ τ σ (upd H p o) G := by
    refine h.laid (Same.refl G) (fun b u e => ?_) (same_new hp) h.ext (fun q hq => (h.cells q hq).1) (fun b hb => (h.out b hb).1) (fun b hb => ?_) (fun b vs e => ?_)
    · rw [upd_ne (ne_of_none (h.sub b u e) hp)]; exact h.sub b u e
    · rw [upd_ne (ne_of_mem n3 hb)]
    · by_cases hb : b = p
      · subst hb; exact absurd e (hc G h.temps).noTup
      · rw [upd_ne hb] at e; exact h.tup b vs e
  refine ⟨⟨G, { h' with cells := fun q hq => ?_, nd := ?_ }⟩, n4⟩
  · rcases List.mem_cons.mp hq with e | hq
    · subst e; exact ⟨n1, n2, n3, hc G h.temps⟩
    · exact h'.cells q hq
  · rw [List.map_cons, List.nodup_cons]
    refine ⟨fun m => ?_, h.nd⟩
    obtain ⟨q, hq, e⟩ := List.mem_map.mp m
    exact n4 q hq e
theorem mem_set {α : Type} {l : List α} {j : Nat} {x y : α} (h : y ∈ l.set j x) : y = x ∨ ∃ i, i ≠ j ∧ l[i]? = some y := by
  obtain ⟨i, hi⟩ := List.mem_iff_getElem?.mp h
  by_cases e : j = i
  · subst e
    by_cases hl : j < l.length
    · rw [List.getElem?_set_self hl] at hi
      exact .inl (Option.some.inj hi).symm
    · rw [List.getElem?_eq_none (by rw [List.length_set]; omega)] at hi; cases hi
  · rw [List.getElem?_set_ne e] at hi
    exact .inr ⟨i, fun z => e z.symm, hi⟩
/-- a cell changes -/
theorem At.write {c c' : Cl} {o : HO} {j : Nat} (h : At B ρ μ τ σ H) (hj : μ[j]? = some (p, c)) (hc : ∀ G, (∀ q ∈ τ, Dt B.K G q.2 q.1) → CellOk B.K G H p c → CellOk B.K G (upd H p o) p c') : At B ρ (μ.set j (p, c')) τ σ (upd H p o) := by
  obtain ⟨G, h⟩ := h
  have hm : (p, c) ∈ μ := List.mem_of_getElem? hj
  obtain ⟨n1, n2, n3, n4⟩ := (h.cells _ hm : G p = none ∧ B.H0 p = none ∧ p ∉ B.M ∧ CellOk B.K G H p c)
  refine ⟨G, ⟨fun b u e => ?_, B.loc H _ h.inv fun b hb => upd_ne (ne_of_mem n3 hb), fun b hb => ⟨(h.out b hb).1, by unfold Ent; rw [upd_ne (ne_of_mem n3 hb)]; exact (h.out b hb).2⟩, fun b vs e => ?_, fun b u e hb => ?_, h.ext, h.len, h.slots, fun q hq => ?_, ?_, h.temps⟩⟩
  · rw [upd_ne (fun z => by subst z; rw [n1] at e; cases e)]; exact h.sub b u e
  · by_cases hb : b = p
    · subst hb; exact absurd e (hc G h.temps n4).noTup
    · rw [upd_ne hb] at e; exact h.tup b vs e
  · rw [upd_ne (fun z => by subst z; rw [n2] at e; cases e)]; exact h.base b u e hb
  · rcases mem_set hq with e | ⟨i, hi, e⟩
    · subst e; exact ⟨n1, n2, n3, hc G h.temps n4⟩
    · obtain ⟨a, b, cc, dd⟩ := h.cells q (List.mem_of_getElem? e)
      have hne : q.1 ≠ p := fun z => by
        have e1 : (μ.map (·.1))[i]? = some p := by rw [List.getElem?_map, e]; simpa using z
        have e2 : (μ.map (·.1))[j]? = some p := by rw [List.getElem?_map, hj]; rfl
        exact hi ((List.getElem?_inj (List.getElem?_eq_some_iff.mp e1).1 h.nd).mp (e1.trans e2.symm))
      exact ⟨a, b, cc, dd.mono (Same.refl G) fun o' z => by rw [upd_ne hne]; exact z⟩
  · have e : (μ.set j (p, c')).map (·.1) = μ.map (·.1) := by
      rw [List.map_set]
      refine List.ext_getElem? fun i => ?_
      by_cases hi : j = i
      · subst hi
        have hl : j < (μ.map (·.1)).length := by rw [List.length_map]; exact (List.getElem?_eq_some_iff.mp hj).1
        rw [List.getElem?_set_self hl, List.getElem?_map, hj]; rfl
      · rw [List.getElem?_set_ne hi]
    rw [e]; exact h.nd
/-- a cell is looked at -/
theorem At.cell {c : Cl} {j : Nat} (h : At B ρ μ τ σ H) (hj : μ[j]? = some (p, c)) : ∃ G, AtG B ρ μ τ σ H G ∧ CellOk B.K G H p c := by
  obtain ⟨G, h⟩ := h
  exact ⟨G, h, (h.cells _ (List.mem_of_getElem? hj)).2.2.2⟩
end
end Cal


namespace Cal
open PySem PySem.Spec PyProof.Rows L2
abbrev Mu := List (Addr × Cl)
abbrev Ro := List (Option D)
/-! ### what evaluates to what -/
def Xv (B : Bs) (te : TE) (ρ : Ro) (μ : Mu) (R : D → Mu → Prop) : Prop := ∀ (τ : List (V × D)) (σ : L2.St) (H : Hp), At B ρ μ τ σ H → ∀ Q : VK, (∀ v H' d μ', R d μ' → At B ρ μ' ((v, d) :: τ) σ H' → Q v H') → te σ H Q
def Ev (B : Bs) (te : TE) (ρ : Ro) (μ : Mu) (P : D → Prop) : Prop := Xv B te ρ μ fun d μ' => P d ∧ μ' = μ
def Ed (B : Bs) (te : TE) (ρ : Ro) (μ : Mu) (d : D) : Prop := Ev B te ρ μ fun e => e = d
def Et (B : Bs) (tt : TT) (ρ : Ro) (μ : Mu) (P : Bool → Prop) : Prop := ∀ (τ : List (V × D)) (σ : L2.St) (H : Hp), At B ρ μ τ σ H → ∀ Q : Bool → Hp → Prop, (∀ b H', P b → At B ρ μ τ σ H' → Q b H') → tt σ H Q
def Eb (B : Bs) (tt : TT) (ρ : Ro) (μ : Mu) (b : Bool) : Prop := Et B tt ρ μ fun c => c = b
/-- what args evaluate to: the values with their data stand on top, the first one deepest -/
def Ea (B : Bs) (ta : TA) (ρ : Ro) (μ : Mu) (P : List D → Prop) : Prop := ∀ (τ : List (V × D)) (σ : L2.St) (H : Hp), At B ρ μ τ σ H → ∀ Q : List V → Hp → Prop, (∀ vs H' ds, P ds → vs.length = ds.length → At B ρ μ (vs.zip ds ++ τ) σ H' → Q vs H') → ta σ H Q
/-- operations by values -/
def RD (B : Bs) (r : R2) (ρ : Ro) (μ : Mu) (d1 d2 : D) (P : D → Prop) : Prop := ∀ (τ : List (V × D)) (σ : L2.St) (H : Hp) (x y : V), At B ρ μ ((y, d2) :: (x, d1) :: τ) σ H → ∀ Q : VK, (∀ v H' d, P d → At B ρ μ ((v, d) :: τ) σ H' → Q v H') → r x y H Q
def RU (B : Bs) (r : V → Hp → VK → Prop) (ρ : Ro) (μ : Mu) (d1 : D) (P : D → Prop) : Prop := ∀ (τ : List (V × D)) (σ : L2.St) (H : Hp) (x : V), At B ρ μ ((x, d1) :: τ) σ H → ∀ Q : VK, (∀ v H' d, P d → At B ρ μ ((v, d) :: τ) σ H' → Q v H') → r x H Q
def RC (B : Bs) (r : List V → Hp → VK → Prop) (ρ : Ro) (μ : Mu) (ds : List D) (P : D → Prop) : Prop := ∀ (τ : List (V × D)) (σ : L2.St) (H : Hp) (vs : List V), vs.length = ds.length → At B ρ μ (vs.zip ds ++ τ) σ H → ∀ Q : VK, (∀ v H' d, P d → At B ρ μ ((v, d) :: τ) σ H' → Q v H') → r vs H Q
section
variable {B : Bs} {ρ : Ro} {μ : Mu} {ta tb tc te tx : TE} {tt tu : TT} {P P1 P2 P3 : D → Prop} {d d1 d2 d3 e : D} {r r' : R2} {R R1 : D → Mu → Prop} {i j : Int} {b : Bool} {v : V}
theorem Xv.imp (h : Xv B te ρ μ R) (k : ∀ d μ', R d μ' → R1 d μ') : Xv B te ρ μ R1 := fun τ σ H a Q q => h τ σ H a Q fun v H' d μ' hd => q v H' d μ' (k d μ' hd)
theorem Ev.imp (h : Ev B te ρ μ P) (k : ∀ d, P d → P1 d) : Ev B te ρ μ P1 := Xv.imp h fun d μ' hd => ⟨k d hd.1, hd.2⟩
theorem Ed.is (h : Ed B te ρ μ d) (k : d = e) : Ed B te ρ μ e := k ▸ h
theorem Ed.ev (h : Ed B te ρ μ d) (k : P d) : Ev B te ρ μ P := Ev.imp h fun _ z => z ▸ k
theorem Ev.go (h : Ev B te ρ μ P) {τ σ H} (a : At B ρ μ τ σ H) {Q : VK} (q : ∀ v H' d, P d → At B ρ μ ((v, d) :: τ) σ H' → Q v H') : te σ H Q := h τ σ H a Q fun v H' d μ' hd => by
  obtain ⟨h1, rfl⟩ := hd
  exact q v H' d h1
theorem Ev.mk (h : ∀ (τ : List (V × D)) (σ : L2.St) (H : Hp), At B ρ μ τ σ H → ∀ Q : VK, (∀ v H' d, P d → At B ρ μ ((v, d) :: τ) σ H' → Q v H') → te σ H Q) : Ev B te ρ μ P := fun τ σ H a Q q => h τ σ H a Q fun v H' d hd => q v H' d μ ⟨hd, rfl⟩
theorem ed_var {i : Nat} (h : ρ[i]? = some (some d)) : Ed B (tVar i) ρ μ d := Ev.mk fun τ σ H a Q q => by
  obtain ⟨v, h1, h2⟩ := a.var h
  exact ⟨v, h1, q v H d rfl h2⟩
theorem ed_cV {v : V} {d : D} (h : ∀ G, Dt B.K G d v) : Ed B (tC v) ρ μ d := Ev.mk fun τ σ H a Q q => q v H d rfl (a.flat h)
theorem ed_int : Ed B (tC (.int i)) ρ μ (.int i) := ed_cV fun _ => rfl
theorem ed_str {s : Str} : Ed B (tC (.str s)) ρ μ (.str s) := ed_cV fun _ => rfl
theorem ed_bl : Ed B (tC (.bl b)) ρ μ (.bl b) := ed_cV fun _ => rfl
theorem ed_non : Ed B (tC .non) ρ μ .non := ed_cV fun _ => rfl
theorem ed_raw : Ed B (tC v) ρ μ (.raw v) := ed_cV fun _ => rfl
theorem ev_op (ha : Ev B ta ρ μ P1) (hb : Ev B tb ρ μ P2) (hr : ∀ d1 d2, P1 d1 → P2 d2 → RD B r ρ μ d1 d2 P) : Ev B (tOp r ta tb) ρ μ P := Ev.mk fun τ σ H a Q q =>
  ha.go a fun x H1 d1 h1 a1 => hb.go a1 fun y H2 d2 h2 a2 => hr d1 d2 h1 h2 τ σ H2 x y a2 Q q
theorem ed_op (ha : Ed B ta ρ μ d1) (hb : Ed B tb ρ μ d2) (hr : RD B r ρ μ d1 d2 P) : Ev B (tOp r ta tb) ρ μ P := ev_op ha hb fun _ _ e1 e2 => by
  subst e1; subst e2; exact hr
theorem ev_un {r : V → Hp → VK → Prop} (ha : Ev B ta ρ μ P1) (hr : ∀ d1, P1 d1 → RU B r ρ μ d1 P) : Ev B (tUn r ta) ρ μ P := Ev.mk fun τ σ H a Q q =>
  ha.go a fun x H1 d1 h1 a1 => hr d1 h1 τ σ H1 x a1 Q q
theorem ed_un {r : V → Hp → VK → Prop} (ha : Ed B ta ρ μ d1) (hr : RU B r ρ μ d1 P) : Ev B (tUn r ta) ρ μ P := ev_un ha fun _ e1 => by
  subst e1; exact hr
/-! operators -/
theorem RD.inl (h : RD B r ρ μ d1 d2 P) : RD B (fun x y H Q => r x y H Q ∨ r' x y H Q) ρ μ d1 d2 P := fun τ σ H x y a Q q => .inl (h τ σ H x y a Q q)
theorem RD.inr (h : RD B r' ρ μ d1 d2 P) : RD B (fun x y H Q => r x y H Q ∨ r' x y H Q) ρ μ d1 d2 P := fun τ σ H x y a Q q => .inr (h τ σ H x y a Q q)
theorem At.two {x y : V} {τ σ H} (a : At B ρ μ ((y, d2) :: (x, d1) :: τ) σ H) : ∃ G, AtG B ρ μ τ σ H G ∧ Dt B.K G d1 x ∧ Dt B.K G d2 y := by
  obtain ⟨G, h1, h2⟩ := a.top
  exact ⟨G, { h1 with temps := fun p hp => h1.temps p (List.mem_cons_of_mem _ hp) }, h1.temps _ (List.mem_cons_self ..), h2⟩
/-- both stay, the answer is flat -/
theorem rd_flat {z : V} {d : D} (hz : ∀ G, Dt B.K G d z) (h : ∀ G H x y, Same G H → Dt B.K G d1 x → Dt B.K G d2 y → ∀ Q : VK, Q z H → r x y H Q) : RD B r ρ μ d1 d2 (fun e => e = d) := fun τ σ H x y a Q q => by
  obtain ⟨G, g, k1, k2⟩ := a.two
  exact h G H x y g.sub k1 k2 Q (q z H d rfl (At.flat ⟨G, g⟩ hz))
theorem ru_flat {r : V → Hp → VK → Prop} {z : V} {d : D} (hz : ∀ G, Dt B.K G d z) (h : ∀ G H x, Same G H → Dt B.K G d1 x → ∀ Q : VK, Q z H → r x H Q) : RU B r ρ μ d1 (fun e => e = d) := fun τ σ H x a Q q => by
  obtain ⟨G, g, k1⟩ := a.top
  exact h G H x g.sub k1 Q (q z H d rfl (At.flat ⟨G, g⟩ hz))
theorem rd_I0 {g : Int → Int → V} {d : D} (hz : ∀ G, Dt B.K G d (g i j)) : RD B (rI0 g) ρ μ (.int i) (.int j) (fun e => e = d) := rd_flat hz fun G H x y _ h1 h2 Q q => ⟨i, j, h1, h2, q⟩
theorem rd_I {C : Int → Int → Prop} {g : Int → Int → V} {d : D} (hz : ∀ G, Dt B.K G d (g i j)) (hc : C i j) : RD B (rI C g) ρ μ (.int i) (.int j) (fun e => e = d) := rd_flat hz fun G H x y _ h1 h2 Q q => ⟨i, j, h1, h2, hc, q⟩
theorem rd_add : RD B (rI0 fun i j => .int (i + j)) ρ μ (.int i) (.int j) (fun e => e = .int (i + j)) := rd_I0 fun _ => rfl
theorem rd_sub : RD B (rI0 fun i j => .int (i - j)) ρ μ (.int i) (.int j) (fun e => e = .int (i - j)) := rd_I0 fun _ => rfl
theorem rd_lt : RD B (rI0 fun i j => .bl (decide (i < j))) ρ μ (.int i) (.int j) (fun e => e = .bl (decide (i < j))) := rd_I0 fun _ => rfl
theorem rd_le : RD B (rI0 fun i j => .bl (decide (i ≤ j))) ρ μ (.int i) (.int j) (fun e => e = .bl (decide (i ≤ j))) := rd_I0 fun _ => rfl
theorem rd_gt : RD B (rI0 fun i j => .bl (decide (j < i))) ρ μ (.int i) (.int j) (fun e => e = .bl (decide (j < i))) := rd_I0 fun _ => rfl
theorem rd_ge : RD B (rI0 fun i j => .bl (decide (j ≤ i))) ρ μ (.int i) (.int j) (fun e => e = .bl (decide (j ≤ i))) := rd_I0 fun _ => rfl
theorem rd_mul (h : CMul i j) : RD B (rI CMul fun i j => .int (i * j)) ρ μ (.int i) (.int j) (fun e => e = .int (i * j)) := rd_I (fun _ => rfl) h
theorem rd_mod (h : 0 < j) : RD B (rI (fun _ j => 0 < j) fun i j => .int (i % j)) ρ μ (.int i) (.int j) (fun e => e = .int (i % j)) := rd_I (fun _ => rfl) h
theorem rd_pow (h : CPow i j) : RD B (rI CPow fun i j => .int (i ^ j.toNat)) ρ μ (.int i) (.int j) (fun e => e = .int (i ^ j.toNat)) := rd_I (fun _ => rfl) h
/-! tests -/
theorem et_test (h : Ev B te ρ μ P) {Pb : Bool → Prop} (k : ∀ d, P d → ∃ b, d = .bl b ∧ Pb b) : Et B (tTest te) ρ μ Pb := fun τ σ H a Q q => h.go a fun v H' d hd a1 => by
  obtain ⟨b, rfl, hb⟩ := k d hd
  obtain ⟨G, g, hv⟩ := a1.top
  exact ⟨b, hv, q b H' hb ⟨G, g⟩⟩
theorem et_B (h : Ev B te ρ μ P) {Pb : Bool → Prop} (k : ∀ d, P d → ∃ b, d = .bl b ∧ Pb b) : Et B (tB te) ρ μ Pb := fun τ σ H a Q q => h.go a fun v H' d hd a1 => by
  obtain ⟨b, rfl, hb⟩ := k d hd
  obtain ⟨G, g, hv⟩ := a1.top
  exact ⟨b, hv, q b H' hb ⟨G, g⟩⟩
theorem eb_test (h : Ed B te ρ μ (.bl b)) : Eb B (tTest te) ρ μ b := et_test h fun d e => ⟨b, e, rfl⟩
theorem eb_B (h : Ed B te ρ μ (.bl b)) : Eb B (tB te) ρ μ b := et_B h fun d e => ⟨b, e, rfl⟩
theorem Et.imp {Pb Pb' : Bool → Prop} (h : Et B tt ρ μ Pb) (k : ∀ b, Pb b → Pb' b) : Et B tt ρ μ Pb' := fun τ σ H a Q q => h τ σ H a Q fun b H' hb => q b H' (k b hb)
theorem Eb.is {b c : Bool} (h : Eb B tt ρ μ b) (k : b = c) : Eb B tt ρ μ c := k ▸ h
theorem et_not {Pb : Bool → Prop} (h : Et B tt ρ μ fun b => Pb (!b)) : Et B (tNot tt) ρ μ Pb := fun τ σ H a Q q => h τ σ H a _ fun b H' hb a1 => q (!b) H' hb a1
theorem eb_not (h : Eb B tt ρ μ b) : Eb B (tNot tt) ρ μ (!b) := et_not (Et.imp h fun c e => by rw [e])
theorem et_and {Pa Pb : Bool → Prop} (h1 : Et B tt ρ μ Pa) (h2 : Pa true → Et B tu ρ μ Pb) (h3 : Pa false → Pb false) : Et B (tAnd tt tu) ρ μ Pb := fun τ σ H a Q q => h1 τ σ H a _ fun b H' hb a1 => by
  cases b with
  | true => show tu σ H' Q; exact h2 hb τ σ H' a1 Q q
  | false => show Q false H'; exact q false H' (h3 hb) a1
theorem et_or {Pa Pb : Bool → Prop} (h1 : Et B tt ρ μ Pa) (h2 : Pa false → Et B tu ρ μ Pb) (h3 : Pa true → Pb true) : Et B (tOr tt tu) ρ μ Pb := fun τ σ H a Q q => h1 τ σ H a _ fun b H' hb a1 => by
  cases b with
  | true => show Q true H'; exact q true H' (h3 hb) a1
  | false => show tu σ H' Q; exact h2 hb τ σ H' a1 Q q
theorem eb_and {a b : Bool} (h1 : Eb B tt ρ μ a) (h2 : a = true → Eb B tu ρ μ b) : Eb B (tAnd tt tu) ρ μ (a && b) := et_and h1 (fun e => by
  subst e; exact Et.imp (h2 rfl) fun c e => by rw [e]; rfl) (fun e => by rw [← e]; rfl)
theorem eb_or {a b : Bool} (h1 : Eb B tt ρ μ a) (h2 : a = false → Eb B tu ρ μ b) : Eb B (tOr tt tu) ρ μ (a || b) := et_or h1 (fun e => by
  subst e; exact Et.imp (h2 rfl) fun c e => by rw [e]; rfl) (fun e => by rw [← e]; rfl)
theorem ev_andV {Pb : Bool → Prop} (h1 : Ev B ta ρ μ P1) (k : ∀ d, P1 d → ∃ b, d = .bl b ∧ Pb b) (h2 : Pb true → Ev B tb ρ μ P) (h3 : Pb false → P (.bl false)) : Ev B (tAndV ta tb) ρ μ P := Ev.mk fun τ σ H a Q q => h1.go a fun v H' d hd a1 => by
  obtain ⟨b, rfl, hb⟩ := k d hd
  obtain ⟨G, g, hv⟩ := a1.top
  refine ⟨b, hv, ?_⟩
  cases b with
  | true => exact (h2 hb).go ⟨G, g⟩ q
  | false => exact q _ H' _ (h3 hb) (At.flat ⟨G, g⟩ fun _ => rfl)
theorem ev_orV {Pb : Bool → Prop} (h1 : Ev B ta ρ μ P1) (k : ∀ d, P1 d → ∃ b, d = .bl b ∧ Pb b) (h2 : Pb false → Ev B tb ρ μ P) (h3 : Pb true → P (.bl true)) : Ev B (tOrV ta tb) ρ μ P := Ev.mk fun τ σ H a Q q => h1.go a fun v H' d hd a1 => by
  obtain ⟨b, rfl, hb⟩ := k d hd
  obtain ⟨G, g, hv⟩ := a1.top
  refine ⟨b, hv, ?_⟩
  cases b with
  | true => exact q _ H' _ (h3 hb) (At.flat ⟨G, g⟩ fun _ => rfl)
  | false => exact (h2 hb).go ⟨G, g⟩ q
theorem ed_andV {a b : Bool} (h1 : Ed B ta ρ μ (.bl a)) (h2 : a = true → Ed B tb ρ μ (.bl b)) : Ed B (tAndV ta tb) ρ μ (.bl (a && b)) := ev_andV (Pb := fun c => c = a) h1 (fun d e => ⟨a, e, rfl⟩) (fun e => by
  subst e; exact Ev.imp (h2 rfl) fun c e => by rw [e]; rfl) (fun e => by rw [← e]; rfl)
theorem ed_orV {a b : Bool} (h1 : Ed B ta ρ μ (.bl a)) (h2 : a = false → Ed B tb ρ μ (.bl b)) : Ed B (tOrV ta tb) ρ μ (.bl (a || b)) := ev_orV (Pb := fun c => c = a) h1 (fun d e => ⟨a, e, rfl⟩) (fun e => by
  subst e; exact Ev.imp (h2 rfl) fun c e => by rw [e]; rfl) (fun e => by rw [← e]; rfl)
theorem ed_notV (h : Ed B ta ρ μ (.bl b)) : Ed B (tNotV ta) ρ μ (.bl (!b)) := Ev.mk fun τ σ H a Q q => h.go a fun v H' d hd a1 => by
  subst hd
  obtain ⟨G, g, hv⟩ := a1.top
  exact ⟨b, hv, q _ H' _ rfl (At.flat ⟨G, g⟩ fun _ => rfl)⟩
theorem ev_if {Pb : Bool → Prop} (h : Et B tt ρ μ Pb) (h1 : Pb true → Ev B ta ρ μ P) (h2 : Pb false → Ev B tb ρ μ P) : Ev B (tIf tt ta tb) ρ μ P := Ev.mk fun τ σ H a Q q => h τ σ H a _ fun b H' hb a1 => by
  cases b with
  | true => exact (h1 hb).go a1 q
  | false => exact (h2 hb).go a1 q
theorem ed_if (h : Eb B tt ρ μ b) (h1 : b = true → Ed B ta ρ μ d) (h2 : b = false → Ed B tb ρ μ d) : Ed B (tIf tt ta tb) ρ μ d := ev_if h (fun e => h1 e.symm) (fun e => h2 e.symm)
theorem ed_chain {a b : Bool} (ha : Ed B ta ρ μ d1) (hb : Ed B tb ρ μ d2) (hc : a = true → Ed B tc ρ μ d3) (h1 : ∀ G H x y, Same G H → Dt B.K G d1 x → Dt B.K G d2 y → ∀ Q : VK, Q (.bl a) H → r x y H Q)
    (h2 : a = true → ∀ G H x y, Same G H → Dt B.K G d2 x → Dt B.K G d3 y → ∀ Q : VK, Q (.bl b) H → r' x y H Q) : Ed B (tChain r r' ta tb tc) ρ μ (.bl (a && b)) := Ev.mk fun τ σ H at0 Q q =>
  ha.go at0 fun x H1 _ e1 a1 => hb.go a1 fun y H2 _ e2 a2 => by
    rw [e1, e2] at a2
    obtain ⟨G, g, k1, k2⟩ := a2.two
    refine h1 G H2 x y g.sub k1 k2 _ ⟨a, rfl, ?_⟩
    cases a with
    | true =>
      refine (hc rfl).go (At.sub (τ' := (y, d2) :: τ) a2 fun p hp => ?_) fun z H3 _ e3 a3 => ?_
      · rcases List.mem_cons.mp hp with e | e
        · rw [e]; exact List.mem_cons_self ..
        · exact List.mem_cons_of_mem _ (List.mem_cons_of_mem _ e)
      · rw [e3] at a3
        obtain ⟨G3, g3, k3, k4⟩ := a3.two
        exact h2 rfl G3 H3 y z g3.sub k3 k4 Q (q _ H3 _ rfl (At.flat ⟨G3, g3⟩ fun _ => rfl))
    | false => exact q _ H2 _ rfl (At.flat ⟨G, g⟩ fun _ => rfl)
/-! args, calls -/
theorem ea_nil : Ea B tNil ρ μ (fun ds => ds = []) := fun τ σ H a Q q => q [] H [] rfl rfl a
theorem ea_cons {tr : TA} {Ps : List D → Prop} (h : Ev B ta ρ μ P) (hr : ∀ d, P d → Ea B tr ρ μ (fun ds => Ps (d :: ds))) : Ea B (tCons ta tr) ρ μ Ps := fun τ σ H a Q q => h.go a fun x H1 d hd a1 =>
  hr d hd _ σ H1 a1 _ fun xs H2 ds hds hl a2 => q (x :: xs) H2 (d :: ds) hds (by rw [List.length_cons, List.length_cons, hl]) (a2.sub fun p hp => by
    rw [List.zip_cons_cons, List.cons_append] at hp
    rcases List.mem_cons.mp hp with e | e
    · rw [e]; exact List.mem_append_right _ (List.mem_cons_self ..)
    · rcases List.mem_append.mp e with e | e
      · exact List.mem_append_left _ e
      · exact List.mem_append_right _ (List.mem_cons_of_mem _ e))
theorem ead_cons {tr : TA} {ds : List D} (h : Ed B ta ρ μ d) (hr : Ea B tr ρ μ (fun es => es = ds)) : Ea B (tCons ta tr) ρ μ (fun es => es = d :: ds) := ea_cons h fun e he => by
  subst he
  exact fun τ σ H a Q q => hr τ σ H a Q fun vs H' es z => q vs H' es (by rw [z])
theorem ev_cb {r : List V → Hp → VK → Prop} {t : TA} {Ps : List D → Prop} (h : Ea B t ρ μ Ps) (hr : ∀ ds, Ps ds → RC B r ρ μ ds P) : Ev B (tCB r t) ρ μ P := Ev.mk fun τ σ H a Q q => h τ σ H a _ fun vs H1 ds hds hl a1 => hr ds hds τ σ H1 vs hl a1 Q q
theorem ed_cb {r : List V → Hp → VK → Prop} {t : TA} {ds : List D} (h : Ea B t ρ μ (fun es => es = ds)) (hr : RC B r ρ μ ds P) : Ev B (tCB r t) ρ μ P := ev_cb h fun es e => by
  subst e; exact hr
theorem RC.inl {r r' : List V → Hp → VK → Prop} {ds : List D} (h : RC B r ρ μ ds P) : RC B (fun xs H Q => r xs H Q ∨ r' xs H Q) ρ μ ds P := fun τ σ H x y a Q q => .inl (h τ σ H x y a Q q)
theorem RC.inr {r r' : List V → Hp → VK → Prop} {ds : List D} (h : RC B r' ρ μ ds P) : RC B (fun xs H Q => r xs H Q ∨ r' xs H Q) ρ μ ds P := fun τ σ H x y a Q q => .inr (h τ σ H x y a Q q)
theorem DtA.of_zip {K : PySem.W.Frag} {G : Hp} : ∀ {vs : List V} {ds : List D}, vs.length = ds.length → (∀ p ∈ vs.zip ds, Dt K G p.2 p.1) → DtA K G ds vs
  | [], [], _, _ => rfl
  | [], d :: ds, h, _ => by simp at h
  | v :: vs, [], h, _ => by simp at h
  | v :: vs, d :: ds, h, k => ⟨v, vs, rfl, k (v, d) (by simp), DtA.of_zip (by simpa using h) fun p hp => k p (by rw [List.zip_cons_cons]; exact List.mem_cons_of_mem _ hp)⟩
theorem At.args {vs : List V} {ds : List D} {τ σ H} (hl : vs.length = ds.length) (a : At B ρ μ (vs.zip ds ++ τ) σ H) : ∃ G, AtG B ρ μ τ σ H G ∧ DtA B.K G ds vs := by
  obtain ⟨G, h⟩ := a
  exact ⟨G, { h with temps := fun p hp => h.temps p (List.mem_append_right _ hp) }, DtA.of_zip hl fun p hp => h.temps p (List.mem_append_left _ hp)⟩
theorem rc_flat {r : List V → Hp → VK → Prop} {ds : List D} {z : V} {d : D} (hz : ∀ G, Dt B.K G d z) (h : ∀ G H xs, Same G H → DtA B.K G ds xs → ∀ Q : VK, Q z H → r xs H Q) : RC B r ρ μ ds (fun e => e = d) := fun τ σ H xs hl a Q q => by
  obtain ⟨G, g, k⟩ := a.args hl
  exact h G H xs g.sub k Q (q z H d rfl (At.flat ⟨G, g⟩ hz))
/-- displays -/
theorem ev_tup {t : TA} {Ps : List D → Prop} (h : Ea B t ρ μ Ps) (hl : ∀ ds, Ps ds → ds.length ≤ sizeLine ∧ P (.tup ds)) : Ev B (tTup t) ρ μ P := Ev.mk fun τ σ H a Q q => h τ σ H a _ fun vs H1 ds hds hlen a1 =>
  ⟨by rw [hlen]; exact (hl ds hds).1, fun p hp => q _ _ _ (hl ds hds).2 (At.sub (At.new (dn := .tup ds) a1 hp fun G k1 k2 => ⟨p, vs, rfl, k2, DtA.of_zip hlen fun q hq => k1 q (List.mem_append_left _ hq)⟩) fun q hq => by
    rcases List.mem_cons.mp hq with e | e
    · rw [e]; exact List.mem_cons_self ..
    · exact List.mem_cons_of_mem _ (List.mem_append_right _ e))⟩
theorem ev_lst {t : TA} {Ps : List D → Prop} (h : Ea B t ρ μ Ps) (hl : ∀ ds, Ps ds → ds.length ≤ sizeLine ∧ P (.lst ds)) : Ev B (tLst t) ρ μ P := Ev.mk fun τ σ H a Q q => h τ σ H a _ fun vs H1 ds hds hlen a1 =>
  ⟨by rw [hlen]; exact (hl ds hds).1, fun p hp => q _ _ _ (hl ds hds).2 (At.sub (At.new (dn := .lst ds) a1 hp fun G k1 k2 => ⟨p, vs, rfl, k2, DtA.of_zip hlen fun q hq => k1 q (List.mem_append_left _ hq)⟩) fun q hq => by
    rcases List.mem_cons.mp hq with e | e
    · rw [e]; exact List.mem_cons_self ..
    · exact List.mem_cons_of_mem _ (List.mem_append_right _ e))⟩
theorem ed_tup {t : TA} {ds : List D} (h : Ea B t ρ μ (fun es => es = ds)) (hl : ds.length ≤ sizeLine) : Ed B (tTup t) ρ μ (.tup ds) := ev_tup h fun es e => ⟨by rw [e]; exact hl, by rw [e]⟩
theorem ed_lst {t : TA} {ds : List D} (h : Ea B t ρ μ (fun es => es = ds)) (hl : ds.length ≤ sizeLine) : Ed B (tLst t) ρ μ (.lst ds) := ev_lst h fun es e => ⟨by rw [e]; exact hl, by rw [e]⟩
/-! own calls -/
/-- what a def promises: pre of the data of its arguments; post of its answer's -/
def fsp (K : PySem.W.Frag) (I : Hp → Prop) (M : List Addr) (pre : List D → Prop) (post : List D → D → Prop) : Sp := fun vs H Q _ => ∃ (G : Hp) (ds : List D), DtA K G ds vs ∧ pre ds ∧ Same G H ∧ I H ∧ (∀ b ∈ M, G b = none ∧ Ent H b) ∧ (∀ b vs, H b = some (.tup vs) → G b = some (.tup vs)) ∧
  ∀ v H' d, post ds d → I H' → (∀ b ∈ M, Ent H' b) → (∀ b o, H b = some o → b ∉ M → H' b = some o) → Dt K (fun b => match H b with | none => H' b | some _ => G b) d v → Q v H'
end
end Cal


namespace Cal
open PySem PySem.Spec PyProof.Rows L2
section
variable {B : Bs} {ρ ρ' : Ro} {μ μ' : Mu} {τ : List (V × D)} {σ : L2.St} {H : Hp} {ta tb tc te tx : TE} {tt tu : TT} {P P1 P2 P3 : D → Prop} {d d1 d2 d3 e : D} {r r' : R2} {R R1 : D → Mu → Prop} {i j : Int} {b : Bool} {v : V} {E : XK}
/-! ### own calls -/
theorem ev_callS {sp : Sp} {I' : Hp → Prop} {M' : List Addr} {pre : List D → Prop} {post : List D → D → Prop} {t : TA} {Ps : List D → Prop} (h : Ea B t ρ μ Ps) (hs : ∀ vs H Q, fsp B.K I' M' pre post vs H Q E → sp vs H Q E) (hpre : ∀ ds, Ps ds → pre ds) (hpost : ∀ ds d, Ps ds → post ds d → P d)
    (hM : ∀ b ∈ M', b ∈ B.M) (hI : ∀ H, B.I H → I' H) (hI' : ∀ H H', B.I H → I' H' → (∀ b ∈ B.M, H b ≠ none) → (∀ b o, H b = some o → b ∉ M' → H' b = some o) → B.I H') : Ev B (tCall sp [] E t) ρ μ P := Ev.mk fun τ σ H a Q q => h τ σ H a _ fun vs H1 ds hds hl a1 => by
  obtain ⟨G, g, k⟩ := a1.args hl
  rw [List.append_nil]
  refine hs _ _ _ ⟨G, ds, k, hpre ds hds, g.sub, hI H1 g.inv, fun b hb => g.out b (hM b hb), g.tup, fun v H2 d hd i2 n2 s2 dv => ?_⟩
  have sg : Same G (fun b => match H1 b with | none => H2 b | some _ => G b) := fun b o e => by
    have e1 := g.sub b o e
    show (match H1 b with | none => H2 b | some _ => G b) = some o
    rw [e1]; exact e
  have nM : ∀ b o, G b = some o → b ∉ M' := fun b o e m => by rw [(g.out b (hM b m)).1] at e; cases e
  have gn : ∀ b, G b = none → H1 b ≠ none → (match H1 b with | none => H2 b | some _ => G b) = none := fun b e1 e2 => by
    cases e : H1 b with
    | none => exact absurd e e2
    | some o => exact e1
  refine q v H2 d (hpost ds d hds hd) ⟨_, AtG.push (G := fun b => match H1 b with | none => H2 b | some _ => G b) ⟨fun b o e => ?_, hI' H1 H2 g.inv i2 (fun b hb => (g.out b hb).2.1) s2, fun b hb => ⟨gn b (g.out b hb).1 (g.out b hb).2.1, ?_⟩, fun b vs e => ?_, fun b o e hb => s2 b o (g.base b o e hb) fun m => hb (hM b m), fun b o e => ?_, g.len, fun i d e => let ⟨v, a, c⟩ := g.slots i d e; ⟨v, a, Dt.mono sg d c⟩, fun p hp => ?_, g.nd, fun p hp => Dt.mono sg p.2 (g.temps p hp)⟩ dv⟩
  · cases e1 : H1 b with
    | none => rw [e1] at e; exact e
    | some o1 =>
      rw [e1] at e
      have e2 := g.sub b o e
      exact s2 b o e2 (nM b o e)
  · by_cases m : b ∈ M'
    · exact n2 b m
    · cases e1 : H1 b with
      | none => exact absurd e1 (g.out b hb).2.1
      | some o1 => unfold Ent; rw [s2 b o1 e1 m, ← e1]; exact (g.out b hb).2
  · show (match H1 b with | none => H2 b | some _ => G b) = some (.tup vs)
    cases e1 : H1 b with
    | none => exact e
    | some o1 =>
      by_cases m : b ∈ M'
      · exact absurd e ((n2 b m).2 vs)
      · rw [s2 b o1 e1 m] at e
        rw [e] at e1
        exact g.tup b vs e1
  · cases e1 : H1 b with
    | none =>
      refine .inl ?_
      cases e2 : B.H0 b with
      | none => rfl
      | some o2 =>
        by_cases m : b ∈ B.M
        · exact absurd e1 (g.out b m).2.1
        · rw [g.base b o2 e2 m] at e1; cases e1
    | some o1 => rw [e1] at e; exact g.ext b o e
  · obtain ⟨c1, c2, c3, c4⟩ := g.cells p hp
    refine ⟨gn _ c1 c4.there, c2, c3, c4.mono sg fun o e => s2 _ o e fun m => c3 (hM _ m)⟩
theorem ev_call {I' : Hp → Prop} {M' : List Addr} {pre : List D → Prop} {post : List D → D → Prop} {t : TA} {Ps : List D → Prop} (h : Ea B t ρ μ Ps) (hpre : ∀ ds, Ps ds → pre ds) (hpost : ∀ ds d, Ps ds → post ds d → P d)
    (hM : ∀ b ∈ M', b ∈ B.M) (hI : ∀ H, B.I H → I' H) (hI' : ∀ H H', B.I H → I' H' → (∀ b ∈ B.M, H b ≠ none) → (∀ b o, H b = some o → b ∉ M' → H' b = some o) → B.I H') : Ev B (tCall (fsp B.K I' M' pre post) [] E t) ρ μ P := ev_callS h (fun _ _ _ z => z) hpre hpost hM hI hI'
/-- a def that changes nothing but what all change -/
theorem ev_callD {pre : List D → Prop} {post : List D → D → Prop} {t : TA} {Ps : List D → Prop} (h : Ea B t ρ μ Ps) (hpre : ∀ ds, Ps ds → pre ds) (hpost : ∀ ds d, Ps ds → post ds d → P d) : Ev B (tCall (fsp B.K B.I B.M pre post) [] E t) ρ μ P :=
  ev_call h hpre hpost (fun _ h => h) (fun _ h => h) fun _ _ _ i _ _ => i
/-- a def that changes nothing -/
theorem ev_callP {pre : List D → Prop} {post : List D → D → Prop} {t : TA} {Ps : List D → Prop} (h : Ea B t ρ μ Ps) (hpre : ∀ ds, Ps ds → pre ds) (hpost : ∀ ds d, Ps ds → post ds d → P d) : Ev B (tCall (fsp B.K (fun _ => True) [] pre post) [] E t) ρ μ P :=
  ev_call h hpre hpost (fun _ h => nomatch h) (fun _ _ => True.intro) fun H H' i _ n s => B.loc H H' i fun b hb => by
    cases e : H b with
    | none => exact absurd e (n b hb)
    | some o => exact s b o e fun z => nomatch z
/-! ### a def's beginning -/
theorem fsp_start {K : PySem.W.Frag} {I : Hp → Prop} {M : List Addr} {pre : List D → Prop} {post : List D → D → Prop} {vs : List V} {H : Hp} {Q : VK} (loc : ∀ H H', I H → (∀ b ∈ M, H' b = H b) → I H') (N : List Str) (h : fsp K I M pre post vs H Q E) :
    ∃ (G : Hp) (ds : List D), pre ds ∧ vs.length = ds.length ∧ At ⟨K, I, M, loc, G, H⟩ (ds.map some ++ List.replicate (N.length - ds.length) none) [] [] (start N vs) H ∧
      ∀ {ρ μ τ σ v H' d}, post ds d → At ⟨K, I, M, loc, G, H⟩ ρ μ ((v, d) :: τ) σ H' → Q v H' := by
  obtain ⟨G, ds, k, hp, s, i, o, tp, q⟩ := h
  refine ⟨G, ds, hp, k.length, ⟨G, ⟨s, i, o, tp, fun _ _ e _ => e, fun _ _ e => .inr e, ?_, fun i d e => ?_, fun _ h => (nomatch h), List.nodup_nil, fun _ h => (nomatch h)⟩⟩, fun {ρ μ τ σ v H' d} hd a => ?_⟩
  · show (ds.map some ++ List.replicate (N.length - ds.length) none).length = (vs.map some ++ List.replicate (N.length - vs.length) none).length
    rw [List.length_append, List.length_append, List.length_map, List.length_map, List.length_replicate, List.length_replicate, k.length]
  · by_cases hi : i < ds.length
    · rw [List.getElem?_append_left (by rw [List.length_map]; exact hi), List.getElem?_map] at e
      cases e1 : ds[i]? with
      | none => rw [e1] at e; cases e
      | some d' =>
        rw [e1] at e
        have e2 : d' = d := Option.some.inj (Option.some.inj e)
        subst e2
        obtain ⟨v, h1, h2⟩ := k.get e1
        refine ⟨v, ?_, h2⟩
        show (vs.map some ++ List.replicate (N.length - vs.length) none)[i]? = _
        rw [List.getElem?_append_left (by rw [List.length_map, k.length]; exact hi), List.getElem?_map, h1]
        rfl
    · rw [List.getElem?_append_right (by rw [List.length_map]; omega), List.getElem?_replicate] at e
      split at e <;> cases e
  · obtain ⟨G1, g, k1⟩ := a.top
    refine q v H' d hd g.inv (fun b hb => (g.out b hb).2) g.base (Dt.mono (fun b o e => ?_) d k1)
    show (match H b with | none => H' b | some _ => G b) = some o
    rcases g.ext b o e with z | z
    · rw [show H b = none from z]; exact g.sub b o e
    · cases e1 : H b with
      | none => exact g.sub b o e
      | some o1 => exact z
/-! ### statements -/
variable {D0 : Ends} {ts t1 t2 : TS} {g : TG}
theorem x_seq (h : t1 { D0 with nx := t2 D0 } σ H) : tSeq t1 t2 D0 σ H := h
theorem x_next (h : D0.nx σ H) : tNext D0 σ H := h
theorem x_asg {k : Nat} (a : At B ρ μ τ σ H) (he : Xv B te ρ μ R) (q : ∀ d μ' σ' H', R d μ' → At B (ρ.set k (some d)) μ' τ σ' H' → D0.nx σ' H') : tAsg te (gName k) D0 σ H :=
  he τ σ H a _ fun v H' d μ' hd a' => q d μ' _ H' hd (a'.set k)
theorem x_set {k : Nat} (a : At B ρ μ τ σ H) (he : Ed B te ρ μ d) (q : ∀ σ' H', At B (ρ.set k (some d)) μ τ σ' H' → D0.nx σ' H') : tAsg te (gName k) D0 σ H :=
  x_asg a he fun e μ' σ' H' z a' => by
    obtain ⟨z1, z2⟩ := z
    subst z1; subst z2; exact q σ' H' a'
theorem x_setV {k : Nat} (a : At B ρ μ τ σ H) (he : Ev B te ρ μ P) (q : ∀ d σ' H', P d → At B (ρ.set k (some d)) μ τ σ' H' → D0.nx σ' H') : tAsg te (gName k) D0 σ H :=
  x_asg a he fun e μ' σ' H' z a' => by
    obtain ⟨z1, z2⟩ := z
    subst z2; exact q e σ' H' z1 a'
theorem x_if {Pb : Bool → Prop} (a : At B ρ μ τ σ H) (h : Et B tt ρ μ Pb) (q1 : Pb true → ∀ H', At B ρ μ τ σ H' → t1 D0 σ H') (q2 : Pb false → ∀ H', At B ρ μ τ σ H' → t2 D0 σ H') : tIfS tt t1 t2 D0 σ H := h τ σ H a _ fun b H' hb a' => by
  cases b with
  | true => exact q1 hb H' a'
  | false => exact q2 hb H' a'
theorem x_ifb (a : At B ρ μ τ σ H) (h : Eb B tt ρ μ b) (q1 : b = true → ∀ H', At B ρ μ τ σ H' → t1 D0 σ H') (q2 : b = false → ∀ H', At B ρ μ τ σ H' → t2 D0 σ H') : tIfS tt t1 t2 D0 σ H := x_if a h (fun e => q1 e.symm) (fun e => q2 e.symm)
theorem x_ret (a : At B ρ μ τ σ H) (he : Ev B te ρ μ P) (q : ∀ v H' d, P d → At B ρ μ ((v, d) :: τ) σ H' → D0.rt v H') : tRet te D0 σ H := he.go a q
theorem x_drop (a : At B ρ μ τ σ H) (he : Xv B te ρ μ R) (q : ∀ d μ' H', R d μ' → At B ρ μ' τ σ H' → D0.nx σ H') : tDrop te D0 σ H := he τ σ H a _ fun v H' d μ' hd a' => q d μ' H' hd a'.pop
theorem x_par {k l : Nat} {t : TA} {Ps : D → D → Prop} (a : At B ρ μ τ σ H) (he : Ea B t ρ μ fun ds => ∃ d1 d2, ds = [d1, d2] ∧ Ps d1 d2) (q : ∀ d1 d2 σ' H', Ps d1 d2 → At B ((ρ.set k (some d1)).set l (some d2)) μ τ σ' H' → D0.nx σ' H') : tPar k l t D0 σ H := he τ σ H a _ fun vs H' ds hds hl a' => by
  obtain ⟨d1, d2, rfl, hd⟩ := hds
  match vs, hl with
  | [v, w], _ =>
    refine ⟨v, w, rfl, q d1 d2 _ H' hd ?_⟩
    exact At.set l (At.sub (τ' := (w, d2) :: τ) (At.set k a') fun p hp => by simpa using hp)
/-! ### targets -/
/-- a target takes a value: the slots js alone change -/
def Gd (B : Bs) (g : TG) (ρ : Ro) (μ : Mu) (d : D) (ρ' : Ro) (js : List Nat) : Prop := ∀ (τ : List (V × D)) (σ : L2.St) (H : Hp) (v : V), At B ρ μ ((v, d) :: τ) σ H → ∀ Q : L2.St → Hp → Prop, (∀ σ', At B ρ' μ τ σ' H → σ'.length = σ.length → (∀ i, i ∉ js → σ'[i]? = σ[i]?) → Q σ' H) → g v σ H Q
theorem gd_name (k : Nat) : Gd B (gName k) ρ μ d (ρ.set k (some d)) [k] := fun τ σ H v a Q q => q _ (a.set k) (List.length_set ..) fun i hi => by
  rw [List.getElem?_set_ne (fun e => hi (by rw [e]; exact List.mem_singleton.mpr rfl))]
theorem gd_tup2 {k l : Nat} : Gd B (gTup B.K 2 (gCons (gName k) (gCons (gName l) gNil))) ρ μ (.tup [d1, d2]) ((ρ.set k (some d1)).set l (some d2)) [k, l] := fun τ σ H v a Q q => by
  obtain ⟨G, g, p, vs, rfl, e, u, r, rfl, hu, w, r', rfl, hw, rfl⟩ := a.top
  refine ⟨p, [u, w], rfl, .inl (.inl (g.sub _ _ e)), rfl, u, [w], rfl, w, [], rfl, rfl, ?_⟩
  refine q _ (At.set l (At.set (τ := (w, d2) :: τ) k ⟨G, (g.push hw).push hu⟩)) (by rw [List.length_set, List.length_set]) fun i hi => ?_
  rw [List.getElem?_set_ne (fun z => hi (by rw [z]; simp)), List.getElem?_set_ne (fun z => hi (by rw [z]; simp))]
theorem x_asgG {ρ' : Ro} {js : List Nat} (a : At B ρ μ τ σ H) (he : Ed B te ρ μ d) (hg : Gd B g ρ μ d ρ' js) (q : ∀ σ' H', At B ρ' μ τ σ' H' → D0.nx σ' H') : tAsg te g D0 σ H :=
  he.go a fun v H' d' hd a' => by
    subst hd
    exact hg τ σ H' v a' _ fun σ' a2 _ _ => q σ' H' a2
/-! ### what is walked: n turns, f i the data of turn i -/
def Ei (B : Bs) (wi : TI) (ρ : Ro) (μ : Mu) (n : Nat) (f : Nat → D) : Prop := ∀ (τ : List (V × D)) (σ : L2.St) (H : Hp), At B ρ μ τ σ H → ∀ Rr : It → Hp → Prop,
  (∀ J H1 τ1, (∀ p ∈ τ, p ∈ τ1) → At B ρ μ τ1 σ H1 → (∀ i ρ' μ' τ' σ' H', (∀ p ∈ τ1, p ∈ τ') → At B ρ' μ' τ' σ' H' → (n ≤ i → J.stop i H') ∧ (i < n → J.go i H' ∧ ∀ x H2, J.yld i H' x H2 → At B ρ' μ' ((x, f i) :: τ') σ' H2)) → Rr J H1) → wi σ H Rr
theorem getD_of {ds : List D} {i : Nat} (h : i < ds.length) : ds[i]? = some (ds.getD i .non) := by
  rw [List.getD_eq_getElem?_getD, List.getElem?_eq_getElem h]; rfl
theorem ei_tup {tl : TE} {ds : List D} (h : Ed B tl ρ μ (.tup ds)) : Ei B (iTup B.K tl) ρ μ ds.length (fun i => ds.getD i .non) := fun τ σ H a Rr q => h.go a fun v H' d hd a1 => by
  subst hd
  obtain ⟨G, g, p, vs, rfl, e, k⟩ := id a1.top
  refine ⟨p, rfl, ⟨vs, .inl (.inl (g.sub _ _ e))⟩, q _ H' _ (fun z hz => List.mem_cons_of_mem _ hz) a1 fun i ρ' μ' τ' σ' H' hsub a2 => ?_⟩
  obtain ⟨G2, g2⟩ := a2
  obtain ⟨p', vs', e', e2, k2⟩ := g2.temps _ (hsub _ (List.mem_cons_self ..))
  cases e'
  have e3 : SqT B.K H' p vs' := .inl (.inl (g2.sub _ _ e2))
  refine ⟨fun hi => ⟨vs', e3, by rw [k2.length]; exact hi⟩, fun hi => ?_⟩
  obtain ⟨x, hx, dx⟩ := k2.get (getD_of hi)
  refine ⟨⟨vs', x, e3, hx⟩, fun y H2 hy => ?_⟩
  obtain ⟨rfl, hy⟩ := hy
  have ey : x = y := Option.some.inj (hx.symm.trans (hy vs' e3))
  subst ey
  exact ⟨G2, g2.push dx⟩
theorem ei_lst {tl : TE} {ds : List D} (h : Ed B tl ρ μ (.lst ds)) : Ei B (iList B.K tl) ρ μ ds.length (fun i => ds.getD i .non) := fun τ σ H a Rr q => h.go a fun v H' d hd a1 => by
  subst hd
  obtain ⟨G, g, p, vs, rfl, e, k⟩ := id a1.top
  refine ⟨p, rfl, ⟨vs, .inl (.inl (g.sub _ _ e))⟩, q _ H' _ (fun z hz => List.mem_cons_of_mem _ hz) a1 fun i ρ' μ' τ' σ' H' hsub a2 => ?_⟩
  obtain ⟨G2, g2⟩ := a2
  obtain ⟨p', vs', e', e2, k2⟩ := g2.temps _ (hsub _ (List.mem_cons_self ..))
  cases e'
  have e3 : SqL B.K H' p vs' := .inl (.inl (g2.sub _ _ e2))
  refine ⟨fun hi => ⟨vs', e3, by rw [k2.length]; exact hi⟩, fun hi => ?_⟩
  obtain ⟨x, hx, dx⟩ := k2.get (getD_of hi)
  refine ⟨⟨vs', x, e3, hx⟩, fun y H2 hy => ?_⟩
  obtain ⟨rfl, hy⟩ := hy
  have ey : x = y := Option.some.inj (hx.symm.trans (hy vs' e3))
  subst ey
  exact ⟨G2, g2.push dx⟩
theorem ei_str {tl : TE} {s : Str} (h : Ed B tl ρ μ (.str s)) : Ei B (iStr tl) ρ μ s.cps.size (fun i => .str ⟨#[s.cps.getD i 0]⟩) := fun τ σ H a Rr q => h.go a fun v H' d hd a1 => by
  subst hd
  obtain ⟨G, g, e⟩ := id a1.top
  refine ⟨s, e, q _ H' _ (fun z hz => List.mem_cons_of_mem _ hz) a1 fun i ρ' μ' τ' σ' H' hsub a2 => ⟨fun hi => hi, fun hi => ⟨hi, fun y H2 hy => ?_⟩⟩⟩
  obtain ⟨rfl, c, hc, rfl⟩ := hy
  refine At.flat a2 fun G => ?_
  show V.str ⟨#[c]⟩ = V.str ⟨#[s.cps.getD i 0]⟩
  rw [Array.getD_eq_getD_getElem?, hc]; rfl
theorem ei_rng1 {t : TA} (h : Ea B t ρ μ (fun es => es = [.int i])) (hb : -(2 ^ 62) ≤ i ∧ i < 2 ^ 62) : Ei B (iRng1 t) ρ μ i.toNat (fun k => .int k) := fun τ σ H a Rr q => h τ σ H a _ fun vs H1 ds hds hl a1 => by
  subst hds
  obtain ⟨G, g, k⟩ := a1.args hl
  obtain ⟨v, r, rfl, hv, hr⟩ := k
  have hr' : r = [] := hr
  subst hr'
  refine ⟨i, by rw [show v = V.int i from hv], hb.1, hb.2, q _ H1 τ (fun z hz => hz) ⟨G, g⟩ fun k ρ' μ' τ' σ' H' hsub a2 => ⟨fun hi => hi, fun hi => ⟨hi, fun y H2 hy => ?_⟩⟩⟩
  obtain ⟨rfl, rfl⟩ := hy
  exact At.flat a2 fun G => by
    show V.int (0 + (k : Int)) = V.int (k : Int)
    rw [Int.zero_add]
theorem ei_rng2 {t : TA} (h : Ea B t ρ μ (fun es => es = [.int i, .int j])) (hb : -(2 ^ 62) ≤ i ∧ i < 2 ^ 62 ∧ -(2 ^ 62) ≤ j ∧ j < 2 ^ 62) : Ei B (iRng2 t) ρ μ (j - i).toNat (fun k => .int (i + k)) := fun τ σ H a Rr q => h τ σ H a _ fun vs H1 ds hds hl a1 => by
  subst hds
  obtain ⟨G, g, k⟩ := a1.args hl
  obtain ⟨v, r, rfl, hv, w, r', rfl, hw, hr⟩ := k
  have hr' : r' = [] := hr
  subst hr'
  refine ⟨i, j, by rw [show v = V.int i from hv, show w = V.int j from hw], hb, q _ H1 τ (fun z hz => hz) ⟨G, g⟩ fun k ρ' μ' τ' σ' H' hsub a2 => ⟨fun hi => hi, fun hi => ⟨hi, fun y H2 hy => ?_⟩⟩⟩
  obtain ⟨rfl, rfl⟩ := hy
  exact At.flat a2 fun G => rfl
/-- for: Inv tells the slots and cells at each turn -/
theorem x_for {wi : TI} {n : Nat} {f : Nat → D} {tb : TS} {js : List Nat} (a : At B ρ μ τ σ H) (hi : Ei B wi ρ μ n f) (Inv : Nat → Ro → Mu → Prop) (h0 : Inv 0 ρ μ)
    (hs : ∀ i ρ' μ' τ1 σ' H' v (Dn : Ends), i < n → Inv i ρ' μ' → (∀ p ∈ τ, p ∈ τ1) → At B ρ' μ' ((v, f i) :: τ1) σ' H' → (∀ ρ2 μ2 σ2 H2, Inv (i + 1) ρ2 μ2 → At B ρ2 μ2 τ1 σ2 H2 → Dn.nx σ2 H2) → (∀ ρ2 μ2 σ2 H2, Inv (i + 1) ρ2 μ2 → At B ρ2 μ2 τ1 σ2 H2 → Dn.ct σ2 H2) → Dn.bk = D0.nx → Dn.rt = D0.rt → g v σ' H' (tb Dn))
    (hd : ∀ ρ' μ' σ' H', Inv n ρ' μ' → At B ρ' μ' τ σ' H' → D0.nx σ' H') : tFor wi g tb D0 σ H := hi τ σ H a _ fun J H1 τ1 hsub a1 hJ => by
  refine ⟨fun i m σ H => m = n - i ∧ i ≤ n ∧ ∃ ρ' μ', Inv i ρ' μ' ∧ At B ρ' μ' τ1 σ H, ⟨n, by omega, by omega, ρ, μ, h0, a1⟩, fun i m σ2 H2 hW => ?_⟩
  obtain ⟨rfl, hin, ρ', μ', hI, a2⟩ := hW
  obtain ⟨s1, s2⟩ := hJ i ρ' μ' τ1 σ2 H2 (fun _ z => z) a2
  by_cases hlt : i < n
  · obtain ⟨s3, s4⟩ := s2 hlt
    refine .inr ⟨s3, fun σ3 H3 => ∃ ρ' μ', Inv (i + 1) ρ' μ' ∧ At B ρ' μ' τ1 σ3 H3, fun σ3 H3 ⟨ρ3, μ3, i3, a3⟩ => ⟨n - (i + 1), by omega, rfl, hlt, ρ3, μ3, i3, a3⟩, fun x H3 hy => ?_⟩
    exact hs i ρ' μ' τ1 σ2 H3 x { D0 with nx := fun σ3 H3 => ∃ ρ' μ', Inv (i + 1) ρ' μ' ∧ At B ρ' μ' τ1 σ3 H3, ct := fun σ3 H3 => ∃ ρ' μ', Inv (i + 1) ρ' μ' ∧ At B ρ' μ' τ1 σ3 H3, bk := D0.nx } hlt hI hsub (s4 x H3 hy) (fun ρ2 μ2 σ2 H2 i2 a2 => ⟨ρ2, μ2, i2, a2⟩) (fun ρ2 μ2 σ2 H2 i2 a2 => ⟨ρ2, μ2, i2, a2⟩) rfl rfl
  · have e : i = n := by omega
    subst e
    exact .inl ⟨s1 (Nat.le_refl _), hd ρ' μ' σ2 H2 hI (a2.sub hsub)⟩
end
end Cal


namespace Cal
open PySem PySem.Spec PyProof.Rows L2
section
variable {B : Bs} {ρ ρ' : Ro} {μ μ' : Mu} {τ : List (V × D)} {σ σ2 : L2.St} {H : Hp} {ta tb tc te tx : TE} {tt tu : TT} {P P1 P2 P3 : D → Prop} {d d1 d2 d3 e : D} {r r' : R2} {R R1 : D → Mu → Prop} {i j : Int} {b : Bool} {v : V} {E : XK} {p : Addr}
/-- a cell that changes no more -/
theorem At.freeze {ds : List D} (a : At B ρ ((p, .lst ds) :: μ) τ σ H) : At B ρ μ ((.ref p, .lst ds) :: τ) σ H := by
  obtain ⟨G, g⟩ := a
  obtain ⟨n1, n2, n3, vs, n4, n5⟩ := (g.cells _ (List.mem_cons_self ..) : G p = none ∧ B.H0 p = none ∧ p ∉ B.M ∧ ∃ vs, H p = some (.lst vs) ∧ DtA B.K G ds vs)
  have sg : Same G (upd G p (.lst vs)) := same_new n1
  have nd := g.nd
  rw [List.map_cons, List.nodup_cons] at nd
  refine ⟨upd G p (.lst vs), AtG.push ⟨fun b o e => ?_, g.inv, fun b hb => ?_, fun b us e => ?_, g.base, fun b o e => ?_, g.len, fun i d e => let ⟨v, a, c⟩ := g.slots i d e; ⟨v, a, Dt.mono sg d c⟩, fun q hq => ?_, nd.2, fun q hq => Dt.mono sg q.2 (g.temps q hq)⟩ ⟨p, vs, rfl, upd_same, DtA.mono sg ds n5⟩⟩
  · by_cases hb : b = p
    · subst hb; rw [upd_same] at e; cases e; exact n4
    · rw [upd_ne hb] at e; exact g.sub b o e
  · rw [upd_ne (ne_of_mem n3 hb)]; exact g.out b hb
  · by_cases hb : b = p
    · subst hb; rw [n4] at e; cases e
    · rw [upd_ne hb]; exact g.tup b us e
  · by_cases hb : b = p
    · subst hb; exact .inl n2
    · rw [upd_ne hb] at e; exact g.ext b o e
  · obtain ⟨c1, c2, c3, c4⟩ := g.cells q (List.mem_cons_of_mem _ hq)
    refine ⟨?_, c2, c3, c4.mono sg fun o e => e⟩
    rw [upd_ne (fun z => nd.1 (List.mem_map.mpr ⟨q, hq, z⟩))]; exact c1
/-- the slots' data, as temps -/
def sv : Ro → L2.St → List (V × D)
  | some d :: ρ, some v :: σ => (v, d) :: sv ρ σ
  | _ :: ρ, _ :: σ => sv ρ σ
  | _, _ => []
theorem sv_mem : ∀ {ρ : Ro} {σ : L2.St} {q : V × D}, q ∈ sv ρ σ → ∃ i : Nat, ρ[i]? = some (some q.2) ∧ σ[i]? = some (some q.1)
  | [], σ, q, h => by cases σ <;> simp [sv] at h
  | none :: ρ, [], q, h => by simp [sv] at h
  | some d :: ρ, [], q, h => by simp [sv] at h
  | none :: ρ, v :: σ, q, h => by
    obtain ⟨i, h1, h2⟩ := sv_mem (ρ := ρ) (σ := σ) (by simpa [sv] using h)
    exact ⟨i + 1, by simpa using h1, by simpa using h2⟩
  | some d :: ρ, none :: σ, q, h => by
    obtain ⟨i, h1, h2⟩ := sv_mem (ρ := ρ) (σ := σ) (by simpa [sv] using h)
    exact ⟨i + 1, by simpa using h1, by simpa using h2⟩
  | some d :: ρ, some v :: σ, q, h => by
    rcases List.mem_cons.mp (show q ∈ (v, d) :: sv ρ σ from h) with e | e
    · subst e; exact ⟨0, rfl, rfl⟩
    · obtain ⟨i, h1, h2⟩ := sv_mem e
      exact ⟨i + 1, by simpa using h1, by simpa using h2⟩
theorem mem_sv : ∀ {ρ : Ro} {σ : L2.St} {i : Nat} {d : D} {v : V}, ρ[i]? = some (some d) → σ[i]? = some (some v) → (v, d) ∈ sv ρ σ
  | [], σ, i, d, v, h, _ => by simp at h
  | _ :: ρ, [], i, d, v, _, h => by simp at h
  | none :: ρ, w :: σ, 0, d, v, h, _ => by simp at h
  | none :: ρ, w :: σ, i + 1, d, v, h, k => by
    show _ ∈ sv ρ σ
    exact mem_sv (i := i) (by simpa using h) (by simpa using k)
  | some d' :: ρ, none :: σ, 0, d, v, h, k => by simp at k
  | some d' :: ρ, none :: σ, i + 1, d, v, h, k => by
    show _ ∈ sv ρ σ
    exact mem_sv (i := i) (by simpa using h) (by simpa using k)
  | some d' :: ρ, some v' :: σ, 0, d, v, h, k => by
    simp at h k; subst h; subst k; exact List.mem_cons_self ..
  | some d' :: ρ, some v' :: σ, i + 1, d, v, h, k => List.mem_cons_of_mem _ (mem_sv (i := i) (by simpa using h) (by simpa using k))
theorem At.save (a : At B ρ μ τ σ H) : At B ρ μ (sv ρ σ ++ τ) σ H := by
  obtain ⟨G, g⟩ := a
  refine ⟨G, { g with temps := fun q hq => ?_ }⟩
  rcases List.mem_append.mp hq with h | h
  · obtain ⟨i, h1, h2⟩ := sv_mem h
    obtain ⟨v, h3, h4⟩ := g.slots i _ h1
    rw [h2] at h3
    cases h3
    exact h4
  · exact g.temps q h
def Fits (ρ : Ro) (σ : L2.St) : Prop := ρ.length = σ.length ∧ ∀ (i : Nat) (d : D), ρ[i]? = some (some d) → ∃ v, σ[i]? = some (some v)
theorem At.fits (a : At B ρ μ τ σ H) : Fits ρ σ := by
  obtain ⟨G, g⟩ := a
  exact ⟨g.len, fun i d e => let ⟨v, h, _⟩ := g.slots i d e; ⟨v, h⟩⟩
theorem At.restore {ρ2 : Ro} (f : Fits ρ σ) (a : At B ρ2 μ τ σ2 H) (k : ∀ q ∈ sv ρ σ, q ∈ τ) : At B ρ μ τ σ H := by
  obtain ⟨G, g⟩ := a
  refine ⟨G, { g with len := f.1, slots := fun i d e => ?_ }⟩
  obtain ⟨v, h⟩ := f.2 i d e
  exact ⟨v, h, g.temps _ (k _ (mem_sv e h))⟩
def wipeR (ρ : Ro) : List Nat → Ro
  | [] => ρ
  | v :: vs => (wipeR ρ vs).set v none
theorem wipeR_len : ∀ vs : List Nat, (wipeR ρ vs).length = ρ.length
  | [] => rfl
  | v :: vs => by show ((wipeR ρ vs).set v none).length = _; rw [List.length_set, wipeR_len vs]
theorem wipeR_get {k : Nat} : ∀ {vs : List Nat}, (wipeR ρ vs)[k]? = some (some d) → ρ[k]? = some (some d) ∧ k ∉ vs
  | [], h => ⟨h, by simp⟩
  | v :: vs, h => by
    have h : ((wipeR ρ vs).set v none)[k]? = some (some d) := h
    by_cases hv : v = k
    · subst hv
      by_cases hl : v < (wipeR ρ vs).length
      · rw [List.getElem?_set_self hl] at h; cases h
      · rw [List.getElem?_eq_none (by rw [List.length_set]; omega)] at h; cases h
    · rw [List.getElem?_set_ne hv] at h
      obtain ⟨h1, h2⟩ := wipeR_get h
      exact ⟨h1, by simp only [List.mem_cons, not_or]; exact ⟨fun e => hv e.symm, h2⟩⟩
theorem wipe_get {k : Nat} : ∀ {vs : List Nat}, k ∉ vs → (wipe σ vs)[k]? = σ[k]?
  | [], _ => rfl
  | v :: vs, h => by
    rw [List.mem_cons, not_or] at h
    show ((wipe σ vs).set v none)[k]? = _
    rw [List.getElem?_set_ne (fun e => h.1 e.symm)]; exact wipe_get h.2
theorem wipe_in {k : Nat} : ∀ {vs : List Nat}, k ∈ vs → (wipe σ vs)[k]? = if k < σ.length then some none else none
  | v :: vs, h => by
    show ((wipe σ vs).set v none)[k]? = _
    by_cases hv : v = k
    · subst hv
      by_cases hl : v < σ.length
      · rw [List.getElem?_set_self (by rw [wipe_length]; exact hl), if_pos hl]
      · rw [if_neg hl, List.getElem?_eq_none (by rw [List.length_set, wipe_length]; omega)]
    · rw [List.getElem?_set_ne hv]
      rcases List.mem_cons.mp h with e | e
      · exact absurd e.symm hv
      · exact wipe_in e
theorem wipe_ext {vs js : List Nat} (hjs : ∀ k ∈ js, k ∈ vs) (hl : σ2.length = (wipe σ vs).length) (h : ∀ i, i ∉ js → σ2[i]? = (wipe σ vs)[i]?) : wipe σ2 vs = wipe σ vs := by
  refine List.ext_getElem? fun k => ?_
  by_cases hk : k ∈ vs
  · rw [wipe_in hk, wipe_in hk, hl, wipe_length]
  · rw [wipe_get hk, h k (fun z => hk (hjs k z)), wipe_get hk]
theorem At.wiped (a : At B ρ μ τ σ H) (vs : List Nat) : At B (wipeR ρ vs) μ τ (wipe σ vs) H := by
  obtain ⟨G, g⟩ := a
  refine ⟨G, { g with len := by rw [wipeR_len, wipe_length, g.len], slots := fun i d e => ?_ }⟩
  obtain ⟨h1, h2⟩ := wipeR_get e
  obtain ⟨v, h3, h4⟩ := g.slots i d h1
  exact ⟨v, by rw [wipe_get h2]; exact h3, h4⟩
/-- what a comprehension of i turns gives -/
def LcOk (c : Nat → Bool) (Pe : Nat → D → Prop) : Nat → List D → Prop
  | 0, ds => ds = []
  | i + 1, ds => if c i = true then ∃ ds' d, ds = ds' ++ [d] ∧ LcOk c Pe i ds' ∧ Pe i d else LcOk c Pe i ds
theorem LcOk.len {c : Nat → Bool} {Pe : Nat → D → Prop} : ∀ {n : Nat} {ds : List D}, LcOk c Pe n ds → ds.length ≤ n
  | 0, ds, h => by rw [show ds = [] from h]; exact Nat.le_refl _
  | n + 1, ds, h => by
    unfold LcOk at h
    split at h
    · obtain ⟨ds', d, rfl, h1, _⟩ := h
      rw [List.length_append]
      have := LcOk.len h1
      show ds'.length + 1 ≤ n + 1
      omega
    · exact Nat.le_succ_of_le (LcOk.len h)
theorem LcOk.det {c : Nat → Bool} {h : Nat → D} : ∀ {n : Nat} {ds : List D}, LcOk c (fun i d => d = h i) n ds → ds = ((List.range n).filter c).map h
  | 0, ds, k => k
  | n + 1, ds, k => by
    unfold LcOk at k
    rw [List.range_succ, List.filter_append, List.map_append]
    split at k
    · rename_i hc
      obtain ⟨ds', d, rfl, h1, rfl⟩ := k
      rw [← LcOk.det h1, List.filter_cons, if_pos hc]; rfl
    · rename_i hc
      rw [← LcOk.det k, List.filter_cons, if_neg hc]
      show ds = ds ++ []
      rw [List.append_nil]
theorem LcOk.all {Pe : Nat → D → Prop} : ∀ {n : Nat} {ds : List D}, LcOk (fun _ => true) Pe n ds → ds.length = n ∧ ∀ i d, ds[i]? = some d → Pe i d
  | 0, ds, k => by rw [show ds = [] from k]; exact ⟨rfl, fun i d e => by simp at e⟩
  | n + 1, ds, k => by
    unfold LcOk at k
    rw [if_pos rfl] at k
    obtain ⟨ds', d, rfl, h1, h2⟩ := k
    obtain ⟨l, q⟩ := LcOk.all h1
    refine ⟨by rw [List.length_append, l]; rfl, fun i e he => ?_⟩
    by_cases hi : i < ds'.length
    · rw [List.getElem?_append_left hi] at he; exact q i e he
    · rw [List.getElem?_append_right (by omega)] at he
      by_cases hj : i = ds'.length
      · subst hj
        rw [Nat.sub_self] at he
        have : d = e := by simpa using he
        subst this; rw [l]; exact h2
      · rw [List.getElem?_eq_none (by simp; omega)] at he; cases he
theorem ev_lc {wi : TI} {g : TG} {vs js : List Nat} {n : Nat} {f : Nat → D} (hi : Ei B wi ρ μ n f) (ρi : Nat → Ro) (hjs : ∀ k ∈ js, k ∈ vs) (hn : n ≤ 1000000) (c : Nat → Bool) (Pe : Nat → D → Prop)
    (hg : ∀ i, i < n → ∀ cl, Gd B g (wipeR ρ vs) (cl :: μ) (f i) (ρi i) js) (ht : ∀ i, i < n → ∀ cl, Eb B tt (ρi i) (cl :: μ) (c i)) (he : ∀ i, i < n → c i = true → ∀ cl, Ev B te (ρi i) (cl :: μ) (Pe i))
    (hP : ∀ ds, LcOk c Pe n ds → P (.lst ds)) : Ev B (tLc wi g tt te vs) ρ μ P := Ev.mk fun τ σ H a Q q => hi (sv ρ σ ++ τ) σ H a.save _ fun J H1 τ1 hsub a1 hJ Dl hD => by
  have hf := a.fits
  refine ⟨fun i m H => m = n - i ∧ i ≤ n ∧ ∃ ds, LcOk c Pe i ds ∧ At B ρ ((Dl, .lst ds) :: μ) τ1 σ H, ⟨n, by omega, Nat.zero_le _, [], rfl, (At.newCell (c := .lst []) (o := .lst []) a1 hD fun G _ => ⟨[], upd_same, rfl⟩).1⟩, fun i m H2 hW => ?_⟩
  obtain ⟨rfl, hin, ds, hds, a2⟩ := hW
  obtain ⟨s1, s2⟩ := hJ i ρ _ τ1 σ H2 (fun _ z => z) a2
  by_cases hlt : i < n
  · obtain ⟨s3, s4⟩ := s2 hlt
    refine .inr ⟨s3, fun H => ∃ ds, LcOk c Pe (i + 1) ds ∧ At B ρ ((Dl, .lst ds) :: μ) τ1 σ H, fun H' ⟨ds, h1, h2⟩ => ⟨n - (i + 1), by omega, rfl, hlt, ds, h1, h2⟩, fun x H3 hy => ?_⟩
    refine hg i hlt _ τ1 (wipe σ vs) H3 x (At.wiped (s4 x H3 hy) vs) _ fun σ' a3 hl3 hk3 => ⟨wipe_ext hjs hl3 hk3, ?_⟩
    refine ht i hlt _ τ1 σ' H3 a3 _ fun b H4 hb a4 => ?_
    subst hb
    cases hc : c i with
    | true =>
      refine (he i hlt hc _).go a4 fun y H5 dy hdy a5 => ?_
      obtain ⟨G, g5, vs5, e5, k5⟩ := a5.cell (j := 0) rfl
      refine ⟨vs5, e5, ?_, ds ++ [dy], ?_, ?_⟩
      · rw [k5.length]
        exact Nat.lt_of_le_of_lt (LcOk.len hds) (Nat.lt_of_lt_of_le hlt (Nat.le_trans hn (by decide)))
      · unfold LcOk
        rw [if_pos hc]
        exact ⟨ds, dy, rfl, hds, hdy⟩
      · have a6 : At B (ρi i) ((Dl, .lst (ds ++ [dy])) :: μ) ((y, dy) :: τ1) σ' (upd H5 Dl (.lst (vs5 ++ [y]))) := At.write (j := 0) (c' := .lst (ds ++ [dy])) a5 rfl fun G k1 ⟨vs6, e6, k6⟩ => by
          rw [e5] at e6
          cases e6
          exact ⟨_, upd_same, k6.append ⟨y, [], rfl, k1 _ (List.mem_cons_self ..), rfl⟩⟩
        exact At.restore hf a6.pop fun q hq => hsub q (List.mem_append_left _ hq)
    | false =>
      refine ⟨ds, ?_, At.restore hf a4 fun q hq => hsub q (List.mem_append_left _ hq)⟩
      unfold LcOk
      rw [hc, if_neg Bool.false_ne_true]
      exact hds
  · have e : i = n := by omega
    subst e
    refine .inl ⟨s1 (Nat.le_refl _), ?_⟩
    exact q _ H2 _ (hP ds hds) (a2.freeze.sub fun z hz => by
      rcases List.mem_cons.mp hz with e | e
      · rw [e]; exact List.mem_cons_self ..
      · exact List.mem_cons_of_mem _ (hsub z (List.mem_append_right _ e)))
theorem eb_yes : Eb B tYes ρ μ true := fun τ σ H a Q q => q true H rfl a
/-- no test, the target a name -/
theorem ev_lc0 {wi : TI} {k : Nat} {vs : List Nat} {n : Nat} {f : Nat → D} (hi : Ei B wi ρ μ n f) (hk : k ∈ vs) (hn : n ≤ 1000000) (Pe : Nat → D → Prop) (he : ∀ i, i < n → ∀ cl, Ev B te ((wipeR ρ vs).set k (some (f i))) (cl :: μ) (Pe i))
    (hP : ∀ ds : List D, ds.length = n → (∀ i d, ds[i]? = some d → Pe i d) → P (.lst ds)) : Ev B (tLc wi (gName k) tYes te vs) ρ μ P :=
  ev_lc hi (fun i => (wipeR ρ vs).set k (some (f i))) (js := [k]) (fun z hz => by rw [List.mem_singleton.mp hz]; exact hk) hn (fun _ => true) Pe (fun i _ cl => gd_name k) (fun _ _ _ => eb_yes) (fun i hi _ cl => he i hi cl) fun ds h => hP ds h.all.1 h.all.2
theorem ed_lc0 {wi : TI} {k : Nat} {vs : List Nat} {n : Nat} {f h : Nat → D} (hi : Ei B wi ρ μ n f) (hk : k ∈ vs) (hn : n ≤ 1000000) (he : ∀ i, i < n → ∀ cl, Ed B te ((wipeR ρ vs).set k (some (f i))) (cl :: μ) (h i)) : Ed B (tLc wi (gName k) tYes te vs) ρ μ (.lst ((List.range n).map h)) :=
  ev_lc hi (fun i => (wipeR ρ vs).set k (some (f i))) (js := [k]) (fun z hz => by rw [List.mem_singleton.mp hz]; exact hk) hn (fun _ => true) (fun i d => d = h i) (fun i _ cl => gd_name k) (fun _ _ _ => eb_yes) (fun i hi _ cl => he i hi cl) fun ds h => by
    rw [h.det, List.filter_eq_self.mpr fun _ _ => rfl]
theorem ed_lcT {wi : TI} {k : Nat} {vs : List Nat} {n : Nat} {f h : Nat → D} (c : Nat → Bool) (hi : Ei B wi ρ μ n f) (hk : k ∈ vs) (hn : n ≤ 1000000) (ht : ∀ i, i < n → ∀ cl, Eb B tt ((wipeR ρ vs).set k (some (f i))) (cl :: μ) (c i)) (he : ∀ i, i < n → c i = true → ∀ cl, Ed B te ((wipeR ρ vs).set k (some (f i))) (cl :: μ) (h i)) : Ed B (tLc wi (gName k) tt te vs) ρ μ (.lst (((List.range n).filter c).map h)) :=
  ev_lc hi (fun i => (wipeR ρ vs).set k (some (f i))) (js := [k]) (fun z hz => by rw [List.mem_singleton.mp hz]; exact hk) hn c (fun i d => d = h i) (fun i _ cl => gd_name k) ht he fun ds h => by rw [h.det]
theorem map_range_getD (h : D → D) (ds : List D) : (List.range ds.length).map (fun i => h (ds.getD i .non)) = ds.map h := by
  refine List.ext_getElem? fun i => ?_
  rw [List.getElem?_map, List.getElem?_map]
  by_cases hi : i < ds.length
  · rw [List.getElem?_range hi, getD_of hi]; rfl
  · rw [List.getElem?_eq_none (by simpa using hi), List.getElem?_eq_none (by simpa using hi)]; rfl
end
end Cal


namespace Cal
open PySem PySem.Spec PyProof.Rows L2
/-! ### operators of many kinds -/
section
variable {X : Cx}
def rAddU (K : PySem.W.Frag) : R2 := fun x y H Q => rI0 (fun i j => V.int (i + j)) x y H Q ∨ (∃ i j, x = V.str i ∧ y = V.str j ∧ i.length + j.length ≤ sizeLine ∧ Q (V.str (i ++ j)) H) ∨ rCatA K x y H Q ∨ rCat x y H Q
theorem u_add : OpR X (binaryOp .Add) (rAddU X.K) := OpR.or op_add (OpR.or op_add_str (OpR.or op_catA op_cat))
def rMulU : R2 := rI CMul fun i j => .int (i * j)
theorem u_mul : OpR X (binaryOp .Mult) rMulU := op_mul
def rLtU : R2 := fun x y H Q => rI0 (fun i j => .bl (decide (i < j))) x y H Q ∨ ∃ i j, x = .str i ∧ y = .str j ∧ Q (.bl (decide (i.cps.toList < j.cps.toList))) H
theorem u_lt : OpR X (compareOp .Lt) rLtU := OpR.or op_lt op_lt_str
def rLeU : R2 := fun x y H Q => rI0 (fun i j => .bl (decide (i ≤ j))) x y H Q ∨ ∃ i j, x = .str i ∧ y = .str j ∧ Q (.bl !decide (j.cps.toList < i.cps.toList)) H
theorem u_le : OpR X (compareOp .LtE) rLeU := OpR.or op_le op_le_str
def rGeU : R2 := fun x y H Q => rI0 (fun i j => .bl (decide (j ≤ i))) x y H Q ∨ ∃ i j, x = .str i ∧ y = .str j ∧ Q (.bl !decide (i.cps.toList < j.cps.toList)) H
theorem u_ge : OpR X (compareOp .GtE) rGeU := OpR.or op_ge op_ge_str
theorem u_eq (hu : X.A.units + 64 < cLine) : OpR X (compareOp .Eq) (rEqD X.K) := op_eqD hu
theorem u_ne (hu : X.A.units + 64 < cLine) : OpR X (compareOp .NotEq) (rNeD X.K) := op_neD hu
theorem u_neg : UnR X (unaryOp .USub) (rU fun i => .int (-i)) := un_neg
def rSlU (K : PySem.W.Frag) : V → Option Int → Option Int → Hp → VK → Prop := fun x lo hi H Q => rSlA K x lo hi H Q ∨ rSlL K x lo hi H Q ∨ rSlS x lo hi H Q
theorem u_sl : SlR X (rSlU X.K) := SlR.or sl_tupA (SlR.or sl_list sl_str)
def rLenU (K : PySem.W.Frag) : List V → Hp → VK → Prop := fun xs H Q => (∃ p ys, xs = [.ref p] ∧ (SqL K H p ys ∨ SqT K H p ys) ∧ Q (.int ys.length) H) ∨ ∃ z, xs = [.str z] ∧ z.length ≤ sizeLine ∧ Q (.int z.length) H
theorem u_len : CallR X (.builtin "len") (rLenU X.K) := CallR.or call_len_seq call_len_str
def rSortU2 (K : PySem.W.Frag) : List V → Hp → VK → Prop := fun xs H Q => rSorted K xs H Q ∨ rSortedS K xs H Q
theorem u_sorted : CallR X (.builtin "sorted") (rSortU2 X.K) := CallR.or cr_sorted cr_sortedS
end
/-! ### data as the library's -/
def pyKey : Key → PyData
  | .inl i => .int i | .inr s => .str s
mutual
def py : D → PyData
  | .non => .none | .bl b => .bool b | .int i => .int i | .str s => .str s | .raw _ => .none
  | .lst ds => .list (pyA ds) | .tup ds => .tuple (pyA ds) | .dk kvs => .dict (pyK kvs) | .dt _ => .none | .obj _ _ => .none
def pyA : List D → List PyData
  | [] => [] | d :: ds => py d :: pyA ds
def pyK : List (Key × D) → List (PyData × PyData)
  | [] => [] | (k, d) :: r => (pyKey k, py d) :: pyK r
end
mutual
/-- no dict, no raw thing -/
def plain : D → Bool
  | .lst ds => plainA ds | .tup ds => plainA ds | .dk _ => false | .dt _ => false | .obj _ _ => false | .raw _ => false
  | .non => true | .bl _ => true | .int _ => true | .str s => PyData.strOk s
def plainA : List D → Bool
  | [] => true | d :: ds => plain d && plainA ds
end
mutual
theorem Dt.dp {K : PySem.W.Frag} {G H : Hp} (e : Same G H) : ∀ (d : D) {v : V}, plain d = true → Dt K G d v → Dp K H v (py d)
  | .non, _, _, h => by rw [show _ = V.non from h]; exact .non
  | .bl b, _, _, h => by rw [show _ = V.bl b from h]; exact .bl b
  | .int i, _, _, h => by rw [show _ = V.int i from h]; exact .int i
  | .str s, _, _, h => by rw [show _ = V.str s from h]; exact .str s
  | .raw u, _, p, _ => by simp [plain] at p
  | .lst ds, _, p, ⟨a, vs, r, s, t⟩ => by
    rw [r]; exact .lst (.inl (.inl (e _ _ s))) (DtA.dp e ds (by simpa [plain] using p) t)
  | .tup ds, _, p, ⟨a, vs, r, s, t⟩ => by
    rw [r]; exact .tup (.inl (.inl (e _ _ s))) (DtA.dp e ds (by simpa [plain] using p) t)
  | .dk ds, _, p, _ => by simp [plain] at p
  | .dt ds, _, p, _ => by simp [plain] at p
  | .obj _ _, _, p, _ => by simp [plain] at p
theorem DtA.dp {K : PySem.W.Frag} {G H : Hp} (e : Same G H) : ∀ (ds : List D) {vs : List V}, plainA ds = true → DtA K G ds vs → DpAll K H vs (pyA ds)
  | [], _, _, h => by rw [show _ = [] from h]; exact .nil
  | d :: ds, _, p, ⟨v, r, q, s, t⟩ => by
    have p' : plain d = true ∧ plainA ds = true := by simpa [plainA] using p
    rw [q]; exact .cons (Dt.dp e d p'.1 s) (DtA.dp e ds p'.2 t)
end
mutual
theorem canLay_py : ∀ d : D, plain d = true → (py d).canLay0 = true
  | .non, _ => by simp [py, PyData.canLay0]
  | .bl b, _ => by simp [py, PyData.canLay0]
  | .int i, _ => by simp [py, PyData.canLay0]
  | .str s, h => by simpa [py, PyData.canLay0, plain] using h
  | .raw u, p => by simp [plain] at p
  | .lst ds, p => by simpa [py, PyData.canLay0] using canLay_pyA ds (by simpa [plain] using p)
  | .tup ds, p => by simpa [py, PyData.canLay0] using canLay_pyA ds (by simpa [plain] using p)
  | .dk ds, p => by simp [plain] at p
  | .dt ds, p => by simp [plain] at p
  | .obj _ _, p => by simp [plain] at p
theorem canLay_pyA : ∀ ds : List D, plainA ds = true → PyData.canLayAll0 (pyA ds) = true
  | [], _ => by simp [pyA, PyData.canLayAll0]
  | d :: ds, p => by
    have p' : plain d = true ∧ plainA ds = true := by simpa [plainA] using p
    simp [pyA, PyData.canLayAll0, canLay_py d p'.1, canLay_pyA ds p'.2]
end
mutual
def dep : D → Nat
  | .lst ds => depA ds + 1 | .tup ds => depA ds + 1 | .dk kvs => depK kvs + 1 | _ => 0
def depA : List D → Nat
  | [] => 0 | d :: ds => max (dep d) (depA ds)
def depK : List (Key × D) → Nat
  | [] => 0 | (_, d) :: r => max (dep d) (depK r)
end
theorem depth_key (k : Key) : (pyKey k).depth = 0 := by cases k <;> rfl
mutual
theorem depth_py : ∀ d : D, (py d).depth = dep d
  | .non => rfl
  | .bl b => rfl
  | .int i => rfl
  | .str s => rfl
  | .raw u => rfl
  | .lst ds => by simp only [py, PyData.depth, dep, depth_pyA ds]
  | .tup ds => by simp only [py, PyData.depth, dep, depth_pyA ds]
  | .dk ds => by simp only [py, PyData.depth, dep, depth_pyK ds]
  | .dt ds => rfl
  | .obj _ _ => rfl
theorem depth_pyA : ∀ ds : List D, PyData.depthAll (pyA ds) = depA ds
  | [] => rfl
  | d :: ds => by simp only [pyA, PyData.depthAll, depA, depth_py d, depth_pyA ds]
theorem depth_pyK : ∀ ds : List (Key × D), PyData.depthKv (pyK ds) = depK ds
  | [] => rfl
  | (k, d) :: r => by simp only [pyK, PyData.depthKv, depK, depth_key k, depth_py d, depth_pyK r, Nat.zero_max]
end
theorem shaped_py {d : D} (h : plain d = true) (k : dep d ≤ 64) : SeqAt.shaped (py d) = true := by
  unfold SeqAt.shaped
  rw [canLay_py d h, depth_py d, decide_eq_true k]; rfl
def eqD (d e : D) : Bool := PyData.eqv (py d) (py e)
section
variable {B : Bs} {ρ ρ' : Ro} {μ μ' : Mu} {τ : List (V × D)} {σ σ2 : L2.St} {H : Hp} {ta tb tc te tx : TE} {tt tu : TT} {P P1 P2 P3 : D → Prop} {d d1 d2 d3 e : D} {r r' : R2} {R R1 : D → Mu → Prop} {i j : Int} {b : Bool} {v : V} {E : XK} {p : Addr} {ds es : List D}
theorem rd_eqD (h1 : plain d1 = true) (h2 : plain d2 = true) (k1 : dep d1 ≤ 64) (k2 : dep d2 ≤ 64) : RD B (rEqD B.K) ρ μ d1 d2 (fun e => e = .bl (eqD d1 d2)) := rd_flat (fun _ => rfl) fun G H x y s a b Q q =>
  ⟨py d1, py d2, a.dp s d1 h1, b.dp s d2 h2, shaped_py h1 k1, shaped_py h2 k2, q⟩
theorem rd_neD (h1 : plain d1 = true) (h2 : plain d2 = true) (k1 : dep d1 ≤ 64) (k2 : dep d2 ≤ 64) : RD B (rNeD B.K) ρ μ d1 d2 (fun e => e = .bl (!eqD d1 d2)) := rd_flat (fun _ => rfl) fun G H x y s a b Q q =>
  ⟨py d1, py d2, a.dp s d1 h1, b.dp s d2 h2, shaped_py h1 k1, shaped_py h2 k2, q⟩
theorem rd_lt_str {s t : Str} : RD B (fun x y H Q => ∃ i j, x = .str i ∧ y = .str j ∧ Q (.bl (decide (i.cps.toList < j.cps.toList))) H) ρ μ (.str s) (.str t) (fun e => e = .bl (decide (s.cps.toList < t.cps.toList))) := rd_flat (fun _ => rfl) fun G H x y _ a b Q q => ⟨s, t, a, b, q⟩
theorem rd_add_str {s t : Str} (h : s.length + t.length ≤ sizeLine) : RD B (fun x y H Q => ∃ i j, x = .str i ∧ y = .str j ∧ i.length + j.length ≤ sizeLine ∧ Q (.str (i ++ j)) H) ρ μ (.str s) (.str t) (fun e => e = .str (s ++ t)) := rd_flat (fun _ => rfl) fun G H x y _ a b Q q => ⟨s, t, a, b, h, q⟩
/-- tuples glued -/
theorem rd_catA (h : ds.length + es.length ≤ sizeLine) : RD B (rCatA B.K) ρ μ (.tup ds) (.tup es) (fun e => e = .tup (ds ++ es)) := fun τ σ H x y a Q q => by
  obtain ⟨G, g, ⟨p, vs, rfl, e1, k1⟩, ⟨p', us, rfl, e2, k2⟩⟩ := a.two
  refine ⟨p, p', vs, us, rfl, rfl, .inl (.inl (g.sub _ _ e1)), .inl (.inl (g.sub _ _ e2)), by rw [k1.length, k2.length]; exact h, fun z => ?_, fun z1 z2 => ?_, fun z1 z2 q' hq' => ?_⟩
  · have : ds = [] := List.eq_nil_of_length_eq_zero (by rw [← k1.length, z]; rfl)
    subst this
    exact q _ H _ rfl ⟨G, g.push ⟨p', us, rfl, e2, k2⟩⟩
  · have : es = [] := List.eq_nil_of_length_eq_zero (by rw [← k2.length, z2]; rfl)
    subst this
    exact q _ H _ rfl ⟨G, g.push ⟨p, vs, rfl, e1, by rw [List.append_nil]; exact k1⟩⟩
  · exact q _ _ _ rfl (g.newTup hq' (k1.append k2))
end
end Cal


namespace Cal
open PySem PySem.Spec PyProof.Rows L2
section
variable {B : Bs} {ρ ρ' : Ro} {μ μ' : Mu} {τ : List (V × D)} {σ σ2 : L2.St} {H : Hp} {ta tb tc te tx : TE} {tt tu : TT} {P P1 P2 P3 : D → Prop} {d d1 d2 d3 e : D} {r r' : R2} {R R1 : D → Mu → Prop} {i j : Int} {b : Bool} {v : V} {E : XK} {p : Addr} {ds es : List D}
theorem rd_addI : RD B (rAddU B.K) ρ μ (.int i) (.int j) (fun e => e = .int (i + j)) := RD.inl rd_add
theorem rd_addS {s t : Str} (h : s.length + t.length ≤ sizeLine) : RD B (rAddU B.K) ρ μ (.str s) (.str t) (fun e => e = .str (s ++ t)) := RD.inr (RD.inl (rd_add_str h))
theorem rd_addT (h : ds.length + es.length ≤ sizeLine) : RD B (rAddU B.K) ρ μ (.tup ds) (.tup es) (fun e => e = .tup (ds ++ es)) := RD.inr (RD.inr (RD.inl (rd_catA h)))
theorem rd_addL (h : ds.length + es.length ≤ sizeLine) : RD B (rAddU B.K) ρ μ (.lst ds) (.lst es) (fun e => e = .lst (ds ++ es)) := fun τ σ H x y a Q q => by
  obtain ⟨G, g, ⟨p, vs, rfl, e1, k1⟩, ⟨p', us, rfl, e2, k2⟩⟩ := a.two
  exact .inr (.inr (.inr ⟨p, p', vs, us, rfl, rfl, g.sub _ _ e1, g.sub _ _ e2, by rw [k1.length, k2.length]; exact h, fun q' hq' => q _ _ _ rfl (g.newLst hq' (k1.append k2))⟩))
theorem rd_mulI (h : CMul i j) : RD B rMulU ρ μ (.int i) (.int j) (fun e => e = .int (i * j)) := rd_mul h
theorem rd_ltI : RD B rLtU ρ μ (.int i) (.int j) (fun e => e = .bl (decide (i < j))) := RD.inl rd_lt
theorem rd_ltS {s t : Str} : RD B rLtU ρ μ (.str s) (.str t) (fun e => e = .bl (decide (s.cps.toList < t.cps.toList))) := RD.inr rd_lt_str
theorem rd_leI : RD B rLeU ρ μ (.int i) (.int j) (fun e => e = .bl (decide (i ≤ j))) := RD.inl rd_le
theorem rd_leS {s t : Str} : RD B rLeU ρ μ (.str s) (.str t) (fun e => e = .bl (!decide (t.cps.toList < s.cps.toList))) := RD.inr (rd_flat (fun _ => rfl) fun G H x y _ a b Q q => ⟨s, t, a, b, q⟩)
theorem rd_geI : RD B rGeU ρ μ (.int i) (.int j) (fun e => e = .bl (decide (j ≤ i))) := RD.inl rd_ge
theorem rd_geS {s t : Str} : RD B rGeU ρ μ (.str s) (.str t) (fun e => e = .bl (!decide (s.cps.toList < t.cps.toList))) := RD.inr (rd_flat (fun _ => rfl) fun G H x y _ a b Q q => ⟨s, t, a, b, q⟩)
theorem ru_neg : RU B (rU fun i => .int (-i)) ρ μ (.int i) (fun e => e = .int (-i)) := ru_flat (fun _ => rfl) fun G H x _ h Q q => ⟨i, h, q⟩
/-! len -/
theorem one_arg {K : PySem.W.Frag} {G : Hp} {d : D} {xs : List V} (h : DtA K G [d] xs) : ∃ v, xs = [v] ∧ Dt K G d v := by
  obtain ⟨v, r, rfl, h1, h2⟩ := h
  exact ⟨v, by rw [show r = [] from h2], h1⟩
theorem two_args {K : PySem.W.Frag} {G : Hp} {d1 d2 : D} {xs : List V} (h : DtA K G [d1, d2] xs) : ∃ v w, xs = [v, w] ∧ Dt K G d1 v ∧ Dt K G d2 w := by
  obtain ⟨v, r, rfl, h1, h2⟩ := h
  obtain ⟨w, rfl, h3⟩ := one_arg h2
  exact ⟨v, w, rfl, h1, h3⟩
theorem rc_lenT : RC B (rLenU B.K) ρ μ [.tup ds] (fun e => e = .int ds.length) := rc_flat (fun _ => rfl) fun G H xs s h Q q => by
  obtain ⟨v, rfl, p, vs, rfl, e, k⟩ := one_arg h
  rw [← k.length] at q
  exact .inl ⟨p, vs, rfl, .inr (.inl (.inl (s _ _ e))), q⟩
theorem rc_lenL : RC B (rLenU B.K) ρ μ [.lst ds] (fun e => e = .int ds.length) := rc_flat (fun _ => rfl) fun G H xs s h Q q => by
  obtain ⟨v, rfl, p, vs, rfl, e, k⟩ := one_arg h
  rw [← k.length] at q
  exact .inl ⟨p, vs, rfl, .inl (.inl (.inl (s _ _ e))), q⟩
theorem rc_lenS {s : Str} (hs : s.length ≤ sizeLine) : RC B (rLenU B.K) ρ μ [.str s] (fun e => e = .int s.length) := rc_flat (fun _ => rfl) fun G H xs _ h Q q => by
  obtain ⟨v, rfl, hv⟩ := one_arg h
  exact .inr ⟨s, by rw [show v = V.str s from hv], hs, q⟩
/-- of a cell -/
theorem rc_lenC {k : Nat} (hm : μ[k]? = some (p, .lst ds)) : RC B (rLenU B.K) ρ μ [.raw (.ref p)] (fun e => e = .int ds.length) := fun τ σ H xs hl a Q q => by
  obtain ⟨G, g, h⟩ := a.args hl
  obtain ⟨v, rfl, hv⟩ := one_arg h
  obtain ⟨vs, e, k⟩ := (g.cells _ (List.mem_of_getElem? hm)).2.2.2
  refine .inl ⟨p, vs, by rw [show v = V.ref p from hv], .inl (.inl (.inl e)), ?_⟩
  rw [k.length]
  exact q _ H _ rfl (At.flat ⟨G, g⟩ fun _ => rfl)
/-! isinstance -/
def tyD : D → String
  | .non => "NoneType" | .bl _ => "bool" | .int _ => "int" | .str _ => "str" | .lst _ => "list" | .tup _ => "tuple" | .dk _ => "dict" | .dt _ => "dict" | .raw _ => "" | .obj _ _ => ""
theorem tyX_of {K : PySem.W.Frag} {G H : Hp} (s : Same G H) : ∀ {d : D} {v : V}, tyD d ≠ "" → Dt K G d v → TyX K H v (.type (tyD d))
  | .non, v, _, h => by rw [show v = .non from h]; exact .base .non
  | .bl b, v, _, h => by rw [show v = .bl b from h]; exact .base (.bl b)
  | .int i, v, _, h => by rw [show v = .int i from h]; exact .base (.int i)
  | .str t, v, _, h => by rw [show v = .str t from h]; exact .base (.str t)
  | .lst ds, v, _, ⟨a, vs, r, e, k⟩ => by rw [r]; exact .base (.lst (s _ _ e))
  | .tup ds, v, _, ⟨a, vs, r, e, k⟩ => by rw [r]; exact .base (.tup (s _ _ e))
  | .dk ds, v, _, ⟨a, vs, r, e, k⟩ => by rw [r]; exact .base (.dK (s _ _ e))
  | .dt ds, v, _, ⟨a, vs, r, e, k⟩ => by rw [r]; exact .base (.dT (s _ _ e))
  | .raw u, v, n, _ => absurd rfl n
  | .obj _ _, v, n, _ => absurd rfl n
theorem rc_isi {T : String} {b : Bool} (hn : tyD d ≠ "") (h : kitB (tyD d) T = some b) : RC B (rIsi B.K) ρ μ [d, .raw (.ty T)] (fun e => e = .bl b) := rc_flat (fun _ => rfl) fun G H xs s k Q q => by
  obtain ⟨v, w, rfl, h1, h2⟩ := two_args k
  exact ⟨v, w, _, _, b, rfl, by rw [show w = V.ty T from h2]; exact .ty T, tyX_of s hn h1, kit_ty h, q⟩
/-! all, any, int, min, max -/
theorem rc_all {bs : List Bool} : RC B (rAll B.K) ρ μ [.lst (bs.map D.bl)] (fun e => e = .bl (bs.all id)) := rc_flat (fun _ => rfl) fun G H xs s h Q q => by
  obtain ⟨v, rfl, p, vs, rfl, e, k⟩ := one_arg h
  exact ⟨p, bs, rfl, .inl (.inl (by rw [← k.bls]; exact s _ _ e)), q⟩
theorem rc_any {bs : List Bool} : RC B (rAny B.K) ρ μ [.lst (bs.map D.bl)] (fun e => e = .bl (bs.any id)) := rc_flat (fun _ => rfl) fun G H xs s h Q q => by
  obtain ⟨v, rfl, p, vs, rfl, e, k⟩ := one_arg h
  exact ⟨p, bs, rfl, .inl (.inl (by rw [← k.bls]; exact s _ _ e)), q⟩
theorem rc_intI : RC B (fun xs H Q => (∃ i, xs = [.int i] ∧ Q (.int i) H) ∨ ∃ k, xs = [.bl k] ∧ Q (.int (if k then 1 else 0)) H) ρ μ [.int i] (fun e => e = .int i) := rc_flat (fun _ => rfl) fun G H xs s h Q q => by
  obtain ⟨v, rfl, hv⟩ := one_arg h
  exact .inl ⟨i, by rw [show v = V.int i from hv], q⟩
theorem rc_max : RC B (fun xs H Q => ∃ i j, xs = [.int i, .int j] ∧ Q (.int (if j > i then j else i)) H) ρ μ [.int i, .int j] (fun e => e = .int (max i j)) := rc_flat (fun _ => rfl) fun G H xs s h Q q => by
  obtain ⟨v, w, rfl, hv, hw⟩ := two_args h
  refine ⟨i, j, by rw [show v = V.int i from hv, show w = V.int j from hw], ?_⟩
  have : (if j > i then j else i) = max i j := by split <;> omega
  rw [this]; exact q
theorem rc_min : RC B (fun xs H Q => ∃ i j, xs = [.int i, .int j] ∧ Q (.int (if j < i then j else i)) H) ρ μ [.int i, .int j] (fun e => e = .int (min i j)) := rc_flat (fun _ => rfl) fun G H xs s h Q q => by
  obtain ⟨v, w, rfl, hv, hw⟩ := two_args h
  refine ⟨i, j, by rw [show v = V.int i from hv, show w = V.int j from hw], ?_⟩
  have : (if j < i then j else i) = min i j := by split <;> omega
  rw [this]; exact q
/-! parts of a slice -/
def Eo (B : Bs) (to : TO) (ρ : Ro) (μ : Mu) (o : Option Int) : Prop := ∀ (τ : List (V × D)) (σ : L2.St) (H : Hp), At B ρ μ τ σ H → ∀ Q : Option Int → Hp → Prop, (∀ H', At B ρ μ τ σ H' → Q o H') → to σ H Q
theorem eo_none : Eo B tNoPart ρ μ none := fun τ σ H a Q q => q H a
theorem eo_some (h : Ed B te ρ μ (.int i)) : Eo B (tPart te) ρ μ (some i) := fun τ σ H a Q q => h.go a fun v H' d hd a' => by
  subst hd
  obtain ⟨G, g, hv⟩ := a'.top
  exact ⟨i, hv, q H' ⟨G, g⟩⟩
def cutD (ds : List D) (lo hi : Option Int) : List D := (ds.drop (HT.sIx ds.length 0 lo)).take (HT.sIx ds.length ds.length hi - HT.sIx ds.length 0 lo)
theorem DtA.cut {K : PySem.W.Frag} {G : Hp} {vs : List V} {lo hi : Option Int} (h : DtA K G ds vs) : DtA K G (cutD ds lo hi) (cutV vs lo hi) := by
  unfold cutD cutV
  rw [h.length]
  exact (h.drop _).take _
theorem ed_slT {tl th : TO} {lo hi : Option Int} (h : Ed B te ρ μ (.tup ds)) (hl : Eo B tl ρ μ lo) (hh : Eo B th ρ μ hi) : Ed B (tSl (rSlU B.K) te tl th) ρ μ (.tup (cutD ds lo hi)) := Ev.mk fun τ σ H a Q q => h.go a fun v H1 d hd a1 => hl _ σ H1 a1 _ fun H2 a2 => hh _ σ H2 a2 _ fun H3 a3 => by
  subst hd
  obtain ⟨G, g, p, vs, rfl, e, k⟩ := a3.top
  refine .inl ⟨p, vs, rfl, .inl (.inl (g.sub _ _ e)), fun z => ?_, fun z p' hp' => q _ _ _ rfl (g.newTup hp' k.cut)⟩
  have : cutD ds lo hi = ds := by
    unfold cutD
    rw [k.length] at z
    rw [z.1, z.2, List.drop_zero, Nat.sub_zero, List.take_length]
  rw [this] at q
  exact q _ H3 _ rfl ⟨G, g.push ⟨p, vs, rfl, e, k⟩⟩
theorem ed_slL {tl th : TO} {lo hi : Option Int} (h : Ed B te ρ μ (.lst ds)) (hl : Eo B tl ρ μ lo) (hh : Eo B th ρ μ hi) : Ed B (tSl (rSlU B.K) te tl th) ρ μ (.lst (cutD ds lo hi)) := Ev.mk fun τ σ H a Q q => h.go a fun v H1 d hd a1 => hl _ σ H1 a1 _ fun H2 a2 => hh _ σ H2 a2 _ fun H3 a3 => by
  subst hd
  obtain ⟨G, g, p, vs, rfl, e, k⟩ := a3.top
  exact .inr (.inl ⟨p, vs, rfl, .inl (.inl (g.sub _ _ e)), fun p' hp' => q _ _ _ rfl (g.newLst hp' k.cut)⟩)
theorem ed_slS {s : Str} {tl th : TO} {lo hi : Option Int} (h : Ed B te ρ μ (.str s)) (hl : Eo B tl ρ μ lo) (hh : Eo B th ρ μ hi) (hs : s.length ≤ sizeLine) : Ed B (tSl (rSlU B.K) te tl th) ρ μ (.str (cutS s lo hi)) := Ev.mk fun τ σ H a Q q => h.go a fun v H1 d hd a1 => hl _ σ H1 a1 _ fun H2 a2 => hh _ σ H2 a2 _ fun H3 a3 => by
  subst hd
  obtain ⟨G, g, hv⟩ := a3.top
  exact .inr (.inr ⟨s, hv, hs, q _ H3 _ rfl (At.flat ⟨G, g⟩ fun _ => rfl)⟩)
/-! an item -/
theorem DtA.at {K : PySem.W.Frag} {G : Hp} {vs : List V} (h : DtA K G ds vs) (k : atI ds i = some d) : ∃ v, atI vs i = some v ∧ Dt K G d v := by
  unfold atI at k ⊢
  rw [h.length]
  cases e : ixN ds.length i with
  | none => rw [e] at k; cases k
  | some n => rw [e] at k; exact h.get k
theorem rd_ixT (h : atI ds i = some d) : RD B (rIx B.K) ρ μ (.tup ds) (.int i) (fun e => e = d) := fun τ σ H x y a Q q => by
  obtain ⟨G, g, ⟨p, vs, rfl, e1, k1⟩, hy⟩ := a.two
  obtain ⟨v, h1, h2⟩ := k1.at h
  exact .inr (.inl ⟨p, vs, i, v, rfl, hy, .inl (.inl (g.sub _ _ e1)), h1, q v H d rfl ⟨G, g.push h2⟩⟩)
theorem rd_ixL (h : atI ds i = some d) : RD B (rIx B.K) ρ μ (.lst ds) (.int i) (fun e => e = d) := fun τ σ H x y a Q q => by
  obtain ⟨G, g, ⟨p, vs, rfl, e1, k1⟩, hy⟩ := a.two
  obtain ⟨v, h1, h2⟩ := k1.at h
  exact .inl ⟨p, vs, i, v, rfl, hy, .inl (.inl (g.sub _ _ e1)), h1, q v H d rfl ⟨G, g.push h2⟩⟩
theorem rd_ixC {k : Nat} (hm : μ[k]? = some (p, .lst ds)) (h : atI ds i = some d) : RD B (rIx B.K) ρ μ (.raw (.ref p)) (.int i) (fun e => e = d) := fun τ σ H x y a Q q => by
  obtain ⟨G, g, hx, hy⟩ := a.two
  obtain ⟨vs, e, k⟩ := (g.cells _ (List.mem_of_getElem? hm)).2.2.2
  obtain ⟨v, h1, h2⟩ := k.at h
  exact .inl ⟨p, vs, i, v, hx, hy, .inl (.inl e), h1, q v H d rfl ⟨G, g.push h2⟩⟩
/-- an item that some draw tells -/
theorem rd_ixLP (h : 0 ≤ i ∧ i < ds.length) (hP : ∀ d ∈ ds, P d) : RD B (rIx B.K) ρ μ (.lst ds) (.int i) P := fun τ σ H x y a Q q => by
  have hi : i.toNat < ds.length := by omega
  have e : atI ds i = some (ds.getD i.toNat .non) := by
    unfold atI ixN
    rw [if_pos h.1, if_pos h.2]
    exact getD_of hi
  refine rd_ixL e τ σ H x y a Q fun v H' d' hd a' => q v H' d' ?_ a'
  rw [hd]
  exact hP _ (List.mem_of_getElem? (getD_of hi))
/-! zip of two tuples, enumerate of a list -/
theorem ei_zipT {t : TA} (h : Ea B t ρ μ (fun l => l = [.tup ds, .tup es])) : Ei B (RZ.iZipA B.K t) ρ μ (min ds.length es.length) (fun i => .tup [ds.getD i .non, es.getD i .non]) := fun τ σ H a Rr q => h τ σ H a _ fun vs H1 l hl hlen a1 => by
  subst hl
  obtain ⟨G, g, k⟩ := id (a1.args hlen)
  obtain ⟨v, w, rfl, ⟨p, xs, rfl, e1, k1⟩, ⟨p', ys, rfl, e2, k2⟩⟩ := two_args k
  refine ⟨p, p', xs, ys, rfl, .inr ⟨.inl (.inl (g.sub _ _ e1)), .inl (.inl (g.sub _ _ e2)), ?_⟩⟩
  refine q _ H1 _ (fun z hz => List.mem_append_right _ hz) a1 fun i ρ' μ' τ' σ' H' hsub a2 => ?_
  obtain ⟨G2, g2⟩ := id a2
  obtain ⟨q1, xs', c1, e3, k3⟩ := g2.temps (V.ref p, .tup ds) (hsub _ (by simp))
  obtain ⟨q2, ys', c2, e4, k4⟩ := g2.temps (V.ref p', .tup es) (hsub _ (by simp))
  cases c1; cases c2
  have s1 : SqT B.K H' p xs' := .inl (.inl (g2.sub _ _ e3))
  have s2 : SqT B.K H' p' ys' := .inl (.inl (g2.sub _ _ e4))
  refine ⟨fun hi => ⟨xs', ys', s1, s2, by rw [k3.length, k4.length]; omega⟩, fun hi => ?_⟩
  obtain ⟨x, hx, dx⟩ := k3.get (getD_of (show i < ds.length by omega))
  obtain ⟨y, hy, dy⟩ := k4.get (getD_of (show i < es.length by omega))
  refine ⟨⟨xs', ys', x, y, s1, s2, hx, hy⟩, fun z H2 hz => ?_⟩
  obtain ⟨T, x1, y1, rfl, nT, rfl, f1, f2⟩ := hz
  have ex : x = x1 := Option.some.inj (hx.symm.trans (f1 _ s1))
  have ey : y = y1 := Option.some.inj (hy.symm.trans (f2 _ s2))
  subst ex; subst ey
  exact g2.newTup nT ⟨x, _, rfl, dx, y, _, rfl, dy, rfl⟩
theorem ei_enumL {t : TA} (h : Ea B t ρ μ (fun l => l = [.lst ds])) : Ei B (iEnum B.K t) ρ μ ds.length (fun i => .tup [.int i, ds.getD i .non]) := fun τ σ H a Rr q => h τ σ H a _ fun vs H1 l hl hlen a1 => by
  subst hl
  obtain ⟨G, g, k⟩ := id (a1.args hlen)
  obtain ⟨v, rfl, p, xs, rfl, e1, k1⟩ := one_arg k
  refine ⟨p, xs, rfl, .inl (.inl (g.sub _ _ e1)), ?_⟩
  refine q _ H1 _ (fun z hz => List.mem_append_right _ hz) a1 fun i ρ' μ' τ' σ' H' hsub a2 => ?_
  obtain ⟨G2, g2⟩ := id a2
  obtain ⟨q1, xs', c1, e3, k3⟩ := g2.temps (V.ref p, .lst ds) (hsub _ (by simp))
  cases c1
  have s1 : SqL B.K H' p xs' := .inl (.inl (g2.sub _ _ e3))
  refine ⟨fun hi => ⟨xs', s1, by rw [k3.length]; omega⟩, fun hi => ?_⟩
  obtain ⟨x, hx, dx⟩ := k3.get (getD_of hi)
  refine ⟨⟨xs', x, s1, hx⟩, fun z H2 hz => ?_⟩
  obtain ⟨T, x1, rfl, nT, rfl, f1⟩ := hz
  have ex : x = x1 := Option.some.inj (hx.symm.trans (f1 _ s1))
  subst ex
  exact g2.newTup nT ⟨_, _, rfl, rfl, x, _, rfl, dx, rfl⟩
end
end Cal


namespace Cal
open PySem PySem.Spec PyProof.Rows L2
/-! ### small data -/
mutual
def Sm : D → Prop
  | .non => True | .bl _ => True | .int i => i.natAbs < 2 ^ 200 | .str s => s.length ≤ 1000000 ∧ PyData.strOk s = true | .raw _ => False
  | .lst ds => ds.length ≤ 1000000 ∧ SmA ds | .tup ds => ds.length ≤ 1000000 ∧ SmA ds | .dk kvs => SmK kvs | .dt _ => False | .obj _ _ => False
def SmA : List D → Prop
  | [] => True | d :: ds => Sm d ∧ SmA ds
def SmK : List (Key × D) → Prop
  | [] => True | (k, d) :: r => (match k with | .inl i => i.natAbs < 2 ^ 200 | .inr s => PyData.strOk s = true) ∧ Sm d ∧ SmK r
end
theorem SmA.all : ∀ {ds : List D}, SmA ds → ∀ d ∈ ds, Sm d
  | d :: ds, ⟨h, t⟩, e, he => by
    rcases List.mem_cons.mp he with r | r
    · rw [r]; exact h
    · exact SmA.all t e r
theorem SmA.of : ∀ {ds : List D}, (∀ d ∈ ds, Sm d) → SmA ds
  | [], _ => True.intro
  | d :: ds, h => ⟨h d (List.mem_cons_self ..), SmA.of fun e he => h e (List.mem_cons_of_mem _ he)⟩
theorem Sm.ty : ∀ {d : D}, Sm d → tyD d ≠ ""
  | .non, _ => by decide
  | .bl b, _ => by show "bool" ≠ ""; decide
  | .int i, _ => by show "int" ≠ ""; decide
  | .str s, _ => by show "str" ≠ ""; decide
  | .lst s, _ => by show "list" ≠ ""; decide
  | .tup s, _ => by show "tuple" ≠ ""; decide
  | .dk s, _ => by show "dict" ≠ ""; decide
  | .dt s, h => h.elim
  | .obj _ _, h => h.elim
  | .raw s, h => h.elim
def isI : D → Bool | .int _ => true | .bl _ => true | _ => false
def isBl : D → Bool | .bl _ => true | _ => false
def isS : D → Bool | .str _ => true | _ => false
def isT : D → Bool | .tup _ => true | _ => false
theorem isT_eq {d : D} (h : isT d = true) : ∃ ds, d = .tup ds := by cases d <;> first | exact ⟨_, rfl⟩ | cases h
theorem isS_eq {d : D} (h : isS d = true) : ∃ s, d = .str s := by cases d <;> first | exact ⟨_, rfl⟩ | cases h
theorem kit_int : ∀ {d : D}, tyD d ≠ "" → kitB (tyD d) "int" = some (isI d)
  | .non, _ => by decide +kernel
  | .bl b, _ => by show kitB "bool" "int" = some true; decide +kernel
  | .int i, _ => by show kitB "int" "int" = some true; decide +kernel
  | .str s, _ => by show kitB "str" "int" = some false; decide +kernel
  | .lst s, _ => by show kitB "list" "int" = some false; decide +kernel
  | .tup s, _ => by show kitB "tuple" "int" = some false; decide +kernel
  | .dk s, _ => by show kitB "dict" "int" = some false; decide +kernel
  | .dt s, _ => by show kitB "dict" "int" = some false; decide +kernel
  | .raw s, h => absurd rfl h
  | .obj _ _, h => absurd rfl h
theorem kit_bool : ∀ {d : D}, tyD d ≠ "" → kitB (tyD d) "bool" = some (isBl d)
  | .non, _ => by decide +kernel
  | .bl b, _ => by show kitB "bool" "bool" = some true; decide +kernel
  | .int i, _ => by show kitB "int" "bool" = some false; decide +kernel
  | .str s, _ => by show kitB "str" "bool" = some false; decide +kernel
  | .lst s, _ => by show kitB "list" "bool" = some false; decide +kernel
  | .tup s, _ => by show kitB "tuple" "bool" = some false; decide +kernel
  | .dk s, _ => by show kitB "dict" "bool" = some false; decide +kernel
  | .dt s, _ => by show kitB "dict" "bool" = some false; decide +kernel
  | .raw s, h => absurd rfl h
  | .obj _ _, h => absurd rfl h
theorem kit_str : ∀ {d : D}, tyD d ≠ "" → kitB (tyD d) "str" = some (isS d)
  | .non, _ => by decide +kernel
  | .bl b, _ => by show kitB "bool" "str" = some false; decide +kernel
  | .int i, _ => by show kitB "int" "str" = some false; decide +kernel
  | .str s, _ => by show kitB "str" "str" = some true; decide +kernel
  | .lst s, _ => by show kitB "list" "str" = some false; decide +kernel
  | .tup s, _ => by show kitB "tuple" "str" = some false; decide +kernel
  | .dk s, _ => by show kitB "dict" "str" = some false; decide +kernel
  | .dt s, _ => by show kitB "dict" "str" = some false; decide +kernel
  | .raw s, h => absurd rfl h
  | .obj _ _, h => absurd rfl h
theorem kit_tuple : ∀ {d : D}, tyD d ≠ "" → kitB (tyD d) "tuple" = some (isT d)
  | .non, _ => by decide +kernel
  | .bl b, _ => by show kitB "bool" "tuple" = some false; decide +kernel
  | .int i, _ => by show kitB "int" "tuple" = some false; decide +kernel
  | .str s, _ => by show kitB "str" "tuple" = some false; decide +kernel
  | .lst s, _ => by show kitB "list" "tuple" = some false; decide +kernel
  | .tup s, _ => by show kitB "tuple" "tuple" = some true; decide +kernel
  | .dk s, _ => by show kitB "dict" "tuple" = some false; decide +kernel
  | .dt s, _ => by show kitB "dict" "tuple" = some false; decide +kernel
  | .raw s, h => absurd rfl h
  | .obj _ _, h => absurd rfl h
section
variable {B : Bs} {ρ : Ro} {μ : Mu} {d d1 d2 d3 : D} {te ta tb tc : TE} {ds es : List D} {i j : Int} {P : D → Prop} {b : Bool}
theorem ed_isi {T : String} (he : Ed B te ρ μ d) (h : kitB (tyD d) T = some b) (hn : tyD d ≠ "") : Ed B (tCB (rIsi B.K) (tCons te (tCons (tC (.ty T)) tNil))) ρ μ (.bl b) := ed_cb (ead_cons he (ead_cons ed_raw ea_nil)) (rc_isi hn h)
theorem ed_isiI (he : Ed B te ρ μ d) (hn : tyD d ≠ "") : Ed B (tCB (rIsi B.K) (tCons te (tCons (tC (.ty "int")) tNil))) ρ μ (.bl (isI d)) := ed_isi he (kit_int hn) hn
theorem ed_isiB (he : Ed B te ρ μ d) (hn : tyD d ≠ "") : Ed B (tCB (rIsi B.K) (tCons te (tCons (tC (.ty "bool")) tNil))) ρ μ (.bl (isBl d)) := ed_isi he (kit_bool hn) hn
theorem ed_isiS (he : Ed B te ρ μ d) (hn : tyD d ≠ "") : Ed B (tCB (rIsi B.K) (tCons te (tCons (tC (.ty "str")) tNil))) ρ μ (.bl (isS d)) := ed_isi he (kit_str hn) hn
theorem ed_isiT (he : Ed B te ρ μ d) (hn : tyD d ≠ "") : Ed B (tCB (rIsi B.K) (tCons te (tCons (tC (.ty "tuple")) tNil))) ρ μ (.bl (isT d)) := ed_isi he (kit_tuple hn) hn
theorem ed_lenT (h : Ed B te ρ μ (.tup ds)) : Ed B (tCB (rLenU B.K) (tCons te tNil)) ρ μ (.int ds.length) := ed_cb (ead_cons h ea_nil) rc_lenT
theorem ed_lenL (h : Ed B te ρ μ (.lst ds)) : Ed B (tCB (rLenU B.K) (tCons te tNil)) ρ μ (.int ds.length) := ed_cb (ead_cons h ea_nil) rc_lenL
theorem ed_lenS {s : Str} (h : Ed B te ρ μ (.str s)) (hs : s.length ≤ sizeLine) : Ed B (tCB (rLenU B.K) (tCons te tNil)) ρ μ (.int s.length) := ed_cb (ead_cons h ea_nil) (rc_lenS hs)
theorem ed_all {bs : List Bool} {te : TE} (h : Ed B te ρ μ (.lst (bs.map D.bl))) : Ed B (tCB (rAll B.K) (tCons te tNil)) ρ μ (.bl (bs.all id)) := ed_cb (ead_cons h ea_nil) rc_all
theorem ed_allF {te : TE} {n : Nat} {f : Nat → Bool} (h : Ed B te ρ μ (.lst ((List.range n).map fun i => D.bl (f i)))) : Ed B (tCB (rAll B.K) (tCons te tNil)) ρ μ (.bl ((List.range n).all f)) := by
  have e : (List.range n).map (fun i => D.bl (f i)) = ((List.range n).map f).map D.bl := by rw [List.map_map]; rfl
  rw [e] at h
  have := ed_all h
  rw [List.all_map] at this
  exact this
/-- a pure def's call with one, two arguments -/
def psp (K : PySem.W.Frag) (pre : List D → Prop) (post : List D → D → Prop) : Sp := fsp K (fun _ => True) [] pre post
theorem ed_p {pre : List D → Prop} {post : List D → D → Prop} {t : TA} {E : XK} (h : Ea B t ρ μ (fun l => l = ds)) (hpre : pre ds) (hpost : ∀ e, post ds e → e = d) : Ed B (tCall (psp B.K pre post) [] E t) ρ μ d :=
  ev_callP h (fun l e => by rw [e]; exact hpre) fun l e he h => hpost e (by rw [← he]; exact h)
theorem ev_p {pre : List D → Prop} {post : List D → D → Prop} {t : TA} {E : XK} (h : Ea B t ρ μ (fun l => l = ds)) (hpre : pre ds) (hpost : ∀ e, post ds e → P e) : Ev B (tCall (psp B.K pre post) [] E t) ρ μ P :=
  ev_callP h (fun l e => by rw [e]; exact hpre) fun l e he h => hpost e (by rw [← he]; exact h)
theorem eqD_int : eqD (.int i) (.int j) = decide (i = j) := by
  show PyData.eqv (.int i) (.int j) = _
  simp only [PyData.eqv]
  exact Bool.beq_eq_decide_eq i j
theorem rd_eqI : RD B (rEqD B.K) ρ μ (.int i) (.int j) (fun e => e = .bl (decide (i = j))) := by
  have := rd_eqD (B := B) (ρ := ρ) (μ := μ) (d1 := .int i) (d2 := .int j) rfl rfl (Nat.zero_le _) (Nat.zero_le _)
  rw [eqD_int] at this
  exact this
theorem rd_neI : RD B (rNeD B.K) ρ μ (.int i) (.int j) (fun e => e = .bl (!decide (i = j))) := by
  have := rd_neD (B := B) (ρ := ρ) (μ := μ) (d1 := .int i) (d2 := .int j) rfl rfl (Nat.zero_le _) (Nat.zero_le _)
  rw [eqD_int] at this
  exact this
theorem ed_lc2 {wi : TI} {k l : Nat} {vs : List Nat} {n : Nat} {f x y h : Nat → D} (hi : Ei B wi ρ μ n f) (hf : ∀ i, i < n → f i = .tup [x i, y i]) (hk : k ∈ vs) (hl : l ∈ vs) (hn : n ≤ 1000000) (he : ∀ i, i < n → ∀ cl, Ed B te (((wipeR ρ vs).set k (some (x i))).set l (some (y i))) (cl :: μ) (h i)) :
    Ed B (tLc wi (gTup B.K 2 (gCons (gName k) (gCons (gName l) gNil))) tYes te vs) ρ μ (.lst ((List.range n).map h)) :=
  ev_lc hi (fun i => ((wipeR ρ vs).set k (some (x i))).set l (some (y i))) (js := [k, l]) (fun z hz => by
    rcases List.mem_cons.mp hz with e | e
    · rw [e]; exact hk
    · rw [List.mem_singleton.mp e]; exact hl) hn (fun _ => true) (fun i d => d = h i) (fun i hi cl => by rw [hf i hi]; exact gd_tup2) (fun _ _ _ => eb_yes) (fun i hi _ cl => he i hi cl) fun ds h => by
    rw [h.det, List.filter_eq_self.mpr fun _ _ => rfl]
theorem cutD1 (ds : List D) : cutD ds (some 1) none = ds.drop 1 := by
  unfold cutD
  rw [show HT.sIx ds.length 0 (some 1) = min 1 ds.length from HT.sIx_nat ds.length 0 1, HT.sIx_none]
  cases ds with
  | nil => rfl
  | cons x r =>
    rw [show min 1 (x :: r).length = 1 by rw [List.length_cons]; omega]
    show (List.take ((x :: r).length - 1) r) = r
    rw [List.length_cons, Nat.add_sub_cancel]
    exact List.take_length
theorem getD_drop1 (ds : List D) (i : Nat) : (ds.drop 1).getD i .non = ds.getD (i + 1) .non := by
  rw [List.getD_eq_getElem?_getD, List.getD_eq_getElem?_getD, List.getElem?_drop, Nat.add_comm]
theorem or_not {a b : Bool} (h : (!a || !b) = true) (ha : a = true) : b = false := by subst ha; cases b <;> first | rfl | cases h
theorem and_of {a b : Bool} (h : (!a || !b) = false) : a = true ∧ b = true := by cases a <;> cases b <;> first | exact ⟨rfl, rfl⟩ | cases h
/-- chains of comparisons -/
theorem ed_leleI (ha : Ed B ta ρ μ (.int i)) (hb : Ed B tb ρ μ (.int j)) {k : Int} (hc : Ed B tc ρ μ (.int k)) : Ed B (tChain rLeU rLeU ta tb tc) ρ μ (.bl (decide (i ≤ j) && decide (j ≤ k))) :=
  ed_chain ha hb (fun _ => hc) (fun G H x y s h1 h2 Q q => .inl ⟨i, j, h1, h2, q⟩) fun _ G H x y s h1 h2 Q q => .inl ⟨j, k, h1, h2, q⟩
theorem ed_leltI (ha : Ed B ta ρ μ (.int i)) (hb : Ed B tb ρ μ (.int j)) {k : Int} (hc : Ed B tc ρ μ (.int k)) : Ed B (tChain rLeU rLtU ta tb tc) ρ μ (.bl (decide (i ≤ j) && decide (j < k))) :=
  ed_chain ha hb (fun _ => hc) (fun G H x y s h1 h2 Q q => .inl ⟨i, j, h1, h2, q⟩) fun _ G H x y s h1 h2 Q q => .inl ⟨j, k, h1, h2, q⟩
theorem ed_leleS {s t u : Str} (ha : Ed B ta ρ μ (.str s)) (hb : Ed B tb ρ μ (.str t)) (hc : Ed B tc ρ μ (.str u)) : Ed B (tChain rLeU rLeU ta tb tc) ρ μ (.bl (!decide (t.cps.toList < s.cps.toList) && !decide (u.cps.toList < t.cps.toList))) :=
  ed_chain ha hb (fun _ => hc) (fun G H x y _ h1 h2 Q q => .inr ⟨s, t, h1, h2, q⟩) fun _ G H x y _ h1 h2 Q q => .inr ⟨t, u, h1, h2, q⟩
end
end Cal


namespace Cal
open PySem PySem.Spec PyProof.Rows L2
def topS (i : Nat) : Stmt := PySem.Challenge.pw_causeloops_k70_whole_rings_by_an_own_jud.main.body.getD i (.Pass ⟨0, 0, 0, 0⟩)
def clsS (s : Stmt) (i : Nat) : Stmt := match s with
  | .ClassDef _ _ _ b _ _ _ _ _ _ _ => b.getD i (.Pass ⟨0, 0, 0, 0⟩)
  | _ => .Pass ⟨0, 0, 0, 0⟩
theorem locT {M : List Addr} : ∀ (H H' : Hp), True → (∀ b ∈ M, H' b = H b) → True := fun _ _ _ _ => True.intro
end Cal


namespace Cal
open PySem PySem.Spec PyProof.Rows L2
section
variable {X : Cx}
def rMulS : R2 := fun x y H Q => ∃ z n, x = .str z ∧ y = .int n ∧ MulOk z n ∧ Q (.str (Txt.mul z n)) H
theorem op_mulS : OpR X (binaryOp .Mult) rMulS := by
  intro pins s σ H x y v u Q I rx ry h
  obtain ⟨z, n, rfl, rfl, hz, q⟩ := h
  obtain ⟨t, rfl⟩ := rx
  obtain ⟨t', rfl⟩ := ry
  exact SB.mul hz fun t' tk => ⟨.str (Txt.mul z n), H, I.tok _, ⟨_, rfl⟩, q⟩
def rMulU2 : R2 := fun x y H Q => rMulU x y H Q ∨ rMulS x y H Q
theorem u_mul2 : OpR X (binaryOp .Mult) rMulU2 := OpR.or u_mul op_mulS
/-- list of a text's signs -/
def sgV (z : Str) : List V := (List.range z.cps.size).map fun i => .str ⟨#[z.cps.getD i 0]⟩
theorem sgV_length (z : Str) : (sgV z).length = z.cps.size := by unfold sgV; rw [List.length_map, List.length_range]
def rLstStr : List V → Hp → VK → Prop := fun xs H Q => ∃ z : Str, xs = [.str z] ∧ z.cps.size ≤ sizeLine ∧ ∀ l, H l = none → Q (.ref l) (upd H l (.lst (sgV z)))
theorem vals_signs {x : Str} {acc : Array Value} (h : ItemsOf (SignAt x) acc x.cps.size) : Vals (sgV x) acc.toList := by
  have e : acc.toList.length = x.cps.size := by rw [Array.length_toList]; exact h.1
  unfold sgV
  rw [← e]
  refine vals_of_get acc.toList _ fun j u hj => ?_
  obtain ⟨c, t, hc, rfl⟩ := h.2 j u (by rw [← hj, Array.getElem?_toList])
  refine ⟨t, ?_⟩
  rw [Array.getD_eq_getD_getElem?, hc]; rfl
theorem call_list_signs (hc : X.calm = true) : CallR X (.type "list") rLstStr := by
  intro pins s σ H xs us Q I r h
  obtain ⟨z, rfl, hz, q⟩ := h
  obtain ⟨u, rfl, rx⟩ := vals1 r
  obtain ⟨t, rfl⟩ := rx
  refine call_list_str (I.ok.hd hc) z t (fun h' tk acc c' kp e hi => ?_) hz
  exact ⟨.ref s.heap.objs.size, _, I.laid kp (Nat.le_refl _) (show ObjOk X.prog X.w _ h' _ (.lst (sgV z)) from ⟨by rw [sgV_length]; exact hz, acc.toList, c', vals_signs hi, by rw [Array.toArray_toList]; exact e⟩), rfl, q _ (I.hok.fresh (Nat.le_refl _))⟩
def rLstOf (K : PySem.W.Frag) : List V → Hp → VK → Prop := fun xs H Q => (∃ p ys, xs = [.ref p] ∧ (SqL K H p ys ∨ SqT K H p ys) ∧ ∀ l, H l = none → Q (.ref l) (upd H l (.lst ys))) ∨ rLstStr xs H Q
theorem u_list (hc : X.calm = true) : CallR X (.type "list") (rLstOf X.K) := CallR.or call_list_of (call_list_signs hc)
def rTupOf (K : PySem.W.Frag) : List V → Hp → VK → Prop := fun xs H Q => ∃ p ys, xs = [.ref p] ∧ ((SqL K H p ys ∧ ∀ l, H l = none → Q (.ref l) (upd H l (.tup ys))) ∨ (SqT K H p ys ∧ Q (.ref p) H))
theorem u_tuple : CallR X (.type "tuple") (rTupOf X.K) := call_tuple_of
end
section
variable {B : Bs} {ρ ρ' : Ro} {μ μ' : Mu} {τ : List (V × D)} {σ σ2 : L2.St} {H : Hp} {ta tb tc te tx : TE} {tt tu : TT} {P P1 P2 P3 : D → Prop} {d d1 d2 d3 e : D} {r r' : R2} {R R1 : D → Mu → Prop} {R2' : D → Mu → D → Mu → Prop} {i j : Int} {b : Bool} {v : V} {E : XK} {p l : Addr} {ds es : List D} {D0 : Ends} {ts t1 t2 : TS}
theorem rd_mulI2 (h : CMul i j) : RD B rMulU2 ρ μ (.int i) (.int j) (fun e => e = .int (i * j)) := RD.inl (rd_mulI h)
theorem rd_mulS2 {s : Str} (h : MulOk s i) : RD B rMulU2 ρ μ (.str s) (.int i) (fun e => e = .str (Txt.mul s i)) := RD.inr (rd_flat (fun _ => rfl) fun G H x y _ a b Q q => ⟨s, i, a, b, h, q⟩)
theorem rd_fdiv (h : CDivW i j) : RD B (rI CDivW fun i j => .int (i / j)) ρ μ (.int i) (.int j) (fun e => e = .int (i / j)) := rd_I (fun _ => rfl) h
theorem rc_tupL : RC B (rTupOf B.K) ρ μ [.lst ds] (fun e => e = .tup ds) := fun τ σ H xs hl a Q q => by
  obtain ⟨G, g, h⟩ := a.args hl
  obtain ⟨v, rfl, p, vs, rfl, e, k⟩ := one_arg h
  exact ⟨p, vs, rfl, .inl ⟨.inl (.inl (g.sub _ _ e)), fun l hl => q _ _ _ rfl (g.newTup hl k)⟩⟩
theorem rc_tupC {k : Nat} (hm : μ[k]? = some (p, .lst ds)) : RC B (rTupOf B.K) ρ μ [.raw (.ref p)] (fun e => e = .tup ds) := fun τ σ H xs hl a Q q => by
  obtain ⟨G, g, h⟩ := a.args hl
  obtain ⟨v, rfl, hv⟩ := one_arg h
  obtain ⟨vs, e, k⟩ := (g.cells _ (List.mem_of_getElem? hm)).2.2.2
  exact ⟨p, vs, by rw [show v = V.ref p from hv], .inl ⟨.inl (.inl e), fun l hl => q _ _ _ rfl (g.newTup hl k)⟩⟩
theorem rc_lstT : RC B (rLstOf B.K) ρ μ [.tup ds] (fun e => e = .lst ds) := fun τ σ H xs hl a Q q => by
  obtain ⟨G, g, h⟩ := a.args hl
  obtain ⟨v, rfl, p, vs, rfl, e, k⟩ := one_arg h
  exact .inl ⟨p, vs, rfl, .inr (.inl (.inl (g.sub _ _ e))), fun l hl => q _ _ _ rfl (g.newLst hl k)⟩
theorem ed_tupL (h : Ed B te ρ μ (.lst ds)) : Ed B (tCB (rTupOf B.K) (tCons te tNil)) ρ μ (.tup ds) := ed_cb (ead_cons h ea_nil) rc_tupL
theorem ed_lstT (h : Ed B te ρ μ (.tup ds)) : Ed B (tCB (rLstOf B.K) (tCons te tNil)) ρ μ (.lst ds) := ed_cb (ead_cons h ea_nil) rc_lstT
/-- sorted ints: some ascending arrangement -/
theorem rc_sortI {is : List Int} (hz : is.length < 64) (hP : ∀ js : List Int, js.Perm is → js.Pairwise (· ≤ ·) → P (.lst (js.map D.int))) : RC B (rSortU2 B.K) ρ μ [.lst (is.map D.int)] P := fun τ σ H xs hl a Q q => by
  obtain ⟨G, g, h⟩ := a.args hl
  obtain ⟨v, rfl, p, vs, rfl, e, k⟩ := one_arg h
  exact .inl ⟨p, is, rfl, .inl (.inl (by rw [← k.ints]; exact g.sub _ _ e)), hz, fun js p' h1 h2 hp' => q _ _ _ (hP js h1 h2) (g.newLst hp' (DtA.of_ints js))⟩
theorem rc_sortC {is : List Int} {k : Nat} (hm : μ[k]? = some (p, .lst (is.map D.int))) (hz : is.length < 64) (hP : ∀ js : List Int, js.Perm is → js.Pairwise (· ≤ ·) → P (.lst (js.map D.int))) : RC B (rSortU2 B.K) ρ μ [.raw (.ref p)] P := fun τ σ H xs hl a Q q => by
  obtain ⟨G, g, h⟩ := a.args hl
  obtain ⟨v, rfl, hv⟩ := one_arg h
  obtain ⟨vs, e, k⟩ := (g.cells _ (List.mem_of_getElem? hm)).2.2.2
  exact .inl ⟨p, is, by rw [show v = V.ref p from hv], .inl (.inl (by rw [← k.ints]; exact e)), hz, fun js p' h1 h2 hp' => q _ _ _ (hP js h1 h2) (g.newLst hp' (DtA.of_ints js))⟩
theorem rc_sortS {is : List Str} (hz : is.length < 64) (hP : ∀ js : List Str, js.Perm is → sortedS js = true → P (.lst (js.map D.str))) : RC B (rSortU2 B.K) ρ μ [.lst (is.map D.str)] P := fun τ σ H xs hl a Q q => by
  obtain ⟨G, g, h⟩ := a.args hl
  obtain ⟨v, rfl, p, vs, rfl, e, k⟩ := one_arg h
  exact .inr ⟨p, is, rfl, .inl (.inl (by rw [← k.strs]; exact g.sub _ _ e)), hz, fun js p' h1 h2 hp' => q _ _ _ (hP js h1 h2) (g.newLst hp' (DtA.of_strs js))⟩
/-! ### cells -/
/-- a new list that will change -/
def Xl (B : Bs) (te : TE) (ρ : Ro) (μ : Mu) (ds : List D) : Prop := Xv B te ρ μ fun d μ' => ∃ p, d = .raw (.ref p) ∧ μ' = (p, .lst ds) :: μ
theorem xl_lst {t : TA} (h : Ea B t ρ μ (fun l => l = ds)) (hl : ds.length ≤ sizeLine) : Xl B (tLst t) ρ μ ds := fun τ σ H a Q q => h τ σ H a _ fun vs H1 es hes hlen a1 => by
  subst hes
  obtain ⟨G, g, k⟩ := a1.args hlen
  refine ⟨by rw [hlen]; exact hl, fun p hp => q _ _ _ _ ⟨p, rfl, rfl⟩ ?_⟩
  obtain ⟨G0, g0⟩ := a1
  have a2 := (At.newCell (c := .lst es) (o := .lst vs) ⟨G0, g0⟩ hp fun G' k' => ⟨vs, upd_same, DtA.of_zip hlen fun q hq => k' q (List.mem_append_left _ hq)⟩).1
  exact At.flat (a2.sub fun q hq => List.mem_append_right _ hq) fun _ => rfl
theorem xl_nil : Xl B (tLst tNil) ρ μ [] := xl_lst ea_nil (Nat.zero_le _)
theorem xl_signs {s : Str} (h : Ed B te ρ μ (.str s)) (hz : s.cps.size ≤ sizeLine) : Xl B (tCB (rLstOf B.K) (tCons te tNil)) ρ μ ((List.range s.cps.size).map fun i => .str ⟨#[s.cps.getD i 0]⟩) := fun τ σ H a Q q => h.go a fun v H1 d hd a1 => by
  subst hd
  obtain ⟨G, g, hv⟩ := a1.top
  refine .inr ⟨s, by rw [show v = V.str s from hv], hz, fun p hp => q _ _ _ _ ⟨p, rfl, rfl⟩ ?_⟩
  have a2 := (At.newCell (c := .lst ((List.range s.cps.size).map fun i => .str ⟨#[s.cps.getD i 0]⟩)) (o := .lst (sgV s)) ⟨G, g⟩ hp fun G' k' => ⟨_, upd_same, ?_⟩).1
  · exact At.flat a2 fun _ => rfl
  · have e := DtA.of_strs (K := B.K) (G := G') ((List.range s.cps.size).map fun i => (⟨#[s.cps.getD i 0]⟩ : Str))
    rw [List.map_map, List.map_map] at e
    exact e
theorem xl_range (h : Ed B te ρ μ (.int i)) (hi : 0 ≤ i ∧ i ≤ 1000) : Xl B (tLstRg (tRg1 te)) ρ μ ((List.range i.toNat).map fun k : Nat => D.int (k : Int)) := fun τ σ H a Q q => h.go a fun v H1 d hd a1 => by
  subst hd
  obtain ⟨G, g, hv⟩ := a1.top
  refine ⟨i, hv, RgOk.of_le (by omega) (by omega) (by omega) (by omega), fun p hp => q _ _ _ _ ⟨p, rfl, rfl⟩ ?_⟩
  have a2 := (At.newCell (c := .lst ((List.range i.toNat).map fun k : Nat => D.int (k : Int))) (o := .lst (rgV 0 i)) ⟨G, g⟩ hp fun G' k' => ⟨_, upd_same, ?_⟩).1
  · exact At.flat a2 fun _ => rfl
  · have e := DtA.of_ints (K := B.K) (G := G') ((List.range i.toNat).map fun k : Nat => (k : Int))
    rw [List.map_map] at e
    have e2 : rgV 0 i = (List.range i.toNat).map fun k : Nat => V.int (k : Int) := by
      unfold rgV
      rw [Int.sub_zero]
      exact List.map_congr_left fun k _ => by rw [Int.zero_add]
    rw [e2]
    rw [List.map_map] at e
    exact e
/-- two names at once, each with its own change of the cells -/
theorem x_par2 {k l : Nat} (a : At B ρ μ τ σ H) (h1 : Xv B ta ρ μ R) (h2 : ∀ d1 μ1, R d1 μ1 → Xv B tb ρ μ1 (R2' d1 μ1)) (q : ∀ d1 μ1 d2 μ2 σ' H', R d1 μ1 → R2' d1 μ1 d2 μ2 → At B ((ρ.set k (some d1)).set l (some d2)) μ2 τ σ' H' → D0.nx σ' H') : tPar k l (tCons ta (tCons tb tNil)) D0 σ H :=
  h1 τ σ H a _ fun v H1 d1 μ1 hr a1 => h2 d1 μ1 hr _ σ H1 a1 _ fun w H2 d2 μ2 hr2 a2 => ⟨v, w, rfl, q d1 μ1 d2 μ2 _ H2 hr hr2 (At.set l (At.sub (τ' := (w, d2) :: τ) (At.set k (At.sub (τ' := (v, d1) :: (w, d2) :: τ) a2 fun p hp => by
    rcases List.mem_cons.mp hp with e | e
    · rw [e]; exact List.mem_cons_of_mem _ (List.mem_cons_self ..)
    · rcases List.mem_cons.mp e with e | e
      · rw [e]; exact List.mem_cons_self ..
      · exact List.mem_cons_of_mem _ (List.mem_cons_of_mem _ e))) fun p hp => hp))⟩
/-- append to a cell -/
theorem x_append {k : Nat} (a : At B ρ μ τ σ H) (ho : ∀ τ σ H, At B ρ μ τ σ H → ∀ Q : VK, (∀ H', At B ρ μ τ σ H' → Q (.ref l) H') → ta σ H Q) (hm : μ[k]? = some (l, .lst ds)) (he : Xv B te ρ μ R) (hR : ∀ d μ', R d μ' → μ'[k]? = some (l, .lst ds)) (hz : ds.length < 100000)
    (q : ∀ d μ' H', R d μ' → At B ρ (μ'.set k (l, .lst (ds ++ [d]))) τ σ H' → D0.nx σ H') : tDrop (tBM B.K "list" rAppend ta (tCons te tNil)) D0 σ H :=
  ho τ σ H a _ fun H1 a1 => by
    obtain ⟨G, g⟩ := id a1
    obtain ⟨vs, e, _⟩ := (g.cells _ (List.mem_of_getElem? hm)).2.2.2
    refine ⟨.inl ⟨rfl, _, .inl (.inl e)⟩, he τ σ H1 a1 _ fun v H2 d μ' hr a2 => ?_⟩
    obtain ⟨G2, g2⟩ := id a2
    obtain ⟨us, e2, k2⟩ := (g2.cells _ (List.mem_of_getElem? (hR d μ' hr))).2.2.2
    refine ⟨l, us, v, rfl, rfl, e2, by rw [k2.length]; exact Nat.lt_trans hz (by decide), q d μ' _ hr (At.pop (At.write (c' := .lst (ds ++ [d])) a2 (hR d μ' hr) fun G' k' hc => ?_))⟩
    obtain ⟨us', e3, k3⟩ := hc
    rw [e2] at e3
    cases e3
    exact ⟨_, upd_same, k3.append ⟨v, [], rfl, k' _ (List.mem_cons_self ..), rfl⟩⟩
/-- the name of a cell -/
theorem o_var {n : Nat} (h : ρ[n]? = some (some (.raw (.ref l)))) : ∀ τ σ H, At B ρ μ τ σ H → ∀ Q : VK, (∀ H', At B ρ μ τ σ H' → Q (.ref l) H') → tVar n σ H Q := fun τ σ H a Q q => by
  obtain ⟨v, h1, h2⟩ := a.var h
  obtain ⟨G, g, hv⟩ := h2.top
  exact ⟨v, h1, by rw [show v = V.ref l from hv]; exact q H ⟨G, g⟩⟩
/-- pop at a place -/
theorem xv_popAt {k : Nat} (ho : ∀ τ σ H, At B ρ μ τ σ H → ∀ Q : VK, (∀ H', At B ρ μ τ σ H' → Q (.ref l) H') → ta σ H Q) (hm : μ[k]? = some (l, .lst ds)) (he : Ev B te ρ μ fun d => ∃ i : Int, d = .int i ∧ 0 ≤ i ∧ i < ds.length) (hz : ds.length ≤ 100000) :
    Xv B (tBM B.K "list" rPopAt ta (tCons te tNil)) ρ μ fun d μ' => ∃ n, n < ds.length ∧ ds[n]? = some d ∧ μ' = μ.set k (l, .lst (ds.eraseIdx n)) := fun τ σ H a Q q => ho τ σ H a _ fun H1 a1 => by
  obtain ⟨G, g⟩ := id a1
  obtain ⟨vs, e, _⟩ := (g.cells _ (List.mem_of_getElem? hm)).2.2.2
  refine ⟨.inl ⟨rfl, _, .inl (.inl e)⟩, he.go a1 fun v H2 d hd a2 => ?_⟩
  obtain ⟨i, rfl, h0, h1⟩ := hd
  obtain ⟨G2, g2, hv⟩ := id a2.top
  obtain ⟨us, e2, k2⟩ := (g2.cells _ (List.mem_of_getElem? hm)).2.2.2
  have hn : i.toNat < ds.length := by omega
  obtain ⟨y, hy, dy⟩ := k2.get (getD_of hn)
  refine ⟨l, us, i, i.toNat, y, rfl, by rw [show v = V.int i from hv], e2, by omega, by omega, ?_, hy, q y _ (ds.getD i.toNat .non) _ ⟨i.toNat, hn, getD_of hn, rfl⟩ ?_⟩
  · unfold seqIndex?
    rw [k2.length]
    have e3 : (if i < 0 then i + (ds.length : Int) else i) = i := if_neg (by omega)
    simp only [e3]
    have h3 : (decide (0 ≤ i) && decide (i < (ds.length : Int))) = true := by rw [decide_eq_true h0, decide_eq_true h1]; rfl
    rw [if_pos h3]
  · refine At.write (c' := .lst (ds.eraseIdx i.toNat)) ⟨G2, g2.push dy⟩ hm fun G' k' hc => ?_
    obtain ⟨us', e3, k3⟩ := hc
    rw [e2] at e3
    cases e3
    refine ⟨_, upd_same, ?_⟩
    rw [List.eraseIdx_eq_take_drop_succ, List.eraseIdx_eq_take_drop_succ]
    exact (k3.take _).append (k3.drop _)
end
end Cal


namespace Cal
open PySem PySem.Spec PyProof.Rows L2
/-! ### the deck: an object of three things, and its list -/
abbrev kL : Key := .inr "left"
abbrev kM : Key := .inr "mixed"
abbrev kD : Key := .inr "draws"
theorem kLM : decide (kL = kM) = false := by decide +kernel
theorem kLD : decide (kL = kD) = false := by decide +kernel
theorem kMD : decide (kM = kD) = false := by decide +kernel
theorem kML : decide (kM = kL) = false := by decide +kernel
theorem kDL : decide (kD = kL) = false := by decide +kernel
theorem kDM : decide (kD = kM) = false := by decide +kernel
def dkv (l : Addr) (m n : Int) : List (Key × V) := [(kL, .ref l), (kM, .int m), (kD, .int n)]
theorem dkv_left (l : Addr) (m n : Int) : valV (dkv l m n) kL = some (.ref l) := by
  unfold valV dkv
  rw [List.find?_cons_of_pos (by exact decide_eq_true rfl)]; rfl
theorem dkv_mixed (l : Addr) (m n : Int) : valV (dkv l m n) kM = some (.int m) := by
  unfold valV dkv
  rw [List.find?_cons_of_neg (by rw [kLM]; exact Bool.false_ne_true), List.find?_cons_of_pos (by exact decide_eq_true rfl)]; rfl
theorem dkv_draws (l : Addr) (m n : Int) : valV (dkv l m n) kD = some (.int n) := by
  unfold valV dkv
  rw [List.find?_cons_of_neg (by rw [kLD]; exact Bool.false_ne_true), List.find?_cons_of_neg (by rw [kMD]; exact Bool.false_ne_true), List.find?_cons_of_pos (by exact decide_eq_true rfl)]; rfl
theorem dkv_put (l : Addr) (m n n' : Int) : putK (dkv l m n) kD (.int n') = dkv l m n' := by
  unfold putK dkv
  rw [if_pos (by simp only [List.any_cons, kLD, kMD, List.any_nil, Bool.false_or, Bool.or_false]; exact decide_eq_true trivial)]
  simp only [List.map_cons, List.map_nil]
  rw [if_neg (of_decide_eq_false kLD), if_neg (of_decide_eq_false kMD)]
  first | rfl | rw [if_pos trivial] | rw [if_pos rfl]
theorem dkv_merge (l : Addr) (m n : Int) : mergeK [] [(kL, .ref l), (kM, .int m), (kD, .int n)] = dkv l m n := by
  unfold mergeK
  simp only [List.foldl_cons, List.foldl_nil]
  have e1 : putK ([] : List (Key × V)) kL (.ref l) = [(kL, .ref l)] := by unfold putK; rw [if_neg (by simp)]; rfl
  have e2 : putK [(kL, V.ref l)] kM (.int m) = [(kL, .ref l), (kM, .int m)] := by
    unfold putK; rw [if_neg (by simp only [List.any_cons, kLM, List.any_nil, Bool.or_false]; exact Bool.false_ne_true)]; rfl
  have e3 : putK [(kL, V.ref l), (kM, .int m)] kD (.int n) = [(kL, .ref l), (kM, .int m), (kD, .int n)] := by
    unfold putK; rw [if_neg (by simp only [List.any_cons, kLD, kMD, List.any_nil, Bool.or_false]; exact Bool.false_ne_true)]; rfl
  rw [e1, e2, e3]; rfl
def DkI (dk l : Addr) (k : Nat) (H : Hp) : Prop := ∃ (ns : List Int) (m n : Int), H dk = some (.dK (dkv l m n)) ∧ H l = some (.lst (ns.map V.int)) ∧ ns.length ≤ k
theorem dkLoc {dk l : Addr} {k : Nat} : ∀ H H', DkI dk l k H → (∀ b ∈ [dk, l], H' b = H b) → DkI dk l k H' := fun H H' ⟨ns, m, n, h1, h2, h3⟩ e => ⟨ns, m, n, by rw [e dk (by simp)]; exact h1, by rw [e l (by simp)]; exact h2, h3⟩
theorem DkI.ent {dk l : Addr} {k : Nat} {H : Hp} (h : DkI dk l k H) : ∀ b ∈ [dk, l], Ent H b := fun b hb => by
  obtain ⟨ns, m, n, h1, h2, _⟩ := h
  unfold Ent
  rcases List.mem_cons.mp hb with z | z
  · rw [z, h1]; simp
  · rw [List.mem_singleton.mp z, h2]; simp
def Bd (K : PySem.W.Frag) (dk l : Addr) (k : Nat) (G0 H0 : Hp) : Bs := ⟨K, DkI dk l k, [dk, l], dkLoc, G0, H0⟩
section
variable {K : PySem.W.Frag} {dk l : Addr} {k : Nat} {G0 H0 : Hp} {ρ ρ' : Ro} {μ μ' : Mu} {τ : List (V × D)} {σ σ2 : L2.St} {H : Hp} {te ta : TE} {P : D → Prop} {D0 : Ends} {t1 t2 : TS} {j i : Nat}
theorem Bd.to {k' : Nat} (h : k ≤ k') (a : At (Bd K dk l k G0 H0) ρ μ τ σ H) : At (Bd K dk l k' G0 H0) ρ μ τ σ H := by
  obtain ⟨G, g⟩ := a
  obtain ⟨ns, m, n, h1, h2, h3⟩ := (g.inv : DkI dk l k H)
  exact ⟨G, g.sub, ⟨ns, m, n, h1, h2, Nat.le_trans h3 h⟩, g.out, g.tup, g.base, g.ext, g.len, g.slots, g.cells, g.nd, g.temps⟩
/-- what all change is changed -/
theorem Bd.write {k' : Nat} {o : HO} {p : Addr} {G : Hp} (g : AtG (Bd K dk l k G0 H0) ρ μ τ σ H G) (hp : p ∈ [dk, l]) (hI : DkI dk l k' (upd H p o)) : AtG (Bd K dk l k' G0 H0) ρ μ τ σ (upd H p o) G := by
  have n1 : G p = none := (g.out p hp).1
  refine ⟨fun b u e => ?_, hI, fun b hb => ⟨(g.out b hb).1, ?_⟩, fun b vs e => ?_, fun b u e hb => ?_, g.ext, g.len, g.slots, fun q hq => ?_, g.nd, g.temps⟩
  · rw [upd_ne (fun z => by subst z; rw [n1] at e; cases e)]; exact g.sub b u e
  · exact DkI.ent hI b hb
  · by_cases hb : b = p
    · subst hb; exact absurd e ((DkI.ent hI b hp).2 vs)
    · rw [upd_ne hb] at e; exact g.tup b vs e
  · rw [upd_ne (show b ≠ p from fun z => hb (show b ∈ [dk, l] by rw [z]; exact hp))]; exact g.base b u e hb
  · obtain ⟨a, b, c, d⟩ := g.cells q hq
    exact ⟨a, b, c, d.mono (Same.refl G) fun o' z => by rw [upd_ne (show q.1 ≠ p from fun e => c (show q.1 ∈ [dk, l] by rw [e]; exact hp))]; exact z⟩
theorem deck_at (a : At (Bd K dk l k G0 H0) ρ μ τ σ H) (h : ρ[j]? = some (some (.raw (.ref dk)))) : σ[j]? = some (some (.ref dk)) := by
  obtain ⟨v, h1, h2⟩ := a.var h
  obtain ⟨G, g, hv⟩ := h2.top
  rw [h1, show v = V.ref dk from hv]
theorem ev_dgetI (h : ρ[j]? = some (some (.raw (.ref dk)))) {x : Str} (hx : ∀ m n, ∃ z, valV (dkv l m n) (.inr x) = some (.int z)) : Ev (Bd K dk l k G0 H0) (tDGet (tVar j) (tC (.str x))) ρ μ (fun d => ∃ z, d = .int z) := Ev.mk fun τ σ H a Q q => by
  obtain ⟨G, g⟩ := id a
  obtain ⟨ns, m, n, h1, h2, h3⟩ := (g.inv : DkI dk l k H)
  obtain ⟨z, hz⟩ := hx m n
  refine ⟨_, deck_at a h, dk, .int z, rfl, ?_, q _ H _ ⟨z, rfl⟩ (At.flat a fun _ => rfl)⟩
  rw [← hz]
  exact DGet.k (k := Sum.inr x) h1
theorem ev_draws (h : ρ[j]? = some (some (.raw (.ref dk)))) : Ev (Bd K dk l k G0 H0) (tDGet (tVar j) (tC (.str "draws"))) ρ μ (fun d => ∃ z, d = .int z) := ev_dgetI h fun m n => ⟨n, dkv_draws l m n⟩
theorem ev_mixed (h : ρ[j]? = some (some (.raw (.ref dk)))) : Ev (Bd K dk l k G0 H0) (tDGet (tVar j) (tC (.str "mixed"))) ρ μ (fun d => ∃ z, d = .int z) := ev_dgetI h fun m n => ⟨m, dkv_mixed l m n⟩
theorem left_at (a : At (Bd K dk l k G0 H0) ρ μ τ σ H) (h : ρ[j]? = some (some (.raw (.ref dk)))) {Q : VK} (q : Q (.ref l) H) : tDGet (tVar j) (tC (.str "left")) σ H Q := by
  obtain ⟨G, g⟩ := id a
  obtain ⟨ns, m, n, h1, h2, h3⟩ := (g.inv : DkI dk l k H)
  refine ⟨_, deck_at a h, dk, .ref l, rfl, ?_, q⟩
  rw [← dkv_left l m n]
  exact DGet.k (k := kL) h1
theorem x_putDraws (a : At (Bd K dk l k G0 H0) ρ μ τ σ H) (h : ρ[j]? = some (some (.raw (.ref dk)))) (he : Ev (Bd K dk l k G0 H0) te ρ μ (fun d => ∃ z, d = .int z)) (q : ∀ H', At (Bd K dk l k G0 H0) ρ μ τ σ H' → D0.nx σ H') : sDPut (tVar j) (tC (.str "draws")) te D0 σ H := he.go a fun v H1 d hd a1 => by
  obtain ⟨z, rfl⟩ := hd
  obtain ⟨G, g, hv⟩ := a1.top
  obtain ⟨ns, m, n, h1, h2, h3⟩ := (g.inv : DkI dk l k H1)
  refine ⟨_, deck_at ⟨G, g⟩ h, dk, _, rfl, DPut.k (k := kD) h1 (by show 3 < sizeLine; decide), q _ ⟨G, Bd.write g (by simp) ⟨ns, m, z, ?_, ?_, h3⟩⟩⟩
  · rw [upd_same, show v = V.int z from hv, dkv_put]
  · have hne : l ≠ dk := fun e => by rw [e, h1] at h2; cases h2
    rw [upd_ne hne]; exact h2
theorem pyA_ints : ∀ ns : List Int, pyA (ns.map D.int) = ns.map PyData.int
  | [] => rfl
  | n :: ns => by rw [List.map_cons, List.map_cons, ← pyA_ints ns]; rfl
theorem plainA_ints : ∀ ns : List Int, plainA (ns.map D.int) = true
  | [] => rfl
  | n :: ns => by simp [plainA, plain, plainA_ints ns]
theorem depA_ints : ∀ ns : List Int, depA (ns.map D.int) = 0
  | [] => rfl
  | n :: ns => by simp [depA, dep, depA_ints ns]
theorem x_ifLeft (a : At (Bd K dk l k G0 H0) ρ μ τ σ H) (h : ρ[j]? = some (some (.raw (.ref dk)))) (q1 : ∀ H', At (Bd K dk l k G0 H0) ρ μ τ σ H' → (∃ ns : List Int, H' l = some (.lst (ns.map V.int)) ∧ ns ≠ []) → t1 D0 σ H')
    (q2 : ∀ H', At (Bd K dk l k G0 H0) ρ μ τ σ H' → t2 D0 σ H') : tIfS (tTest (tOp (rNeD K) (tDGet (tVar j) (tC (.str "left"))) (tLst tNil))) t1 t2 D0 σ H := by
  refine left_at a h ⟨Nat.zero_le _, fun p hp => ?_⟩
  have a1 := (At.new (o := .lst []) (dn := .lst []) a hp fun G _ e => ⟨p, [], rfl, e, rfl⟩)
  obtain ⟨G1, g1⟩ := a1.pop
  obtain ⟨ns, m, n, h1, h2, h3⟩ := (g1.inv : DkI dk l k _)
  refine ⟨.list (ns.map PyData.int), .list [], ?_, .lst (.inl (.inl upd_same)) .nil, ?_, by decide, _, rfl, ?_⟩
  · have := DtA.dp (Same.refl _) (ns.map D.int) (plainA_ints ns) (DtA.of_ints (K := K) (G := upd H p (.lst [])) ns)
    rw [pyA_ints] at this
    exact .lst (.inl (.inl h2)) this
  · have e := shaped_py (d := .lst (ns.map D.int)) (by simpa [plain] using plainA_ints ns) (by show depA (ns.map D.int) + 1 ≤ 64; rw [depA_ints]; decide)
    have e2 : py (.lst (ns.map D.int)) = .list (ns.map PyData.int) := by show PyData.list (pyA (ns.map D.int)) = _; rw [pyA_ints]
    rw [e2] at e
    exact e
  · cases ns with
    | nil => exact q2 _ a1.pop
    | cons x r => exact q1 _ a1.pop ⟨x :: r, h2, by simp⟩
theorem map_int_inj : ∀ {xs ys : List Int}, xs.map V.int = ys.map V.int → xs = ys
  | [], [], _ => rfl
  | [], y :: ys, h => by simp at h
  | x :: xs, [], h => by simp at h
  | x :: xs, y :: ys, h => by
    rw [List.map_cons, List.map_cons] at h
    injection h with h1 h2
    rw [V.int.inj h1, map_int_inj h2]
theorem x_popLeft (a : At (Bd K dk l (k + 1) G0 H0) ρ μ τ σ H) (h : ρ[j]? = some (some (.raw (.ref dk)))) (hne : ∃ ns : List Int, H l = some (.lst (ns.map V.int)) ∧ ns ≠ [])
    (q : ∀ c σ' H', At (Bd K dk l k G0 H0) (ρ.set i (some (.int c))) μ τ σ' H' → D0.nx σ' H') : tAsg (tBM0 K "list" rPop (tDGet (tVar j) (tC (.str "left")))) (gName i) D0 σ H := by
  refine left_at a h ?_
  obtain ⟨G, g⟩ := a
  obtain ⟨ns', m, n, h1, h2', h3⟩ := (g.inv : DkI dk l (k + 1) H)
  obtain ⟨ns, h2, hn⟩ := hne
  have en : ns' = ns := by
    rw [h2'] at h2
    have := HO.lst.inj (Option.some.inj h2)
    exact map_int_inj this
  subst en
  have hlen : 0 < ns'.length := List.length_pos_iff.mpr hn
  have hl2 : ns'.length - 1 < ns'.length := by omega
  refine ⟨.inl ⟨rfl, _, .inl (.inl h2)⟩, l, ns'.map V.int, .int (ns'[ns'.length - 1]), rfl, rfl, h2, ?_, ?_⟩
  · rw [List.length_map, List.getElem?_map, List.getElem?_eq_getElem hl2]; rfl
  · have hne2 : dk ≠ l := fun e => by rw [e, h2] at h1; cases h1
    refine q (ns'[ns'.length - 1]) _ _ (At.set i ⟨G, AtG.push (Bd.write g (by simp) ⟨ns'.dropLast, m, n, ?_, ?_, ?_⟩) rfl⟩)
    · rw [upd_ne hne2]; exact h1
    · rw [upd_same, List.map_dropLast]
    · rw [List.length_dropLast]; omega
theorem x_appLeft (a : At (Bd K dk l k G0 H0) ρ μ τ σ H) (h : ρ[j]? = some (some (.raw (.ref dk)))) (he : Ev (Bd K dk l k G0 H0) te ρ μ (fun d => ∃ z, d = .int z)) (hk : k < 100000)
    (q : ∀ H', At (Bd K dk l (k + 1) G0 H0) ρ μ τ σ H' → D0.nx σ H') : tDrop (tBM K "list" rAppend (tDGet (tVar j) (tC (.str "left"))) (tCons te tNil)) D0 σ H := by
  refine left_at a h ?_
  obtain ⟨G, g⟩ := id a
  obtain ⟨ns, m, n, h1, h2, h3⟩ := (g.inv : DkI dk l k H)
  refine ⟨.inl ⟨rfl, _, .inl (.inl h2)⟩, he.go a fun v H1 d hd a1 => ?_⟩
  obtain ⟨z, rfl⟩ := hd
  obtain ⟨G1, g1, hv⟩ := a1.top
  obtain ⟨ns1, m1, n1, e1, e2, e3⟩ := (g1.inv : DkI dk l k H1)
  have hne2 : dk ≠ l := fun e => by rw [e, e2] at e1; cases e1
  refine ⟨l, ns1.map V.int, v, rfl, rfl, e2, by rw [List.length_map]; exact Nat.lt_of_le_of_lt e3 (Nat.lt_trans hk (by decide)), q _ ⟨G1, Bd.write g1 (by simp) ⟨ns1 ++ [z], m1, n1, ?_, ?_, ?_⟩⟩⟩
  · rw [upd_ne hne2]; exact e1
  · rw [upd_same, List.map_append, show v = V.int z from hv]; rfl
  · rw [List.length_append]; show ns1.length + 1 ≤ k + 1; omega
/-- what a def with the deck promises -/
def dsp (K : PySem.W.Frag) (pre : List D → Prop) (post : List D → D → Prop) : Sp := fun vs H Q E => ∃ dk l, fsp K (DkI dk l 64) [dk, l] (fun ds => ∃ es, ds = .raw (.ref dk) :: es ∧ pre es) (fun ds e => ∃ es, ds = .raw (.ref dk) :: es ∧ post es e) vs H Q E
theorem ev_d {pre : List D → Prop} {post : List D → D → Prop} {t : TA} {E : XK} {Ps : List D → Prop} (h : Ea (Bd K dk l 64 G0 H0) t ρ μ (fun ds => ∃ es, ds = .raw (.ref dk) :: es ∧ Ps es)) (hpre : ∀ es, Ps es → pre es) (hpost : ∀ es e, Ps es → post es e → P e) : Ev (Bd K dk l 64 G0 H0) (tCall (dsp K pre post) [] E t) ρ μ P :=
  ev_callS (B := Bd K dk l 64 G0 H0) (I' := DkI dk l 64) (M' := [dk, l]) h (fun vs H Q z => ⟨dk, l, z⟩) (fun ds ⟨es, e1, e2⟩ => ⟨es, e1, hpre es e2⟩) (fun ds d ⟨es, e1, e2⟩ ⟨es', e3, e4⟩ => by
    rw [e1] at e3
    cases e3
    exact hpost es d e2 e4) (fun _ h => h) (fun _ h => h) fun _ _ _ i _ _ => i
theorem ea_deck {tr : TA} {Ps : List D → Prop} {B : Bs} (h : ρ[j]? = some (some (.raw (.ref dk)))) (hr : Ea B tr ρ μ Ps) : Ea B (tCons (tVar j) tr) ρ μ (fun ds => ∃ es, ds = .raw (.ref dk) :: es ∧ Ps es) := ea_cons (ed_var h) fun d hd => by
  subst hd
  exact fun τ σ H a Q q => hr τ σ H a Q fun vs H' es z => q vs H' es ⟨es, rfl, z⟩
theorem ed_d {pre : List D → Prop} {post : List D → D → Prop} {t : TA} {E : XK} {es : List D} (h : ρ[j]? = some (some (.raw (.ref dk)))) (ht : Ea (Bd K dk l 64 G0 H0) t ρ μ (fun l => l = es)) (hpre : pre es) (hpost : ∀ e, post es e → P e) : Ev (Bd K dk l 64 G0 H0) (tCall (dsp K pre post) [] E (tCons (tVar j) t)) ρ μ P :=
  ev_d (ea_deck h ht) (fun l e => by rw [e]; exact hpre) fun l e he z => hpost e (by rw [← he]; exact z)
theorem dsp_start {pre : List D → Prop} {post : List D → D → Prop} {vs : List V} {H : Hp} {Q : VK} {E : XK} (N : List Str) (h : dsp K pre post vs H Q E) :
    ∃ (dk l : Addr) (G : Hp) (es : List D), pre es ∧ vs.length = es.length + 1 ∧ At (Bd K dk l 64 G H) (some (.raw (.ref dk)) :: es.map some ++ List.replicate (N.length - (es.length + 1)) none) [] [] (start N vs) H ∧
      ∀ {ρ μ τ σ v H' d}, post es d → At (Bd K dk l 64 G H) ρ μ ((v, d) :: τ) σ H' → Q v H' := by
  obtain ⟨dk, l, h⟩ := h
  obtain ⟨G, ds, ⟨es, rfl, hp⟩, hl, a, q⟩ := fsp_start dkLoc N h
  exact ⟨dk, l, G, es, hp, hl, a, fun hd a => q ⟨es, rfl, hd⟩ a⟩
end
end Cal


namespace Cal
open PySem PySem.Spec PyProof.Rows L2
/-! ### a statement with a block behind it -/
section
variable {B : Bs} {ρ ρ' : Ro} {μ μ' : Mu} {τ : List (V × D)} {σ σ2 : L2.St} {H : Hp} {ta tb tc te tx : TE} {tt tu : TT} {P : D → Prop} {d : D} {R : D → Mu → Prop} {R2' : D → Mu → D → Mu → Prop} {b : Bool} {p l : Addr} {ds es : List D} {D0 : Ends} {ts t1 t2 tz : TS} {g : TG} {k : Nat}
theorem y_asg (a : At B ρ μ τ σ H) (he : Xv B te ρ μ R) (q : ∀ d μ' σ' H', R d μ' → At B (ρ.set k (some d)) μ' τ σ' H' → tz D0 σ' H') : tSeq (tAsg te (gName k)) tz D0 σ H := x_asg (D0 := { D0 with nx := tz D0 }) a he q
theorem y_set (a : At B ρ μ τ σ H) (he : Ed B te ρ μ d) (q : ∀ σ' H', At B (ρ.set k (some d)) μ τ σ' H' → tz D0 σ' H') : tSeq (tAsg te (gName k)) tz D0 σ H := x_set (D0 := { D0 with nx := tz D0 }) a he q
theorem y_setV (a : At B ρ μ τ σ H) (he : Ev B te ρ μ P) (q : ∀ d σ' H', P d → At B (ρ.set k (some d)) μ τ σ' H' → tz D0 σ' H') : tSeq (tAsg te (gName k)) tz D0 σ H := x_setV (D0 := { D0 with nx := tz D0 }) a he q
theorem y_if {Pb : Bool → Prop} (a : At B ρ μ τ σ H) (h : Et B tt ρ μ Pb) (q1 : Pb true → ∀ H', At B ρ μ τ σ H' → t1 { D0 with nx := tz D0 } σ H') (q2 : Pb false → ∀ H', At B ρ μ τ σ H' → tz D0 σ H') : tSeq (tIfS tt t1 tNext) tz D0 σ H := x_if (D0 := { D0 with nx := tz D0 }) a h q1 q2
theorem y_ifb (a : At B ρ μ τ σ H) (h : Eb B tt ρ μ b) (q1 : b = true → ∀ H', At B ρ μ τ σ H' → t1 { D0 with nx := tz D0 } σ H') (q2 : b = false → ∀ H', At B ρ μ τ σ H' → tz D0 σ H') : tSeq (tIfS tt t1 tNext) tz D0 σ H := x_ifb (D0 := { D0 with nx := tz D0 }) a h q1 q2
theorem y_drop (a : At B ρ μ τ σ H) (he : Xv B te ρ μ R) (q : ∀ d μ' H', R d μ' → At B ρ μ' τ σ H' → tz D0 σ H') : tSeq (tDrop te) tz D0 σ H := x_drop (D0 := { D0 with nx := tz D0 }) a he q
theorem y_par {k l : Nat} {t : TA} {Ps : D → D → Prop} (a : At B ρ μ τ σ H) (he : Ea B t ρ μ fun ds => ∃ d1 d2, ds = [d1, d2] ∧ Ps d1 d2) (q : ∀ d1 d2 σ' H', Ps d1 d2 → At B ((ρ.set k (some d1)).set l (some d2)) μ τ σ' H' → tz D0 σ' H') : tSeq (tPar k l t) tz D0 σ H := x_par (D0 := { D0 with nx := tz D0 }) a he q
theorem y_par2 {k l : Nat} (a : At B ρ μ τ σ H) (h1 : Xv B ta ρ μ R) (h2 : ∀ d1 μ1, R d1 μ1 → Xv B tb ρ μ1 (R2' d1 μ1)) (q : ∀ d1 μ1 d2 μ2 σ' H', R d1 μ1 → R2' d1 μ1 d2 μ2 → At B ((ρ.set k (some d1)).set l (some d2)) μ2 τ σ' H' → tz D0 σ' H') : tSeq (tPar k l (tCons ta (tCons tb tNil))) tz D0 σ H := x_par2 (D0 := { D0 with nx := tz D0 }) a h1 h2 q
theorem y_asgG {ρ' : Ro} {js : List Nat} (a : At B ρ μ τ σ H) (he : Ed B te ρ μ d) (hg : Gd B g ρ μ d ρ' js) (q : ∀ σ' H', At B ρ' μ τ σ' H' → tz D0 σ' H') : tSeq (tAsg te g) tz D0 σ H := x_asgG (D0 := { D0 with nx := tz D0 }) a he hg q
theorem y_append (a : At B ρ μ τ σ H) (ho : ∀ τ σ H, At B ρ μ τ σ H → ∀ Q : VK, (∀ H', At B ρ μ τ σ H' → Q (.ref l) H') → ta σ H Q) (hm : μ[k]? = some (l, .lst ds)) (he : Xv B te ρ μ R) (hR : ∀ d μ', R d μ' → μ'[k]? = some (l, .lst ds)) (hz : ds.length < 100000)
    (q : ∀ d μ' H', R d μ' → At B ρ (μ'.set k (l, .lst (ds ++ [d]))) τ σ H' → tz D0 σ H') : tSeq (tDrop (tBM B.K "list" rAppend ta (tCons te tNil))) tz D0 σ H := x_append (D0 := { D0 with nx := tz D0 }) a ho hm he hR hz q
theorem y_for {wi : TI} {n : Nat} {f : Nat → D} {tb : TS} (a : At B ρ μ τ σ H) (hi : Ei B wi ρ μ n f) (Inv : Nat → Ro → Mu → Prop) (h0 : Inv 0 ρ μ)
    (hs : ∀ i ρ' μ' τ1 σ' H' v (Dn : Ends), i < n → Inv i ρ' μ' → (∀ p ∈ τ, p ∈ τ1) → At B ρ' μ' ((v, f i) :: τ1) σ' H' → (∀ ρ2 μ2 σ2 H2, Inv (i + 1) ρ2 μ2 → At B ρ2 μ2 τ1 σ2 H2 → Dn.nx σ2 H2) → (∀ ρ2 μ2 σ2 H2, Inv (i + 1) ρ2 μ2 → At B ρ2 μ2 τ1 σ2 H2 → Dn.ct σ2 H2) → Dn.bk = tz D0 → Dn.rt = D0.rt → g v σ' H' (tb Dn))
    (hd : ∀ ρ' μ' σ' H', Inv n ρ' μ' → At B ρ' μ' τ σ' H' → tz D0 σ' H') : tSeq (tFor wi g tb) tz D0 σ H := x_for (js := []) (D0 := { D0 with nx := tz D0 }) a hi Inv h0 hs hd
theorem RC.imp {r : List V → Hp → VK → Prop} {P P' : D → Prop} (h : RC B r ρ μ ds P) (k : ∀ d, P d → P' d) : RC B r ρ μ ds P' := fun τ σ H xs hl a Q q => h τ σ H xs hl a Q fun v H' d hd a' => q v H' d (k d hd) a'
theorem RD.imp {r : R2} {d1 d2 : D} {P P' : D → Prop} (h : RD B r ρ μ d1 d2 P) (k : ∀ d, P d → P' d) : RD B r ρ μ d1 d2 P' := fun τ σ H x y a Q q => h τ σ H x y a Q fun v H' d hd a' => q v H' d (k d hd) a'
theorem Ea.imp {t : TA} {P P' : List D → Prop} (h : Ea B t ρ μ P) (k : ∀ d, P d → P' d) : Ea B t ρ μ P' := fun τ σ H a Q q => h τ σ H a Q fun vs H' ds hd => q vs H' ds (k ds hd)
theorem ea1P (h : Ev B ta ρ μ P) : Ea B (tCons ta tNil) ρ μ (fun ds => ∃ d, ds = [d] ∧ P d) := ea_cons h fun d hd => ea_nil.imp fun ds e => ⟨d, by rw [e], hd⟩
theorem ea2P {d1 : D} (h1 : Ed B ta ρ μ d1) (h : Ev B tb ρ μ P) : Ea B (tCons ta (tCons tb tNil)) ρ μ (fun ds => ∃ d, ds = [d1, d] ∧ P d) := ea_cons h1 fun e he => (ea1P h).imp fun ds ⟨d, e1, e2⟩ => ⟨d, by rw [e1, he], e2⟩
theorem x_retCell {k : Nat} {p : Addr} (a : At B ρ ((p, .lst ds) :: μ) τ σ H) (h : ρ[k]? = some (some (.raw (.ref p)))) (q : At B ρ μ ((.ref p, .lst ds) :: τ) σ H → D0.rt (.ref p) H) : tRet (tVar k) D0 σ H := by
  obtain ⟨v, h1, h2⟩ := a.var h
  obtain ⟨G, g, hv⟩ := h2.top
  exact ⟨v, h1, by rw [show v = V.ref p from hv]; exact q a.freeze⟩
/-- for with a name as its target -/
theorem x_forN {wi : TI} {n : Nat} {f : Nat → D} {tb : TS} (a : At B ρ μ τ σ H) (hi : Ei B wi ρ μ n f) (Inv : Nat → Ro → Mu → Prop) (h0 : Inv 0 ρ μ)
    (hs : ∀ i ρ' μ' τ1 σ' H' (Dn : Ends), i < n → Inv i ρ' μ' → At B (ρ'.set k (some (f i))) μ' τ1 σ' H' → (∀ ρ2 μ2 σ2 H2, Inv (i + 1) ρ2 μ2 → At B ρ2 μ2 τ1 σ2 H2 → Dn.nx σ2 H2) → (∀ ρ2 μ2 σ2 H2, Inv (i + 1) ρ2 μ2 → At B ρ2 μ2 τ1 σ2 H2 → Dn.ct σ2 H2) → Dn.bk = D0.nx → Dn.rt = D0.rt → tb Dn σ' H')
    (hd : ∀ ρ' μ' σ' H', Inv n ρ' μ' → At B ρ' μ' τ σ' H' → D0.nx σ' H') : tFor wi (gName k) tb D0 σ H := x_for (js := []) a hi Inv h0 (fun i ρ' μ' τ1 σ' H' v Dn hi hI hsub a1 h1 h2 h3 h4 => hs i ρ' μ' τ1 _ H' Dn hi hI (a1.set k) h1 h2 h3 h4) hd
theorem y_forN {wi : TI} {n : Nat} {f : Nat → D} {tb : TS} (a : At B ρ μ τ σ H) (hi : Ei B wi ρ μ n f) (Inv : Nat → Ro → Mu → Prop) (h0 : Inv 0 ρ μ)
    (hs : ∀ i ρ' μ' τ1 σ' H' (Dn : Ends), i < n → Inv i ρ' μ' → At B (ρ'.set k (some (f i))) μ' τ1 σ' H' → (∀ ρ2 μ2 σ2 H2, Inv (i + 1) ρ2 μ2 → At B ρ2 μ2 τ1 σ2 H2 → Dn.nx σ2 H2) → (∀ ρ2 μ2 σ2 H2, Inv (i + 1) ρ2 μ2 → At B ρ2 μ2 τ1 σ2 H2 → Dn.ct σ2 H2) → Dn.bk = tz D0 → Dn.rt = D0.rt → tb Dn σ' H')
    (hd : ∀ ρ' μ' σ' H', Inv n ρ' μ' → At B ρ' μ' τ σ' H' → tz D0 σ' H') : tSeq (tFor wi (gName k) tb) tz D0 σ H := x_forN (D0 := { D0 with nx := tz D0 }) a hi Inv h0 hs hd
/-- for over range(e), e any -/
theorem y_forRP {te : TE} {tb : TS} {Pi : Int → Prop} (a : At B ρ μ τ σ H) (he : Ev B te ρ μ fun d => ∃ i : Int, d = .int i ∧ Pi i) (hb : ∀ i, Pi i → -(2 ^ 62) ≤ i ∧ i < 2 ^ 62) (Inv : Int → Nat → Ro → Mu → Prop) (h0 : ∀ m, Pi m → Inv m 0 ρ μ)
    (hs : ∀ (m : Int) i ρ' μ' τ1 σ' H' (Dn : Ends), Pi m → i < m.toNat → Inv m i ρ' μ' → At B (ρ'.set k (some (.int i))) μ' τ1 σ' H' → (∀ ρ2 μ2 σ2 H2, Inv m (i + 1) ρ2 μ2 → At B ρ2 μ2 τ1 σ2 H2 → Dn.nx σ2 H2) → (∀ ρ2 μ2 σ2 H2, Inv m (i + 1) ρ2 μ2 → At B ρ2 μ2 τ1 σ2 H2 → Dn.ct σ2 H2) → Dn.bk = tz D0 → Dn.rt = D0.rt → tb Dn σ' H')
    (hd : ∀ (m : Int) ρ' μ' σ' H', Pi m → Inv m m.toNat ρ' μ' → At B ρ' μ' τ σ' H' → tz D0 σ' H') : tSeq (tFor (iRng1 (tCons te tNil)) (gName k) tb) tz D0 σ H := by
  refine he.go a fun v H1 d hd' a1 => ?_
  obtain ⟨m, rfl, hm⟩ := hd'
  obtain ⟨G, g, hv⟩ := a1.top
  have hv' : v = V.int m := hv
  subst hv'
  exact y_forN (wi := iRng1 (tCons (tC (.int m)) tNil)) (tz := tz) (D0 := D0) ⟨G, g⟩ (ei_rng1 (ead_cons ed_int ea_nil) (hb m hm)) (Inv m) (h0 m hm) (fun i ρ' μ' τ1 σ' H' Dn hi hI a1 h1 h2 h3 h4 => hs m i ρ' μ' τ1 σ' H' Dn hm hi hI a1 h1 h2 h3 h4) fun ρ' μ' σ' H' hI a2 => hd m ρ' μ' σ' H' hm hI a2
theorem y_cut {M : L2.St → Hp → Prop} (h : t1 { D0 with nx := M } σ H) (q : ∀ σ' H', M σ' H' → tz D0 σ' H') : C8.tCut t1 tz D0 σ H := ⟨M, h, q⟩
theorem y_putDraws {K : PySem.W.Frag} {dk l : Addr} {k j : Nat} {G0 H0 : Hp} (a : At (Bd K dk l k G0 H0) ρ μ τ σ H) (h : ρ[j]? = some (some (.raw (.ref dk)))) (he : Ev (Bd K dk l k G0 H0) te ρ μ (fun d => ∃ z, d = .int z)) (q : ∀ H', At (Bd K dk l k G0 H0) ρ μ τ σ H' → tz D0 σ H') : tSeq (sDPut (tVar j) (tC (.str "draws")) te) tz D0 σ H := x_putDraws (D0 := { D0 with nx := tz D0 }) a h he q
theorem y_popLeft {K : PySem.W.Frag} {dk l : Addr} {k i j : Nat} {G0 H0 : Hp} (a : At (Bd K dk l (k + 1) G0 H0) ρ μ τ σ H) (h : ρ[j]? = some (some (.raw (.ref dk)))) (hne : ∃ ns : List Int, H l = some (.lst (ns.map V.int)) ∧ ns ≠ [])
    (q : ∀ c σ' H', At (Bd K dk l k G0 H0) (ρ.set i (some (.int c))) μ τ σ' H' → tz D0 σ' H') : tSeq (tAsg (tBM0 K "list" rPop (tDGet (tVar j) (tC (.str "left")))) (gName i)) tz D0 σ H := x_popLeft (D0 := { D0 with nx := tz D0 }) a h hne q
theorem y_appLeft {K : PySem.W.Frag} {dk l : Addr} {k j : Nat} {G0 H0 : Hp} (a : At (Bd K dk l k G0 H0) ρ μ τ σ H) (h : ρ[j]? = some (some (.raw (.ref dk)))) (he : Ev (Bd K dk l k G0 H0) te ρ μ (fun d => ∃ z, d = .int z)) (hk : k < 100000)
    (q : ∀ H', At (Bd K dk l (k + 1) G0 H0) ρ μ τ σ H' → tz D0 σ H') : tSeq (tDrop (tBM K "list" rAppend (tDGet (tVar j) (tC (.str "left"))) (tCons te tNil))) tz D0 σ H := x_appLeft (D0 := { D0 with nx := tz D0 }) a h he hk q
end
end Cal


namespace Cal
open PySem PySem.Spec PyProof.Rows L2
/-! ### a list of lists that change -/
section
variable {B : Bs} {ρ ρ' : Ro} {μ μ' : Mu} {τ : List (V × D)} {σ σ2 : L2.St} {H : Hp} {ta tb tc te tx : TE} {tt tu : TT} {P : D → Prop} {d : D} {R : D → Mu → Prop} {b : Bool} {p l : Addr} {ds es : List D} {D0 : Ends} {ts t1 t2 tz : TS} {g : TG} {k : Nat} {v : V}
theorem At.perm (a : At B ρ μ τ σ H) (h : μ'.Perm μ) : At B ρ μ' τ σ H := by
  obtain ⟨G, g⟩ := a
  exact ⟨G, { g with cells := fun q hq => g.cells q (h.mem_iff.mp hq), nd := (h.map _).nodup_iff.mpr g.nd }⟩
def rr (l : Addr) : D := .raw (.ref l)
def rowsMu (ls : List Addr) (rows : List (List D)) : Mu := List.zipWith (fun l r => (l, Cl.lst r)) ls rows
/-- for over the items of a tuple that some call hands back -/
def EiAt (B : Bs) (wi : TI) (ρ : Ro) (μ : Mu) (n : Nat) (f : Nat → D) (τ : List (V × D)) (σ : L2.St) (H : Hp) : Prop := ∀ Rr : It → Hp → Prop,
  (∀ J H1 τ1, (∀ p ∈ τ, p ∈ τ1) → At B ρ μ τ1 σ H1 → (∀ i ρ' μ' τ' σ' H', (∀ p ∈ τ1, p ∈ τ') → At B ρ' μ' τ' σ' H' → (n ≤ i → J.stop i H') ∧ (i < n → J.go i H' ∧ ∀ x H2, J.yld i H' x H2 → At B ρ' μ' ((x, f i) :: τ') σ' H2)) → Rr J H1) → wi σ H Rr
theorem x_forAt {wi : TI} {n : Nat} {f : Nat → D} {tb : TS} (hi : EiAt B wi ρ μ n f τ σ H) (Inv : Nat → Ro → Mu → Prop) (h0 : Inv 0 ρ μ)
    (hs : ∀ i ρ' μ' τ1 σ' H' (Dn : Ends), i < n → Inv i ρ' μ' → (∀ p ∈ τ, p ∈ τ1) → At B (ρ'.set k (some (f i))) μ' τ1 σ' H' → (∀ ρ2 μ2 σ2 H2, Inv (i + 1) ρ2 μ2 → At B ρ2 μ2 τ1 σ2 H2 → Dn.nx σ2 H2) → (∀ ρ2 μ2 σ2 H2, Inv (i + 1) ρ2 μ2 → At B ρ2 μ2 τ1 σ2 H2 → Dn.ct σ2 H2) → Dn.bk = D0.nx → Dn.rt = D0.rt → tb Dn σ' H')
    (hd : ∀ ρ' μ' σ' H', Inv n ρ' μ' → At B ρ' μ' τ σ' H' → D0.nx σ' H') : tFor wi (gName k) tb D0 σ H := hi _ fun J H1 τ1 hsub a1 hJ => by
  refine ⟨fun i m σ H => m = n - i ∧ i ≤ n ∧ ∃ ρ' μ', Inv i ρ' μ' ∧ At B ρ' μ' τ1 σ H, ⟨n, by omega, by omega, ρ, μ, h0, a1⟩, fun i m σ2 H2 hW => ?_⟩
  obtain ⟨rfl, hin, ρ', μ', hI, a2⟩ := hW
  obtain ⟨s1, s2⟩ := hJ i ρ' μ' τ1 σ2 H2 (fun _ z => z) a2
  by_cases hlt : i < n
  · obtain ⟨s3, s4⟩ := s2 hlt
    refine .inr ⟨s3, fun σ3 H3 => ∃ ρ' μ', Inv (i + 1) ρ' μ' ∧ At B ρ' μ' τ1 σ3 H3, fun σ3 H3 ⟨ρ3, μ3, i3, a3⟩ => ⟨n - (i + 1), by omega, rfl, hlt, ρ3, μ3, i3, a3⟩, fun x H3 hy => ?_⟩
    exact hs i ρ' μ' τ1 _ H3 { D0 with nx := fun σ3 H3 => ∃ ρ' μ', Inv (i + 1) ρ' μ' ∧ At B ρ' μ' τ1 σ3 H3, ct := fun σ3 H3 => ∃ ρ' μ', Inv (i + 1) ρ' μ' ∧ At B ρ' μ' τ1 σ3 H3, bk := D0.nx } hlt hI hsub ((s4 x H3 hy).set k) (fun ρ2 μ2 σ2 H2 i2 a2 => ⟨ρ2, μ2, i2, a2⟩) (fun ρ2 μ2 σ2 H2 i2 a2 => ⟨ρ2, μ2, i2, a2⟩) rfl rfl
  · have e : i = n := by omega
    subst e
    exact .inl ⟨s1 (Nat.le_refl _), hd ρ' μ' σ2 H2 hI (a2.sub hsub)⟩
theorem eiAt_tup (a1 : At B ρ μ ((v, .tup ds) :: τ) σ H) : EiAt B (iTup B.K (fun σ H Q => Q v H)) ρ μ ds.length (fun i => ds.getD i .non) τ σ H := fun Rr q => by
  obtain ⟨G, g, p, vs, rfl, e, k⟩ := id a1.top
  refine ⟨p, rfl, ⟨vs, .inl (.inl (g.sub _ _ e))⟩, q _ H _ (fun z hz => List.mem_cons_of_mem _ hz) a1 fun i ρ' μ' τ' σ' H' hsub a2 => ?_⟩
  obtain ⟨G2, g2⟩ := a2
  obtain ⟨p', vs', e', e2, k2⟩ := g2.temps _ (hsub _ (List.mem_cons_self ..))
  cases e'
  have e3 : SqT B.K H' p vs' := .inl (.inl (g2.sub _ _ e2))
  refine ⟨fun hi => ⟨vs', e3, by rw [k2.length]; exact hi⟩, fun hi => ?_⟩
  obtain ⟨x, hx, dx⟩ := k2.get (getD_of hi)
  refine ⟨⟨vs', x, e3, hx⟩, fun y H2 hy => ?_⟩
  obtain ⟨rfl, hy⟩ := hy
  have ey : x = y := Option.some.inj (hx.symm.trans (hy vs' e3))
  subst ey
  exact ⟨G2, g2.push dx⟩
theorem x_forTP {tb : TS} {Pd : List D → Prop} (a : At B ρ μ τ σ H) (he : Ev B te ρ μ fun d => ∃ ds, d = .tup ds ∧ Pd ds) (Inv : List D → Nat → Ro → Mu → Prop) (h0 : ∀ ds, Pd ds → Inv ds 0 ρ μ)
    (hs : ∀ (ds : List D) i ρ' μ' τ1 σ' H' (Dn : Ends), Pd ds → i < ds.length → Inv ds i ρ' μ' → (∀ p ∈ τ, p ∈ τ1) → At B (ρ'.set k (some (ds.getD i .non))) μ' τ1 σ' H' → (∀ ρ2 μ2 σ2 H2, Inv ds (i + 1) ρ2 μ2 → At B ρ2 μ2 τ1 σ2 H2 → Dn.nx σ2 H2) → (∀ ρ2 μ2 σ2 H2, Inv ds (i + 1) ρ2 μ2 → At B ρ2 μ2 τ1 σ2 H2 → Dn.ct σ2 H2) → Dn.bk = D0.nx → Dn.rt = D0.rt → tb Dn σ' H')
    (hd : ∀ (ds : List D) ρ' μ' σ' H', Pd ds → Inv ds ds.length ρ' μ' → At B ρ' μ' τ σ' H' → D0.nx σ' H') : tFor (iTup B.K te) (gName k) tb D0 σ H := by
  refine he.go a fun v H1 d hd' a1 => ?_
  obtain ⟨ds, rfl, hds⟩ := hd'
  exact x_forAt (D0 := D0) (eiAt_tup a1) (Inv ds) (h0 ds hds) (fun i ρ' μ' τ1 σ' H' Dn hi hI hsub a1 h1 h2 h3 h4 => hs ds i ρ' μ' τ1 σ' H' Dn hds hi hI hsub a1 h1 h2 h3 h4) fun ρ' μ' σ' H' hI a2 => hd ds ρ' μ' σ' H' hds hI a2
theorem tYes_if {A C : Hp → Prop} (h : A H) : tYes σ H fun b H3 => if b = true then A H3 else C H3 := by
  show (if true = true then A H else C H)
  rw [if_pos rfl]
  exact h
/-- [[] for .. in range(n)]: so many new lists -/
theorem xl_rows {t : TA} {vs : List Nat} {n : Int} (h : Ea B t ρ μ (fun es => es = [.int n])) (hn : 0 ≤ n ∧ n ≤ 1000) (hk : k ∈ vs) :
    Xv B (tLc (iRng1 t) (gName k) tYes (tLst tNil) vs) ρ μ fun d μ' => ∃ p ls, ls.length = n.toNat ∧ d = rr p ∧ μ' = (p, .lst (ls.map rr)) :: (rowsMu ls (ls.map fun _ => []) ++ μ) := fun τ σ H a Q q => (ei_rng1 h ⟨by omega, by omega⟩) (sv ρ σ ++ τ) σ H a.save _ fun J H1 τ1 hsub a1 hJ Dl hD => by
  have hf := a.fits
  refine ⟨fun i m H => m = n.toNat - i ∧ i ≤ n.toNat ∧ ∃ ls : List Addr, ls.length = i ∧ At B ρ ((Dl, .lst (ls.map rr)) :: (rowsMu ls (ls.map fun _ => []) ++ μ)) τ1 σ H, ⟨n.toNat, by omega, Nat.zero_le _, [], rfl, (At.newCell (c := .lst []) (o := .lst []) a1 hD fun G _ => ⟨[], upd_same, rfl⟩).1⟩, fun i m H2 hW => ?_⟩
  obtain ⟨rfl, hin, ls, hls, a2⟩ := hW
  obtain ⟨s1, s2⟩ := hJ i ρ _ τ1 σ H2 (fun _ z => z) a2
  by_cases hlt : i < n.toNat
  · obtain ⟨s3, s4⟩ := s2 hlt
    refine .inr ⟨s3, fun H => ∃ ls : List Addr, ls.length = i + 1 ∧ At B ρ ((Dl, .lst (ls.map rr)) :: (rowsMu ls (ls.map fun _ => []) ++ μ)) τ1 σ H, fun H' ⟨ls, h1, h2⟩ => ⟨n.toNat - (i + 1), by omega, rfl, hlt, ls, h1, h2⟩, fun x H3 hy => ?_⟩
    refine gd_name k τ1 (wipe σ vs) H3 x (At.wiped (s4 x H3 hy) vs) _ fun σ' a3 hl3 hk3 => ⟨wipe_ext (js := [k]) (fun z hz => by rw [List.mem_singleton.mp hz]; exact hk) hl3 hk3, ?_⟩
    refine tYes_if ?_
    refine ⟨Nat.zero_le _, fun p hp => ?_⟩
    obtain ⟨a4, hnew⟩ := At.newCell (c := .lst []) (o := .lst []) a3 hp fun G _ => ⟨[], upd_same, rfl⟩
    obtain ⟨G, g5, us, e5, k5⟩ := a4.cell (j := 1) rfl
    refine ⟨us, e5, by rw [k5.length, List.length_map, hls]; exact Nat.lt_of_lt_of_le hlt (Nat.le_trans (by omega : n.toNat ≤ 1000) (by decide)), ls ++ [p], by rw [List.length_append, hls]; rfl, ?_⟩
    have a6 := At.write (j := 1) (c' := .lst (ls.map rr ++ [rr p])) (o := .lst (us ++ [.ref p])) a4 rfl fun G k1 ⟨vs6, e6, k6⟩ => by
      rw [e5] at e6
      cases e6
      exact ⟨_, upd_same, k6.append ⟨.ref p, [], rfl, rfl, rfl⟩⟩
    refine At.restore hf (At.perm a6 ?_) fun q hq => hsub q (List.mem_append_left _ hq)
    have e7 : rowsMu (ls ++ [p]) ((ls ++ [p]).map fun _ => []) = rowsMu ls (ls.map fun _ => []) ++ [(p, .lst [])] := by
      unfold rowsMu
      rw [List.map_append, List.zipWith_append (by rw [List.length_map])]
      rfl
    rw [e7, List.map_append]
    show List.Perm ((Dl, Cl.lst (ls.map rr ++ [rr p])) :: (rowsMu ls (ls.map fun _ => []) ++ [(p, Cl.lst [])] ++ μ)) ((p, Cl.lst []) :: (Dl, Cl.lst (ls.map rr ++ [rr p])) :: (rowsMu ls (ls.map fun _ => []) ++ μ))
    refine (List.Perm.cons _ ?_).trans (List.Perm.swap _ _ _)
    rw [List.append_assoc]
    exact List.perm_middle
  · have e : i = n.toNat := by omega
    subst e
    refine .inl ⟨s1 (Nat.le_refl _), ?_⟩
    exact q _ H2 _ _ ⟨Dl, ls, hls, rfl, rfl⟩ (At.flat (a2.sub fun z hz => hsub z (List.mem_append_right _ hz)) fun _ => rfl)
/-- a name that is a cell, by what an expression says -/
theorem ho_of {te : TE} (h : Ed B te ρ μ (rr l)) : ∀ τ σ H, At B ρ μ τ σ H → ∀ Q : VK, (∀ H', At B ρ μ τ σ H' → Q (.ref l) H') → te σ H Q := fun τ σ H a Q q => h.go a fun v H' d hd a1 => by
  subst hd
  obtain ⟨G, g, hv⟩ := a1.top
  rw [show v = V.ref l from hv]
  exact q H' ⟨G, g⟩
theorem rowsMu_get {ls : List Addr} {rows : List (List D)} {i : Nat} {r : List D} (h1 : ls[i]? = some l) (h2 : rows[i]? = some r) : (rowsMu ls rows)[i]? = some (l, .lst r) := by
  unfold rowsMu
  rw [List.getElem?_zipWith, h1, h2]
theorem rowsMu_set {ls : List Addr} {rows : List (List D)} {i : Nat} {r : List D} (h1 : ls[i]? = some l) : (rowsMu ls rows).set i (l, .lst r) = rowsMu ls (rows.set i r) := by
  unfold rowsMu
  refine List.ext_getElem? fun j => ?_
  by_cases hj : i = j
  · subst hj
    rw [List.getElem?_zipWith, h1]
    by_cases hl : i < rows.length
    · rw [List.getElem?_set_self hl, List.getElem?_set_self]
      rw [List.length_zipWith]
      have := (List.getElem?_eq_some_iff.mp h1).1
      omega
    · rw [List.getElem?_eq_none (by rw [List.length_set, List.length_zipWith]; omega), List.getElem?_eq_none (l := rows.set i r) (by rw [List.length_set]; omega)]
  · rw [List.getElem?_set_ne hj, List.getElem?_zipWith, List.getElem?_zipWith, List.getElem?_set_ne hj]
/-- all rows and the list of them change no more -/
theorem freeze_rows : ∀ (ls : List Addr) (rows : List (List D)) {μ : Mu} {τ : List (V × D)}, ls.length = rows.length → At B ρ (rowsMu ls rows ++ μ) τ σ H → At B ρ μ ((List.zipWith (fun l r => (V.ref l, D.lst r)) ls rows).reverse ++ τ) σ H
  | [], [], μ, τ, _, a => a
  | [], r :: rows, μ, τ, h, _ => by simp at h
  | l :: ls, [], μ, τ, h, _ => by simp at h
  | l :: ls, r :: rows, μ, τ, h, a => by
    have a1 : At B ρ ((l, .lst r) :: (rowsMu ls rows ++ μ)) τ σ H := a
    have a2 := freeze_rows ls rows (by simpa using h) a1.freeze
    rw [List.zipWith_cons_cons, List.reverse_cons, List.append_assoc]
    exact a2
theorem freezeAll {ls : List Addr} {rows : List (List D)} (h : ls.length = rows.length) (a : At B ρ ((p, .lst (ls.map rr)) :: (rowsMu ls rows ++ μ)) τ σ H) : At B ρ μ ((.ref p, .lst (rows.map .lst)) :: τ) σ H := by
  have a1 := freeze_rows ls rows h (μ := (p, .lst (ls.map rr)) :: μ) (At.perm a List.perm_middle)
  have a2 := a1.freeze
  obtain ⟨G, g, p', vs, e1, e2, k2⟩ := id a2.top
  cases e1
  refine ⟨G, AtG.push { g with temps := fun q hq => g.temps q (List.mem_append_right _ hq) } ⟨p, vs, rfl, e2, ?_⟩⟩
  have hd : ∀ (ls : List Addr) (rows : List (List D)) (vs : List V), ls.length = rows.length → (∀ q ∈ List.zipWith (fun l r => (V.ref l, D.lst r)) ls rows, Dt B.K G q.2 q.1) → DtA B.K G (ls.map rr) vs → DtA B.K G (rows.map .lst) vs := by
    intro ls
    induction ls with
    | nil => intro rows vs h _ k; cases rows with
      | nil => exact k
      | cons r rows => simp at h
    | cons l ls ih => intro rows vs h k1 k; cases rows with
      | nil => simp at h
      | cons r rows =>
        obtain ⟨v, rest, rfl, hv, hr⟩ := k
        have hv' : v = V.ref l := hv
        subst hv'
        exact ⟨_, rest, rfl, k1 (V.ref l, D.lst r) (List.mem_cons_self ..), ih rows rest (by simpa using h) (fun q hq => k1 q (List.mem_cons_of_mem _ hq)) hr⟩
  exact hd ls rows vs h (fun q hq => g.temps q (List.mem_append_left _ (List.mem_reverse.mpr hq))) k2
/-- a slot told anew: what it holds is data now -/
theorem At.reslot {d : D} (a : At B ρ μ ((v, d) :: τ) σ H) (h : ρ[k]? = some (some (.raw v))) : At B (ρ.set k (some d)) μ τ σ H := by
  have a2 := a.set k
  obtain ⟨u, h1, h2⟩ := a.pop.var h
  obtain ⟨G, g, hv⟩ := h2.top
  have hv' : u = v := hv
  subst hv'
  have e : σ.set k (some u) = σ := by
    refine List.ext_getElem? fun i => ?_
    by_cases hi : k = i
    · subst hi
      rw [h1, List.getElem?_set_self (List.getElem?_eq_some_iff.mp h1).1]
    · rw [List.getElem?_set_ne hi]
  rw [e] at a2
  exact a2
end
end Cal


namespace Cal
open PySem PySem.Spec PyProof.Rows L2 HT
section
variable {M : Model} {prog : Program} {w : World} {A : Around} {E : Value → Shared → Prop} {s : Shared}
theorem sliceApplied_rev {sl : Addr} {vs : Value} {n : Nat} {Q : Int × Int × Nat → Shared → Prop} (hs : s.heap.IsSliceOf sl .none .none vs) (ps : IsPart vs (some (-1))) (h : Q ((n : Int) - 1, -1, n) s) : wpAny (model prog w) A (Builtin.Slice.sliceApplied (.ref sl) (pure (n : Int))) Q E s := by
  obtain ⟨os, hos, hcs, hds⟩ := id hs
  unfold Builtin.Slice.sliceApplied Builtin.Slice.sliceFields
  refine wpAny_bind (wpAny_bind (wpAny_field hos hds (x := .none) rfl (wpAny_bind (wpAny_field hos hds (x := .none) rfl (wpAny_bind (wpAny_field hos hds (x := vs) rfl (wpAny_pure ?_)))))))
  refine wpAny_bind (slicePart_ ps ?_)
  show wpAny _ _ (if ((-1 : Int) == 0) = true then _ else _) _ _ s
  rw [if_neg (by decide)]
  refine wpAny_bind (slicePart_ .none (wpAny_bind (slicePart_ .none (wpAny_bind (wpAny_pure ?_)))))
  show wpAny _ _ (pure ((n : Int) - 1, (-1 : Int), Builtin.Slice.slicePlaces ((n : Int) - 1) (-1) (-1))) _ _ s
  have e : Builtin.Slice.slicePlaces ((n : Int) - 1) (-1) (-1) = n := by
    unfold Builtin.Slice.slicePlaces
    have h1 : ¬ ((-1 : Int) > 0) := by decide
    simp only [h1, if_false]
    split
    · rw [show (-(-1) : Int) = 1 by decide, Int.ediv_one]; omega
    · omega
  rw [e]
  exact wpAny_pure h
theorem pick_rev (xs : Array Value) : ((List.range xs.size).filterMap fun (m : Nat) => xs[((xs.size : Int) - 1 + (m : Int) * -1).toNat]?).toArray = xs.toList.reverse.toArray := by
  congr 1
  have e1 : (List.range xs.size).filterMap (fun (m : Nat) => xs[((xs.size : Int) - 1 + (m : Int) * -1).toNat]?) = ((List.range xs.size).map fun (m : Nat) => ((xs.size : Int) - 1 + (m : Int) * -1).toNat).filterMap (xs[·]?) := by
    rw [List.filterMap_map]; rfl
  have e2 : (List.range xs.size).map (fun (m : Nat) => ((xs.size : Int) - 1 + (m : Int) * -1).toNat) = (List.range xs.size).map fun k => xs.size - 1 - k :=
    List.map_congr_left fun m hm => by
      have := List.mem_range.mp hm
      omega
  rw [e1, e2, PySem.W.krv_range, List.filterMap_reverse, PySem.W.krv_all]
theorem getItem_tuple_rev {t sl : Addr} {items : Array Value} {vs : Value} {Q : Value → Shared → Prop} (ht : IsTup s.heap t items) (hs : s.heap.IsSliceOf sl .none .none vs) (ps : IsPart vs (some (-1)))
    (h : Q (.ref s.heap.objs.size) { s with heap := s.heap.push { cls := .type "tuple", data := .seq items.toList.reverse.toArray } })
    (hsz : items.size ≤ sizeLine) : wpAny (model prog w) A (getItem (.ref t) (.ref sl)) Q E s := by
  have htake : sizeOk (.seq items.toList.reverse.toArray) := by
    show items.toList.reverse.toArray.size ≤ sizeLine
    rw [List.size_toArray, List.length_reverse, Array.length_toList]
    exact hsz
  obtain ⟨os, hos, hcs, hds⟩ := id hs
  have hTs : s.TypeIs (.ref sl) "slice" := ⟨os, hos, hcs⟩
  unfold getItem
  try with_reducible refine wpAny_holding ?_
  first | refine wpAny_bind (wpAny_pure ?_) | skip
  refine wpAny_bind (wpAny_sequenceKey ht.typeIs (by decide) ?_)
  refine wpAny_bind (wpAny_callSpecial?_slot (name := Str.ofString "__getitem__") ht.typeIs PyProof.Rows.slot_tuple_getitem
    (wpAny_call_entry PyProof.Rows.slot_tuple_getitem ht.typeIs entry_tuple_getitem ?_ (args_tuple_getitem _ _)))
  show wpAny _ _ (Builtin.Tuple.tupleItemsOf (.ref t) >>= _) _ _ s
  refine wpAny_bind (tupleItemsOf_ ht ?_)
  refine wpAny_bind (wpAny_typeOf hTs ?_)
  rw [if_pos (by decide)]
  refine wpAny_bind (sliceApplied_rev hs ps ?_)
  have hno : ¬ ((((items.size : Int) - 1) == 0 && (-1 : Int) == 1 && items.size == items.size) = true) := by
    intro q
    rw [Bool.and_eq_true, Bool.and_eq_true] at q
    exact absurd q.1.2 (by decide)
  show wpAny _ _ (if (((items.size : Int) - 1) == 0 && (-1 : Int) == 1 && items.size == items.size) = true then _ else _) _ _ s
  rw [if_neg hno, pick_rev]
  first
    | exact wpAny_bind (m := Builtin.Tuple.tupleExact _) (wpAny_newObj_type (wpAny_pure ⟨_, rfl, wpAny_pure h⟩) htake)
    | exact wpAny_bind (m := Builtin.Tuple.tupleExact _) (wpAny_newObj_type (wpAny_bind (wpAny_pure (wpAny_pure ⟨_, rfl, wpAny_pure h⟩))) htake)
    | exact wpAny_bind (wpAny_bind (m := Builtin.Tuple.tupleExact _) (wpAny_newObj_type (wpAny_pure (wpAny_pure ⟨_, rfl, wpAny_pure h⟩)) htake))
    | exact wpAny_bind (wpAny_bind (m := Builtin.Tuple.tupleExact _) (wpAny_newObj_type (wpAny_pure ⟨_, rfl, wpAny_pure h⟩) htake))
end
section
variable {X : Cx}
/-- t[::-1], t a tuple -/
def tRevT (K : PySem.W.Frag) (te : TE) : TE := fun σ H Q => te σ H fun x H1 => ∃ a xs, x = .ref a ∧ SqT K H1 a xs ∧ ∀ p, H1 p = none → Q (.ref p) (upd H1 p (.tup xs.reverse))
theorem pe_revT {e : Expr} {te : TE} {k : Nat} {p1 p2 p3 pos : Pos} (he : PE X e te) : PE X (.Subscript e (.Slice none none (some (.UnaryOp .USub (.Constant (.int 1) k p1) p2)) p3) pos) (tRevT X.K te) := by
  refine ⟨fun pins s σ H Q I h => ?_⟩
  refine Subscript_ (thn (he.run pins s σ H _ I h) fun v s1 ⟨x, H1, I1, r1, q1⟩ => ?_)
  obtain ⟨a, xs, ex, hx, q⟩ := q1
  subst ex
  cases r1
  have hst : PO X (some (.UnaryOp .USub (.Constant (.int 1) k p1) p2)) (tPart (tUn (rU fun i => .int (-i)) (tC (.int 1)))) := po_some (pe_un un_neg pe_int)
  refine wpAny_Slice (thn (po_none.run pins s1 σ H1 (fun o H2 => o = none ∧ H2 = H1) I1 ⟨rfl, rfl⟩) fun vl s2 ⟨l, H2, I2, pl, el, e2⟩ => ?_)
  subst el e2
  refine thn (po_none.run pins s2 σ H2 (fun o H3 => o = none ∧ H3 = H2) I2 ⟨rfl, rfl⟩) fun vu s3 ⟨u, H3, I3, pu, eu, e3⟩ => ?_
  subst eu e3
  refine thn (hst.run pins s3 σ H3 (fun o H4 => o = some (-1) ∧ H4 = H3) I3 ⟨1, rfl, -1, rfl, rfl, rfl⟩) fun vs s4 ⟨o, H4, I4, ps, eo, e4⟩ => ?_
  subst eo e4
  cases pl
  cases pu
  have I5 : Inv X pins σ H4 { s4 with heap := s4.heap.push { cls := .type "slice", data := .fields #[.none, .none, vs] } } := I4.kept (t' := s4.toks) fun b ob q => Heap.get?_push_of_some _ q
  obtain ⟨its, r, ht, hz⟩ := I5.tuple hx
  have hlen := r.length
  show wpAny (model X.prog X.w) X.A (subscriptTail e (.Slice none none (some (.UnaryOp .USub (.Constant (.int 1) k p1) p2)) p3) (.ref a) (.ref s4.heap.objs.size)) (EP X pins σ Q) X.xe { s4 with heap := s4.heap.push { cls := .type "slice", data := .fields #[.none, .none, vs] } }
  refine tail_any (ops := [.ref a, .ref s4.heap.objs.size]) ht.typeIs (PyProof.Rows.slot_tuple_getitem.lookup) ?_ (by with_unfolding_all rfl)
  refine getItem_tuple_rev ht (Heap.IsSliceOf.new _ .none .none vs) ps ?_ (by rw [List.size_toArray]; omega)
  refine ⟨.ref _, _, I5.laid (t' := s4.toks) (o := .tup xs.reverse) (fun b ob q => Heap.get?_push_of_some _ q) (Nat.le_refl _) ?_, rfl, q _ (I5.hok.fresh (Nat.le_refl _))⟩
  exact ⟨by rw [List.length_reverse]; omega, _, r.reverse, ⟨_, Heap.get?_push_size _ rfl, rfl, 0, rfl⟩⟩
end
end Cal


/-! Own text: the text of data with dicts; of a dict alone it is asked that it is not that of the modules. -/
namespace Cal
open PySem PySem.Spec PyProof.Rows L2
mutual
inductive RdX (h : Heap) : Value → PyData → Prop where
  | none : RdX h .none .none
  | bl (b) : RdX h (.bool b) (.bool b)
  | int (i t) : RdX h (.int i t) (.int i)
  | str (x t) : RdX h (.str x t) (.str x)
  | lst {a o vs n xs} : h.get? a = some o → o.cls = .type "list" → o.data = .seq vs n → RdXA h vs.toList xs → RdX h (.ref a) (.list xs)
  | tup {a o vs n xs} : h.get? a = some o → o.cls = .type "tuple" → o.data = .seq vs n → RdXA h vs.toList xs → RdX h (.ref a) (.tuple xs)
  | dk {a o es n kvs} : h.get? a = some o → o.cls = .type "dict" → o.data = .dict es n → a ≠ sysModules → RdXA h (es.toList.map (·.key)) (kvs.map (·.1)) → RdXA h (es.toList.map (·.val)) (kvs.map (·.2)) → RdX h (.ref a) (.dict kvs)
inductive RdXA (h : Heap) : List Value → List PyData → Prop where
  | nil : RdXA h [] []
  | cons {v vs d ds} : RdX h v d → RdXA h vs ds → RdXA h (v :: vs) (d :: ds)
end
mutual
theorem RdX.rd {h : Heap} : ∀ {v : Value} {d : PyData}, RdX h v d → ∃ as, Reads h v d as
  | _, _, .none => ⟨_, .none⟩
  | _, _, .bl b => ⟨_, .bool b⟩
  | _, _, .int i t => ⟨_, .int i t⟩
  | _, _, .str x t => ⟨_, .str x t⟩
  | _, _, .lst h1 h2 h3 h4 => let ⟨_, r⟩ := RdXA.rd h4; ⟨_, .list h1 h2 h3 r⟩
  | _, _, .tup h1 h2 h3 h4 => let ⟨_, r⟩ := RdXA.rd h4; ⟨_, .tuple h1 h2 h3 r⟩
  | _, _, .dk h1 h2 h3 _ h4 h5 => let ⟨_, r⟩ := RdXA.rd h4; let ⟨_, s⟩ := RdXA.rd h5; ⟨_, .dict h1 h2 h3 r s⟩
theorem RdXA.rd {h : Heap} : ∀ {vs : List Value} {ds : List PyData}, RdXA h vs ds → ∃ as, ReadsAll h vs ds as
  | _, _, .nil => ⟨_, .nil⟩
  | _, _, .cons r rs => let ⟨_, a⟩ := RdX.rd r; let ⟨_, b⟩ := RdXA.rd rs; ⟨_, .cons a b⟩
end
section
variable {pr : Program} {w : World} {g : Heap}
mutual
theorem RdX.kp : ∀ {v : Value} {d : PyData}, RdX g v d → d.showable = true → d.shown.length ≤ sizeLine → ∃ bs, ReadAtMost g d.depth bs ∧ ReprK pr w bs g d.depth v d.shown
  | _, _, .none, _, _ => ⟨[], (fun _ z => nomatch z), by simp only [PyData.shown]; exact .of_is ReprIs.none _ _ _⟩
  | _, _, .bl b, _, _ => ⟨[], (fun _ z => nomatch z), by simp only [PyData.shown]; exact .of_is (ReprIs.bool b) _ _ _⟩
  | _, _, .int i t, o, _ => ⟨[], (fun _ z => nomatch z), by simp only [PyData.shown]; exact .of_is (ReprIs.int t (by simpa [PyData.showable] using o)) _ _ _⟩
  | _, _, .str x t, _, z => ⟨[], (fun _ z => nomatch z), by simp only [PyData.shown]; exact .of_is (ReprIs.str x t (by simpa only [PyData.shown] using z)) _ _ _⟩
  | _, _, .lst (a := a) (vs := vs) (xs := xs) h1 h2 h3 h4, o, z => by
    have z1 : (listText (PyData.shownAll xs)).length ≤ sizeLine := by simpa only [PyData.shown] using z
    obtain ⟨bs, m, k⟩ := RdXA.kp h4 (by simpa [PyData.showable] using o) fun t ht => Nat.le_trans (listText_mem_le ht) z1
    obtain ⟨as, r0⟩ := RdXA.rd h4
    have r : Reads g (.ref a) (.list xs) (a :: as) := .list h1 h2 h3 r0
    have q : a ∉ bs := not_mem_of_deeper r (by simp only [PyData.depth]; omega) m
    refine ⟨a :: bs, ReadAtMost.cons r (by simp only [PyData.depth]; omega) m, ?_⟩
    simp only [PyData.depth, PyData.shown]
    obtain ⟨us⟩ := vs
    cases us with
    | nil =>
      cases (show ReadsAll g [] xs as from r0)
      simp only [PyData.shownAll, listText_nil]
      exact ReprK.listEmpty h1 h2 h3
    | cons x us => exact ReprK.list h1 h2 h3 q (by simpa using k.length_eq) fun i y e => k.item i y (by simpa using e)
  | _, _, .tup (a := a) (xs := xs) h1 h2 h3 h4, o, z => by
    have z1 : (tupleText (PyData.shownAll xs)).length ≤ sizeLine := by simpa only [PyData.shown] using z
    obtain ⟨bs, m, k⟩ := RdXA.kp h4 (by simpa [PyData.showable] using o) fun t ht => Nat.le_trans (tupleText_mem_le ht) z1
    obtain ⟨as, r0⟩ := RdXA.rd h4
    have r : Reads g (.ref a) (.tuple xs) as := .tuple h1 h2 h3 r0
    refine ⟨a :: bs, ReadAtMost.cons r (by simp only [PyData.depth]; omega) m, ?_⟩
    simp only [PyData.depth, PyData.shown]
    exact ReprK.tuple h1 h2 h3 (not_mem_of_deeper r (by simp only [PyData.depth]; omega) m) k
  | _, _, .dk (a := a) (es := es) (kvs := kvs) h1 h2 h3 ne h4 h5, o, z => by
    have z1 : (dictText (PyData.shownKv kvs)).length ≤ sizeLine := by simpa only [PyData.shown] using z
    obtain ⟨o1, o2⟩ := PyData.showableKv_split kvs (by simpa [PyData.showable] using o)
    obtain ⟨b1, m1, k1⟩ := RdXA.kp h4 o1 fun t ht => by
      obtain ⟨p, hp, hl⟩ := PyData.shownKv_key_le kvs t ht
      exact Nat.le_trans hl (Nat.le_trans (dictText_mem_le hp) z1)
    obtain ⟨b2, m2, k2⟩ := RdXA.kp h5 o2 fun t ht => by
      obtain ⟨p, hp, hl⟩ := PyData.shownKv_val_le kvs t ht
      exact Nat.le_trans hl (Nat.le_trans (dictText_mem_le hp) z1)
    obtain ⟨as1, r1⟩ := RdXA.rd h4
    obtain ⟨as2, r2⟩ := RdXA.rd h5
    have r : Reads g (.ref a) (.dict kvs) (a :: as1 ++ as2) := .dict h1 h2 h3 r1 r2
    have m := (m1.mono (PyData.depthAll_keys_le kvs)).append (m2.mono (PyData.depthAll_vals_le kvs))
    have q : a ∉ b1 ++ b2 := not_mem_of_deeper r (by simp only [PyData.depth]; omega) m
    refine ⟨a :: (b1 ++ b2), ReadAtMost.cons r (by simp only [PyData.depth]; omega) m, ?_⟩
    simp only [PyData.depth, PyData.shown, PyData.shownKv_eq]
    refine ReprK.dict h1 h2 h3 (beq_eq_false_iff_ne.mpr ne) q (ReprEntriesK.of_two es.toList _ _ ?_ ?_)
    · exact k1.more_le (fun b y => List.mem_append_left _ y) (PyData.depthAll_keys_le kvs)
    · exact k2.more_le (fun b y => List.mem_append_right _ y) (PyData.depthAll_vals_le kvs)
theorem RdXA.kp : ∀ {vs : List Value} {ds : List PyData}, RdXA g vs ds → PyData.showableAll ds = true → (∀ t ∈ PyData.shownAll ds, t.length ≤ sizeLine) → ∃ bs, ReadAtMost g (PyData.depthAll ds) bs ∧ ReprAllK pr w bs g (PyData.depthAll ds) vs (PyData.shownAll ds)
  | _, _, .nil, _, _ => ⟨[], (fun _ z => nomatch z), by simp only [PyData.shownAll]; exact .nil⟩
  | _, _, .cons (d := d) (ds := ds) r rs, o, z => by
    have o1 : d.showable = true ∧ PyData.showableAll ds = true := by simpa [PyData.showableAll] using o
    obtain ⟨b1, m1, k1⟩ := RdX.kp r o1.1 (z _ (by simp only [PyData.shownAll]; exact List.mem_cons_self ..))
    obtain ⟨b2, m2, k2⟩ := RdXA.kp rs o1.2 fun t ht => z t (by simp only [PyData.shownAll]; exact List.mem_cons_of_mem _ ht)
    refine ⟨b1 ++ b2, ?_, ?_⟩
    · simp only [PyData.depthAll]
      exact (m1.mono (Nat.le_max_left ..)).append (m2.mono (Nat.le_max_right ..))
    · simp only [PyData.depthAll, PyData.shownAll]
      exact .cons ((k1.more fun b y => List.mem_append_left _ y).level_le (Nat.le_max_left _ _)) (k2.more_le (fun b y => List.mem_append_right _ y) (Nat.le_max_right _ _))
end
/-- repr of what is at a place -/
theorem RdX.repr {a : Addr} {d : PyData} {A : Around} {E : Value → Shared → Prop} {s : Shared} {Q : Value → Shared → Prop} (r : RdX g (.ref a) d) (o : d.showable = true) (z : d.shown.length ≤ sizeLine) (hg : A.guards = some []) (hu : A.units + (d.depth + 1) < cLine) (k0 : ∀ b o, g.get? b = some o → s.heap.get? b = some o)
    (hQ : ∀ h' u tk, (∀ b o, s.heap.get? b = some o → h'.get? b = some o) → Q (.str d.shown u) { s with heap := h', toks := tk }) : wpAny (model pr w) A (call (.builtin "repr") [.ref a]) Q E s := by
  have hin : A.in1.guards = some [] := hg
  cases r with
  | lst h1 h2 h3 h4 =>
    rename_i o1 vs n xs
    have z1 : (listText (PyData.shownAll xs)).length ≤ sizeLine := by simpa only [PyData.shown] using z
    obtain ⟨bs, m, k⟩ := RdXA.kp (pr := pr) (w := w) h4 (by simpa [PyData.showable] using o) fun t ht => Nat.le_trans (listText_mem_le ht) z1
    obtain ⟨as, r0⟩ := RdXA.rd h4
    have q : a ∉ bs := not_mem_of_deeper (.list h1 h2 h3 r0) (by simp only [PyData.depth]; omega) m
    simp only [PyData.depth] at hu
    simp only [PyData.shown] at hQ
    refine call_repr_slot (by omega) ⟨o1, k0 _ _ h1, h2⟩ F.slot_list_repr.toG ?_
    obtain ⟨us⟩ := vs
    cases us with
    | nil =>
      cases (show ReadsAll g [] xs as from r0)
      simp only [PyData.shownAll, listText_nil] at hQ
      exact call_list_repr_empty ⟨o1, k0 _ _ h1, h2⟩ (k0 _ _ h1) h3 ⟨_, _, rfl, hQ s.heap _ _ fun _ _ e => e⟩
    | cons x us =>
      exact call_list_reprK h1 h2 h3 q (by simpa using k.length_eq) (fun i y e => k.item i y (by simpa using e)) hin (fun b _ => Clear.nil b) (by show A.units + 1 + _ < _; omega) k0 (fun h' u tk hk => ⟨_, _, rfl, hQ h' u tk hk⟩) z1
  | tup h1 h2 h3 h4 =>
    rename_i o1 vs n xs
    have z1 : (tupleText (PyData.shownAll xs)).length ≤ sizeLine := by simpa only [PyData.shown] using z
    obtain ⟨bs, m, k⟩ := RdXA.kp (pr := pr) (w := w) h4 (by simpa [PyData.showable] using o) fun t ht => Nat.le_trans (tupleText_mem_le ht) z1
    obtain ⟨as, r0⟩ := RdXA.rd h4
    have q : a ∉ bs := not_mem_of_deeper (.tuple h1 h2 h3 r0) (by simp only [PyData.depth]; omega) m
    simp only [PyData.depth] at hu
    simp only [PyData.shown] at hQ
    refine call_repr_slot (by omega) ⟨o1, k0 _ _ h1, h2⟩ F.slot_tuple_repr ?_
    exact call_tuple_reprK h1 h2 h3 q k hin (fun b _ => Clear.nil b) (by show A.units + 1 + _ < _; omega) k0 (fun h' u tk hk => ⟨_, _, rfl, hQ h' u tk hk⟩) z1
  | dk h1 h2 h3 ne h4 h5 =>
    rename_i o1 es n kvs
    have z1 : (dictText (PyData.shownKv kvs)).length ≤ sizeLine := by simpa only [PyData.shown] using z
    obtain ⟨q1, q2⟩ := PyData.showableKv_split kvs (by simpa [PyData.showable] using o)
    obtain ⟨b1, m1, k1⟩ := RdXA.kp (pr := pr) (w := w) h4 q1 fun t ht => by
      obtain ⟨p, hp, hl⟩ := PyData.shownKv_key_le kvs t ht
      exact Nat.le_trans hl (Nat.le_trans (dictText_mem_le hp) z1)
    obtain ⟨b2, m2, k2⟩ := RdXA.kp (pr := pr) (w := w) h5 q2 fun t ht => by
      obtain ⟨p, hp, hl⟩ := PyData.shownKv_val_le kvs t ht
      exact Nat.le_trans hl (Nat.le_trans (dictText_mem_le hp) z1)
    obtain ⟨as1, r1⟩ := RdXA.rd h4
    obtain ⟨as2, r2⟩ := RdXA.rd h5
    have m := (m1.mono (PyData.depthAll_keys_le kvs)).append (m2.mono (PyData.depthAll_vals_le kvs))
    have q : a ∉ b1 ++ b2 := not_mem_of_deeper (.dict h1 h2 h3 r1 r2) (by simp only [PyData.depth]; omega) m
    simp only [PyData.depth] at hu
    simp only [PyData.shown, PyData.shownKv_eq] at hQ
    refine call_repr_slot (by omega) ⟨o1, k0 _ _ h1, h2⟩ F.slot_dict_repr ?_
    exact call_dict_reprK h1 h2 h3 (beq_eq_false_iff_ne.mpr ne) q (ReprEntriesK.of_two es.toList _ _ (k1.more_le (fun b y => List.mem_append_left _ y) (PyData.depthAll_keys_le kvs)) (k2.more_le (fun b y => List.mem_append_right _ y) (PyData.depthAll_vals_le kvs))) hin (fun b _ => Clear.nil b) (by show A.units + 1 + _ < _; omega) k0 (fun h' u tk hk => ⟨_, _, rfl, hQ h' u tk hk⟩) (by rw [← PyData.shownKv_eq]; exact z1)
end
end Cal


namespace Cal
open PySem PySem.Spec PyProof.Rows L2
/-! ### data that can be shown, and how long its text is -/
def okKey : Key → Bool
  | .inl i => decide (i.natAbs < 2 ^ 200) | .inr s => PyData.strOk s
def wdKey : Key → Nat
  | .inl _ => 210 | .inr s => 10 * s.length + 2
mutual
def okD : D → Bool
  | .non => true | .bl _ => true | .int i => decide (i.natAbs < 2 ^ 200) | .str s => PyData.strOk s | .raw _ => false
  | .lst ds => okA ds | .tup ds => okA ds | .dk kvs => okK kvs | .dt _ => false | .obj _ _ => false
def okA : List D → Bool
  | [] => true | d :: ds => okD d && okA ds
def okK : List (Key × D) → Bool
  | [] => true | (k, d) :: r => okKey k && okD d && okK r
end
mutual
def wd : D → Nat
  | .non => 5 | .bl _ => 5 | .int _ => 210 | .str s => 10 * s.length + 2 | .raw _ => 0
  | .lst ds => wdA ds + 3 | .tup ds => wdA ds + 3 | .dk kvs => wdK kvs + 2 | .dt _ => 0 | .obj _ _ => 0
def wdA : List D → Nat
  | [] => 0 | d :: ds => wd d + 2 + wdA ds
def wdK : List (Key × D) → Nat
  | [] => 0 | (k, d) :: r => wdKey k + wd d + 4 + wdK r
end
mutual
def noD : D → Bool
  | .lst ds => noDA ds | .tup ds => noDA ds | .dk _ => false | .dt _ => false | .obj _ _ => false | _ => true
def noDA : List D → Bool
  | [] => true | d :: ds => noD d && noDA ds
end
mutual
def noL : D → Bool
  | .lst _ => false | .tup ds => noLA ds | .dk kvs => kvs.isEmpty | _ => true
def noLA : List D → Bool
  | [] => true | d :: ds => noL d && noLA ds
end
theorem okA_app : ∀ (a b : List D), okA (a ++ b) = (okA a && okA b)
  | [], b => by simp [okA]
  | x :: a, b => by simp [okA, okA_app a b, Bool.and_assoc]
theorem noDA_app : ∀ (a b : List D), noDA (a ++ b) = (noDA a && noDA b)
  | [], b => by simp [noDA]
  | x :: a, b => by simp [noDA, noDA_app a b, Bool.and_assoc]
theorem noLA_app : ∀ (a b : List D), noLA (a ++ b) = (noLA a && noLA b)
  | [], b => by simp [noLA]
  | x :: a, b => by simp [noLA, noLA_app a b, Bool.and_assoc]
theorem wdA_app : ∀ (a b : List D), wdA (a ++ b) = wdA a + wdA b
  | [], b => by simp [wdA]
  | x :: a, b => by
    show wd x + 2 + wdA (a ++ b) = wd x + 2 + wdA a + wdA b
    rw [wdA_app a b]; omega
theorem depA_app : ∀ (a b : List D), depA (a ++ b) = max (depA a) (depA b)
  | [], b => by simp [depA]
  | x :: a, b => by
    show max (dep x) (depA (a ++ b)) = max (max (dep x) (depA a)) (depA b)
    rw [depA_app a b]; omega
theorem okA_all {ds : List D} (h : ∀ d ∈ ds, okD d = true) : okA ds = true := by
  induction ds with
  | nil => rfl
  | cons d r ih => simp [okA, h d (List.mem_cons_self ..), ih fun e he => h e (List.mem_cons_of_mem _ he)]
theorem noDA_all {ds : List D} (h : ∀ d ∈ ds, noD d = true) : noDA ds = true := by
  induction ds with
  | nil => rfl
  | cons d r ih => simp [noDA, h d (List.mem_cons_self ..), ih fun e he => h e (List.mem_cons_of_mem _ he)]
theorem noLA_all {ds : List D} (h : ∀ d ∈ ds, noL d = true) : noLA ds = true := by
  induction ds with
  | nil => rfl
  | cons d r ih => simp [noLA, h d (List.mem_cons_self ..), ih fun e he => h e (List.mem_cons_of_mem _ he)]
theorem okA_mem : ∀ {ds : List D}, okA ds = true → ∀ d ∈ ds, okD d = true
  | e :: r, h, d, hd => by
    have h' : okD e = true ∧ okA r = true := by simpa [okA] using h
    rcases List.mem_cons.mp hd with z | z
    · rw [z]; exact h'.1
    · exact okA_mem h'.2 d z
theorem wdA_mem : ∀ {ds : List D} {d : D}, d ∈ ds → wd d + 2 ≤ wdA ds
  | e :: r, d, hd => by
    unfold wdA
    rcases List.mem_cons.mp hd with z | z
    · rw [z]; omega
    · have := wdA_mem z; omega
theorem depA_mem : ∀ {ds : List D} {d : D}, d ∈ ds → dep d ≤ depA ds
  | e :: r, d, hd => by
    unfold depA
    rcases List.mem_cons.mp hd with z | z
    · rw [z]; omega
    · have := depA_mem z; omega
theorem wdA_len : ∀ ds : List D, 2 * ds.length ≤ wdA ds
  | [] => Nat.le_refl _
  | e :: r => by
    have := wdA_len r
    unfold wdA
    rw [List.length_cons]; omega
theorem wdA_le {ds : List D} {n : Nat} (h : ∀ d ∈ ds, wd d ≤ n) : wdA ds ≤ ds.length * (n + 2) := by
  induction ds with
  | nil => exact Nat.zero_le _
  | cons d r ih =>
    have h1 := h d (List.mem_cons_self ..)
    have h2 := ih fun e he => h e (List.mem_cons_of_mem _ he)
    unfold wdA
    rw [List.length_cons, Nat.succ_mul]; omega
theorem depA_le {ds : List D} {n : Nat} (h : ∀ d ∈ ds, dep d ≤ n) : depA ds ≤ n := by
  induction ds with
  | nil => exact Nat.zero_le _
  | cons d r ih =>
    have h1 := h d (List.mem_cons_self ..)
    have h2 := ih fun e he => h e (List.mem_cons_of_mem _ he)
    unfold depA
    omega
mutual
theorem sm_of : ∀ {d : D}, okD d = true → wd d ≤ 1000000 → Sm d
  | .non, _, _ => True.intro
  | .bl _, _, _ => True.intro
  | .int i, h, _ => by
    unfold okD at h
    show i.natAbs < 2 ^ 200
    exact of_decide_eq_true h
  | .str s, h, w => ⟨by have w' : 10 * s.length + 2 ≤ 1000000 := w; omega, by simpa only [okD] using h⟩
  | .raw _, h, _ => by simp [okD] at h
  | .dt _, h, _ => by simp [okD] at h
  | .obj _ _, h, _ => by simp [okD] at h
  | .dk kvs, h, w => smK_of (by simpa only [okD] using h) (by have w' : wdK kvs + 2 ≤ 1000000 := w; omega)
  | .lst ds, h, w => by
    have w' : wdA ds + 3 ≤ 1000000 := w
    have := wdA_len ds
    exact ⟨by omega, smA_of (by simpa only [okD] using h) (by omega)⟩
  | .tup ds, h, w => by
    have w' : wdA ds + 3 ≤ 1000000 := w
    have := wdA_len ds
    exact ⟨by omega, smA_of (by simpa only [okD] using h) (by omega)⟩
theorem smA_of : ∀ {ds : List D}, okA ds = true → wdA ds ≤ 1000000 → SmA ds
  | [], _, _ => True.intro
  | d :: ds, h, w => by
    have h' : okD d = true ∧ okA ds = true := by simpa [okA] using h
    have w' : wd d + 2 + wdA ds ≤ 1000000 := w
    exact ⟨sm_of h'.1 (by omega), smA_of h'.2 (by omega)⟩
theorem smK_of : ∀ {ds : List (Key × D)}, okK ds = true → wdK ds ≤ 1000000 → SmK ds
  | [], _, _ => True.intro
  | (k, d) :: r, h, w => by
    have h' : (okKey k = true ∧ okD d = true) ∧ okK r = true := by simpa [okK] using h
    have w' : wdKey k + wd d + 4 + wdK r ≤ 1000000 := w
    refine ⟨?_, sm_of h'.1.2 (by omega), smK_of h'.2 (by omega)⟩
    cases k with
    | inl i => exact of_decide_eq_true h'.1.1
    | inr s => exact h'.1.1
end
/-! ### its text -/
theorem lg_of {i : Int} (h : i.natAbs < 2 ^ 200) : i.natAbs.log2 < 201 := by
  by_cases h0 : i.natAbs = 0
  · rw [h0]; decide
  · exact Nat.lt_of_lt_of_le ((Nat.log2_lt h0).mpr h) (by decide)
theorem showable_key {k : Key} (h : okKey k = true) : (pyKey k).showable = true := by
  cases k with
  | inl i =>
    have h' : i.natAbs < 2 ^ 200 := of_decide_eq_true h
    simp only [pyKey, PyData.showable]
    exact decide_eq_true (Nat.lt_of_lt_of_le (lg_of h') (by decide))
  | inr s => simp [pyKey, PyData.showable]
mutual
theorem showable_py : ∀ d : D, okD d = true → (py d).showable = true
  | .non, _ => by simp [py, PyData.showable]
  | .bl b, _ => by simp [py, PyData.showable]
  | .int i, h => by
    have h' : i.natAbs < 2 ^ 200 := of_decide_eq_true (by simpa only [okD] using h)
    simp only [py, PyData.showable]
    exact decide_eq_true (Nat.lt_of_lt_of_le (lg_of h') (by decide))
  | .str s, h => by simp [py, PyData.showable]
  | .raw u, p => by simp [okD] at p
  | .lst ds, p => by simpa only [py, PyData.showable] using showable_pyA ds (by simpa only [okD] using p)
  | .tup ds, p => by simpa only [py, PyData.showable] using showable_pyA ds (by simpa only [okD] using p)
  | .dk ds, p => by simpa only [py, PyData.showable] using showable_pyK ds (by simpa only [okD] using p)
  | .dt ds, p => by simp [okD] at p
  | .obj _ _, p => by simp [okD] at p
theorem showable_pyA : ∀ ds : List D, okA ds = true → PyData.showableAll (pyA ds) = true
  | [], _ => by simp [pyA, PyData.showableAll]
  | d :: ds, p => by
    have p' : okD d = true ∧ okA ds = true := by simpa [okA] using p
    simp [pyA, PyData.showableAll, showable_py d p'.1, showable_pyA ds p'.2]
theorem showable_pyK : ∀ ds : List (Key × D), okK ds = true → PyData.showableKv (pyK ds) = true
  | [], _ => by simp [pyK, PyData.showableKv]
  | (k, d) :: r, p => by
    have p' : (okKey k = true ∧ okD d = true) ∧ okK r = true := by simpa [okK] using p
    simp [pyK, PyData.showableKv, showable_key p'.1.1, showable_py d p'.1.2, showable_pyK r p'.2]
end
mutual
theorem hasDict_py : ∀ d : D, noD d = true → (py d).hasDict = false
  | .non, _ => by simp [py, PyData.hasDict]
  | .bl b, _ => by simp [py, PyData.hasDict]
  | .int i, h => by simp [py, PyData.hasDict]
  | .str s, h => by simp [py, PyData.hasDict]
  | .raw u, p => by simp [py, PyData.hasDict]
  | .lst ds, p => by simpa only [py, PyData.hasDict] using hasDict_pyA ds (by simpa only [noD] using p)
  | .tup ds, p => by simpa only [py, PyData.hasDict] using hasDict_pyA ds (by simpa only [noD] using p)
  | .dk ds, p => by simp [noD] at p
  | .dt ds, p => by simp [noD] at p
  | .obj _ _, p => by simp [noD] at p
theorem hasDict_pyA : ∀ ds : List D, noDA ds = true → PyData.hasDictAll (pyA ds) = false
  | [], _ => by simp [pyA, PyData.hasDictAll]
  | d :: ds, p => by
    have p' : noD d = true ∧ noDA ds = true := by simpa [noDA] using p
    simp [pyA, PyData.hasDictAll, hasDict_py d p'.1, hasDict_pyA ds p'.2]
end
theorem listText_len (ts : List Str) : (listText ts).length ≤ piled ts + 3 := by
  cases ts with
  | nil => decide
  | cons t r =>
    have h := textFrom_length_pos r 1 (("[" : Str) ++ (if (0 : Nat) > 0 then ", " else "" : String) ++ t) (Nat.succ_pos 0)
    have e : ((("[" : Str) ++ (if (0 : Nat) > 0 then ", " else "" : String) ++ t)).length = 1 + t.length := by
      rw [strLen_append, strLen_append]; rfl
    show (textFrom 1 (("[" : Str) ++ (if (0 : Nat) > 0 then ", " else "" : String) ++ t) r ++ "]").length ≤ _
    rw [strLen_append, h, e, piled_cons]
    show 1 + t.length + piled r + 1 ≤ _
    omega
theorem tupleText_len (ts : List Str) : (tupleText ts).length ≤ piled ts + 3 := by
  unfold tupleText
  rw [strLen_append, strLen_append]
  have e1 : ((("(" : String) : Str)).length = 1 := rfl
  have e3 : (((if ts.length == 1 then ",)" else ")" : String) : Str)).length ≤ 2 := by split <;> decide
  rw [e1]
  by_cases h : ts = []
  · subst h
    have : (Str.join ", " ([] : List Str)).length = 0 := rfl
    rw [this]; omega
  · have := join_length_add ts h
    omega
theorem dictText_len (ts : List Str) : (dictText ts).length ≤ piled ts + 2 := by
  unfold dictText
  rw [strLen_append, strLen_append]
  have e1 : ((("{" : String) : Str)).length = 1 := rfl
  have e2 : ((("}" : String) : Str)).length = 1 := rfl
  rw [e1, e2]
  by_cases h : ts = []
  · subst h
    have : (Str.join ", " ([] : List Str)).length = 0 := rfl
    rw [this]; omega
  · have := join_length_add ts h
    omega
theorem int_len {i : Int} (h : i.natAbs < 2 ^ 200) : (PyData.shown (.int i)).length ≤ 210 := by
  simp only [PyData.shown]
  have := int_text_length_le (a := i) (k := 201) (by decide) (lg_of h)
  have e : (Str.ofString (toString i)).length = (toString i).length := PySem.ofString_length _
  show (Str.ofString (toString i)).length ≤ 210
  rw [e]; omega
theorem str_len {s : Str} (h : PyData.strOk s = true) : (PyData.shown (.str s)).length ≤ 10 * s.length + 2 := by
  simp only [PyData.shown]
  refine StrLaws.reprText_len s fun c hc => ?_
  unfold PyData.strOk at h
  have := Array.all_eq_true_iff_forall_mem.mp h c (Array.mem_toList_iff.mp hc)
  have := of_decide_eq_true this
  omega
theorem key_len {k : Key} (h : okKey k = true) : (pyKey k).shown.length ≤ wdKey k := by
  cases k with
  | inl i => exact int_len (of_decide_eq_true h)
  | inr s => exact str_len h
mutual
theorem shown_len : ∀ d : D, okD d = true → (py d).shown.length ≤ wd d
  | .non, _ => by simp only [py, PyData.shown]; decide
  | .bl b, _ => by cases b <;> (simp only [py, PyData.shown]; decide)
  | .int i, h => by
    have h' : i.natAbs < 2 ^ 200 := of_decide_eq_true (by simpa only [okD] using h)
    simp only [py, PyData.shown, wd]
    have := int_text_length_le (a := i) (k := 201) (by decide) (lg_of h')
    have e : (Str.ofString (toString i)).length = (toString i).length := PySem.ofString_length _
    show (Str.ofString (toString i)).length ≤ 210
    rw [e]; omega
  | .str s, h => by
    simp only [py, PyData.shown, wd]
    refine StrLaws.reprText_len s fun c hc => ?_
    have h' : PyData.strOk s = true := by simpa only [okD] using h
    unfold PyData.strOk at h'
    have := Array.all_eq_true_iff_forall_mem.mp h' c (Array.mem_toList_iff.mp hc)
    have := of_decide_eq_true this
    omega
  | .raw u, p => by simp [okD] at p
  | .lst ds, p => by
    simp only [py, PyData.shown, wd]
    have := listText_len (PyData.shownAll (pyA ds))
    have := shown_lenA ds (by simpa only [okD] using p)
    omega
  | .tup ds, p => by
    simp only [py, PyData.shown, wd]
    have := tupleText_len (PyData.shownAll (pyA ds))
    have := shown_lenA ds (by simpa only [okD] using p)
    omega
  | .dk ds, p => by
    simp only [py, PyData.shown, wd]
    have := dictText_len (PyData.shownKv (pyK ds))
    have := shown_lenK ds (by simpa only [okD] using p)
    omega
  | .dt ds, p => by simp [okD] at p
  | .obj _ _, p => by simp [okD] at p
theorem shown_lenA : ∀ ds : List D, okA ds = true → piled (PyData.shownAll (pyA ds)) ≤ wdA ds
  | [], _ => by simp [pyA, PyData.shownAll, piled_nil]
  | d :: ds, p => by
    have p' : okD d = true ∧ okA ds = true := by simpa [okA] using p
    have h1 := shown_len d p'.1
    have h2 := shown_lenA ds p'.2
    simp only [pyA, PyData.shownAll, wdA, piled_cons]
    omega
theorem shown_lenK : ∀ ds : List (Key × D), okK ds = true → piled (PyData.shownKv (pyK ds)) ≤ wdK ds
  | [], _ => by simp [pyK, PyData.shownKv, piled_nil]
  | (k, d) :: r, p => by
    have p' : (okKey k = true ∧ okD d = true) ∧ okK r = true := by simpa [okK] using p
    have h0 := key_len p'.1.1
    have h1 := shown_len d p'.1.2
    have h2 := shown_lenK r p'.2
    simp only [pyK, PyData.shownKv, wdK, piled_cons]
    rw [strLen_append, strLen_append]
    have e : (((": " : String) : Str)).length = 2 := rfl
    rw [e]
    omega
end
/-! ### read off the heap -/
section
variable {X : Cx} {pins : List (Addr × Obj)} {σ : L2.St} {H G : Hp} {s : Shared}
mutual
theorem Dt.rds (I : Inv X pins σ H s) (e : Same G H) : ∀ (d : D) {v : V} {u : Value}, okD d = true → Dt X.K G d v → RelV v u → RdX s.heap u (py d)
  | .non, _, _, _, h, r => by
    rw [show _ = V.non from h] at r
    cases r
    simpa only [py] using RdX.none
  | .bl b, _, _, _, h, r => by
    rw [show _ = V.bl b from h] at r
    cases r
    simpa only [py] using RdX.bl b
  | .int i, _, _, _, h, r => by
    rw [show _ = V.int i from h] at r
    obtain ⟨t, rfl⟩ := r
    simpa only [py] using RdX.int i t
  | .str x, _, _, _, h, r => by
    rw [show _ = V.str x from h] at r
    obtain ⟨t, rfl⟩ := r
    simpa only [py] using RdX.str x t
  | .raw u, _, _, p, _, _ => by simp [okD] at p
  | .dt u, _, _, p, _, _ => by simp [okD] at p
  | .obj _ _, _, _, p, _, _ => by simp [okD] at p
  | .lst ds, _, _, p, ⟨a, vs, h1, h2, h3⟩, r => by
    rw [h1] at r
    cases r
    obtain ⟨its, rv, ⟨o, n, ho, hc, _, hd⟩, _⟩ := I.list (xs := vs) (.inl (.inl (e _ _ h2)))
    simp only [py]
    exact .lst ho hc hd (DtA.rds I e ds (by simpa only [okD] using p) h3 rv)
  | .tup ds, _, _, p, ⟨a, vs, h1, h2, h3⟩, r => by
    rw [h1] at r
    cases r
    obtain ⟨its, rv, ⟨o, ho, hc, n, hd⟩, _⟩ := I.tuple (xs := vs) (.inl (.inl (e _ _ h2)))
    simp only [py]
    exact .tup ho hc hd (DtA.rds I e ds (by simpa only [okD] using p) h3 rv)
  | .dk kvs, _, _, p, ⟨a, vs, h1, h2, h3⟩, r => by
    rw [h1] at r
    cases r
    obtain ⟨_, hm, ws, kw, ⟨o, es, ep, g1, g2, g3, _, g4, _⟩⟩ := dk_of I.hok (e _ _ h2)
    obtain ⟨q1, q2⟩ := DtK.rds I e kvs (by simpa only [okD] using p) h3 kw g4
    simp only [py]
    exact .dk g1 g2.1 g3 (fun z => by rw [z] at hm; simp at hm) q1 q2
theorem DtA.rds (I : Inv X pins σ H s) (e : Same G H) : ∀ (ds : List D) {vs : List V} {us : List Value}, okA ds = true → DtA X.K G ds vs → Vals vs us → RdXA s.heap us (pyA ds)
  | [], _, _, _, h, r => by
    rw [show _ = [] from h] at r
    cases r
    simpa only [pyA] using RdXA.nil
  | d :: ds, _, _, p, ⟨v, w, h1, h2, h3⟩, r => by
    have p' : okD d = true ∧ okA ds = true := by simpa [okA] using p
    rw [h1] at r
    cases r with
    | cons r1 r2 =>
      simp only [pyA]
      exact .cons (Dt.rds I e d p'.1 h2 r1) (DtA.rds I e ds p'.2 h3 r2)
theorem DtK.rds (I : Inv X pins σ H s) (e : Same G H) : ∀ (ds : List (Key × D)) {vs : List (Key × V)} {ws : List (Key × Value)} {es : List DictEntry}, okK ds = true → DtK X.K G ds vs → KV vs ws → Pairs (mixKind X.prog X.w) es ws → RdXA s.heap (es.map (·.key)) ((pyK ds).map (·.1)) ∧ RdXA s.heap (es.map (·.val)) ((pyK ds).map (·.2))
  | [], _, _, _, _, h, kw, g => by
    rw [show _ = [] from h] at kw
    cases kw
    cases g
    exact ⟨.nil, .nil⟩
  | (k, d) :: r, _, _, _, p, ⟨v, w, h1, h2, h3⟩, kw, g => by
    have p' : (okKey k = true ∧ okD d = true) ∧ okK r = true := by simpa [okK] using p
    rw [h1] at kw
    cases kw with
    | cons f1 f2 =>
      obtain ⟨e1, rv⟩ := f1
      cases g with
      | cons i1 i2 i3 =>
        obtain ⟨q1, q2⟩ := DtK.rds I e r p'.2 h3 f2 i3
        simp only [pyK, List.map_cons]
        refine ⟨.cons ?_ q1, .cons ?_ q2⟩
        · rw [← e1] at i1
          rcases keyIs_shape i1 with ⟨i, t, e2, e3⟩ | ⟨x, t, e2, e3⟩
          · rw [e3, show k = Sum.inl i from e2]; exact RdX.int i t
          · rw [e3, show k = Sum.inr x from e2]; exact RdX.str x t
        · rw [i2]; exact Dt.rds I e d p'.1.2 h2 rv
end
end
end Cal


namespace Cal
open PySem PySem.Spec PyProof.Rows L2
/-! ### repr where no repr is under way -/
def rRp (K : PySem.W.Frag) : List V → Hp → VK → Prop := fun xs H Q => ∃ (v : V) (d : D) (G : Hp), xs = [v] ∧ Same G H ∧ Dt K G d v ∧ okD d = true ∧ wd d ≤ 1000000 ∧ dep d ≤ 20 ∧ Q (.str (py d).shown) H
theorem shown_fits {d : D} (h : okD d = true) (w : wd d ≤ 1000000) : (py d).shown.length ≤ sizeLine := Nat.le_trans (shown_len d h) (Nat.le_trans w (by decide))
theorem u_repr {X : Cx} (hg : X.A.guards = some []) (hu : X.A.units + 64 < cLine) : CallR X (.builtin "repr") (rRp X.K) := by
  intro pins s σ H xs us Q I r h
  obtain ⟨v, d, G, rfl, e, hd, ho, hw, hp, q⟩ := h
  obtain ⟨u, rfl, rx⟩ := vals1 r
  have fl : ∀ tk u', EP X pins σ Q (.str (py d).shown u') { s with toks := tk } := fun tk u' => ⟨.str (py d).shown, H, I.kept (t' := tk) fun b o z => z, ⟨u', rfl⟩, q⟩
  have hr := Dt.rds I e d ho hd rx
  have hsz := shown_fits ho hw
  have big : ∀ a, RdX s.heap (.ref a) (py d) → wpAny (model X.prog X.w) X.A (call (.builtin "repr") [.ref a]) (EP X pins σ Q) X.xe s := fun a hr =>
    RdX.repr hr (showable_py d ho) hsz hg (by rw [depth_py]; omega) (fun b o z => z) fun h' u' tk kp => ⟨.str (py d).shown, H, I.kept (t' := tk) kp, ⟨u', rfl⟩, q⟩
  cases d with
  | non =>
    rw [show v = V.non from hd] at rx
    cases rx
    exact P.repr_of_none (by have := fl (s.toks + 1) s.toks; simpa only [py, PyData.shown] using this)
  | bl b =>
    rw [show v = V.bl b from hd] at rx
    cases rx
    exact P.repr_of_bool (by have := fl (s.toks + 1) s.toks; simpa only [py, PyData.shown] using this)
  | int i =>
    rw [show v = V.int i from hd] at rx
    obtain ⟨t, rfl⟩ := rx
    exact P.repr_of_int (by have := showable_py (.int i) ho; simpa only [py, PyData.showable, decide_eq_true_eq] using this) (by have := fl (s.toks + 1) s.toks; simpa only [py, PyData.shown] using this)
  | str x =>
    rw [show v = V.str x from hd] at rx
    obtain ⟨t, rfl⟩ := rx
    exact P.repr_of_str (by have := fl (s.toks + 1) s.toks; simpa only [py, PyData.shown] using this) (by simpa only [py, PyData.shown] using hsz)
  | raw u => simp [okD] at ho
  | dt u => simp [okD] at ho
  | obj u x => simp [okD] at ho
  | lst ds =>
    obtain ⟨a, vs, h1, h2, h3⟩ := hd
    rw [h1] at rx
    cases rx
    exact big a hr
  | tup ds =>
    obtain ⟨a, vs, h1, h2, h3⟩ := hd
    rw [h1] at rx
    cases rx
    exact big a hr
  | dk ds =>
    obtain ⟨a, vs, h1, h2, h3⟩ := hd
    rw [h1] at rx
    cases rx
    exact big a hr
section
variable {B : Bs} {ρ : Ro} {μ : Mu} {d : D} {te : TE}
theorem rc_rp (ho : okD d = true) (hn : noD d = true ∨ noL d = true) (hw : wd d ≤ 1000000) (hp : dep d ≤ 20) : RC B (rRp B.K) ρ μ [d] (fun e => e = .str (py d).shown) := fun τ σ H xs hl a Q q => by
  obtain ⟨G, g, h⟩ := a.args hl
  obtain ⟨v, rfl, hv⟩ := one_arg h
  exact ⟨v, d, G, rfl, g.sub, hv, ho, hw, hp, q _ _ _ rfl (At.flat ⟨G, g⟩ fun _ => rfl)⟩
end
/-! ### a def's run at one place -/
section
variable {CX : CXT} {P : Program} {w : World} {K : PySem.W.Frag} {mg : Str → Option Value} {base : Heap}
theorem run_of {k : Nat} {f : Addr} {name qual : Str} {params : Arguments} {body : List Stmt} {scope : Scope} {dV kV doc pm cdv ct oc : Value} {an od : Option Addr} {osl : Array (Option Value)} {N ps : List Str} {A : Around} {outer : List Env} {s : Shared} {H : Hp} {args : Args} {us : List Value} {vs : List V} {Q : VK} {E : XK}
    (lk : K.lookup f = some ⟨oc, od, .func (PySem.W.fnOf name qual params body scope dV kV doc pm an cdv ct), osl⟩) (hcd : PySem.W.codeIn K cdv qual = true) (S : FnScope N ps scope)
    (hl : vs.length = ps.length) (hr : Room (k + 1) A) (e0 : Env0 P w K mg base A outer s H) (hb : BindsTo s (PySem.W.fnOf name qual params body scope dV kV doc pm an cdv ct) args (ps.zip us)) (r : Vals vs us)
    (hq : ∃ t, PSs (cxOf CX P w K mg base N qual scope f cdv A outer s H E) body t ∧ t { nx := fun _ H' => Q .non H', rt := Q } (start N vs) H) :
    codeAny (model P w) A (.call (.ref f) args) (CR CX outer P w H s Q E) s := by
  have KX : K.In s.heap := e0.mod.kin.keeps fun b o z => (e0.bs b o z).1
  have nl : s.heap.NoLimit := e0.mod.nolimit.keeps fun b o z => (e0.bs b o z).1
  refine codeAny_call_function hr.depth (KX _ _ lk) rfl S.co S.gen rfl (PySem.W.codeRec_of KX hcd) (hb _ _ _ _ ?_)
  refine wpAny_newFunctionEnv_cells S.kind (fun z hz => ?_) fun fn h1 s1 hx => ?_
  · obtain ⟨n, x⟩ := z
    rcases S.par n (List.of_mem_zip hz).1 with y | y
    · exact .inl y
    · exact .inr ⟨y, PySem.W.cellsFrom_some _ _ _ (.inl y)⟩
  · subst h1
    refine ⟨nl.keeps hx.toInCall.keep, codeAny_func ?_⟩
    obtain ⟨t, ht, go⟩ := hq
    have J0 : Inv (cxOf CX P w K mg base N qual scope f cdv A outer s H E) [] (start N vs) H s1 := inv_start S hr.hd e0 hl r hx
    refine wpAny_mono (ht.run [] s1 (start N vs) H _ J0 go) (fun fl s' hs => ?_) fun _ _ hs => hs
    have last : ∀ {σ' : L2.St} {H' : Hp} {v : V} {u : Value}, Inv (cxOf CX P w K mg base N qual scope f cdv A outer s H E) [] σ' H' s' → RelV v u → Q v H' → CE outer P w H s Q u s' := fun J rv z => ⟨_, _, J.os, J.bare, J.base, J.hok, rv, z⟩
    cases fl with
    | ret u => exact hs.elim fun v hs => hs.elim fun σ' hs => hs.elim fun H' hs => last hs.1 hs.2.1 hs.2.2
    | next => exact hs.elim fun σ' hs => hs.elim fun H' hs => last (v := V.non) (u := Value.none) hs.1 rfl hs.2
    | brk => exact hs.elim fun _ hs => hs.elim fun _ hs => False.elim hs.2
    | cont => exact hs.elim fun _ hs => hs.elim fun _ hs => False.elim hs.2
/-- the law's own call, at the claim's caller -/
theorem law_at {mb : Str → Option Value} {fa a : Addr} {s₁ : Shared} {vs : List Value} {ns : List Int} (KX : K.In s₁.heap) (n1 : s₁.heap.Ns mainGlobals mg) (n2 : s₁.heap.Ns builtinsNs mb) (n3 : ∀ x : Str, x ≠ "__name__" → mb x = bootBuiltins x) (nl : s₁.heap.NoLimit) (hg : s₁.gens = #[])
    (ha : s₁.heap.get? a = some { cls := .type "list", data := .seq vs.toArray }) (hi : IntsAre vs ns) (hl : ns.length ≤ sizeLine)
    (F : ∀ (base : Heap) (H : Hp), Env0 P w K mg base callerA [] s₁ H → SqL K H a (ns.map V.int) → codeAny (model P w) callerA (.call (.ref fa) ⟨[.ref a], []⟩) (CR CX0 [] P w H s₁ (fun v _ => v = .bl true) fun _ _ _ => False) s₁) :
    codeAny (model P w) callerA (.call (.ref fa) ⟨[.ref a], []⟩) (fun r s' => r = .ok (.ret (.bool true)) ∧ OldK s₁.heap s'.heap ∧ s'.os = s₁.os ∧ AllBare s'.gens) s₁ := by
  have vv := vals_ints hi
  have vl := hi.length
  have main : ∀ H : Hp, Only H → SqL K H a (ns.map V.int) → HOk P w H s₁.heap → (∀ b, H b ≠ none → b = a ∧ K.lookup a = none) → codeAny (model P w) callerA (.call (.ref fa) ⟨[.ref a], []⟩) (fun r s' => r = .ok (.ret (.bool true)) ∧ OldK s₁.heap s'.heap ∧ s'.os = s₁.os ∧ AllBare s'.gens) s₁ := by
    intro H hO hS hok only
    have nd : ∀ {b : Addr} {o : Obj} {es : Array DictEntry} {ep : Nat}, s₁.heap.get? b = some o → o.data = .dict es ep → H b = none := fun {b o es ep} z y => by
      by_cases t : H b = none
      · exact t
      · obtain ⟨rfl, _⟩ := only b t
        rw [ha] at z
        have z2 := Option.some.inj z
        rw [← z2] at y
        exact absurd (show Data.seq vs.toArray _ = Data.dict es ep from y) (by intro q; cases q)
    have nsb : ∀ {b : Addr} {m : Str → Option Value}, s₁.heap.Ns b m → (hidT s₁.heap H).Ns b m := fun {b m} ⟨o, es, ep, z, y, t⟩ => ⟨o, es, ep, hidT_get z (nd z y), y, t⟩
    have kb : K.In (hidT s₁.heap H) := fun b o z => hidT_get (KX b o z) (by
      by_cases t : H b = none
      · exact t
      · obtain ⟨rfl, y⟩ := only b t
        rw [y] at z; cases z)
    have M0 : Mod K mg (hidT s₁.heap H) := ⟨kb, nsb n1, ⟨mb, nsb n2, n3⟩, nl.elim fun mc y => ⟨mc, nsb y.1, y.2⟩⟩
    have E0 : Env0 P w K mg (hidT s₁.heap H) callerA [] s₁ H := ⟨rfl, M0, fun b o z => of_hidT z, Nat.le_of_eq (hidT_size _ _), trivial, fun b y => (nomatch (show b ∈ ([] : List Addr) from y)), hok, .of_eq hg⟩
    refine codeAny_mono (F _ H E0 hS) fun r s' z => ?_
    match r, z with
    | .error e, z => exact False.elim z
    | .ok .next, z => exact False.elim z
    | .ok .brk, z => exact False.elim z
    | .ok .cont, z => exact False.elim z
    | .ok (.ret u), z =>
      obtain ⟨v, H', os, bare, un, hok', rv, hv⟩ := z
      have hv' : v = .bl true := hv
      subst hv'
      have hu : u = Value.bool true := rv
      subst hu
      refine ⟨rfl, OldK.of_keep fun b o z => ?_, os, bare⟩
      rcases hO b with y | ⟨ob, xs, y⟩
      · exact un.keep b o z y (fun t => (nomatch (show b ∈ ([] : List Addr) from t))) (by simp)
      · obtain ⟨z1, _⟩ := hok b _ y
        obtain ⟨z2, _⟩ := hok' b _ (un.frzs b ob _ y)
        rw [z] at z1
        rw [z2]; exact z1.symm
  cases hk : K.lookup a with
  | none =>
    have hH : ∀ b u, (if b = a then some (HO.frz { cls := .type "list", data := .seq vs.toArray } (.lst (ns.map V.int))) else none) = some u → b = a ∧ u = HO.frz { cls := .type "list", data := .seq vs.toArray } (.lst (ns.map V.int)) := fun b u z => by
      split at z
      · rename_i y; exact ⟨y, (Option.some.inj z).symm⟩
      · cases z
    refine main (fun b => if b = a then some (.frz { cls := .type "list", data := .seq vs.toArray } (.lst (ns.map V.int))) else none) (fun b => ?_) (.inl (.inr ⟨_, if_pos rfl⟩)) (fun b u z => ?_) fun b z => ?_
    · by_cases y : b = a
      · exact .inr ⟨_, _, if_pos y⟩
      · exact .inl (if_neg y)
    · obtain ⟨rfl, rfl⟩ := hH b u z
      exact ⟨ha, by rw [List.length_map]; exact hl, vs, _, vv, ha⟩
    · by_cases y : b = a
      · exact ⟨y, hk⟩
      · exact absurd (if_neg y) z
  | some o =>
    have y := KX a o hk
    rw [ha] at y
    cases y
    exact main (fun _ => none) (fun _ => .inl rfl) (.inr ⟨_, vs.toArray, _, hk, rfl, rfl, rfl, by rw [List.size_toArray, vl]; exact hl, by simpa using vv⟩) (fun b u z => (nomatch (show (none : Option HO) = some u from z))) fun b z => absurd rfl z
end
theorem walk_at {l : PySem.W.OpenLaw} {n : Nat} {q : Program} {loose : List Str} {XP : (Str → Option Value) → Heap → Prop} {YP : World → Heap → Prop} {d : DefRec} {K : Params → PySem.W.Frag} (hn : l.most = some n) (hn2 : n ≤ sizeLine) (hdf : d.params.defaults = []) (hY : ∀ (w : World) (h : Heap), YP w h → (K w.params).In h)
    (F : ∀ (w : World) (mg : Str → Option Value) (fa : Addr) (s₁ : Shared), (K w.params).In s₁.heap → s₁.heap.Ns mainGlobals mg → mg d.name = some (.ref fa) → ∀ (base : Heap) (H : Hp) (a : Addr) (ns : List Int), ns.length ≤ n → Env0 l.prog w (K w.params) mg base callerA [] s₁ H → SqL (K w.params) H a (ns.map V.int) →
      codeAny (model l.prog w) callerA (.call (.ref fa) ⟨[.ref a], []⟩) (CR CX0 [] l.prog w H s₁ (fun v _ => v = .bl true) fun _ _ _ => False) s₁) :
    PySem.W.WalkO q loose XP YP l.row.toRowW d [] (fun f vs => PySem.call f vs) := by
  refine Att.attach_call hn hdf fun w s₀ s₁ mg mb fa o pm cd doc a vs ns G Y ho hd hcd hmg hobj hints hlen hg => ?_
  have KX := hY w _ Y
  exact law_at KX G.T.g G.T.b G.T.builtins G.T.nolimit hg hobj hints (Nat.le_trans hlen hn2) fun base H e0 hS => F w mg fa s₁ KX G.T.g hmg base H a ns hlen e0 hS
end Cal


namespace Cal
open PySem PySem.Spec PyProof.Rows L2
/-! ### things -/
structure Th (n k : Nat) (d : D) : Prop where
  ok : okD d = true
  w : wd d ≤ n
  dp : dep d ≤ k
  nn : noD d = true ∨ noL d = true
theorem Th.mono {n k n' k' : Nat} {d : D} (h : Th n k d) (a : n ≤ n') (b : k ≤ k') : Th n' k' d := ⟨h.ok, Nat.le_trans h.w a, Nat.le_trans h.dp b, h.nn⟩
def ThA (n k : Nat) : List D → Prop
  | [] => True | d :: r => Th n k d ∧ ThA n k r
theorem ThA.mem {n k : Nat} : ∀ {ds : List D}, ThA n k ds → ∀ d ∈ ds, Th n k d
  | e :: r, h, d, hd => by
    rcases List.mem_cons.mp hd with z | z
    · rw [z]; exact h.1
    · exact ThA.mem h.2 d z
/-- neither list nor dict in it -/
def cl (d : D) : Bool := okD d && noD d && noL d
theorem cl_iff {d : D} : cl d = true ↔ okD d = true ∧ noD d = true ∧ noL d = true := by
  unfold cl
  rw [Bool.and_eq_true, Bool.and_eq_true, and_assoc]
theorem cl_tup {ds : List D} : cl (.tup ds) = true ↔ ∀ d ∈ ds, cl d = true := by
  induction ds with
  | nil => simp [cl, okD, okA, noD, noDA, noL, noLA]
  | cons d r ih =>
    rw [List.forall_mem_cons, ← ih]
    simp only [cl, okD, okA, noD, noDA, noL, noLA, Bool.and_eq_true]
    constructor
    · rintro ⟨⟨⟨a, b⟩, c, d⟩, e, f⟩; exact ⟨⟨⟨a, c⟩, e⟩, ⟨b, d⟩, f⟩
    · rintro ⟨⟨⟨a, c⟩, e⟩, ⟨b, d⟩, f⟩; exact ⟨⟨⟨a, b⟩, c, d⟩, e, f⟩
theorem Th.clean {n k : Nat} {d : D} (h : cl d = true) (hw : wd d ≤ n) (hd : dep d ≤ k) : Th n k d := ⟨(cl_iff.mp h).1, hw, hd, .inl (cl_iff.mp h).2.1⟩
theorem Th.tup {n k : Nat} {ds : List D} (h : ∀ d ∈ ds, cl d = true) (hw : wdA ds + 3 ≤ n) (hd : depA ds + 1 ≤ k) : Th n k (.tup ds) := .clean (cl_tup.mpr h) hw hd
theorem Th.lst {n k : Nat} {ds : List D} (h : ∀ d ∈ ds, cl d = true) (hw : wdA ds + 3 ≤ n) (hd : depA ds + 1 ≤ k) : Th n k (.lst ds) :=
  ⟨by show okA ds = true; exact okA_all fun d hd => (cl_iff.mp (h d hd)).1, hw, hd, .inl (by show noDA ds = true; exact noDA_all fun d hd => (cl_iff.mp (h d hd)).2.1)⟩
/-- one item of a clean tuple put by a thing -/
theorem Th.put {n k : Nat} {as bs : List D} {e : D} {m j : Nat} (ha : ∀ d ∈ as, cl d = true) (hb : ∀ d ∈ bs, cl d = true) (he : Th m j e) (hw : wdA as + (m + 2) + wdA bs + 3 ≤ n) (hd : max (depA as) (max j (depA bs)) + 1 ≤ k) : Th n k (.tup (as ++ [e] ++ bs)) := by
  refine ⟨?_, ?_, ?_, ?_⟩
  · show okA (as ++ [e] ++ bs) = true
    rw [okA_app, okA_app, okA_all fun d hd => (cl_iff.mp (ha d hd)).1, okA_all fun d hd => (cl_iff.mp (hb d hd)).1]
    simp [okA, he.ok]
  · show wdA (as ++ [e] ++ bs) + 3 ≤ n
    have := he.w
    rw [wdA_app, wdA_app]
    show wdA as + (wd e + 2 + 0) + wdA bs + 3 ≤ n
    omega
  · show depA (as ++ [e] ++ bs) + 1 ≤ k
    have := he.dp
    rw [depA_app, depA_app]
    show max (max (depA as) (max (dep e) 0)) (depA bs) + 1 ≤ k
    omega
  · rcases he.nn with z | z
    · left
      show noDA (as ++ [e] ++ bs) = true
      rw [noDA_app, noDA_app, noDA_all fun d hd => (cl_iff.mp (ha d hd)).2.1, noDA_all fun d hd => (cl_iff.mp (hb d hd)).2.1]
      simp [noDA, z]
    · right
      show noLA (as ++ [e] ++ bs) = true
      rw [noLA_app, noLA_app, noLA_all fun d hd => (cl_iff.mp (ha d hd)).2.2, noLA_all fun d hd => (cl_iff.mp (hb d hd)).2.2]
      simp [noLA, z]
theorem wdA_cons {d : D} {r : List D} : wdA (d :: r) = wd d + 2 + wdA r := rfl
theorem wdA_sub {as bs : List D} (h : as.Sublist bs) : wdA as ≤ wdA bs := by
  induction h with
  | slnil => exact Nat.le_refl _
  | cons a _ ih => rw [wdA_cons]; omega
  | cons_cons a _ ih => rw [wdA_cons, wdA_cons]; omega
theorem depA_sub {as bs : List D} (h : ∀ d ∈ as, d ∈ bs) : depA as ≤ depA bs := depA_le fun d hd => depA_mem (h d hd)
theorem wdA_perm {as bs : List D} (h : as.Perm bs) : wdA as = wdA bs := by
  induction h with
  | nil => rfl
  | cons x _ ih => rw [wdA_cons, wdA_cons]; omega
  | swap x y l => show wd y + 2 + (wd x + 2 + wdA l) = wd x + 2 + (wd y + 2 + wdA l); omega
  | trans _ _ h1 h2 => omega
theorem cutD_sub (ds : List D) (lo hi : Option Int) : (cutD ds lo hi).Sublist ds := (List.take_sublist _ _).trans (List.drop_sublist _ _)
theorem cutD_take (ds : List D) {i : Int} (h : 0 ≤ i) : cutD ds none (some i) = ds.take i.toNat := by
  obtain ⟨k, rfl⟩ := Int.eq_ofNat_of_zero_le h
  unfold cutD
  rw [show HT.sIx ds.length ds.length (some (k : Int)) = min k ds.length from HT.sIx_nat ds.length ds.length k, HT.sIx_none, List.drop_zero, Nat.sub_zero]
  rw [show (k : Int).toNat = k from rfl]
  by_cases z : k ≤ ds.length
  · rw [Nat.min_eq_left z]
  · rw [Nat.min_eq_right (by omega), List.take_length, List.take_of_length_le (by omega)]
theorem cutD_drop (ds : List D) {i : Int} (h : 0 ≤ i) : cutD ds (some i) none = ds.drop i.toNat := by
  obtain ⟨k, rfl⟩ := Int.eq_ofNat_of_zero_le h
  unfold cutD
  rw [show HT.sIx ds.length 0 (some (k : Int)) = min k ds.length from HT.sIx_nat ds.length 0 k, HT.sIx_none]
  rw [show (k : Int).toNat = k from rfl]
  by_cases z : k ≤ ds.length
  · rw [Nat.min_eq_left z, List.take_of_length_le (by rw [List.length_drop]; omega)]
  · rw [Nat.min_eq_right (by omega), Nat.sub_self, List.take_zero, List.drop_of_length_le (by omega)]
/-! ### what a drawn placement is made of -/
mutual
def ptD : D → Bool
  | .int i => decide (0 ≤ i) && decide (i < 1000)
  | .str s => decide (s.length ≤ 10) && s.cps.toList.all fun c => decide (97 ≤ c) && decide (c ≤ 122)
  | .tup ds => ptA ds
  | _ => false
def ptA : List D → Bool
  | [] => true | d :: ds => ptD d && ptA ds
end
theorem ptA_mem : ∀ {ds : List D}, ptA ds = true → ∀ d ∈ ds, ptD d = true
  | e :: r, h, d, hd => by
    have h' : ptD e = true ∧ ptA r = true := by simpa [ptA] using h
    rcases List.mem_cons.mp hd with z | z
    · rw [z]; exact h'.1
    · exact ptA_mem h'.2 d z
theorem ptA_all {ds : List D} (h : ∀ d ∈ ds, ptD d = true) : ptA ds = true := by
  induction ds with
  | nil => rfl
  | cons d r ih => simp [ptA, h d (List.mem_cons_self ..), ih fun e he => h e (List.mem_cons_of_mem _ he)]
theorem strOk_of {s : Str} (h : ∀ c ∈ s.cps.toList, c < 1114112) : PyData.strOk s = true := by
  unfold PyData.strOk
  exact Array.all_eq_true_iff_forall_mem.mpr fun c hc => decide_eq_true (h c (Array.mem_toList_iff.mpr hc))
theorem cl_str {s : Str} (h : ∀ c ∈ s.cps.toList, c < 1114112) : cl (.str s) = true := by
  simp [cl, okD, noD, noL, strOk_of h]
theorem cl_int {i : Int} (h : i.natAbs < 2 ^ 200) : cl (.int i) = true := by
  simp only [cl, okD, noD, noL, Bool.and_true, decide_eq_true h]
theorem pt_str {s : Str} (h : ptD (.str s) = true) : s.length ≤ 10 ∧ ∀ c ∈ s.cps.toList, 97 ≤ c ∧ c ≤ 122 := by
  have h' : (decide (s.length ≤ 10) && s.cps.toList.all fun c => decide (97 ≤ c) && decide (c ≤ 122)) = true := by simpa only [ptD] using h
  rw [Bool.and_eq_true] at h'
  refine ⟨of_decide_eq_true h'.1, fun c hc => ?_⟩
  have := List.all_eq_true.mp h'.2 c hc
  rw [Bool.and_eq_true] at this
  exact ⟨of_decide_eq_true this.1, of_decide_eq_true this.2⟩
theorem pt_int {i : Int} (h : ptD (.int i) = true) : 0 ≤ i ∧ i < 1000 := by
  have h' : (decide (0 ≤ i) && decide (i < 1000)) = true := by simpa only [ptD] using h
  rw [Bool.and_eq_true] at h'
  exact ⟨of_decide_eq_true h'.1, of_decide_eq_true h'.2⟩
theorem pt_cl : ∀ {d : D}, ptD d = true → cl d = true
  | .int i, h => cl_int (by have := pt_int h; omega)
  | .str s, h => cl_str fun c hc => by have := (pt_str h).2 c hc; omega
  | .tup ds, h => cl_tup.mpr fun d hd => pt_cl (ptA_mem (by simpa only [ptD] using h) d hd)
  | .non, h => by simp [ptD] at h
  | .bl _, h => by simp [ptD] at h
  | .raw _, h => by simp [ptD] at h
  | .lst _, h => by simp [ptD] at h
  | .dk _, h => by simp [ptD] at h
  | .dt _, h => by simp [ptD] at h
  | .obj _ _, h => by simp [ptD] at h
theorem pt_ty : ∀ {d : D}, ptD d = true → tyD d ≠ ""
  | .int i, h => by show "int" ≠ ""; decide
  | .str s, h => by show "str" ≠ ""; decide
  | .tup ds, h => by show "tuple" ≠ ""; decide
  | .non, h => by simp [ptD] at h
  | .bl _, h => by simp [ptD] at h
  | .raw _, h => by simp [ptD] at h
  | .lst _, h => by simp [ptD] at h
  | .dk _, h => by simp [ptD] at h
  | .dt _, h => by simp [ptD] at h
  | .obj _ _, h => by simp [ptD] at h
mutual
theorem pt_plain : ∀ d : D, ptD d = true → plain d = true
  | .int i, h => by simp [plain]
  | .str s, h => by
    show PyData.strOk s = true
    exact strOk_of fun c hc => by have := (pt_str h).2 c hc; omega
  | .tup ds, h => by
    show plainA ds = true
    exact ptA_plain ds (by simpa only [ptD] using h)
  | .non, h => by simp [ptD] at h
  | .bl _, h => by simp [ptD] at h
  | .raw _, h => by simp [ptD] at h
  | .lst _, h => by simp [ptD] at h
  | .dk _, h => by simp [ptD] at h
  | .dt _, h => by simp [ptD] at h
  | .obj _ _, h => by simp [ptD] at h
theorem ptA_plain : ∀ ds : List D, ptA ds = true → plainA ds = true
  | [], _ => rfl
  | d :: ds, p => by
    have p' : ptD d = true ∧ ptA ds = true := by simpa [ptA] using p
    simp [plainA, pt_plain d p'.1, ptA_plain ds p'.2]
end
/-! texts near a name -/
theorem app_mem {s t : Str} {c : Nat} (h : c ∈ (s ++ t).cps.toList) : c ∈ s.cps.toList ∨ c ∈ t.cps.toList := by
  have h' : c ∈ (s.cps ++ t.cps).toList := h
  rw [Array.toList_append, List.mem_append] at h'
  exact h'
theorem Th.txt {n k : Nat} {s : Str} (h : ∀ c ∈ s.cps.toList, c < 1114112) (hw : 10 * s.length + 2 ≤ n) : Th n k (.str s) := .clean (cl_str h) hw (Nat.zero_le _)
theorem cutS_len (s : Str) (lo hi : Option Int) : (cutS s lo hi).length ≤ s.length := by
  show (((s.cps.toList.drop _).take _).toArray).size ≤ s.cps.size
  rw [List.size_toArray]
  have := ((List.take_sublist (HT.sIx s.length s.length hi - HT.sIx s.length 0 lo) (s.cps.toList.drop (HT.sIx s.length 0 lo))).trans (List.drop_sublist _ _)).length_le
  simpa using this
theorem cutS_mem {s : Str} {lo hi : Option Int} {c : Nat} (h : c ∈ (cutS s lo hi).cps.toList) : c ∈ s.cps.toList := by
  have h' : c ∈ (((s.cps.toList.drop (HT.sIx s.length 0 lo)).take (HT.sIx s.length s.length hi - HT.sIx s.length 0 lo)).toArray).toList := h
  exact ((List.take_sublist _ _).trans (List.drop_sublist _ _)).subset h'
theorem up_lt {c : Nat} (h : c < 128) : up1 c < 128 := by
  revert c
  decide +kernel
theorem upper_th {n k : Nat} {s : Str} (h : ∀ c ∈ s.cps.toList, c < 128) (hw : 10 * s.length + 2 ≤ n) : Th n k (.str (Txt.upper s)) := by
  rw [upper_ascii h]
  refine .txt (fun c hc => ?_) ?_
  · have hc' : c ∈ (s.cps.map up1).toList := hc
    rw [Array.toList_map] at hc'
    obtain ⟨x, hx, e⟩ := List.mem_map.mp hc'
    have := up_lt (h x hx)
    omega
  · show 10 * (s.cps.map up1).size + 2 ≤ n
    rw [Array.size_map]; exact hw
theorem foldl_app : ∀ (l : List (Array Nat)) (acc : Array Nat), ((l.foldl (· ++ ·) acc).size = acc.size + (l.map (·.size)).sum) ∧ ∀ c ∈ (l.foldl (· ++ ·) acc).toList, c ∈ acc.toList ∨ ∃ x ∈ l, c ∈ x.toList
  | [], acc => ⟨by simp, fun c hc => .inl hc⟩
  | x :: r, acc => by
    obtain ⟨h1, h2⟩ := foldl_app r (acc ++ x)
    refine ⟨by rw [List.foldl_cons, h1, Array.size_append, List.map_cons, List.sum_cons]; omega, fun c hc => ?_⟩
    rcases h2 c hc with z | ⟨y, hy, z⟩
    · rw [Array.toList_append, List.mem_append] at z
      rcases z with z | z
      · exact .inl z
      · exact .inr ⟨x, List.mem_cons_self .., z⟩
    · exact .inr ⟨y, List.mem_cons_of_mem _ hy, z⟩
theorem mul_th {n k m : Nat} {s : Str} (h : ∀ c ∈ s.cps.toList, c < 1114112) (hw : 10 * (m * s.length) + 2 ≤ n) (hm : 1 ≤ m) : Th n k (.str (Txt.mul s m)) := by
  have hl : s.length ≤ m * s.length := by
    have := Nat.mul_le_mul_right s.length hm
    omega
  unfold Txt.mul
  split
  · exact .txt (fun c hc => by simp [Str.empty] at hc) (by show 10 * 0 + 2 ≤ n; omega)
  · split
    · exact .txt h (by omega)
    · obtain ⟨h1, h2⟩ := foldl_app (List.replicate m s.cps) #[]
      refine .txt (fun c hc => ?_) ?_
      · rcases h2 c hc with z | ⟨x, hx, z⟩
        · simp at z
        · rw [List.eq_of_mem_replicate hx] at z
          exact h c z
      · show 10 * ((List.replicate ((m : Int).toNat) s.cps).foldl (· ++ ·) #[]).size + 2 ≤ n
        rw [show ((m : Int).toNat) = m from rfl, h1]
        have : ((List.replicate m s.cps).map (·.size)).sum = m * s.length := by
          rw [List.map_replicate, List.sum_replicate_nat]; rfl
        rw [this]
        show 10 * (0 + m * s.length) + 2 ≤ n
        omega
theorem mul_ok {s : Str} (h : s.length ≤ 10) : MulOk s 11 := ⟨by decide, fun _ _ => by
  have e : ((2 : Int) ^ 63 - 1) / 11 = 838488366986797800 := by decide
  rw [e]; omega, fun _ _ => by
  unfold PySem.Builtin.Str.tooLong
  first | exact decide_eq_false (by show ¬ _; have : s.length * (11 : Int).toNat ≤ 110 := Nat.mul_le_mul_right 11 h; have : (110 : Nat) ≤ sizeLine := by decide
                                    omega) | skip⟩
theorem ofS_mem {x : String} {c : Nat} (h : c ∈ (Str.ofString x).cps.toList) : c < 1114112 := by
  rw [PyProof.Rows.signs_ofString] at h
  obtain ⟨z, _, rfl⟩ := List.mem_map.mp h
  rcases z.valid with y | y
  · exact Nat.lt_trans y (by decide)
  · exact y.2
theorem intS_th {n k : Nat} {i : Int} (h : i.natAbs < 1000) (hn : 200 ≤ n) : Th n k (.str (Str.ofString (toString i))) := by
  refine .txt (fun c hc => ofS_mem hc) ?_
  have := int_text_length_le10 (a := i) (k := 3) (by decide) (by omega)
  rw [PySem.ofString_length]; omega
/-! ### rules -/
theorem DtA.rev {K : PySem.W.Frag} {G : Hp} : ∀ {ds : List D} {vs : List V}, DtA K G ds vs → DtA K G ds.reverse vs.reverse
  | [], _, h => by rw [show _ = [] from h]; rfl
  | d :: ds, _, ⟨v, r, q, s, t⟩ => by
    rw [q, List.reverse_cons, List.reverse_cons]
    exact DtA.append (DtA.rev t) ⟨v, [], rfl, s, rfl⟩
section
variable {B : Bs} {ρ : Ro} {μ : Mu} {d : D} {te : TE} {ds : List D} {s : Str} {i : Int}
theorem ed_dnew : Ed B tDNewK ρ μ (.dk []) := Ev.mk fun τ σ H a Q q => fun p hp => q _ _ _ rfl (At.new (dn := .dk []) a hp fun G _ e => ⟨p, [], rfl, e, rfl⟩)
theorem ed_rev (h : Ed B te ρ μ (.tup ds)) : Ed B (tRevT B.K te) ρ μ (.tup ds.reverse) := Ev.mk fun τ σ H a Q q => h.go a fun v H1 d hd a1 => by
  subst hd
  obtain ⟨G, g, p, vs, rfl, e, k⟩ := id a1.top
  exact ⟨p, vs, rfl, .inl (.inl (g.sub _ _ e)), fun p' hp' => q _ _ _ rfl (g.newTup hp' (DtA.rev k))⟩
theorem ed_upper (h : Ed B te ρ μ (.str s)) (hs : s.length ≤ 100) : Ed B (tM0 (fun x xs H Q => ∃ a, x = .str a ∧ xs = [] ∧ a.length ≤ 5592405 ∧ Q (.str (Txt.upper a)) H) te) ρ μ (.str (Txt.upper s)) := Ev.mk fun τ σ H a Q q => h.go a fun v H1 d hd a1 => by
  subst hd
  obtain ⟨G, g, hv⟩ := a1.top
  exact ⟨⟨s, hv⟩, s, hv, rfl, Nat.le_trans hs (by decide), q _ _ _ rfl (At.flat ⟨G, g⟩ fun _ => rfl)⟩
theorem rc_strI (h : i.natAbs < 1000) : RC B (fun xs H Q => ∃ i, xs = [.int i] ∧ i.natAbs.log2 < 1920 ∧ Q (.str (toString i)) H) ρ μ [.int i] (fun e => e = .str (toString i)) := rc_flat (fun _ => rfl) fun G H xs s k Q q => by
  obtain ⟨v, rfl, hv⟩ := one_arg k
  refine ⟨i, by rw [show v = V.int i from hv], ?_, q⟩
  exact Nat.lt_of_lt_of_le (lg_of (Nat.lt_of_lt_of_le h (by decide))) (by decide)
theorem rd_sub' {i j : Int} : RD B (rI0 fun i j => .int (i - j)) ρ μ (.int i) (.int j) (fun e => e = .int (i - j)) := rd_sub
end
end Cal


namespace Cal
open PySem PySem.Spec PyProof.Rows L2
/-! ### a list beside an empty one -/
def rEqE (K : PySem.W.Frag) : R2 := fun x y H Q => ∃ a b xs, x = .ref a ∧ y = .ref b ∧ SqL K H a xs ∧ SqL K H b [] ∧ Q (.bl xs.isEmpty) H
def rNeE (K : PySem.W.Frag) : R2 := fun x y H Q => ∃ a b xs, x = .ref a ∧ y = .ref b ∧ SqL K H a xs ∧ SqL K H b [] ∧ Q (.bl !xs.isEmpty) H
section
variable {X : Cx}
theorem op_eqE (hu : X.A.units < cLine) : OpR X (compareOp .Eq) (rEqE X.K) := by
  intro pins s σ H x y v u Q I rx ry h
  obtain ⟨a, b, xs, rfl, rfl, h1, h2, q⟩ := h
  cases rx
  cases ry
  obtain ⟨its, r1, p1, _⟩ := I.list h1
  obtain ⟨jts, r2, p2, _⟩ := I.list h2
  cases r2
  have fin : EP X pins σ Q (.bool xs.isEmpty) s := ⟨.bl xs.isEmpty, H, I, rfl, q⟩
  cases r1 with
  | nil =>
    exact SeqAt.RcAt.lists (e := fun _ => true) p1.isList p2.isList rfl hu (fun j h1 _ => absurd h1 (Nat.not_lt_zero _)) _ _ _ _ fin
  | cons z zs => exact SeqAt.RcAt.lists_lengths p1.isList p2.isList rfl hu _ _ _ _ fin
theorem op_neE (hu : X.A.units < cLine) : OpR X (compareOp .NotEq) (rNeE X.K) := by
  intro pins s σ H x y v u Q I rx ry h
  obtain ⟨a, b, xs, rfl, rfl, h1, h2, q⟩ := h
  cases rx
  cases ry
  obtain ⟨its, r1, p1, _⟩ := I.list h1
  obtain ⟨jts, r2, p2, _⟩ := I.list h2
  cases r2
  have fin : EP X pins σ Q (.bool !xs.isEmpty) s := ⟨.bl !xs.isEmpty, H, I, rfl, q⟩
  cases r1 with
  | nil =>
    exact SeqAt.RcNeAt.lists (e := fun _ => true) p1.isList p2.isList rfl hu (fun j h1 _ => absurd h1 (Nat.not_lt_zero _)) _ _ _ _ fin
  | cons z zs => exact SeqAt.RcNeAt.lists_lengths p1.isList p2.isList rfl hu _ _ _ _ fin
end
section
variable {B : Bs} {ρ : Ro} {μ : Mu} {ds : List D}
theorem rd_eqE : RD B (rEqE B.K) ρ μ (.lst ds) (.lst []) (fun e => e = .bl ds.isEmpty) := fun τ σ H x y a Q q => by
  obtain ⟨G, g, ⟨p, vs, rfl, e1, k1⟩, ⟨p', us, rfl, e2, k2⟩⟩ := a.two
  have hu : us = [] := k2
  subst hu
  refine ⟨p, p', vs, rfl, rfl, .inl (.inl (g.sub _ _ e1)), .inl (.inl (g.sub _ _ e2)), q (.bl vs.isEmpty) H (.bl vs.isEmpty) ?_ (At.flat ⟨G, g⟩ fun _ => rfl)⟩
  cases ds with
  | nil => rw [show vs = [] from k1]; rfl
  | cons d r => obtain ⟨v, w, rfl, _⟩ := k1; rfl
theorem rd_neE : RD B (rNeE B.K) ρ μ (.lst ds) (.lst []) (fun e => e = .bl !ds.isEmpty) := fun τ σ H x y a Q q => by
  obtain ⟨G, g, ⟨p, vs, rfl, e1, k1⟩, ⟨p', us, rfl, e2, k2⟩⟩ := a.two
  have hu : us = [] := k2
  subst hu
  refine ⟨p, p', vs, rfl, rfl, .inl (.inl (g.sub _ _ e1)), .inl (.inl (g.sub _ _ e2)), q (.bl !vs.isEmpty) H (.bl !vs.isEmpty) ?_ (At.flat ⟨G, g⟩ fun _ => rfl)⟩
  cases ds with
  | nil => rw [show vs = [] from k1]; rfl
  | cons d r => obtain ⟨v, w, rfl, _⟩ := k1; rfl
theorem rd_notIn {c : Nat} {z : Str} : RD B (fun x y H Q => ∃ (c : Nat) (z : Str), x = .str ⟨#[c]⟩ ∧ y = .str z ∧ Q (.bl (!decide (c ∈ z.cps.toList))) H) ρ μ (.str ⟨#[c]⟩) (.str z) (fun e => e = .bl (!decide (c ∈ z.cps.toList))) := rd_flat (fun _ => rfl) fun G H x y _ a b Q q => ⟨c, z, a, b, q⟩
theorem none_left {n : Nat} {c : Nat → Bool} {h : Nat → D} : (((List.range n).filter c).map h).isEmpty = (List.range n).all fun i => !c i := by
  rw [List.isEmpty_map]
  induction (List.range n) with
  | nil => rfl
  | cons x r ih =>
    rw [List.filter_cons, List.all_cons]
    cases c x with
    | true => rfl
    | false => rw [if_neg Bool.false_ne_true, ih]; rfl
end
end Cal


namespace Cal
open PySem PySem.Spec PyProof.Rows L2
/-! ### texts compared; calls by keywords alone -/
section
variable {X : Cx}
def rEqS : R2 := fun x y H Q => ∃ a b : Str, x = .str a ∧ y = .str b ∧ Q (.bl (a == b)) H
def rNeS : R2 := fun x y H Q => ∃ a b : Str, x = .str a ∧ y = .str b ∧ Q (.bl !(a == b)) H
theorem op_eqS : OpR X (compareOp .Eq) rEqS := by
  intro pins s σ H x y v u Q I rx ry h
  obtain ⟨a, b, rfl, rfl, q⟩ := h
  obtain ⟨t, rfl⟩ := rx
  obtain ⟨t', rfl⟩ := ry
  exact SeqAt.RcAt.str_str a t b t' _ _ _ _ ⟨.bl (a == b), H, I, rfl, q⟩
theorem op_neS : OpR X (compareOp .NotEq) rNeS := by
  intro pins s σ H x y v u Q I rx ry h
  obtain ⟨a, b, rfl, rfl, q⟩ := h
  obtain ⟨t, rfl⟩ := rx
  obtain ⟨t', rfl⟩ := ry
  exact SeqAt.RcNeAt.str_str a t b t' _ _ _ _ ⟨.bl !(a == b), H, I, rfl, q⟩
end
/-- a def that may be called by its name with these keywords, gV puts them in the parameters' order -/
structure CalW (P : Program) (w : World) (K : PySem.W.Frag) (mg : Str → Option Value) (base : Heap) (k : Nat) (x : Str) (ks : List Str) (gV : List V → List V → List V) (sp : Sp) : Prop where
  ex : ∃ (f : Addr) (fd : FuncData) (ps : List Str) (g : List Value → List Value → List Value), FnOk P w K mg base CX0 k f fd ps sp ∧ mg x = some (.ref f) ∧ PySem.W.keepIn K (.ref f) = true ∧ KBinds K fd ps ks g gV
section
variable {X : Cx} {k j : Nat} {x : Str} {p pos : Pos} {kws : List Keyword} {ks : List Str} {sp : Sp} {tk : TA} {gV : List V → List V → List V}
def tCallW (sp : Sp) (gV : List V → List V → List V) (tk : TA) : TE := fun σ H Q => tk σ H fun zs H1 => sp (gV [] zs) H1 Q C8.E0
theorem pe_ck (c : CalW X.prog X.w X.K X.mg X.base k x ks gV sp) (hr : Room j X.A) (hk : k ≤ j) (hg : Gl X x) (hkw : PK X kws tk) (hall : (backToKw pos (keywordEach kws X.env)).all (·.1.isSome) = true := by rfl) (hks : (backToKw pos (keywordEach kws X.env)).filterMap (·.1) = ks := by rfl)
    (hdb : (x == ("__debug__" : Str)) = false := by decide) (hpl : ((backTo pos (starEach [] X.env)).any (·.1) || (backToKw pos (keywordEach kws X.env)).any (·.1.isNone)) = false := by rfl) : PE X (.Call (.Name x p) [] kws pos) (tCallW sp gV tk) := by
  obtain ⟨f, fd, ps, g, F, hm, kp, b⟩ := c.ex
  refine ⟨fun pins s σ H Q I h => wpAny_Call_Name_kw (ld_glob I hg hm ?_ hdb)⟩
  refine PySem.W.callWith_KW0 (h₀ := X.base) I.ok.mod.kin kp hall (thn (hkw.run pos pins s σ H _ I h) fun ws s2 ⟨zs, H2, I2, rz, q2⟩ => ⟨I2.kIn, ?_⟩) hpl
  rw [hks]
  exact run_fnk (us := []) (vs := []) F (hr.mono hk) b C8.pass0 I2 .nil rz q2
end
section
variable {B : Bs} {ρ : Ro} {μ : Mu} {s t : Str} {ds : List D} {d : D}
theorem rd_neS : RD B rNeS ρ μ (.str s) (.str t) (fun e => e = .bl !(s == t)) := rd_flat (fun _ => rfl) fun G H x y _ a b Q q => ⟨s, t, a, b, q⟩
theorem rd_eqS : RD B rEqS ρ μ (.str s) (.str t) (fun e => e = .bl (s == t)) := rd_flat (fun _ => rfl) fun G H x y _ a b Q q => ⟨s, t, a, b, q⟩
theorem ed_pw {pre : List D → Prop} {post : List D → D → Prop} {t : TA} {gV : List V → List V → List V} (hgV : ∀ zs, gV [] zs = zs) (h : Ea B t ρ μ (fun l => l = ds)) (hpre : pre ds) (hpost : ∀ e, post ds e → e = d) : Ed B (tCallW (psp B.K pre post) gV t) ρ μ d := by
  have e := ed_p (B := B) (E := C8.E0) (d := d) h hpre hpost
  have e2 : tCallW (psp B.K pre post) gV t = tCall (psp B.K pre post) [] C8.E0 t := by
    unfold tCallW tCall
    funext σ H Q
    congr 1
    funext zs H1
    rw [hgV, List.append_nil]
  rw [e2]; exact e
end
end Cal


namespace Cal
open PySem PySem.Spec PyProof.Rows L2
section
variable {X : Cx}
/-! ### what is not reached; truth; a range as a value -/
theorem ps_never {st : Stmt} : PS X st (fun _ _ _ => False) := ⟨fun _ _ _ _ _ _ h => h.elim⟩
def tNever : TS := fun _ _ _ => False
theorem ps_nv {st : Stmt} : PS X st tNever := ps_never
def tTru (K : PySem.W.Frag) (ta : TE) : TT := fun σ H Q => ta σ H fun x H' => ∃ k, TruV K x H' k ∧ Q k H'
theorem pt_tru {a : Expr} {ta : TE} (ha : PE X a ta) (he : ∀ whole, isTrue a X.env whole = (do let v ← whole; standAt a.pos; holding [v] (truthy v)) := by intro _; rfl) : PT X a (tTru X.K ta) := pt_truth ha he
theorem pt_truK {K : PySem.W.Frag} {a : Expr} {ta : TE} (hK : X.K = K) (ha : PE X a ta) (he : ∀ whole, isTrue a X.env whole = (do let v ← whole; standAt a.pos; holding [v] (truthy v)) := by intro _; rfl) : PT X a (tTru K ta) := by
  subst hK
  exact pt_truth ha he
theorem cr_range1 : CallR X (.type "range") (fun vs H Q => ∃ j, vs = [V.int j] ∧ ∀ p, H p = none → Q (.ref p) (upd H p (.rng 0 j))) := by
  intro pins s σ H xs us Q I r h
  obtain ⟨j, rfl, q⟩ := h
  obtain ⟨u, rfl, rx⟩ := vals1 r
  obtain ⟨t, rfl⟩ := rx
  exact call_range_1 ⟨.ref s.heap.objs.size, upd H s.heap.objs.size (.rng 0 j), I.laid (t' := s.toks + 1 + 1) (fun b o e => Heap.get?_push_of_some _ e) (Nat.le_refl _) ⟨_, _, _, Heap.get?_push_size _ rfl⟩, rfl, q _ (I.hok.fresh (Nat.le_refl _))⟩
def iRngV (tl : TE) : TI := fun σ H R => tl σ H fun x H1 => ∃ (a : Addr) (lo hi : Int), x = .ref a ∧ H1 a = some (.rng lo hi) ∧ (-(2 ^ 62) ≤ lo ∧ lo < 2 ^ 62 ∧ -(2 ^ 62) ≤ hi ∧ hi < 2 ^ 62) ∧ R (Itr lo (hi - lo).toNat) H1
theorem pi_rngV {tg l : Expr} {tl : TE} (hl : PE X l tl) : PI X tg l (iRngV tl) := by
  refine ⟨fun pins s σ H R I h => ?_⟩
  refine thn (hl.run pins s σ H _ I h) fun v s1 ⟨x, H1, I1, r1, q1⟩ => ?_
  obtain ⟨a, lo, hi, rfl, ha, ⟨b1, b2, b3, b4⟩, q⟩ := q1
  cases r1
  obtain ⟨t, u, w, ho⟩ := (show ObjOk X.prog X.w H1 s1.heap a (.rng lo hi) from I1.hok a _ ha)
  refine wpAny_pyIter_range ho (small_one b1 b2 b3 b4) ?_
  refine ⟨s1.heap.objs.size, [s1.heap.objs.size], _, _, H1, rfl, I1.kept (t' := s1.toks) fun b o e => Heap.get?_push_of_some _ e, turn_range _ lo (hi - lo).toNat, ?_, fun b hb => ?_, q⟩
  · have e1 : lo + ((0 : Nat) : Int) * 1 = lo := by simp
    have e2 : (((hi - lo).toNat : Nat) : Int) - ((0 : Nat) : Int) = Builtin.Range.rangeSize lo hi 1 := by rw [rangeSize_one]; split <;> omega
    show IsRangeIter _ _ (lo + ((0 : Nat) : Int) * 1) ((((hi - lo).toNat : Nat) : Int) - ((0 : Nat) : Int)) 1
    rw [e1, e2]
    exact Heap.get?_push_size _ rfl
  · have e : b = s1.heap.objs.size := by simpa using hb
    subst e
    exact I1.fpOk (Nat.le_refl _) (I1.hok.fresh (Nat.le_refl _))
end
section
variable {B : Bs} {ρ : Ro} {μ : Mu} {te ta : TE} {ds : List D} {d : D} {p : Addr} {lo hi i : Int} {s : Str} {ss : List Str} {is : List Int} {tt tt1 : TT} {P : D → Prop}
theorem eb_truT (h : Ed B te ρ μ (.tup ds)) : Eb B (tTru B.K te) ρ μ (!ds.isEmpty) := fun τ σ H a Q q => h.go a fun v H1 d hd a1 => by
  subst hd
  obtain ⟨G, g, p, vs, rfl, e, k⟩ := id a1.top
  refine ⟨!vs.isEmpty, .inr (.inl ⟨vs, .inl (.inl (g.sub _ _ e)), rfl⟩), q _ H1 ?_ a1.pop⟩
  cases ds with
  | nil => rw [show vs = [] from k]; rfl
  | cons x r => obtain ⟨v, w, rfl, _⟩ := k; rfl
/-- in a tuple of texts, of integers -/
theorem rd_inS : RD B (rIn B.K false) ρ μ (.str s) (.tup (ss.map .str)) (fun e => e = .bl (decide (s ∈ ss))) := fun τ σ H x y a Q q => by
  obtain ⟨G, g, hx, ⟨p, vs, rfl, e1, k1⟩⟩ := a.two
  have hx' : x = V.str s := hx
  have hv := k1.strs
  subst hx'; subst hv
  refine ⟨p, _, rfl, .inr (.inl (.inl (g.sub _ _ e1))), rfl, by rw [List.all_map]; exact List.all_eq_true.mpr fun _ _ => rfl, ?_⟩
  have e : inV (.str s) (ss.map V.str) = decide (s ∈ ss) := by
    unfold inV
    rw [List.any_map]
    by_cases h : s ∈ ss
    · rw [decide_eq_true h]
      exact List.any_eq_true.mpr ⟨s, h, by show (s == s) = true; exact beq_self_eq_true s⟩
    · rw [decide_eq_false h]
      refine List.any_eq_false.mpr fun y hy z => h ?_
      have z' : (y == s) = true := z
      rw [← eq_of_beq z']; exact hy
  show Q (.bl (inV (.str s) (ss.map V.str))) H
  rw [e]
  exact q _ H _ rfl (At.flat ⟨G, g⟩ fun _ => rfl)
theorem rd_inI : RD B (rIn B.K false) ρ μ (.int i) (.tup (is.map .int)) (fun e => e = .bl (decide (i ∈ is))) := fun τ σ H x y a Q q => by
  obtain ⟨G, g, hx, ⟨p, vs, rfl, e1, k1⟩⟩ := a.two
  have hx' : x = V.int i := hx
  have hv := k1.ints
  subst hx'; subst hv
  refine ⟨p, _, rfl, .inr (.inl (.inl (g.sub _ _ e1))), rfl, by rw [List.all_map]; exact List.all_eq_true.mpr fun _ _ => rfl, ?_⟩
  have e : inV (.int i) (is.map V.int) = decide (i ∈ is) := by
    unfold inV
    rw [List.any_map]
    by_cases h : i ∈ is
    · rw [decide_eq_true h]
      exact List.any_eq_true.mpr ⟨i, h, by show (i == i) = true; exact beq_self_eq_true i⟩
    · rw [decide_eq_false h]
      refine List.any_eq_false.mpr fun y hy z => h ?_
      have z' : (y == i) = true := z
      rw [← eq_of_beq z']; exact hy
  show Q (.bl (inV (.int i) (is.map V.int))) H
  rw [e]
  exact q _ H _ rfl (At.flat ⟨G, g⟩ fun _ => rfl)
/-- a range as a cell -/
theorem xv_rng (h : Ed B te ρ μ (.int hi)) : Xv B (tCB (fun vs H Q => ∃ j, vs = [V.int j] ∧ ∀ p, H p = none → Q (.ref p) (upd H p (.rng 0 j))) (tCons te tNil)) ρ μ (fun d μ' => ∃ p, d = .raw (.ref p) ∧ μ' = (p, .rg 0 hi) :: μ) := fun τ σ H a Q q => h.go a fun v H1 d hd a1 => by
  subst hd
  obtain ⟨G, g, hv⟩ := id a1.top
  refine ⟨hi, by rw [show v = V.int hi from hv], fun p hp => q _ _ _ _ ⟨p, rfl, rfl⟩ ?_⟩
  exact At.flat (At.newCell (c := .rg 0 hi) a1.pop hp fun G _ => upd_same).1 fun _ => rfl
theorem ei_rngV {k : Nat} (h : Ed B te ρ μ (.raw (.ref p))) (hm : μ[k]? = some (p, .rg lo hi)) (hb : -(2 ^ 62) ≤ lo ∧ lo < 2 ^ 62 ∧ -(2 ^ 62) ≤ hi ∧ hi < 2 ^ 62) : Ei B (iRngV te) ρ μ (hi - lo).toNat (fun k => .int (lo + k)) := fun τ σ H a Rr q => h.go a fun v H1 d hd a1 => by
  subst hd
  obtain ⟨G, g, hv⟩ := id a1.top
  refine ⟨p, lo, hi, hv, (g.cells _ (List.mem_of_getElem? hm)).2.2.2, hb, q _ H1 _ (fun z hz => List.mem_cons_of_mem _ hz) a1 fun k ρ' μ' τ' σ' H' hsub a2 => ⟨fun hi => hi, fun hi => ⟨hi, fun y H2 hy => ?_⟩⟩⟩
  obtain ⟨rfl, rfl⟩ := hy
  exact At.flat a2 fun G => rfl
/-- two fors in a comprehension -/
theorem ed_lc2x {wi wi1 : TI} {g g1 : TG} {vs vs1 js js1 : List Nat} {n : Nat} {m : Nat → Nat} {f : Nat → D} {f1 h : Nat → Nat → D} (hi : Ei B wi ρ μ n f) (ρi : Nat → Ro) (ρj : Nat → Nat → Ro) (hjs : ∀ k ∈ js, k ∈ vs) (hjs1 : ∀ k ∈ js1, k ∈ vs1) (c : Nat → Nat → Bool)
    (hg : ∀ i, i < n → ∀ cl, Gd B g (wipeR ρ vs) (cl :: μ) (f i) (ρi i) js) (hi1 : ∀ i, i < n → ∀ cl, Ei B wi1 (ρi i) (cl :: μ) (m i) (f1 i)) (hg1 : ∀ i, i < n → ∀ j, j < m i → ∀ cl, Gd B g1 (wipeR (ρi i) vs1) (cl :: μ) (f1 i j) (ρj i j) js1)
    (ht : ∀ i, i < n → ∀ j, j < m i → ∀ cl, Eb B tt1 (ρj i j) (cl :: μ) (c i j)) (he : ∀ i, i < n → ∀ j, j < m i → c i j = true → ∀ cl, Ed B te (ρj i j) (cl :: μ) (h i j)) (hz : ∀ i, i ≤ n → ((List.range i).flatMap fun i => ((List.range (m i)).filter (c i)).map (h i)).length ≤ 1000000) :
    Ed B (tLc2 wi g tYes wi1 g1 tt1 te vs vs1) ρ μ (.lst ((List.range n).flatMap fun i => ((List.range (m i)).filter (c i)).map (h i))) := Ev.mk fun τ σ H a Q q => hi (sv ρ σ ++ τ) σ H a.save _ fun J H1 τ1 hsub a1 hJ Dl hD => by
  have hf := a.fits
  have row : ∀ (i j : Nat), (List.range (j + 1)).filter (c i) = (List.range j).filter (c i) ++ (if c i j = true then [j] else []) := fun i j => by
    rw [List.range_succ, List.filter_append]
    congr 1
    by_cases z : c i j = true
    · rw [if_pos z, List.filter_cons, if_pos z]; rfl
    · rw [if_neg z, List.filter_cons, if_neg z]; rfl
  refine ⟨fun i k H => k = n - i ∧ i ≤ n ∧ At B ρ ((Dl, .lst ((List.range i).flatMap fun i => ((List.range (m i)).filter (c i)).map (h i))) :: μ) τ1 σ H, ⟨n, by omega, Nat.zero_le _, (At.newCell (c := .lst []) (o := .lst []) a1 hD fun G _ => ⟨[], upd_same, rfl⟩).1⟩, fun i k H2 hW => ?_⟩
  obtain ⟨rfl, hin, a2⟩ := hW
  obtain ⟨s1, s2⟩ := hJ i ρ _ τ1 σ H2 (fun _ z => z) a2
  by_cases hlt : i < n
  · obtain ⟨s3, s4⟩ := s2 hlt
    refine .inr ⟨s3, fun H => At B ρ ((Dl, .lst ((List.range (i + 1)).flatMap fun i => ((List.range (m i)).filter (c i)).map (h i))) :: μ) τ1 σ H, fun H' h2 => ⟨n - (i + 1), by omega, rfl, hlt, h2⟩, fun x H3 hy => ?_⟩
    refine hg i hlt _ τ1 (wipe σ vs) H3 x (At.wiped (s4 x H3 hy) vs) _ fun σ2 a3 hl3 hk3 => ⟨wipe_ext hjs hl3 hk3, ?_⟩
    refine tYes_if ?_
    have hf2 := a3.fits
    refine hi1 i hlt _ (sv (ρi i) σ2 ++ τ1) σ2 H3 a3.save _ fun J1 H4 τ2 hsub2 a4 hJ1 => ?_
    have e0 : (List.range i).flatMap (fun i => ((List.range (m i)).filter (c i)).map (h i)) = (List.range i).flatMap (fun i => ((List.range (m i)).filter (c i)).map (h i)) ++ ((List.range 0).filter (c i)).map (h i) := by rw [List.range_zero]; simp
    rw [e0] at a4
    refine ⟨fun j k H => k = m i - j ∧ j ≤ m i ∧ At B (ρi i) ((Dl, .lst ((List.range i).flatMap (fun i => ((List.range (m i)).filter (c i)).map (h i)) ++ ((List.range j).filter (c i)).map (h i))) :: μ) τ2 σ2 H, ⟨m i, by omega, Nat.zero_le _, a4⟩, fun j k H5 hW1 => ?_⟩
    obtain ⟨rfl, hjn, a5⟩ := hW1
    obtain ⟨t1, t2⟩ := hJ1 j (ρi i) _ τ2 σ2 H5 (fun _ z => z) a5
    by_cases hj : j < m i
    · obtain ⟨t3, t4⟩ := t2 hj
      refine .inr ⟨t3, fun H => At B (ρi i) ((Dl, .lst ((List.range i).flatMap (fun i => ((List.range (m i)).filter (c i)).map (h i)) ++ ((List.range (j + 1)).filter (c i)).map (h i))) :: μ) τ2 σ2 H, fun H' h2 => ⟨m i - (j + 1), by omega, rfl, hj, h2⟩, fun x1 H6 hy1 => ?_⟩
      refine hg1 i hlt j hj _ τ2 (wipe σ2 vs1) H6 x1 (At.wiped (t4 x1 H6 hy1) vs1) _ fun σ3 a6 hl6 hk6 => ⟨wipe_ext hjs1 hl6 hk6, ?_⟩
      refine ht i hlt j hj _ τ2 σ3 H6 a6 _ fun b H7 hb a7 => ?_
      subst hb
      cases hc : c i j with
      | true =>
        rw [if_pos rfl]
        refine (he i hlt j hj hc _).go a7 fun y H8 dy hdy a8 => ?_
        subst hdy
        obtain ⟨G, g5, vs5, e5, k5⟩ := a8.cell (j := 0) rfl
        refine ⟨vs5, e5, ?_, ?_⟩
        · rw [k5.length]
          have h1 := hz (i + 1) hlt
          have h2 : ((List.range i).flatMap (fun i => ((List.range (m i)).filter (c i)).map (h i)) ++ ((List.range j).filter (c i)).map (h i)).length ≤ ((List.range (i + 1)).flatMap fun i => ((List.range (m i)).filter (c i)).map (h i)).length := by
            rw [List.range_succ, List.flatMap_append, List.length_append, List.length_append, List.flatMap_cons, List.flatMap_nil, List.append_nil, List.length_map, List.length_map]
            have h3 : ((List.range j).filter (c i)).Sublist ((List.range (m i)).filter (c i)) := List.Sublist.filter _ (by
              rw [show List.range j = (List.range (m i)).take j by rw [List.take_range, Nat.min_eq_left hjn]]
              exact List.take_sublist _ _)
            have := h3.length_le
            omega
          exact Nat.lt_of_le_of_lt (Nat.le_trans h2 h1) (by decide)
        · have a9 := At.write (j := 0) (c' := .lst ((List.range i).flatMap (fun i => ((List.range (m i)).filter (c i)).map (h i)) ++ ((List.range j).filter (c i)).map (h i) ++ [h i j])) (o := .lst (vs5 ++ [y])) a8 rfl fun G k1 ⟨vs6, e6, k6⟩ => by
            rw [e5] at e6
            cases e6
            exact ⟨_, upd_same, k6.append ⟨y, [], rfl, k1 _ (List.mem_cons_self ..), rfl⟩⟩
          have e : (List.range i).flatMap (fun i => ((List.range (m i)).filter (c i)).map (h i)) ++ ((List.range (j + 1)).filter (c i)).map (h i) = (List.range i).flatMap (fun i => ((List.range (m i)).filter (c i)).map (h i)) ++ ((List.range j).filter (c i)).map (h i) ++ [h i j] := by
            rw [row, if_pos hc, List.map_append, List.append_assoc]; rfl
          rw [e]
          exact At.restore hf2 a9.pop fun q hq => hsub2 q (List.mem_append_left _ hq)
      | false =>
        rw [if_neg Bool.false_ne_true]
        have e : ((List.range (j + 1)).filter (c i)).map (h i) = ((List.range j).filter (c i)).map (h i) := by
          rw [row, hc, if_neg Bool.false_ne_true, List.append_nil]
        rw [e]
        exact At.restore hf2 a7 fun q hq => hsub2 q (List.mem_append_left _ hq)
    · have ej : j = m i := by omega
      subst ej
      refine .inl ⟨t1 (Nat.le_refl _), ?_⟩
      have e : (List.range (i + 1)).flatMap (fun i => ((List.range (m i)).filter (c i)).map (h i)) = (List.range i).flatMap (fun i => ((List.range (m i)).filter (c i)).map (h i)) ++ ((List.range (m i)).filter (c i)).map (h i) := by
        rw [List.range_succ, List.flatMap_append, List.flatMap_cons, List.flatMap_nil, List.append_nil]
      rw [e]
      exact (At.restore hf (a5.sub fun q hq => hsub2 q (List.mem_append_right _ hq)) fun q hq => hsub q (List.mem_append_left _ hq))
  · have e : i = n := by omega
    subst e
    refine .inl ⟨s1 (Nat.le_refl _), ?_⟩
    exact q _ H2 _ rfl (a2.freeze.sub fun z hz => by
      rcases List.mem_cons.mp hz with e | e
      · rw [e]; exact List.mem_cons_self ..
      · exact List.mem_cons_of_mem _ (hsub z (List.mem_append_right _ e)))
end
end Cal


namespace Cal
open PySem PySem.Spec PyProof.Rows L2
/-! ### dicts: what stands at a key -/
section
variable {κ : Type} [DecidableEq κ]
def getD' (ds : List (κ × D)) (k : κ) : Option D := (ds.find? fun p => decide (p.1 = k)).map (·.2)
def putD (ds : List (κ × D)) (k : κ) (d : D) : List (κ × D) := if (ds.any fun p => decide (p.1 = k)) = true then ds.map (fun p => if p.1 = k then (p.1, d) else p) else ds ++ [(k, d)]
end
theorem DtT.get {K : PySem.W.Frag} {G : Hp} {k : List Key} : ∀ {ds : List (List Key × D)} {kvs : List (List Key × V)}, DtT K G ds kvs → (getD' ds k = none ∧ valV kvs k = none) ∨ ∃ d v, getD' ds k = some d ∧ valV kvs k = some v ∧ Dt K G d v
  | [], _, h => by rw [show _ = [] from h]; exact .inl ⟨rfl, rfl⟩
  | (k', d) :: ds, _, ⟨v, r, q, s, t⟩ => by
    subst q
    unfold getD' valV
    by_cases e : k' = k
    · rw [List.find?_cons_of_pos (by exact decide_eq_true e), List.find?_cons_of_pos (by exact decide_eq_true e)]
      exact .inr ⟨d, v, rfl, rfl, s⟩
    · rw [List.find?_cons_of_neg (by simpa using e), List.find?_cons_of_neg (by simpa using e)]
      exact DtT.get t
theorem DtK.get {K : PySem.W.Frag} {G : Hp} {k : Key} : ∀ {ds : List (Key × D)} {kvs : List (Key × V)}, DtK K G ds kvs → (getD' ds k = none ∧ valV kvs k = none) ∨ ∃ d v, getD' ds k = some d ∧ valV kvs k = some v ∧ Dt K G d v
  | [], _, h => by rw [show _ = [] from h]; exact .inl ⟨rfl, rfl⟩
  | (k', d) :: ds, _, ⟨v, r, q, s, t⟩ => by
    subst q
    unfold getD' valV
    by_cases e : k' = k
    · rw [List.find?_cons_of_pos (by exact decide_eq_true e), List.find?_cons_of_pos (by exact decide_eq_true e)]
      exact .inr ⟨d, v, rfl, rfl, s⟩
    · rw [List.find?_cons_of_neg (by simpa using e), List.find?_cons_of_neg (by simpa using e)]
      exact DtK.get t
theorem DtT.any {K : PySem.W.Frag} {G : Hp} {k : List Key} : ∀ {ds : List (List Key × D)} {kvs : List (List Key × V)}, DtT K G ds kvs → (ds.any fun p => decide (p.1 = k)) = kvs.any fun p => decide (p.1 = k)
  | [], _, h => by rw [show _ = [] from h]; rfl
  | (k', d) :: ds, _, ⟨v, r, q, s, t⟩ => by
    subst q
    rw [List.any_cons, List.any_cons, DtT.any t]
theorem DtT.repl {K : PySem.W.Frag} {G : Hp} {k : List Key} {d : D} {v : V} (hd : Dt K G d v) : ∀ {ds : List (List Key × D)} {kvs : List (List Key × V)}, DtT K G ds kvs → DtT K G (ds.map fun p => if p.1 = k then (p.1, d) else p) (kvs.map fun p => if p.1 = k then (p.1, v) else p)
  | [], _, h => by rw [show _ = [] from h]; rfl
  | (k', d') :: ds, _, ⟨v', r, q, s, t⟩ => by
    subst q
    rw [List.map_cons, List.map_cons]
    by_cases e : k' = k
    · rw [if_pos e, if_pos e]; exact ⟨v, _, rfl, hd, DtT.repl hd t⟩
    · rw [if_neg e, if_neg e]; exact ⟨v', _, rfl, s, DtT.repl hd t⟩
theorem DtT.app {K : PySem.W.Frag} {G : Hp} {es : List (List Key × D)} {ws : List (List Key × V)} (h2 : DtT K G es ws) : ∀ {ds : List (List Key × D)} {kvs : List (List Key × V)}, DtT K G ds kvs → DtT K G (ds ++ es) (kvs ++ ws)
  | [], _, h => by rw [show _ = [] from h]; exact h2
  | (k', d') :: ds, _, ⟨v', r, q, s, t⟩ => by
    subst q
    exact ⟨v', _, rfl, s, DtT.app h2 t⟩
theorem DtT.put {K : PySem.W.Frag} {G : Hp} {k : List Key} {d : D} {v : V} (hd : Dt K G d v) {ds : List (List Key × D)} {kvs : List (List Key × V)} (h : DtT K G ds kvs) : DtT K G (putD ds k d) (putK kvs k v) := by
  unfold putD putK
  rw [h.any]
  split
  · exact h.repl hd
  · exact DtT.app (es := [(k, d)]) (ws := [(k, v)]) ⟨v, [], rfl, hd, rfl⟩ h
theorem DtT.length {K : PySem.W.Frag} {G : Hp} : ∀ {ds : List (List Key × D)} {kvs : List (List Key × V)}, DtT K G ds kvs → kvs.length = ds.length
  | [], _, h => by rw [show _ = [] from h]; rfl
  | (k', d') :: ds, _, ⟨v', r, q, s, t⟩ => by
    subst q
    rw [List.length_cons, List.length_cons, DtT.length t]
theorem putD_len {κ : Type} [DecidableEq κ] (ds : List (κ × D)) (k : κ) (d : D) : (putD ds k d).length ≤ ds.length + 1 := by
  unfold putD
  split
  · rw [List.length_map]; omega
  · rw [List.length_append]; exact Nat.le_refl _
/-- a cell's data -/
def dOf : Cl → D
  | .lst ds => .lst ds | .dk ds => .dk ds | .dt ds => .dt ds | .rg _ _ => .non | .ob C _ fs => .obj C fs
section
variable {B : Bs} {ρ ρ' : Ro} {μ μ' : Mu} {τ : List (V × D)} {σ σ2 : L2.St} {H : Hp} {ta tb tc te tx td ty : TE} {P : D → Prop} {d e : D} {p : Addr} {x y : Int} {kvs : List (List Key × D)} {kks : List (Key × D)} {D0 : Ends} {tz : TS} {k : Nat}
theorem At.freezeC {c : Cl} (hc : ∀ lo hi, c ≠ .rg lo hi) (a : At B ρ ((p, c) :: μ) τ σ H) : At B ρ μ ((.ref p, dOf c) :: τ) σ H := by
  obtain ⟨G, g⟩ := a
  obtain ⟨n1, n2, n3, n4⟩ := (g.cells _ (List.mem_cons_self ..) : G p = none ∧ B.H0 p = none ∧ p ∉ B.M ∧ CellOk B.K G H p c)
  have n5 : ∀ us, H p ≠ some (.tup us) := fun us => n4.noTup
  obtain ⟨o, h1, h2⟩ : ∃ o, H p = some o ∧ ∀ G', Same G G' → G' p = some o → Dt B.K G' (dOf c) (.ref p) := by
    cases c with
    | lst ds => obtain ⟨vs, a, b⟩ := n4; exact ⟨_, a, fun G' s e => ⟨p, vs, rfl, e, DtA.mono s ds b⟩⟩
    | dk ds => obtain ⟨vs, a, b⟩ := n4; exact ⟨_, a, fun G' s e => ⟨p, vs, rfl, e, DtK.mono s ds b⟩⟩
    | dt ds => obtain ⟨vs, a, b⟩ := n4; exact ⟨_, a, fun G' s e => ⟨p, vs, rfl, e, DtT.mono s ds b⟩⟩
    | rg lo hi => exact absurd rfl (hc lo hi)
    | ob C dx ds => obtain ⟨vs, a, b⟩ := n4; exact ⟨_, a, fun G' s e => ⟨p, dx, vs, rfl, e, DtF.mono s ds b⟩⟩
  have sg : Same G (upd G p o) := same_new n1
  have nd := g.nd
  rw [List.map_cons, List.nodup_cons] at nd
  refine ⟨upd G p o, AtG.push ⟨fun b u e => ?_, g.inv, fun b hb => ?_, fun b us e => ?_, g.base, fun b u e => ?_, g.len, fun i d e => let ⟨v, a, c⟩ := g.slots i d e; ⟨v, a, Dt.mono sg d c⟩, fun q hq => ?_, nd.2, fun q hq => Dt.mono sg q.2 (g.temps q hq)⟩ (h2 _ sg upd_same)⟩
  · by_cases hb : b = p
    · subst hb; rw [upd_same] at e; rw [← e]; exact h1
    · rw [upd_ne hb] at e; exact g.sub b u e
  · rw [upd_ne (ne_of_mem n3 hb)]; exact g.out b hb
  · by_cases hb : b = p
    · subst hb; exact absurd e (n5 us)
    · rw [upd_ne hb]; exact g.tup b us e
  · by_cases hb : b = p
    · subst hb; exact .inl n2
    · rw [upd_ne hb] at e; exact g.ext b u e
  · obtain ⟨c1, c2, c3, c4⟩ := g.cells q (List.mem_cons_of_mem _ hq)
    refine ⟨?_, c2, c3, c4.mono sg fun o e => e⟩
    rw [upd_ne (fun z => nd.1 (List.mem_map.mpr ⟨q, hq, z⟩))]; exact c1
theorem xv_dnewT : Xv B tDNewT ρ μ (fun d μ' => ∃ p, d = .raw (.ref p) ∧ μ' = (p, .dt []) :: μ) := fun τ σ H a Q q => fun p hp => q _ _ _ _ ⟨p, rfl, rfl⟩ (At.flat (At.newCell (c := .dt []) a hp fun G _ => ⟨[], upd_same, rfl⟩).1 fun _ => rfl)
abbrev k2 (x y : Int) : List Key := [.inl x, .inl y]
theorem key_at {K : PySem.W.Frag} {G : Hp} {v : V} {x y : Int} (h : Dt K G (.tup [.int x, .int y]) v) : ∃ q, v = .ref q ∧ G q = some (.tup ((k2 x y).map kV)) := by
  obtain ⟨q, vs, rfl, e, k⟩ := h
  have := DtA.ints (is := [x, y]) k
  subst this
  exact ⟨q, rfl, e⟩
/-- steps[x, y] = d, steps a cell -/
theorem x_dputT {j : Nat} (a : At B ρ μ τ σ H) (hs : ρ[j]? = some (some (.raw (.ref p)))) (hm : μ[k]? = some (p, .dt kvs)) (hv : Ed B te ρ μ d) (hy : Ed B ty ρ μ (.tup [.int x, .int y])) (hz : kvs.length < 100000) (q : ∀ H', At B ρ (μ.set k (p, .dt (putD kvs (k2 x y) d))) τ σ H' → D0.nx σ H') : sDPut (tVar j) ty te D0 σ H := by
  refine hv.go a fun v H1 d1 hd a1 => ?_
  subst hd
  obtain ⟨w, h1, h2⟩ := a1.var hs
  obtain ⟨G, g, hw⟩ := h2.top
  refine ⟨w, h1, hy.go a1 fun u H2 d2 hd2 a2 => ?_⟩
  subst hd2
  obtain ⟨G2, g2⟩ := id a2
  obtain ⟨qa, rfl, hq⟩ := key_at (g2.temps _ (List.mem_cons_self ..))
  obtain ⟨ws, e3, k3⟩ := (g2.cells _ (List.mem_of_getElem? hm)).2.2.2
  refine ⟨p, _, hw, DPut.t e3 (g2.sub _ _ hq) (by rw [k3.length]; exact Nat.lt_trans hz (by decide)), q _ (At.pop (At.pop (At.write (c' := .dt (putD kvs (k2 x y) d1)) a2 hm fun G' k' hc => ?_)))⟩
  obtain ⟨ws', e4, k4⟩ := hc
  rw [e3] at e4
  cases e4
  exact ⟨_, upd_same, k4.put (k' _ (List.mem_cons_of_mem _ (List.mem_cons_self ..)))⟩
theorem y_dputT {j : Nat} (a : At B ρ μ τ σ H) (hs : ρ[j]? = some (some (.raw (.ref p)))) (hm : μ[k]? = some (p, .dt kvs)) (hv : Ed B te ρ μ d) (hy : Ed B ty ρ μ (.tup [.int x, .int y])) (hz : kvs.length < 100000) (q : ∀ H', At B ρ (μ.set k (p, .dt (putD kvs (k2 x y) d))) τ σ H' → tz D0 σ H') : tSeq (sDPut (tVar j) ty te) tz D0 σ H := x_dputT (D0 := { D0 with nx := tz D0 }) a hs hm hv hy hz q
/-- a display of texts as keys -/
def PrOk (B : Bs) (ρ : Ro) (μ : Mu) : List (TE × TE) → List (Key × D) → Prop
  | [], [] => True
  | (tk, tv) :: r, (k, d) :: s => tk = tC (kV k) ∧ Ed B tv ρ μ d ∧ PrOk B ρ μ r s
  | _, _ => False
theorem pairs_go {B : Bs} {ρ : Ro} {μ : Mu} : ∀ (trs : List (TE × TE)) (kds : List (Key × D)) {τ : List (V × D)} {σ : L2.St} {H : Hp}, PrOk B ρ μ trs kds → At B ρ μ τ σ H → ∀ Q : List (V × V) → Hp → Prop, (∀ (vs : List V) H', vs.length = kds.length → At B ρ μ ((vs.zip (kds.map (·.2))).reverse ++ τ) σ H' → Q ((kds.map (·.1)).zipWith (fun k v => (kV k, v)) vs) H') → tPairs trs σ H Q
  | [], [], τ, σ, H, _, a, Q, q => by simp only [tPairs]; exact q [] H rfl a
  | [], _ :: _, _, _, _, h, _, _, _ => False.elim h
  | _ :: _, [], _, _, _, h, _, _, _ => False.elim h
  | (tk, tv) :: r, (k, d) :: s, τ, σ, H, h, a, Q, q => by
    obtain ⟨rfl, h2, h3⟩ := h
    simp only [tPairs, tC]
    refine h2.go a fun v H1 d' hd a1 => ?_
    subst hd
    refine pairs_go r s h3 a1 _ fun vs H2 hl a2 => q (v :: vs) H2 (by rw [List.length_cons, List.length_cons, hl]) (a2.sub fun z hz => ?_)
    rw [List.map_cons, List.zip_cons_cons, List.reverse_cons, List.append_assoc] at hz
    exact hz
theorem dtk_of {K : PySem.W.Frag} {G : Hp} : ∀ {kds : List (Key × D)} {vs : List V}, vs.length = kds.length → (∀ q ∈ vs.zip (kds.map (·.2)), Dt K G q.2 q.1) → DtK K G kds ((kds.map (·.1)).zip vs)
  | [], [], _, _ => rfl
  | [], _ :: _, h, _ => by simp at h
  | _ :: _, [], h, _ => by simp at h
  | (k, d) :: s, v :: vs, h, g => ⟨v, _, rfl, g (v, d) (List.mem_cons_self ..), dtk_of (by simpa using h) fun q hq => g q (List.mem_cons_of_mem _ hq)⟩
theorem merge_new : ∀ (kvs acc : List (Key × V)), ((acc ++ kvs).map (·.1)).Nodup → mergeK acc kvs = acc ++ kvs
  | [], acc, _ => by rw [List.append_nil]; rfl
  | (k, v) :: r, acc, h => by
    have e : putK acc k v = acc ++ [(k, v)] := by
      unfold putK
      rw [if_neg]
      intro z
      obtain ⟨p, hp, e⟩ := List.any_eq_true.mp z
      have e' : p.1 = k := of_decide_eq_true e
      rw [List.map_append, List.map_cons] at h
      exact (List.nodup_append.mp h).2.2 p.1 (List.mem_map.mpr ⟨p, hp, rfl⟩) k (List.mem_cons_self ..) e'
    show mergeK (putK acc k v) r = _
    rw [e, merge_new r _ (by rw [List.append_assoc]; exact h), List.append_assoc]; rfl
theorem ed_disp {trs : List (TE × TE)} {kds : List (Key × D)} (h : ∀ q, PrOk B ρ ((q, .dk []) :: μ) trs kds) (hn : (kds.map (·.1)).Nodup) (hl : kds.length ≤ 15) : Ed B (tDisp trs) ρ μ (.dk kds) := Ev.mk fun τ σ H a Q q => fun p hp => by
  obtain ⟨a1, _⟩ := At.newCell (c := .dk []) (o := .dK []) a hp fun G _ => ⟨[], upd_same, rfl⟩
  refine pairs_go trs kds (h p) a1 _ fun vs H2 hv a2 => ?_
  obtain ⟨G, g, ws, e, k⟩ := a2.cell (j := 0) rfl
  have hw : ws = [] := k
  subst hw
  have hz : ((kds.map (·.1)).zip vs).map (·.1) = kds.map (·.1) := by
    rw [List.map_fst_zip]; rw [List.length_map, hv]; exact Nat.le_refl _
  have hm : mergeK [] ((kds.map (·.1)).zip vs) = (kds.map (·.1)).zip vs := merge_new _ [] (by rw [List.nil_append, hz]; exact hn)
  refine ⟨e, (kds.map (·.1)).zip vs, ?_, ?_, q _ _ (.dk kds) rfl ?_⟩
  · rw [List.zip_eq_zipWith, List.map_zipWith]
  · rw [List.length_zip, List.length_map]; omega
  · rw [hm]
    have a3 := At.write (j := 0) (c' := .dk kds) (o := .dK ((kds.map (·.1)).zip vs)) a2 rfl fun G' k' _ => ⟨_, upd_same, dtk_of hv fun z hz => k' z (List.mem_append_left _ (List.mem_reverse.mpr hz))⟩
    have a4 := At.freezeC (c := .dk kds) (by intro _ _ z; cases z) a3
    exact a4.sub fun z hz => by
      rcases List.mem_cons.mp hz with y | y
      · rw [y]; exact List.mem_cons_self ..
      · exact List.mem_cons_of_mem _ (List.mem_append_right _ y)
/-- (x, y) in steps -/
theorem eb_dinC {j : Nat} (hs : ρ[j]? = some (some (.raw (.ref p)))) (hm : μ[k]? = some (p, .dt kvs)) (hy : Ed B ty ρ μ (.tup [.int x, .int y])) : Eb B (tB (tDIn ty (tVar j))) ρ μ (getD' kvs (k2 x y)).isSome := fun τ σ H a Q q => hy.go a fun u H1 d1 hd a1 => by
  subst hd
  obtain ⟨w, h1, h2⟩ := a1.var hs
  obtain ⟨G, g, hw⟩ := h2.top
  obtain ⟨qa, rfl, hq⟩ := key_at (g.temps _ (List.mem_cons_self ..))
  obtain ⟨ws, e3, k3⟩ := (g.cells _ (List.mem_of_getElem? hm)).2.2.2
  refine ⟨w, h1, p, _, hw, DGet.t e3 (g.sub _ _ hq), _, rfl, q _ H1 ?_ a1.pop⟩
  rcases k3.get (k := k2 x y) with ⟨h3, h4⟩ | ⟨dd, vv, h3, h4, _⟩ <;> rw [h3, h4] <;> rfl
theorem eb_dinT (hs : Ed B td ρ μ (.dt kvs)) (hy : Ed B ty ρ μ (.tup [.int x, .int y])) : Eb B (tB (tDIn ty td)) ρ μ (getD' kvs (k2 x y)).isSome := fun τ σ H a Q q => hy.go a fun u H1 d1 hd a1 => hs.go a1 fun w H2 d2 hd2 a2 => by
  subst hd; subst hd2
  obtain ⟨G, g⟩ := id a2
  obtain ⟨qa, rfl, hq⟩ := key_at (g.temps _ (List.mem_cons_of_mem _ (List.mem_cons_self ..)))
  obtain ⟨pa, ws, rfl, e3, k3⟩ := g.temps _ (List.mem_cons_self ..)
  refine ⟨pa, _, rfl, DGet.t (g.sub _ _ e3) (g.sub _ _ hq), _, rfl, q _ H2 ?_ a2.pop.pop⟩
  rcases k3.get (k := k2 x y) with ⟨h3, h4⟩ | ⟨dd, vv, h3, h4, _⟩ <;> rw [h3, h4] <;> rfl
theorem ed_dinT (hs : Ed B td ρ μ (.dt kvs)) (hy : Ed B ty ρ μ (.tup [.int x, .int y])) : Ed B (tDIn ty td) ρ μ (.bl (getD' kvs (k2 x y)).isSome) := Ev.mk fun τ σ H a Q q => hy.go a fun u H1 d1 hd a1 => hs.go a1 fun w H2 d2 hd2 a2 => by
  subst hd; subst hd2
  obtain ⟨G, g⟩ := id a2
  obtain ⟨qa, rfl, hq⟩ := key_at (g.temps _ (List.mem_cons_of_mem _ (List.mem_cons_self ..)))
  obtain ⟨pa, ws, rfl, e3, k3⟩ := g.temps _ (List.mem_cons_self ..)
  refine ⟨pa, _, rfl, DGet.t (g.sub _ _ e3) (g.sub _ _ hq), q (.bl (valV ws (k2 x y)).isSome) H2 (.bl (valV ws (k2 x y)).isSome) ?_ (At.flat a2.pop.pop fun _ => rfl)⟩
  rcases k3.get (k := k2 x y) with ⟨h3, h4⟩ | ⟨dd, vv, h3, h4, _⟩ <;> rw [h3, h4] <;> rfl
/-- world["steps"] -/
theorem ed_dgetK {z : Str} (hs : Ed B td ρ μ (.dk kks)) (hz : getD' kks (.inr z) = some d) : Ed B (tDGet td (tC (.str z))) ρ μ d := Ev.mk fun τ σ H a Q q => hs.go a fun w H1 d1 hd a1 => by
  subst hd
  obtain ⟨G, g, pa, ws, rfl, e3, k3⟩ := a1.top
  rcases k3.get (k := .inr z) with ⟨h3, h4⟩ | ⟨dd, vv, h3, h4, h5⟩
  · rw [hz] at h3; cases h3
  · rw [hz] at h3
    cases h3
    refine ⟨pa, vv, rfl, ?_, q vv H1 _ rfl ⟨G, g.push h5⟩⟩
    rw [← h4]
    exact DGet.k (k := Sum.inr z) (g.sub _ _ e3)
/-- steps.get((x, y), e) -/
theorem ed_dget2T (hs : Ed B td ρ μ (.dt kvs)) (hy : Ed B ty ρ μ (.tup [.int x, .int y])) (hx : Ed B tx ρ μ e) : Ed B (tDGet2 td ty tx) ρ μ ((getD' kvs (k2 x y)).getD e) := Ev.mk fun τ σ H a Q q => hs.go a fun w H1 d1 hd a1 => by
  subst hd
  obtain ⟨G, g⟩ := id a1
  obtain ⟨pa, ws, rfl, e3, k3⟩ := g.temps _ (List.mem_cons_self ..)
  refine ⟨pa, rfl, .inr ⟨ws, .inl (g.sub _ _ e3)⟩, hy.go a1 fun u H2 d2 hd2 a2 => hx.go a2 fun z H3 d3 hd3 a3 => ?_⟩
  subst hd2; subst hd3
  obtain ⟨G3, g3⟩ := id a3
  obtain ⟨qa, rfl, hq⟩ := key_at (g3.temps _ (List.mem_cons_of_mem _ (List.mem_cons_self ..)))
  obtain ⟨pb, ws', e0, e4, k4⟩ := g3.temps (V.ref pa, D.dt kvs) (List.mem_cons_of_mem _ (List.mem_cons_of_mem _ (List.mem_cons_self ..)))
  cases e0
  refine ⟨_, DGet.t (g3.sub _ _ e4) (g3.sub _ _ hq), ?_⟩
  rcases k4.get (k := k2 x y) with ⟨h3, h4⟩ | ⟨dd, vv, h3, h4, h5⟩
  · rw [h4]
    exact q z H3 d3 (by rw [h3]; rfl) ⟨G3, { g3 with temps := fun t ht => (List.mem_cons.mp ht).elim (fun e => by rw [e]; exact g3.temps _ (List.mem_cons_self ..)) fun e => g3.temps t (List.mem_cons_of_mem _ (List.mem_cons_of_mem _ (List.mem_cons_of_mem _ e))) }⟩
  · rw [h4]
    exact q vv H3 dd (by rw [h3]; rfl) ⟨G3, { g3 with temps := fun t ht => (List.mem_cons.mp ht).elim (fun e => by rw [e]; exact h5) fun e => g3.temps t (List.mem_cons_of_mem _ (List.mem_cons_of_mem _ (List.mem_cons_of_mem _ e))) }⟩
end
end Cal


namespace Cal
open PySem PySem.Spec PyProof.Rows L2
/-! ### objects of the program's own classes -/
theorem DtF.get {K : PySem.W.Frag} {G : Hp} {f : Str} {d : D} : ∀ {fs : List (Str × D)} {vs : List (Str × V)}, DtF K G fs vs → fs.lookup f = some d → ∃ v, vs.lookup f = some v ∧ Dt K G d v
  | [], _, _, h => by cases h
  | (g, e) :: r, _, ⟨v, r', rfl, hv, hr⟩, h => by
    rw [List.lookup_cons] at h ⊢
    by_cases z : (f == g) = true
    · rw [z] at h ⊢
      exact ⟨v, rfl, Option.some.inj h ▸ hv⟩
    · rw [Bool.not_eq_true] at z
      rw [z] at h ⊢
      exact DtF.get hr h
theorem DtF.len {K : PySem.W.Frag} {G : Hp} : ∀ {fs : List (Str × D)} {vs : List (Str × V)}, DtF K G fs vs → vs.length = fs.length
  | [], _, h => by rw [show _ = [] from h]; rfl
  | (g, e) :: r, _, ⟨v, r', rfl, hv, hr⟩ => by rw [List.length_cons, List.length_cons, DtF.len hr]
def putFD (f : Str) (d : D) : List (Str × D) → List (Str × D)
  | [] => [(f, d)]
  | (g, x) :: r => if g = f then (g, d) :: r else (g, x) :: putFD f d r
theorem DtF.put {K : PySem.W.Frag} {G : Hp} {f : Str} {d : D} {v : V} (hd : Dt K G d v) : ∀ {fs : List (Str × D)} {vs : List (Str × V)}, DtF K G fs vs → DtF K G (putFD f d fs) (putF f v vs)
  | [], _, h => by rw [show _ = [] from h]; exact ⟨v, [], rfl, hd, rfl⟩
  | (g, e) :: r, _, ⟨u, r', rfl, hv, hr⟩ => by
    unfold putFD putF
    by_cases z : g = f
    · rw [if_pos z, if_pos z]; exact ⟨v, r', rfl, hd, hr⟩
    · rw [if_neg z, if_neg z]; exact ⟨u, _, rfl, hv, DtF.put hd hr⟩
/-- what a class's init promises: the fields of the new object -/
def isp (K : PySem.W.Frag) (C : Addr) (pre : List D → Prop) (post : List D → List (Str × D) → Prop) : Sp := fun vs H Q E => ∃ (x dx : Addr) (G : Hp) (ds : List D) (us : List V), vs = .ref x :: us ∧ DtA K G ds us ∧ pre ds ∧ Same G H ∧ (∀ b vs, H b = some (.tup vs) → G b = some (.tup vs)) ∧ H x = some (.ins C dx []) ∧ G x = none ∧
  ∀ H' fs kvs, post ds fs → H' x = some (.ins C dx kvs) → (∀ b o, H b = some o → b ≠ x → H' b = some o) → DtF K (fun b => match H b with | none => H' b | some _ => G b) fs kvs → Q .non H'
section
variable {B : Bs} {ρ : Ro} {μ : Mu} {τ : List (V × D)} {σ : L2.St} {H : Hp} {te tv : TE} {P : D → Prop} {d : D} {R : D → Mu → Prop} {C dx p : Addr} {fs : List (Str × D)} {f : Str} {D0 : Ends} {tz : TS} {E : XK} {j k : Nat}
theorem ed_fld (h : Ed B te ρ μ (.obj C fs)) (c : Cls B.K C) (n : NoAttr B.K C f) (l : fs.lookup f = some d) : Ed B (tFld B.K te f) ρ μ d := Ev.mk fun τ σ H a Q q => h.go a fun v H1 e he a1 => by
  subst he
  obtain ⟨G, g, p, dx, vs, rfl, e, kf⟩ := id a1.top
  obtain ⟨v, h1, h2⟩ := kf.get l
  exact ⟨p, C, dx, vs, v, rfl, g.sub _ _ e, c, n, h1, q v H1 d rfl ⟨G, g.push h2⟩⟩
/-- a field of a cell -/
theorem ed_fldC (hs : ρ[j]? = some (some (.raw (.ref p)))) (hm : μ[k]? = some (p, .ob C dx fs)) (c : Cls B.K C) (n : NoAttr B.K C f) (l : fs.lookup f = some d) : Ed B (tFld B.K (tVar j) f) ρ μ d := Ev.mk fun τ σ H a Q q => by
  obtain ⟨u, h1, h2⟩ := a.var hs
  obtain ⟨G, g, hv⟩ := h2.top
  obtain ⟨vs, e1, e2⟩ := (g.cells _ (List.mem_of_getElem? hm)).2.2.2
  obtain ⟨v, h3, h4⟩ := e2.get l
  exact ⟨u, h1, p, C, dx, vs, v, hv, e1, c, n, h3, q v H d rfl ⟨G, g.push h4⟩⟩
theorem x_fld (a : At B ρ μ τ σ H) (hs : ρ[j]? = some (some (.raw (.ref p)))) (he : Xv B tv ρ μ R) (hR : ∀ d μ', R d μ' → ∃ k : Nat, μ'[k]? = some (p, Cl.ob C dx fs)) (c : Cls B.K C) (n : NoAttr B.K C f) (hl : fs.length < 1000)
    (q : ∀ d μ' (k : Nat) H', R d μ' → μ'[k]? = some (p, Cl.ob C dx fs) → At B ρ (μ'.set k (p, Cl.ob C dx (putFD f d fs))) τ σ H' → D0.nx σ H') : sFld B.K (tVar j) tv f D0 σ H := he τ σ H a _ fun v H1 d μ' hd a1 => by
  obtain ⟨k, hk⟩ := hR d μ' hd
  obtain ⟨u, h1, h2⟩ := a1.var hs
  obtain ⟨G, g, hv⟩ := h2.top
  obtain ⟨vs, e1, e2⟩ := (g.cells _ (List.mem_of_getElem? hk)).2.2.2
  refine ⟨u, h1, p, C, dx, vs, hv, e1, c, n, by rw [e2.len]; exact hl, q d μ' k _ hd hk (At.pop (At.write (c' := .ob C dx (putFD f d fs)) a1 hk fun G' k' hc => ?_))⟩
  obtain ⟨ws, e3, e4⟩ := hc
  rw [e1] at e3
  cases e3
  exact ⟨_, upd_same, e4.put (k' (v, d) (List.mem_cons_self ..))⟩
theorem y_fld (a : At B ρ μ τ σ H) (hs : ρ[j]? = some (some (.raw (.ref p)))) (he : Xv B tv ρ μ R) (hR : ∀ d μ', R d μ' → ∃ k : Nat, μ'[k]? = some (p, Cl.ob C dx fs)) (c : Cls B.K C) (n : NoAttr B.K C f) (hl : fs.length < 1000)
    (q : ∀ d μ' (k : Nat) H', R d μ' → μ'[k]? = some (p, Cl.ob C dx fs) → At B ρ (μ'.set k (p, Cl.ob C dx (putFD f d fs))) τ σ H' → tz D0 σ H') : tSeq (sFld B.K (tVar j) tv f) tz D0 σ H := x_fld (D0 := { D0 with nx := tz D0 }) a hs he hR c n hl q
theorem isp_start {K : PySem.W.Frag} {pre : List D → Prop} {post : List D → List (Str × D) → Prop} {vs : List V} {Q : VK} (N : List Str) (h : isp K C pre post vs H Q E) :
    ∃ (x dx : Addr) (G : Hp) (ds : List D), pre ds ∧ vs.length = ds.length + 1 ∧ At ⟨K, fun _ => True, [], fun _ _ _ _ => True.intro, G, fun b => if b = x then none else H b⟩ ((some (.raw (.ref x)) :: ds.map some) ++ List.replicate (N.length - (ds.length + 1)) none) [(x, Cl.ob C dx [])] [] (start N vs) H ∧
      ∀ {ρ μ τ σ H' fs} {k : Nat}, post ds fs → μ[k]? = some (x, Cl.ob C dx fs) → At ⟨K, fun _ => True, [], fun _ _ _ _ => True.intro, G, fun b => if b = x then none else H b⟩ ρ μ τ σ H' → Q .non H' := by
  obtain ⟨x, dx, G, ds, us, rfl, k, hp, s, tp, hx, gx, q⟩ := h
  refine ⟨x, dx, G, ds, hp, by rw [List.length_cons, k.length], ⟨G, ⟨s, True.intro, fun b hb => (nomatch hb), tp, fun b o e _ => ?_, fun _ _ e => .inr e, ?_, fun i d e => ?_, fun p h => ?_, ?_, fun _ h => (nomatch h)⟩⟩, fun {ρ μ τ σ H' fs k'} hd hk a => ?_⟩
  · have e' : (if b = x then none else H b) = some o := e
    by_cases z : b = x
    · rw [if_pos z] at e'; cases e'
    · rwa [if_neg z] at e'
  · show ((some (D.raw (.ref x)) :: ds.map some) ++ List.replicate (N.length - (ds.length + 1)) none).length = ((V.ref x :: us).map some ++ List.replicate (N.length - (V.ref x :: us).length) none).length
    rw [List.length_append, List.length_append, List.length_cons, List.length_map, List.length_map, List.length_replicate, List.length_replicate, List.length_cons, k.length]
  · match i, e with
    | 0, e =>
      have e1 : (some (some (D.raw (.ref x))) : Option (Option D)) = some (some d) := e
      cases e1
      exact ⟨.ref x, rfl, rfl⟩
    | i + 1, e =>
      have e' : (ds.map some ++ List.replicate (N.length - (ds.length + 1)) none)[i]? = some (some d) := by simpa using e
      by_cases hi : i < ds.length
      · rw [List.getElem?_append_left (by rw [List.length_map]; exact hi), List.getElem?_map] at e'
        cases e1 : ds[i]? with
        | none => rw [e1] at e'; cases e'
        | some d' =>
          rw [e1] at e'
          have e2 : d' = d := Option.some.inj (Option.some.inj e')
          subst e2
          obtain ⟨v, h1, h2⟩ := k.get e1
          refine ⟨v, ?_, h2⟩
          show ((V.ref x :: us).map some ++ List.replicate (N.length - (V.ref x :: us).length) none)[i + 1]? = _
          rw [List.getElem?_append_left (by rw [List.length_map, List.length_cons, k.length]; omega), List.getElem?_map, List.getElem?_cons_succ, h1]
          rfl
      · rw [List.getElem?_append_right (by rw [List.length_map]; omega), List.getElem?_replicate] at e'
        split at e' <;> cases e'
  · have h' := List.mem_singleton.mp h
    subst h'
    exact ⟨gx, by show (if x = x then none else H x) = none; rw [if_pos rfl], fun z => (nomatch z), [], hx, rfl⟩
  · show ([x] : List Addr).Nodup
    exact List.nodup_cons.mpr ⟨fun z => (nomatch z), List.nodup_nil⟩
  · obtain ⟨G1, g⟩ := a
    obtain ⟨c1, _, _, kvs, c2, c3⟩ := g.cells _ (List.mem_of_getElem? hk)
    refine q H' fs kvs hd c2 (fun b o e z => g.base b o (by show (if b = x then none else H b) = some o; rw [if_neg z]; exact e) fun y => nomatch y) (DtF.mono (fun b o e => ?_) fs c3)
    show (match H b with | none => H' b | some _ => G b) = some o
    rcases g.ext b o e with z | z
    · have z' : (if b = x then none else H b) = none := z
      by_cases y : b = x
      · rw [y, show G1 x = none from c1] at e; cases e
      · rw [if_neg y] at z'
        rw [z']; exact g.sub b o e
    · rw [s b o z]; exact z
/-- a new object, whole -/
theorem ev_make {K : PySem.W.Frag} {pre : List D → Prop} {post : List D → List (Str × D) → Prop} {t : TA} {ds : List D} (hK : B.K = K) (h : Ea B t ρ μ (fun l => l = ds)) (hpre : pre ds) (hpost : ∀ fs, post ds fs → P (.obj C fs)) : Ev B (tMake C (isp K C pre post) [] E t) ρ μ P := Ev.mk fun τ σ H a Q q => h τ σ H a _ fun vs H1 es hes hl a1 => by
  subst hes; subst hK
  obtain ⟨G, g, k⟩ := a1.args hl
  intro x dx hx hdx hne
  rw [List.append_nil]
  have s1 : Same H1 (upd (upd H1 dx (.own x)) x (.ins C dx [])) := fun b o e => by
    rw [upd_ne (ne_of_none e hx), upd_ne (ne_of_none e hdx)]; exact e
  refine ⟨x, dx, G, es, vs, rfl, k, hpre, fun b o e => s1 b o (g.sub b o e), fun b us e => ?_, upd_same, g.sub.free hx, fun H2 fs kvs hp e2 kp df => ⟨rfl, ?_⟩⟩
  · by_cases z : b = x
    · rw [z, upd_same] at e; cases e
    · rw [upd_ne z] at e
      by_cases y : b = dx
      · rw [y, upd_same] at e; cases e
      · rw [upd_ne y] at e; exact g.tup b us e
  · have s2 : ∀ b o, H1 b = some o → H2 b = some o := fun b o e => kp b o (s1 b o e) (ne_of_none e hx)
    have sg : Same G (fun b => match H1 b with | none => H2 b | some _ => G b) := fun b o e => by
      show (match H1 b with | none => H2 b | some _ => G b) = some o
      rw [g.sub b o e]; exact e
    have gn : ∀ b, G b = none → H1 b ≠ none → (match H1 b with | none => H2 b | some _ => G b) = none := fun b e1 e2 => by
      cases e : H1 b with
      | none => exact absurd e e2
      | some o => exact e1
    have same : ∀ b ∈ B.M, H2 b = H1 b := fun b hb => by
      cases e : H1 b with
      | none => exact absurd e (g.out b hb).2.1
      | some o => exact s2 b o e
    refine q (.ref x) H2 (.obj C fs) (hpost fs hp) ⟨_, AtG.push (G := fun b => match H1 b with | none => H2 b | some _ => G b) ⟨fun b o e => ?_, B.loc H1 H2 g.inv same, fun b hb => ⟨gn b (g.out b hb).1 (g.out b hb).2.1, by unfold Ent; rw [same b hb]; exact (g.out b hb).2⟩, fun b us e => ?_, fun b o e hb => s2 b o (g.base b o e hb), fun b o e => ?_, g.len, fun i d e => let ⟨v, a, c⟩ := g.slots i d e; ⟨v, a, Dt.mono sg d c⟩, fun p hp => ?_, g.nd, fun p hp => Dt.mono sg p.2 (g.temps p hp)⟩ ⟨x, dx, kvs, rfl, ?_, DtF.mono (fun b o e => ?_) fs df⟩⟩
    · cases e1 : H1 b with
      | none => rw [e1] at e; exact e
      | some o1 => rw [e1] at e; exact s2 b o (g.sub b o e)
    · show (match H1 b with | none => H2 b | some _ => G b) = some (.tup us)
      cases e1 : H1 b with
      | none => exact e
      | some o1 =>
        rw [s2 b o1 e1] at e
        rw [e] at e1
        exact g.tup b us e1
    · cases e1 : H1 b with
      | none =>
        refine .inl ?_
        cases e3 : B.H0 b with
        | none => rfl
        | some o2 =>
          by_cases m : b ∈ B.M
          · exact absurd e1 (g.out b m).2.1
          · rw [g.base b o2 e3 m] at e1; cases e1
      | some o1 => rw [e1] at e; exact g.ext b o e
    · obtain ⟨c1, c2, c3, c4⟩ := g.cells p hp
      exact ⟨gn _ c1 c4.there, c2, c3, c4.mono sg fun o e => s2 _ o e⟩
    · show (match H1 x with | none => H2 x | some _ => G x) = _
      rw [hx]; exact e2
    · show (match H1 b with | none => H2 b | some _ => G b) = some o
      have e' : (match upd (upd H1 dx (.own x)) x (.ins C dx []) b with | none => H2 b | some _ => G b) = some o := e
      cases e1 : H1 b with
      | some o1 => rw [s1 b o1 e1] at e'; exact e'
      | none =>
        by_cases z : b = x
        · rw [z, upd_same] at e'
          have : G x = none := g.sub.free hx
          rw [this] at e'; cases e'
        · rw [upd_ne z] at e'
          by_cases y : b = dx
          · rw [y, upd_same] at e'
            have : G dx = none := g.sub.free hdx
            rw [this] at e'; cases e'
          · rw [upd_ne y, e1] at e'; exact e'
end
end Cal


namespace Cal
open PySem PySem.Spec PyProof.Rows L2
/-! ### sorted, of tuples of ints of any lengths -/
def wlt (x y : List Int) : Bool := lexLt itemOrd (x.map Sum.inl) (y.map Sum.inl)
theorem wlt_anti {x y : List Int} (h1 : wlt x y = false) (h2 : wlt y x = false) : x = y := by
  have e : x.map (Sum.inl : Int → Int ⊕ List Nat) = y.map Sum.inl := (listOrd itemOrd).total _ _ h1 h2
  have := congrArg (List.map fun z : Int ⊕ List Nat => match z with | .inl i => i | .inr _ => 0) e
  rw [List.map_map, List.map_map] at this
  have e2 : ∀ l : List Int, l.map ((fun z : Int ⊕ List Nat => match z with | .inl i => i | .inr _ => 0) ∘ Sum.inl) = l := fun l => List.map_id l
  rwa [e2, e2] at this
theorem items_ints : ∀ {ns : List Int} {us : List Value}, Vals (ns.map V.int) us → ∀ i, tupItems (fun _ => false) i us = some (ns.map Sum.inl)
  | [], _, .nil, i => by simp [tupItems]
  | n :: ns, _, .cons r t, i => by
    obtain ⟨tk, rfl⟩ := r
    simp [tupItems, items_ints t (i + 1)]
section
variable {X : Cx}
def rSortTI (K : PySem.W.Frag) : List V → Hp → VK → Prop := fun vs H Q => ∃ (a : Addr) (xs : List V) (k : V → List Int), vs = [V.ref a] ∧ SqL K H a xs ∧ (∀ x ∈ xs, ∃ t, x = V.ref t ∧ SqT K H t ((k x).map V.int) ∧ k x ≠ []) ∧
  ∀ ys p, ys.Perm xs → ys.Pairwise (fun x y => wlt (k y) (k x) = false) → H p = none → Q (.ref p) (upd H p (.lst ys))
theorem cr_sortTI : CallR X (.builtin "sorted") (rSortTI X.K) := by
  intro pins s σ H vs us Q I r h
  obtain ⟨a, xs, k, rfl, hs, hx, q⟩ := h
  obtain ⟨its, rv, hl, hz⟩ := I.list hs
  rw [Vals.ref1 r]
  obtain ⟨e1, e2⟩ := refs_back rv fun x m => let ⟨t, e, _⟩ := hx x m; ⟨t, e⟩
  have at_ : ∀ v ∈ its, ∃ (t : Addr) (o : Obj) (us : List Value) (n : Nat), v = .ref t ∧ s.heap.get? t = some o ∧ o.cls = .type "tuple" ∧ o.data = .seq us.toArray n ∧ Vals ((k (backV v)).map V.int) us ∧ k (backV v) ≠ [] := fun v hv => by
    obtain ⟨t, rfl⟩ := e2 v hv
    have hm : V.ref t ∈ xs := by rw [e1]; exact List.mem_map.mpr ⟨_, hv, rfl⟩
    obtain ⟨t', e, ht, hne⟩ := hx _ hm
    cases e
    obtain ⟨us, r2, ⟨o, ho, hc, n, hd⟩, _⟩ := I.tuple ht
    exact ⟨t, o, us, n, rfl, ho, hc, hd, r2, hne⟩
  have key : ∀ v ∈ its, G.tupKeyC s.heap (fun _ => false) v = some ((k (backV v)).map Sum.inl) := fun v hv => by
    obtain ⟨t, o, us, n, rfl, ho, hc, hd, r2, _⟩ := at_ v hv
    have it : G.isTupObj s.heap (.ref t) = true := by
      simp only [G.isTupObj, ho, hc]; rfl
    unfold G.tupKeyC
    rw [if_pos it]
    simp only [tupKey, ho, hd]
    exact items_ints r2 0
  have tups : ∀ l : List Value, (∀ v ∈ l, v ∈ its) → ∃ fs, TupsOf s.heap (fun _ => false) l fs := fun l => by
    induction l with
    | nil => exact fun _ => ⟨[], .nil⟩
    | cons v r ih =>
      intro hm
      obtain ⟨fs, h1⟩ := ih fun u hu => hm u (List.mem_cons_of_mem _ hu)
      obtain ⟨t, o, us, n, e, ho, hc, hd, r2, hne⟩ := at_ v (hm v (List.mem_cons_self ..))
      cases hk : k (backV v) with
      | nil => exact absurd hk hne
      | cons z zs =>
        rw [hk] at r2
        cases r2 with
        | cons rz rr =>
          obtain ⟨tk, rfl⟩ := rz
          exact ⟨_, .cons ⟨t, o, _, n, e, ho, hc, hd, rfl, fun _ => ⟨z, tk, rfl⟩, fun y => by cases y⟩ h1⟩
  obtain ⟨fs, ht⟩ := tups its fun _ h => h
  refine G.sorted_tups (shape := fun _ => false) (fs := fs) hl.isList ht (fun v hv => ⟨_, key v hv⟩) (by rw [← rv.length]; exact hz) fun st' p1 p2 _ => ?_
  have pl : (arrOf st').toList.Perm (its.zip its) := by rw [← pairsOf_toList]; exact Array.perm_iff_toList_perm.mp p1
  have mem : ∀ p ∈ (arrOf st').toList, p.1 = p.2 ∧ p.1 ∈ its := fun p hp => mem_zip_self (pl.mem_iff.mp hp)
  have eo : ((arrOf st').map (·.2)).toList = (arrOf st').toList.map (·.1) := by
    rw [Array.toList_map]; exact List.map_congr_left fun p hp => (mem p hp).1.symm
  have po : ((arrOf st').map (·.2)).toList.Perm its := by
    rw [eo]
    have h1 := pl.map (·.1)
    have e : (its.zip its).map (fun x : Value × Value => x.1) = its := List.map_fst_zip (Nat.le_refl _)
    rw [e] at h1
    exact h1
  obtain ⟨ep, he⟩ := sortedAll_at s.heap its ((arrOf st').map (·.2))
  have refs : ∀ u ∈ ((arrOf st').map (·.2)).toList, ∃ a, u = Value.ref a := fun u hu => e2 u (po.mem_iff.mp hu)
  have pp : (((arrOf st').map (·.2)).toList.map backV).Perm xs := by rw [e1]; exact po.map _
  refine ⟨.ref _, upd H (s.heap.objs.size + 1) (.lst (((arrOf st').map (·.2)).toList.map backV)), I.laid (t' := s.toks) (fun _ _ => sortedAll_old) (Nat.le_succ _) ⟨by rw [pp.length_eq]; exact hz, _, ep, vals_back refs, he⟩, rfl, q _ _ pp ?_ (I.hok.fresh (Nat.le_succ _))⟩
  rw [List.pairwise_iff_getElem]
  intro i j hi hj hij
  have hi' : i < (arrOf st').size := by simpa using hi
  have hj' : j < (arrOf st').size := by simpa using hj
  have h1 := p2 i j (Nat.le_of_lt hij) (by rw [← p1.size_eq]; exact hj')
  have kk : ∀ i (hi : i < (arrOf st').size), KK (G.tupKindC s.heap fun _ => false) (arrOf st') i = (k (backV (arrOf st')[i].1)).map Sum.inl := fun i hi => by
    unfold KK
    rw [Array.getElem?_eq_getElem hi]
    show (G.tupKeyC s.heap (fun _ => false) (arrOf st')[i].1).getD [] = _
    rw [key _ (mem _ (by simp)).2]; rfl
  rw [kk i hi', kk j hj'] at h1
  simp only [List.getElem_map, Array.getElem_toList, Array.getElem_map]
  rw [← (mem (arrOf st')[i] (by simp)).1, ← (mem (arrOf st')[j] (by simp)).1]
  exact h1
end
section
variable {B : Bs} {ρ : Ro} {μ : Mu} {te : TE} {P : D → Prop} {ws : List (List Int)}
def backI : V → Hp → List Int := fun x G => match x with
  | .ref t => match G t with
    | some (.tup vs) => vs.map fun v => match v with | .int i => i | _ => 0
    | _ => []
  | _ => []
theorem ways_of {K : PySem.W.Frag} {G : Hp} : ∀ {ws : List (List Int)} {vs : List V}, DtA K G (ws.map fun w => .tup (w.map .int)) vs → vs.map (fun x => backI x G) = ws ∧ ∀ x ∈ vs, ∃ t, x = V.ref t ∧ G t = some (.tup ((backI x G).map V.int))
  | [], _, h => by rw [show _ = [] from h]; exact ⟨rfl, fun x hx => by cases hx⟩
  | w :: ws, _, ⟨v, r, rfl, ⟨a, us, ev, e, k⟩, hr⟩ => by
    subst ev
    obtain ⟨h1, h2⟩ := ways_of hr
    have eu := k.ints
    subst eu
    have eb : backI (.ref a) G = w := by
      simp only [backI, e, List.map_map]
      exact List.map_id w
    refine ⟨by rw [List.map_cons, h1, eb], fun x hx => ?_⟩
    rcases List.mem_cons.mp hx with z | z
    · rw [z, eb]; exact ⟨a, rfl, e⟩
    · exact h2 x z
theorem ways_back {K : PySem.W.Frag} {G : Hp} : ∀ {ys : List V}, (∀ x ∈ ys, ∃ t, x = V.ref t ∧ G t = some (.tup ((backI x G).map V.int))) → DtA K G ((ys.map fun x => backI x G).map fun w => .tup (w.map .int)) ys
  | [], _ => rfl
  | y :: ys, h => by
    obtain ⟨t, e, ht⟩ := h y (List.mem_cons_self ..)
    exact ⟨y, ys, rfl, ⟨t, _, e, ht, DtA.of_ints _⟩, ways_back fun x hx => h x (List.mem_cons_of_mem _ hx)⟩
/-- sorted ways: a list of the same, sorted -/
theorem ev_sortTI (h : Ed B te ρ μ (.lst (ws.map fun w => .tup (w.map .int)))) (hne : ∀ w ∈ ws, w ≠ []) (hP : ∀ ys : List (List Int), ys.Perm ws → ys.Pairwise (fun x y => wlt y x = false) → P (.lst (ys.map fun w => .tup (w.map .int)))) :
    Ev B (tCB (rSortTI B.K) (tCons te tNil)) ρ μ P := Ev.mk fun τ σ H a Q q => h.go a fun v H1 d hd a1 => by
  subst hd
  obtain ⟨G, g, p, vs, rfl, e, k⟩ := id a1.top
  obtain ⟨h1, h2⟩ := ways_of k
  refine ⟨p, vs, fun x => backI x G, rfl, .inl (.inl (g.sub _ _ e)), fun x hx => ?_, fun ys p2 py hs hp2 => ?_⟩
  · obtain ⟨t, e1, e2⟩ := h2 x hx
    exact ⟨t, e1, .inl (.inl (g.sub _ _ e2)), hne _ (by rw [← h1]; exact List.mem_map.mpr ⟨x, hx, rfl⟩)⟩
  · refine q _ _ _ (hP (ys.map fun x => backI x G) (by rw [← h1]; exact py.map _) (List.pairwise_map.mpr hs)) (g.newLst hp2 (ways_back fun x hx => h2 x (py.mem_iff.mp hx)))
end
end Cal


namespace Cal
open PySem PySem.Spec PyProof.Rows L2
/-! ### rules whose reading names the fragment alone -/
section
variable {X : Cx} {K : PySem.W.Frag} {l e tg : Expr} {tl ta : TE} {f : Str} {pos : Pos}
theorem pi_tupK (hK : X.K = K) (h : PE X l tl) : PI X tg l (iTup K tl) := hK ▸ pi_tup h
theorem pi_listK (hK : X.K = K) (h : PE X l tl) : PI X tg l (iList K tl) := hK ▸ pi_list h
theorem pe_fldK (hK : X.K = K) (he : PE X e ta) (hb : attributeBase e f X.env (eval e X.env) = eval e X.env) : PE X (.Attribute e f pos) (tFld K ta f) := hK ▸ pe_fld he hb
end
/-! ### DtK grows -/
theorem DtK.app {K : PySem.W.Frag} {G : Hp} {es : List (Key × D)} {ws : List (Key × V)} (h2 : DtK K G es ws) : ∀ {ds : List (Key × D)} {kvs : List (Key × V)}, DtK K G ds kvs → DtK K G (ds ++ es) (kvs ++ ws)
  | [], _, h => by rw [show _ = [] from h]; exact h2
  | (k', d') :: ds, _, ⟨v', r, q, s, t⟩ => by
    subst q
    exact ⟨v', _, rfl, s, DtK.app h2 t⟩
theorem DtK.len {K : PySem.W.Frag} {G : Hp} : ∀ {ds : List (Key × D)} {kvs : List (Key × V)}, DtK K G ds kvs → kvs.length = ds.length
  | [], _, h => by rw [show _ = [] from h]; rfl
  | (k', d') :: ds, _, ⟨v', r, q, s, t⟩ => by rw [q, List.length_cons, List.length_cons, DtK.len t]
theorem flat_rep (n : Nat) (v : V) : (List.replicate n [v]).flatten = List.replicate n v := by
  induction n with
  | zero => rfl
  | succ m ih => rw [List.replicate_succ, List.flatten_cons, ih, List.replicate_succ]; rfl
theorem dt_rep {K : PySem.W.Frag} {G : Hp} {d : D} {v : V} (h : Dt K G d v) : ∀ n, DtA K G (List.replicate n d) (List.replicate n v)
  | 0 => rfl
  | n + 1 => ⟨v, _, rfl, h, dt_rep h n⟩
theorem any_none {κ : Type} [DecidableEq κ] {kvs : List (κ × V)} {k : κ} (h : valV kvs k = none) : (kvs.any fun p => decide (p.1 = k)) = false := by
  unfold valV at h
  rw [Option.map_eq_none_iff, List.find?_eq_none] at h
  exact List.any_eq_false.mpr fun p hp => by simpa using h p hp
section
variable {B : Bs} {ρ : Ro} {μ : Mu} {τ : List (V × D)} {σ : L2.St} {H : Hp} {te ta tb ty tx : TE} {tt : TT} {P : D → Prop} {d e : D} {R : D → Mu → Prop} {p l : Addr} {D0 : Ends} {tz : TS} {j k : Nat} {ds es : List D} {kks : List (Key × D)} {s : Str} {i : Int} {is : List Int}
theorem AtG.write {c c' : Cl} {o : HO} {jj : Nat} {G : Hp} (h : AtG B ρ μ τ σ H G) (hj : μ[jj]? = some (p, c)) (hc : CellOk B.K G (upd H p o) p c') : AtG B ρ (μ.set jj (p, c')) τ σ (upd H p o) G := by
  have hm : (p, c) ∈ μ := List.mem_of_getElem? hj
  obtain ⟨n1, n2, n3, n4⟩ := (h.cells _ hm : G p = none ∧ B.H0 p = none ∧ p ∉ B.M ∧ CellOk B.K G H p c)
  refine ⟨fun b u e => ?_, B.loc H _ h.inv fun b hb => upd_ne (ne_of_mem n3 hb), fun b hb => ⟨(h.out b hb).1, by unfold Ent; rw [upd_ne (ne_of_mem n3 hb)]; exact (h.out b hb).2⟩, fun b vs e => ?_, fun b u e hb => ?_, h.ext, h.len, h.slots, fun q hq => ?_, ?_, h.temps⟩
  · rw [upd_ne (fun z => by subst z; rw [n1] at e; cases e)]; exact h.sub b u e
  · by_cases hb : b = p
    · subst hb; exact absurd e hc.noTup
    · rw [upd_ne hb] at e; exact h.tup b vs e
  · rw [upd_ne (fun z => by subst z; rw [n2] at e; cases e)]; exact h.base b u e hb
  · rcases mem_set hq with e | ⟨i, hi, e⟩
    · subst e; exact ⟨n1, n2, n3, hc⟩
    · obtain ⟨a, b, cc, dd⟩ := h.cells q (List.mem_of_getElem? e)
      have hne : q.1 ≠ p := fun z => by
        have e1 : (μ.map (·.1))[i]? = some p := by rw [List.getElem?_map, e]; simpa using z
        have e2 : (μ.map (·.1))[jj]? = some p := by rw [List.getElem?_map, hj]; rfl
        exact hi ((List.getElem?_inj (List.getElem?_eq_some_iff.mp e1).1 h.nd).mp (e1.trans e2.symm))
      exact ⟨a, b, cc, dd.mono (Same.refl G) fun o' z => by rw [upd_ne hne]; exact z⟩
  · have e : (μ.set jj (p, c')).map (·.1) = μ.map (·.1) := by
      rw [List.map_set]
      refine List.ext_getElem? fun i => ?_
      by_cases hi : jj = i
      · subst hi
        have hl : jj < (μ.map (·.1)).length := by rw [List.length_map]; exact (List.getElem?_eq_some_iff.mp hj).1
        rw [List.getElem?_set_self hl, List.getElem?_map, hj]; rfl
      · rw [List.getElem?_set_ne hi]
    rw [e]; exact h.nd
/-! ### d.setdefault(name, ..) -/
def setdD (kks : List (Key × D)) (s : Str) (d : D) : List (Key × D) := if (getD' kks (.inr s)).isSome then kks else kks ++ [(.inr s, d)]
theorem x_setd (a : At B ρ μ τ σ H) (hs : ρ[j]? = some (some (.raw (.ref p)))) (hm : μ[k]? = some (p, .dk kks)) (hy : Ed B ty ρ μ (.str s)) (hx : Ed B tx ρ μ d) (hl : kks.length < 1000000) (q : ∀ H', At B ρ (μ.set k (p, .dk (setdD kks s d))) τ σ H' → D0.nx σ H') :
    tDrop (tDSetd (tVar j) ty tx) D0 σ H := by
  obtain ⟨v0, h1, h2⟩ := a.var hs
  obtain ⟨G, g, hv⟩ := h2.top
  have hv' : v0 = V.ref p := hv
  subst hv'
  obtain ⟨kvs, e1, _⟩ := (g.cells _ (List.mem_of_getElem? hm)).2.2.2
  refine ⟨_, h1, p, rfl, .inl ⟨kvs, .inl e1⟩, hy.go a fun u H1 d1 hd1 a1 => hx.go a1 fun z H2 d2 hd2 a2 => ?_⟩
  subst hd1; subst hd2
  obtain ⟨G2, g2⟩ := id a2
  obtain ⟨kv2, e2, k2'⟩ := (g2.cells _ (List.mem_of_getElem? hm)).2.2.2
  have hu : u = V.str s := g2.temps (u, .str s) (List.mem_cons_of_mem _ (List.mem_cons_self ..))
  refine ⟨kv2, .inr s, e2, hu, by rw [k2'.len]; exact Nat.lt_trans hl (by decide), fun v hv => ?_, fun hn => ?_⟩
  · rcases k2'.get (k := .inr s) with ⟨h3, h4⟩ | ⟨dd, vv, h3, h4, _⟩
    · rw [hv] at h4; cases h4
    · refine q H2 ?_
      have : setdD kks s d2 = kks := by unfold setdD; rw [h3]; rfl
      rw [this]
      have es : μ.set k (p, .dk kks) = μ := by
        refine List.ext_getElem? fun n => ?_
        by_cases hn : k = n
        · subst hn; rw [List.getElem?_set_self (List.getElem?_eq_some_iff.mp hm).1, hm]
        · rw [List.getElem?_set_ne hn]
      rw [es]; exact a2.pop.pop
  · refine q _ ?_
    rcases k2'.get (k := .inr s) with ⟨h3, h4⟩ | ⟨dd, vv, h3, h4, _⟩
    · have : setdD kks s d2 = kks ++ [(.inr s, d2)] := by unfold setdD; rw [h3]; rfl
      rw [this]
      refine At.pop (At.pop (At.write (c' := .dk (kks ++ [(.inr s, d2)])) a2 hm fun G' kt hc => ?_))
      obtain ⟨kv3, e3, k3'⟩ := hc
      rw [e2] at e3
      cases e3
      refine ⟨kv2 ++ [(.inr s, z)], ?_, DtK.app (show DtK B.K G' [(.inr s, d2)] [(.inr s, z)] from ⟨z, [], rfl, kt (z, d2) (List.mem_cons_self ..), rfl⟩) k3'⟩
      rw [upd_same]
      unfold putK
      rw [if_neg (by rw [any_none hn]; exact Bool.false_ne_true)]
    · rw [hn] at h4; cases h4
/-- len(d), a cell -/
theorem ed_lenDC (hs : ρ[j]? = some (some (.raw (.ref p)))) (hm : μ[k]? = some (p, .dk kks)) : Ed B (tCB (fun xs H Q => ∃ a kvs, xs = [V.ref a] ∧ H a = some (.dK kvs) ∧ Q (.int kvs.length) H) (tCons (tVar j) tNil)) ρ μ (.int kks.length) := Ev.mk fun τ σ H a Q q => by
  obtain ⟨v0, h1, h2⟩ := a.var hs
  obtain ⟨G, g, hv⟩ := h2.top
  have hv' : v0 = V.ref p := hv
  subst hv'
  obtain ⟨kvs, e1, k1⟩ := (g.cells _ (List.mem_of_getElem? hm)).2.2.2
  refine ⟨_, h1, ⟨p, kvs, rfl, e1, ?_⟩⟩
  rw [k1.len]
  exact q _ H _ rfl (At.flat a fun _ => rfl)
/-- d[name] -/
theorem ed_dgetS (hs : Ed B ta ρ μ (.dk kks)) (hy : Ed B ty ρ μ (.str s)) (hz : getD' kks (.inr s) = some d) : Ed B (tDGet ta ty) ρ μ d := Ev.mk fun τ σ H a Q q => hs.go a fun w H1 d1 hd a1 => hy.go a1 fun u H2 d2 hd2 a2 => by
  subst hd; subst hd2
  obtain ⟨G, g, hu⟩ := id a2.top
  obtain ⟨pa, ws, e0, e3, k3⟩ := g.temps _ (List.mem_cons_self ..)
  have hu' : u = V.str s := hu
  subst hu'
  rcases k3.get (k := .inr s) with ⟨h3, h4⟩ | ⟨dd, vv, h3, h4, h5⟩
  · rw [hz] at h3; cases h3
  · rw [hz] at h3
    cases h3
    refine ⟨pa, vv, e0, ?_, q vv H2 _ rfl ⟨G, AtG.push { g with temps := fun t ht => g.temps t (List.mem_cons_of_mem _ ht) } h5⟩⟩
    rw [← h4]
    exact DGet.k (k := Sum.inr s) (g.sub _ _ e3)
/-! ### 1 << n, sum, [x] * n -/
theorem rd_oneShl {n : Nat} (hn : n ≤ 134217727) : RD B (fun x y H Q => ∃ k : Nat, x = .int 1 ∧ y = .int (k : Int) ∧ k ≤ 134217727 ∧ Q (.int (2 ^ k)) H) ρ μ (.int 1) (.int (n : Int)) (fun e => e = .int (2 ^ n)) := rd_flat (fun _ => rfl) fun G H x y _ a b Q q => ⟨n, a, b, hn, q⟩
theorem rc_sum : RC B (rSum B.K) ρ μ [.lst (is.map .int)] (fun e => e = .int is.sum) := rc_flat (fun _ => rfl) fun G H xs s h Q q => by
  obtain ⟨v, rfl, p, vs, rfl, e, k⟩ := one_arg h
  exact ⟨p, is, rfl, by rw [← k.ints]; exact .inl (.inl (s _ _ e)), q⟩
theorem rd_rep {n : Nat} (hn : n ≤ 1000000) : RD B rRep ρ μ (.lst [d]) (.int (n : Int)) (fun e => e = .lst (List.replicate n d)) := fun τ σ H x y a Q q => by
  obtain ⟨G, g, ⟨p, vs, rfl, e1, k1⟩, hy⟩ := a.two
  obtain ⟨v, r, rfl, hv, hr⟩ := k1
  have hr' : r = [] := hr
  subst hr'
  refine ⟨p, n, [v], rfl, hy, g.sub _ _ e1, by omega, by omega, by
    show 1 * ((n : Int)).toNat ≤ sizeLine
    exact Nat.le_trans (by omega) (show 1000000 ≤ sizeLine by decide), fun p2 hp2 => q _ _ _ rfl (g.newLst hp2 ?_)⟩
  rw [show ((n : Int)).toNat = n by omega, flat_rep]
  exact dt_rep hv n
/-! ### in, of ints -/
theorem rd_notInI : RD B (rIn B.K true) ρ μ (.int i) (.tup (is.map .int)) (fun e => e = .bl (!decide (i ∈ is))) := fun τ σ H x y a Q q => by
  obtain ⟨G, g, hx, ⟨p, vs, rfl, e1, k1⟩⟩ := a.two
  have hx' : x = V.int i := hx
  have hv := k1.ints
  subst hx'; subst hv
  refine ⟨p, _, rfl, .inr (.inl (.inl (g.sub _ _ e1))), rfl, by rw [List.all_map]; exact List.all_eq_true.mpr fun _ _ => rfl, ?_⟩
  have e : inV (.int i) (is.map V.int) = decide (i ∈ is) := by
    unfold inV
    rw [List.any_map]
    by_cases h : i ∈ is
    · rw [decide_eq_true h]
      exact List.any_eq_true.mpr ⟨i, h, by show (i == i) = true; exact beq_self_eq_true i⟩
    · rw [decide_eq_false h]
      refine List.any_eq_false.mpr fun y hy z => h ?_
      have z' : (y == i) = true := z
      rw [← eq_of_beq z']; exact hy
  show Q (.bl (!inV (.int i) (is.map V.int))) H
  rw [e]
  exact q _ H _ rfl (At.flat ⟨G, g⟩ fun _ => rfl)
/-! ### lists that change: made by a comprehension, pop, extend, truth; while -/
theorem xl_lcT {wi : TI} {vs : List Nat} {n : Nat} {f h : Nat → D} (c : Nat → Bool) (hi : Ei B wi ρ μ n f) (hk : k ∈ vs) (hn : n ≤ 1000000) (ht : ∀ i, i < n → ∀ cl, Eb B tt ((wipeR ρ vs).set k (some (f i))) (cl :: μ) (c i)) (he : ∀ i, i < n → c i = true → ∀ cl, Ed B te ((wipeR ρ vs).set k (some (f i))) (cl :: μ) (h i)) :
    Xl B (tLc wi (gName k) tt te vs) ρ μ (((List.range n).filter c).map h) := fun τ σ H a Q q => hi (sv ρ σ ++ τ) σ H a.save _ fun J H1 τ1 hsub a1 hJ Dl hD => by
  have hf := a.fits
  refine ⟨fun i m H => m = n - i ∧ i ≤ n ∧ At B ρ ((Dl, .lst (((List.range i).filter c).map h)) :: μ) τ1 σ H, ⟨n, by omega, Nat.zero_le _, (At.newCell (c := .lst []) (o := .lst []) a1 hD fun G _ => ⟨[], upd_same, rfl⟩).1⟩, fun i m H2 hW => ?_⟩
  obtain ⟨rfl, hin, a2⟩ := hW
  obtain ⟨s1, s2⟩ := hJ i ρ _ τ1 σ H2 (fun _ z => z) a2
  by_cases hlt : i < n
  · obtain ⟨s3, s4⟩ := s2 hlt
    refine .inr ⟨s3, fun H => At B ρ ((Dl, .lst (((List.range (i + 1)).filter c).map h)) :: μ) τ1 σ H, fun H' h2 => ⟨n - (i + 1), by omega, rfl, hlt, h2⟩, fun x H3 hy => ?_⟩
    refine gd_name k τ1 (wipe σ vs) H3 x (At.wiped (s4 x H3 hy) vs) _ fun σ' a3 hl3 hk3 => ⟨wipe_ext (js := [k]) (fun z hz => by rw [List.mem_singleton.mp hz]; exact hk) hl3 hk3, ?_⟩
    refine ht i hlt _ τ1 σ' H3 a3 _ fun b H4 hb a4 => ?_
    subst hb
    cases hc : c i with
    | true =>
      refine (he i hlt hc _).go a4 fun y H5 dy hdy a5 => ?_
      subst hdy
      obtain ⟨G, g5, vs5, e5, k5⟩ := a5.cell (j := 0) rfl
      have lc : (((List.range i).filter c).map h).length ≤ i := by
        rw [List.length_map]
        have := List.length_filter_le c (List.range i)
        rwa [List.length_range] at this
      refine ⟨vs5, e5, ?_, ?_⟩
      · rw [k5.length]
        exact Nat.lt_of_le_of_lt lc (Nat.lt_of_lt_of_le hlt (Nat.le_trans hn (by decide)))
      · have e6 : (((List.range (i + 1)).filter c).map h) = ((List.range i).filter c).map h ++ [h i] := by
          rw [List.range_succ, List.filter_append, List.map_append, List.filter_cons, if_pos hc]; rfl
        rw [e6]
        have a6 : At B ((wipeR ρ vs).set k (some (f i))) ((Dl, .lst (((List.range i).filter c).map h ++ [h i])) :: μ) ((y, h i) :: τ1) σ' (upd H5 Dl (.lst (vs5 ++ [y]))) := At.write (j := 0) (c' := .lst (((List.range i).filter c).map h ++ [h i])) a5 rfl fun G k1 ⟨vs6, e6, k6⟩ => by
          rw [e5] at e6
          cases e6
          exact ⟨_, upd_same, k6.append ⟨y, [], rfl, k1 _ (List.mem_cons_self ..), rfl⟩⟩
        exact At.restore hf a6.pop fun q hq => hsub q (List.mem_append_left _ hq)
    | false =>
      have e6 : (((List.range (i + 1)).filter c).map h) = ((List.range i).filter c).map h := by
        rw [List.range_succ, List.filter_append, List.filter_cons, if_neg (by rw [hc]; exact Bool.false_ne_true)]
        show (((List.range i).filter c) ++ []).map h = _
        rw [List.append_nil]
      show At B ρ ((Dl, .lst (((List.range (i + 1)).filter c).map h)) :: μ) τ1 σ H4
      rw [e6]
      exact At.restore hf a4 fun q hq => hsub q (List.mem_append_left _ hq)
  · have e : i = n := by omega
    subst e
    exact .inl ⟨s1 (Nat.le_refl _), q _ H2 _ _ ⟨Dl, rfl, rfl⟩ (At.flat (a2.sub fun z hz => hsub z (List.mem_append_right _ hz)) fun _ => rfl)⟩
/-- truth of a list that changes -/
theorem eb_truC (hs : ρ[j]? = some (some (.raw (.ref p)))) (hm : μ[k]? = some (p, .lst ds)) : Eb B (tTru B.K (tVar j)) ρ μ (!ds.isEmpty) := fun τ σ H a Q q => by
  obtain ⟨v0, h1, h2⟩ := a.var hs
  obtain ⟨G, g, hv⟩ := h2.top
  have hv' : v0 = V.ref p := hv
  subst hv'
  obtain ⟨vs, e1, k1⟩ := (g.cells _ (List.mem_of_getElem? hm)).2.2.2
  refine ⟨_, h1, !vs.isEmpty, .inl ⟨vs, .inl (.inl e1), rfl⟩, q _ H ?_ a⟩
  have := k1.length
  cases vs <;> cases ds <;> simp_all
/-- l != [], a list that changes -/
theorem eb_neNilC (hs : ρ[j]? = some (some (.raw (.ref p)))) (hm : μ[k]? = some (p, .lst ds)) : Eb B (tTest (tOp (rNeE B.K) (tVar j) (tLst tNil))) ρ μ (!ds.isEmpty) := fun τ σ H a Q q => by
  obtain ⟨v0, h1, h2⟩ := a.var hs
  obtain ⟨G, g, hv⟩ := h2.top
  have hv' : v0 = V.ref p := hv
  subst hv'
  refine ⟨_, h1, ?_⟩
  refine (ed_lst (ds := []) ea_nil (Nat.zero_le _)).go a fun u H1 d1 hd a1 => ?_
  subst hd
  obtain ⟨G1, g1, b, us, e0, eb, ku⟩ := a1.top
  have ku' : us = [] := ku
  subst ku'
  obtain ⟨vs, e1, k1⟩ := (g1.cells _ (List.mem_of_getElem? hm)).2.2.2
  refine ⟨p, b, vs, rfl, e0, .inl (.inl e1), .inl (.inl (g1.sub _ _ eb)), !vs.isEmpty, rfl, q _ H1 ?_ ⟨G1, g1⟩⟩
  have := k1.length
  cases vs <;> cases ds <;> simp_all
/-- way = l.pop() -/
theorem xv_pop (hs : ρ[j]? = some (some (.raw (.ref p)))) (hm : μ[k]? = some (p, .lst (ds ++ [d]))) : Xv B (tBM0 B.K "list" rPop (tVar j)) ρ μ (fun e μ' => e = d ∧ μ' = μ.set k (p, .lst ds)) := fun τ σ H a Q q => by
  obtain ⟨v0, h1, h2⟩ := a.var hs
  obtain ⟨G, g, hv⟩ := h2.top
  have hv' : v0 = V.ref p := hv
  subst hv'
  obtain ⟨vs, e1, k1⟩ := (g.cells _ (List.mem_of_getElem? hm)).2.2.2
  have hl := k1.length
  rw [List.length_append, List.length_singleton] at hl
  obtain ⟨y, hy, dy⟩ := k1.get (i := ds.length) (d := d) (by simp)
  refine ⟨_, h1, .inl ⟨rfl, _, .inl (.inl e1)⟩, p, vs, y, rfl, rfl, e1, by rw [show vs.length - 1 = ds.length by omega]; exact hy, q y _ d _ ⟨rfl, rfl⟩ ?_⟩
  refine At.write (c' := .lst ds) (⟨G, g.push dy⟩ : At B ρ μ ((y, d) :: τ) σ H) hm fun G' kt hc => ?_
  obtain ⟨us, e3, k3⟩ := hc
  rw [e1] at e3
  cases e3
  have k4 := k3.dropLast
  rw [List.dropLast_concat] at k4
  exact ⟨_, upd_same, k4⟩
/-- l.extend(items) -/
theorem x_extend (a : At B ρ μ τ σ H) (hs : ρ[j]? = some (some (.raw (.ref p)))) (hm : μ[k]? = some (p, .lst ds)) (he : Ed B te ρ μ (.lst es)) (hz : ds.length + es.length ≤ sizeLine) (q : ∀ H', At B ρ (μ.set k (p, .lst (ds ++ es))) τ σ H' → D0.nx σ H') :
    tDrop (tBM B.K "list" rExtend (tVar j) (tCons te tNil)) D0 σ H := by
  obtain ⟨v0, h1, h2⟩ := a.var hs
  obtain ⟨G, g, hv⟩ := h2.top
  have hv' : v0 = V.ref p := hv
  subst hv'
  obtain ⟨vs, e1, k1⟩ := (g.cells _ (List.mem_of_getElem? hm)).2.2.2
  refine ⟨_, h1, .inl ⟨rfl, _, .inl (.inl e1)⟩, he.go a fun u H1 d1 hd a1 => ?_⟩
  subst hd
  obtain ⟨G1, g1, b, us, rfl, eb, ku⟩ := id a1.top
  obtain ⟨vs1, e2, k2⟩ := (g1.cells _ (List.mem_of_getElem? hm)).2.2.2
  refine ⟨p, b, vs1, us, rfl, rfl, e2, g1.sub _ _ eb, by rw [k2.length, ku.length]; exact hz, q _ ⟨G1, AtG.write (c' := .lst (ds ++ es)) g1 hm ⟨_, upd_same, k2.append ku⟩⟩⟩
end
end Cal


namespace Cal
open PySem PySem.Spec PyProof.Rows L2
/-! ### order and membership of data -/
def rLtD (K : PySem.W.Frag) : R2 := fun x y H Q => ∃ d e, Dp K H x d ∧ Dp K H y e ∧ SeqAt.shaped d = true ∧ SeqAt.shaped e = true ∧ PySem.W.alike d e = true ∧ d ≠ .none ∧ Q (.bl (PySem.W.dataLt d e)) H
def rGeD (K : PySem.W.Frag) : R2 := fun x y H Q => ∃ d e, Dp K H x d ∧ Dp K H y e ∧ SeqAt.shaped d = true ∧ SeqAt.shaped e = true ∧ PySem.W.alike d e = true ∧ d ≠ .none ∧ Q (.bl (!PySem.W.dataLt d e)) H
def rInT (K : PySem.W.Frag) (neg : Bool) : R2 := fun x y H Q => ∃ d ds, Dp K H x d ∧ Dp K H y (.tuple ds) ∧ SeqAt.shaped d = true ∧ SeqAt.shaped (.tuple ds) = true ∧ Q (.bl (neg ^^ ds.any fun z => PyData.eqv z d)) H
theorem depth_of_shaped {d : PyData} (h : SeqAt.shaped d = true) : d.depth ≤ 64 := by
  unfold SeqAt.shaped at h
  rw [Bool.and_eq_true] at h
  exact of_decide_eq_true h.2
section
variable {X : Cx}
theorem op_ltD (hu : X.A.units + 64 < cLine) : OpR X (compareOp .Lt) (rLtD X.K) := by
  intro pins s σ H x y v u Q I rx ry h
  obtain ⟨d, e, hd, he, sd, se, ha, hn, q⟩ := h
  obtain ⟨as, r1⟩ := Dp.reads I d x v hd rx
  obtain ⟨bs, r2⟩ := Dp.reads I e y u he ry
  have := depth_of_shaped sd
  exact PySem.W.lt_data r1 r2 ha hn (by have := Nat.min_le_left d.depth e.depth; omega) ⟨.bl _, H, I, rfl, q⟩
theorem op_geD (hu : X.A.units + 64 < cLine) : OpR X (compareOp .GtE) (rGeD X.K) := by
  intro pins s σ H x y v u Q I rx ry h
  obtain ⟨d, e, hd, he, sd, se, ha, hn, q⟩ := h
  obtain ⟨as, r1⟩ := Dp.reads I d x v hd rx
  obtain ⟨bs, r2⟩ := Dp.reads I e y u he ry
  have := depth_of_shaped sd
  exact PySem.W.ge_data r1 r2 ha hn (by have := Nat.min_le_left d.depth e.depth; omega) ⟨.bl _, H, I, rfl, q⟩
theorem op_inT (hu : X.A.units + 64 < cLine) : OpR X (compareOp .In) (rInT X.K false) := by
  intro pins s σ H x y v u Q I rx ry h
  obtain ⟨d, ds, hd, he, sd, se, q⟩ := h
  obtain ⟨as, r1⟩ := Dp.reads I d x v hd rx
  obtain ⟨bs, r2⟩ := Dp.reads I (.tuple ds) y u he ry
  have h1 := depth_of_shaped se
  have e1 : (PyData.tuple ds).depth = PyData.depthAll ds + 1 := rfl
  refine SeqAt.in_tuple_reads r2 r1 (SeqAt.canLay_of_shaped se) (SeqAt.canLay_of_shaped sd) (by have := Nat.min_le_left (PyData.depthAll ds) d.depth; omega) ⟨.bl _, H, I, rfl, ?_⟩
  rw [Bool.false_xor] at q; exact q
theorem op_notInT (hu : X.A.units + 64 < cLine) : OpR X (compareOp .NotIn) (rInT X.K true) := by
  intro pins s σ H x y v u Q I rx ry h
  obtain ⟨d, ds, hd, he, sd, se, q⟩ := h
  obtain ⟨as, r1⟩ := Dp.reads I d x v hd rx
  obtain ⟨bs, r2⟩ := Dp.reads I (.tuple ds) y u he ry
  have h1 := depth_of_shaped se
  have e1 : (PyData.tuple ds).depth = PyData.depthAll ds + 1 := rfl
  refine SeqAt.notIn_tuple_reads r2 r1 (SeqAt.canLay_of_shaped se) (SeqAt.canLay_of_shaped sd) (by have := Nat.min_le_left (PyData.depthAll ds) d.depth; omega) ⟨.bl _, H, I, rfl, ?_⟩
  rw [Bool.true_xor] at q; exact q
def rLtV (K : PySem.W.Frag) : R2 := fun x y H Q => rLtU x y H Q ∨ rLtD K x y H Q
theorem u_ltV (hu : X.A.units + 64 < cLine) : OpR X (compareOp .Lt) (rLtV X.K) := OpR.or u_lt (op_ltD hu)
def rGeV (K : PySem.W.Frag) : R2 := fun x y H Q => rGeU x y H Q ∨ rGeD K x y H Q
theorem u_geV (hu : X.A.units + 64 < cLine) : OpR X (compareOp .GtE) (rGeV X.K) := OpR.or u_ge (op_geD hu)
end
def dLt (d e : D) : Bool := PySem.W.dataLt (py d) (py e)
def pairD (p : Int × Int) : D := .tup [.int p.1, .int p.2]
theorem pairD_inj {p q : Int × Int} (h : pairD p = pairD q) : p = q := by
  injection h with h
  injection h with h1 h2
  injection h2 with h2 _
  exact Prod.ext (D.int.inj h1) (D.int.inj h2)
theorem pair_plain (p : Int × Int) : plain (pairD p) = true ∧ dep (pairD p) ≤ 1 := ⟨rfl, Nat.le_refl _⟩
theorem pairs_plain (qs : List (Int × Int)) : plain (.tup (qs.map pairD)) = true ∧ dep (.tup (qs.map pairD)) ≤ 2 := by
  refine ⟨?_, ?_⟩
  · show plainA (qs.map pairD) = true
    induction qs with
    | nil => rfl
    | cons x r ih => show (plain (pairD x) && plainA (r.map pairD)) = true; rw [ih]; rfl
  · show depA (qs.map pairD) + 1 ≤ 2
    have : depA (qs.map pairD) ≤ 1 := by
      induction qs with
      | nil => exact Nat.zero_le _
      | cons x r ih => show max 1 (depA (r.map pairD)) ≤ 1; omega
    omega
theorem pair_eqv (p q : Int × Int) : PyData.eqv (py (pairD p)) (py (pairD q)) = decide (p = q) := by
  show PyData.eqv (.tuple [.int p.1, .int p.2]) (.tuple [.int q.1, .int q.2]) = _
  by_cases h : p = q
  · subst h; simp [PyData.eqv, PyData.eqvAll]
  · rw [decide_eq_false h]
    have : ¬ (p.1 = q.1 ∧ p.2 = q.2) := fun z => h (Prod.ext z.1 z.2)
    simp [PyData.eqv, PyData.eqvAll]
    intro e1 e2
    exact this ⟨e1, e2⟩
theorem pair_alike (p q : Int × Int) : PySem.W.alike (py (pairD p)) (py (pairD q)) = true := by
  show PySem.W.alike (.tuple [.int p.1, .int p.2]) (.tuple [.int q.1, .int q.2]) = true
  simp [PySem.W.alike, PySem.W.alikeAll]
theorem pair_any (p : Int × Int) (qs : List (Int × Int)) : (pyA (qs.map pairD)).any (fun z => PyData.eqv z (py (pairD p))) = decide (p ∈ qs) := by
  induction qs with
  | nil => rfl
  | cons x r ih =>
    show (PyData.eqv (py (pairD x)) (py (pairD p)) || (pyA (r.map pairD)).any _) = _
    rw [ih, pair_eqv]
    by_cases h1 : x = p <;> by_cases h2 : p ∈ r <;> simp [h1, h2, eq_comm]
    intro z; exact h1 z.symm
section
variable {B : Bs} {ρ : Ro} {μ : Mu} {te ta : TE} {ds : List D} {d : D} {p : Int × Int} {q : Int × Int} {qs : List (Int × Int)} {P : D → Prop} {d1 d2 : D} {P' : D → Prop}
theorem rd_ltVU (h : RD B rLtU ρ μ d1 d2 P') : RD B (rLtV B.K) ρ μ d1 d2 P' := RD.inl h
theorem rd_geVU (h : RD B rGeU ρ μ d1 d2 P') : RD B (rGeV B.K) ρ μ d1 d2 P' := RD.inl h
theorem rd_ltP : RD B (rLtV B.K) ρ μ (pairD p) (pairD q) (fun e => e = .bl (dLt (pairD p) (pairD q))) := RD.inr (rd_flat (fun _ => rfl) fun G H x y s a b Q z =>
  ⟨py (pairD p), py (pairD q), a.dp s _ rfl, b.dp s _ rfl, shaped_py rfl (Nat.le_trans (pair_plain p).2 (by decide)), shaped_py rfl (Nat.le_trans (pair_plain q).2 (by decide)), pair_alike p q, (fun e => by cases e), z⟩)
theorem rd_geP : RD B (rGeV B.K) ρ μ (pairD p) (pairD q) (fun e => e = .bl (!dLt (pairD p) (pairD q))) := RD.inr (rd_flat (fun _ => rfl) fun G H x y s a b Q z =>
  ⟨py (pairD p), py (pairD q), a.dp s _ rfl, b.dp s _ rfl, shaped_py rfl (Nat.le_trans (pair_plain p).2 (by decide)), shaped_py rfl (Nat.le_trans (pair_plain q).2 (by decide)), pair_alike p q, (fun e => by cases e), z⟩)
theorem rd_inP : RD B (rInT B.K false) ρ μ (pairD p) (.tup (qs.map pairD)) (fun e => e = .bl (decide (p ∈ qs))) := rd_flat (fun _ => rfl) fun G H x y s a b Q z =>
  ⟨py (pairD p), pyA (qs.map pairD), a.dp s _ rfl, b.dp s _ (pairs_plain qs).1, shaped_py rfl (Nat.le_trans (pair_plain p).2 (by decide)), shaped_py (pairs_plain qs).1 (Nat.le_trans (pairs_plain qs).2 (by decide)), by rw [pair_any, Bool.false_xor]; exact z⟩
theorem rd_notInP : RD B (rInT B.K true) ρ μ (pairD p) (.tup (qs.map pairD)) (fun e => e = .bl (!decide (p ∈ qs))) := rd_flat (fun _ => rfl) fun G H x y s a b Q z =>
  ⟨py (pairD p), pyA (qs.map pairD), a.dp s _ rfl, b.dp s _ (pairs_plain qs).1, shaped_py rfl (Nat.le_trans (pair_plain p).2 (by decide)), shaped_py (pairs_plain qs).1 (Nat.le_trans (pairs_plain qs).2 (by decide)), by rw [pair_any, Bool.true_xor]; exact z⟩
end
end Cal


namespace Cal
open PySem PySem.Spec PyProof.Rows L2
section
variable {B : Bs} {ρ : Ro} {μ : Mu} {te ta : TE} {ds : List D} {d : D} {k : Nat} {tt : TT} {P : D → Prop}
theorem DtA.rep {K : PySem.W.Frag} {G : Hp} {vs : List V} (h : DtA K G ds vs) : ∀ n : Nat, DtA K G (List.replicate n ds).flatten (List.replicate n vs).flatten
  | 0 => rfl
  | n + 1 => by
    rw [List.replicate_succ, List.replicate_succ, List.flatten_cons, List.flatten_cons]
    exact h.append (DtA.rep h n)
/-- t * n -/
theorem rd_repT {n : Int} (h1 : ds ≠ []) (h2 : 2 ≤ n ∧ n ≤ 1000) (h3 : ds.length ≤ 1000) : RD B (rRepT B.K) ρ μ (.tup ds) (.int n) (fun e => e = .tup (List.replicate n.toNat ds).flatten) := fun τ σ H x y a Q q => by
  obtain ⟨G, g, ⟨p, vs, rfl, e1, k1⟩, hy⟩ := a.two
  have hy' : y = V.int n := hy
  subst hy'
  exact ⟨p, n, vs, rfl, rfl, .inl (.inl (g.sub _ _ e1)), fun z => h1 (List.eq_nil_of_length_eq_zero (by rw [← k1.length, z]; rfl)), h2.1, h2.2, by rw [k1.length]; exact h3, fun p' hp' => q _ _ _ rfl (g.newTup hp' (k1.rep _))⟩
/-- a comprehension whose test isn't told by what stands there -/
theorem ev_lcN {wi : TI} {vs : List Nat} {n : Nat} {f h : Nat → D} (Pc : Nat → Bool → Prop) (hi : Ei B wi ρ μ n f) (hk : k ∈ vs) (hn : n ≤ 1000000) (ht : ∀ i, i < n → ∀ cl, Et B tt ((wipeR ρ vs).set k (some (f i))) (cl :: μ) (Pc i)) (he : ∀ i, i < n → ∀ cl, Ed B te ((wipeR ρ vs).set k (some (f i))) (cl :: μ) (h i))
    (hP : ∀ c : Nat → Bool, (∀ i, i < n → Pc i (c i)) → P (.lst (((List.range n).filter c).map h))) : Ev B (tLc wi (gName k) tt te vs) ρ μ P := Ev.mk fun τ σ H a Q q => hi (sv ρ σ ++ τ) σ H a.save _ fun J H1 τ1 hsub a1 hJ Dl hD => by
  have hf := a.fits
  refine ⟨fun i m H => m = n - i ∧ i ≤ n ∧ ∃ c : Nat → Bool, (∀ j, j < i → Pc j (c j)) ∧ At B ρ ((Dl, .lst (((List.range i).filter c).map h)) :: μ) τ1 σ H, ⟨n, by omega, Nat.zero_le _, fun _ => true, fun j hj => absurd hj (Nat.not_lt_zero _), (At.newCell (c := .lst []) (o := .lst []) a1 hD fun G _ => ⟨[], upd_same, rfl⟩).1⟩, fun i m H2 hW => ?_⟩
  obtain ⟨rfl, hin, c, hc0, a2⟩ := hW
  obtain ⟨s1, s2⟩ := hJ i ρ _ τ1 σ H2 (fun _ z => z) a2
  by_cases hlt : i < n
  · obtain ⟨s3, s4⟩ := s2 hlt
    have keep : ∀ b : Bool, ((List.range i).filter fun j => if j = i then b else c j) = (List.range i).filter c := fun b => List.filter_congr fun j hj => by
      have := List.mem_range.mp hj
      rw [if_neg (by omega)]
    have good : ∀ b : Bool, Pc i b → ∀ j, j < i + 1 → Pc j (if j = i then b else c j) := fun b hb j hj => by
      by_cases e : j = i
      · rw [if_pos e, e]; exact hb
      · rw [if_neg e]; exact hc0 j (by omega)
    refine .inr ⟨s3, fun H => ∃ c : Nat → Bool, (∀ j, j < i + 1 → Pc j (c j)) ∧ At B ρ ((Dl, .lst (((List.range (i + 1)).filter c).map h)) :: μ) τ1 σ H, fun H' ⟨c', h1, h2⟩ => ⟨n - (i + 1), by omega, rfl, hlt, c', h1, h2⟩, fun x H3 hy => ?_⟩
    refine gd_name k τ1 (wipe σ vs) H3 x (At.wiped (s4 x H3 hy) vs) _ fun σ' a3 hl3 hk3 => ⟨wipe_ext (js := [k]) (fun z hz => by rw [List.mem_singleton.mp hz]; exact hk) hl3 hk3, ?_⟩
    refine ht i hlt _ τ1 σ' H3 a3 _ fun b H4 hb a4 => ?_
    cases b with
    | true =>
      refine (he i hlt _).go a4 fun y H5 dy hdy a5 => ?_
      subst hdy
      obtain ⟨G, g5, vs5, e5, k5⟩ := a5.cell (j := 0) rfl
      have lc : (((List.range i).filter c).map h).length ≤ i := by
        rw [List.length_map]
        have := List.length_filter_le c (List.range i)
        rwa [List.length_range] at this
      refine ⟨vs5, e5, ?_, ?_⟩
      · rw [k5.length]
        exact Nat.lt_of_le_of_lt lc (Nat.lt_of_lt_of_le hlt (Nat.le_trans hn (by decide)))
      · refine ⟨fun j => if j = i then true else c j, good true hb, ?_⟩
        have e6 : (((List.range (i + 1)).filter fun j => if j = i then true else c j).map h) = ((List.range i).filter c).map h ++ [h i] := by
          rw [List.range_succ, List.filter_append, List.map_append, keep true, List.filter_cons, if_pos (if_pos rfl)]; rfl
        rw [e6]
        have a6 : At B ((wipeR ρ vs).set k (some (f i))) ((Dl, .lst (((List.range i).filter c).map h ++ [h i])) :: μ) ((y, h i) :: τ1) σ' (upd H5 Dl (.lst (vs5 ++ [y]))) := At.write (j := 0) (c' := .lst (((List.range i).filter c).map h ++ [h i])) a5 rfl fun G k1 ⟨vs6, e6, k6⟩ => by
          rw [e5] at e6
          cases e6
          exact ⟨_, upd_same, k6.append ⟨y, [], rfl, k1 _ (List.mem_cons_self ..), rfl⟩⟩
        exact At.restore hf a6.pop fun q hq => hsub q (List.mem_append_left _ hq)
    | false =>
      refine ⟨fun j => if j = i then false else c j, good false hb, ?_⟩
      have e6 : (((List.range (i + 1)).filter fun j => if j = i then false else c j).map h) = ((List.range i).filter c).map h := by
        rw [List.range_succ, List.filter_append, keep false, List.filter_cons, if_neg (by rw [if_pos rfl]; exact Bool.false_ne_true)]
        show (((List.range i).filter c) ++ []).map h = _
        rw [List.append_nil]
      rw [e6]
      exact At.restore hf a4 fun q hq => hsub q (List.mem_append_left _ hq)
  · have e : i = n := by omega
    subst e
    refine .inl ⟨s1 (Nat.le_refl _), ?_⟩
    exact q _ H2 _ (hP c hc0) (a2.freeze.sub fun z hz => by
      rcases List.mem_cons.mp hz with e | e
      · rw [e]; exact List.mem_cons_self ..
      · exact List.mem_cons_of_mem _ (hsub z (List.mem_append_right _ e)))
end
end Cal


namespace Cal
open PySem PySem.Spec PyProof.Rows L2
/-! ### a set made of a list of unlike texts, and its members sorted -/
/-- the set at a holds just the texts of l -/
structure Txs (P : Program) (w : World) (h : Heap) (a : Addr) (l : List Str) : Prop where
  ex : ∃ D : Froz.SD, h.get? a = some (Froz.sObj "set" D) ∧ Froz.TxOk P w D l ∧ Ris D.2.2.place.toList ∧ (w.params.followText "set-order" = true ∨ D.2.2.led = true)
theorem txs_at {P : Program} {w : World} {h h' : Heap} {a : Addr} {l : List Str} (R : Txs P w h a l) (k : ∀ o, h.get? a = some o → h'.get? a = some o) : Txs P w h' a l :=
  let ⟨D, h1, h2⟩ := R.ex
  ⟨D, k _ h1, h2⟩
theorem tail_ris {ep : Nat} {es : Array (Int × Value)} {t : SetTable} {wd : Bool} (r : Ris t.place.toList) : Ris (Froz.tailTx ep es t wd).2.2.place.toList ∧ (Froz.tailTx ep es t wd).2.2.led = t.led := by
  unfold Froz.tailTx
  split
  · exact ⟨relayAll_ris _ _ _, relayAll_led _ _ _⟩
  · exact ⟨r, rfl⟩
theorem add_ris {h : Int} {v : Value} {D : Froz.SD} (r : Ris D.2.2.place.toList) : Ris (Froz.addTx h v D).2.2.place.toList ∧ (Froz.addTx h v D).2.2.led = D.2.2.led := by
  have q1 := layNew_ris D.2.2 D.1 h v r
  have q2 := layNew_led D.2.2 D.1 h v
  unfold Froz.addTx
  split
  · obtain ⟨a, b⟩ := tail_ris (ep := D.2.1) (es := (layNew D.2.2 D.1 h v).1) (t := { (layNew D.2.2 D.1 h v).2.1 with plain := false }) (wd := (layNew D.2.2 D.1 h v).2.2.1) q1
    exact ⟨a, b.trans q2⟩
  · obtain ⟨a, b⟩ := tail_ris (ep := D.2.1) (es := (layNew D.2.2 D.1 h v).1) (t := (layNew D.2.2 D.1 h v).2.1) (wd := (layNew D.2.2 D.1 h v).2.2.1) q1
    exact ⟨a, b.trans q2⟩
section
variable {P : Program} {w : World} {A : Around} {E : Value → Shared → Prop} {s : Shared}
theorem txs_new {h : Heap} {a : Addr} (ho : h.get? a = some { cls := .type "set", dict := none, data := .set #[] 0 (.fresh 0 0 (!w.params.followText "set-order")) }) : Txs P w h a [] :=
  ⟨(#[], 0, .fresh 0 0 (!w.params.followText "set-order")), ho, Froz.TxOk.nil rfl, List.Pairwise.nil, by
    show _ ∨ (!w.params.followText "set-order") = true
    cases w.params.followText "set-order" <;> simp⟩
/-- the loop by which a list's items get into the set -/
theorem txs_loop {I : Addr} {fp wr : List Addr} {G : Array GenState → Array GenState → Prop} {n : Nat} {Pv : Nat → Value → Prop} {St : Nat → Shared → Prop} {R : Result → Shared → Prop}
    (W : WalksS P w A.in1 I fp wr G n Pv St) (S : Addr) (nS : S ∉ fp) (ks : List Str) (en : n = ks.length) (nd : ks.Nodup) (few : ks.length < 64)
    (item : ∀ i v, Pv i v → ∃ k u, ks[i]? = some k ∧ v = .str k u) : ∀ (m i : Nat) (s : Shared), n - i = m → i ≤ n → St i s → Txs P w s.heap S (ks.take i).reverse →
      (∀ s', Moved (S :: wr) G s s' → Txs P w s'.heap S ks.reverse → R (.ok (.ret .none)) s') → codeAny (model P w) A (.builtin "set.update.loop" ⟨[.ref S, .ref I], []⟩) R s
  | 0, i, s, hm, hi, st, hS, k => by
    have ei : i = n := by omega
    subst ei
    refine codeAny_builtin F.entry_set_update_loop ?_
    rw [Around.under_plainId F.plain_set_update_loop _]
    show wpAny _ A.in1 (pyNext (.ref I) >>= _) _ _ s
    refine wpAny_bind (W.done s _ _ st fun s' mv => ?_)
    show wpAny _ A.in1 (ret Value.none) _ _ s'
    rw [en, List.take_length] at hS
    exact wpAny_pure (k s' (mv.mono fun b hb => List.mem_cons_of_mem _ hb) (txs_at hS fun o e => mv.heap S o (fun z => nS (W.sub _ z)) e))
  | m + 1, i, s, hm, hi, st, hS, k => by
    have lt : i < n := by omega
    refine codeAny_builtin F.entry_set_update_loop ?_
    rw [Around.under_plainId F.plain_set_update_loop _]
    show wpAny _ A.in1 (pyNext (.ref I) >>= _) _ _ s
    refine wpAny_bind (W.item i s _ _ lt st fun v s' hP st' mv => ?_)
    obtain ⟨x, u, hx, rfl⟩ := item i v hP
    have hS' : Txs P w s'.heap S (ks.take i).reverse := txs_at hS fun o e => mv.heap S o (fun z => nS (W.sub _ z)) e
    obtain ⟨D, d1, d2, d3, d4⟩ := hS'.ex
    have lx : i < ks.length := by omega
    have new : x ∉ (ks.take i).reverse := fun z => by
      obtain ⟨j, hj, e⟩ := List.mem_take_iff_getElem.mp (List.mem_reverse.mp z)
      have e2 : ks[i] = x := (List.getElem?_eq_some_iff.mp hx).2
      have := (List.getElem_inj (h₀ := by omega) (h₁ := lx) nd).mp (e.trans e2.symm)
      omega
    show wpAny _ A.in1 (holding [Value.str x u] (setAdd S (.str x u)) >>= _) _ _ s'
    refine wpAny_bind (wpAny_holding ?_)
    unfold setAdd
    refine wpAny_holding (wpAny_bind ((PySem.strKind P w).pyHash (k := x) (Froz.is_str x u) ?_))
    refine Froz.add_x (s := { s' with toks := s'.toks + 1 }) d1 d2 new (by rw [List.length_reverse, List.length_take]; unfold scanBound; omega) ?_
    obtain ⟨r1, r2⟩ := add_ris (h := hashStr w x) (v := .str x u) d3
    have other : ∀ b, b ≠ S → ∀ o, s'.heap.get? b = some o → (s'.heap.update S fun _ => Froz.sObj "set" (Froz.addTx (hashStr w x) (.str x u) D)).get? b = some o := fun b hb o e => by
      rw [Heap.get?_update_ne _ _ _ _ hb]; exact e
    have got : Txs P w (s'.heap.update S fun _ => Froz.sObj "set" (Froz.addTx (hashStr w x) (.str x u) D)) S (ks.take (i + 1)).reverse := by
      refine ⟨_, Froz.get_upd _ d1 rfl, ?_, r1, by rw [r2]; exact d4⟩
      have e3 : (ks.take (i + 1)).reverse = x :: (ks.take i).reverse := by rw [List.take_add_one, hx, List.reverse_append]; rfl
      rw [e3]
      exact Froz.add_ok u d2
    refine wpAny_pure ⟨plainId_quiet F.plain_set_update_loop _, txs_loop W S nS ks en nd few item m (i + 1) _ (by omega) lt (W.frame _ s' _ _ st' (Nat.le_succ _) fun b hb o e => other b (fun z => nS (z ▸ hb)) o e) got fun s'' mv2 hS2 => ?_⟩
    exact k s'' (Moved.trans W.gtrans ((mv.mono fun b hb => List.mem_cons_of_mem _ hb).then_heap (Nat.le_succ _) fun b o hb e => other b (fun z => hb (by rw [z]; exact List.mem_cons_self)) o e) mv2) hS2
end
end Cal


namespace Cal
open PySem PySem.Spec PyProof.Rows L2
theorem txt_at : ∀ {us : List Value} {xs : List Str}, StrsAre us xs → ∀ {i : Nat} {v : Value}, us[i]? = some v → ∃ k u, xs[i]? = some k ∧ v = .str k u
  | _, _, .nil, i, v, h => by simp at h
  | _, _, .cons k u r, 0, v, h => by
    simp at h
    exact ⟨k, u, rfl, h.symm⟩
  | _, _, .cons k u r, i + 1, v, h => by
    obtain ⟨k', u', h1, h2⟩ := txt_at r (i := i) (by simpa using h)
    exact ⟨k', u', by simpa using h1, h2⟩
/-- a set that was just made -/
def freshSet (w : World) : Obj := { cls := .type "set", dict := none, data := .set #[] 0 (.fresh 0 0 (!w.params.followText "set-order")) }
section
variable {P : Program} {w : World} {A : Around} {E : Value → Shared → Prop} {s : Shared}
theorem txs_call {l : Addr} {its : Array Value} {ks : List Str} {Q : Value → Shared → Prop} (hh : A.handled = none) (hl : s.heap.IsList l its) (is : StrsAre its.toList ks) (nd : ks.Nodup) (few : ks.length < 64)
    (h : ∀ (h' : Heap) (tk : Nat), Txs P w h' s.heap.objs.size ks.reverse → (∀ b o, s.heap.get? b = some o → h'.get? b = some o) → Q (.ref s.heap.objs.size) { s with heap := h', toks := tk }) :
    wpAny (model P w) A (call (.type "set") [.ref l]) Q E s := by
  have en : its.size = ks.length := by
    have := is.length
    rw [Array.length_toList] at this
    exact this
  have ⟨c, tl, mro⟩ := F.called_set.mro
  have made := F.called_set.made
  have sub := F.called_set.sub
  refine wpAny_call (codeAny_of_tree ?_)
  show wpAny _ _ (callAny (.type "set") _) _ _ _
  refine wpAny_pure ⟨Code.quiet_builtin _ (by decide +kernel), codeAny_builtin F.entry_type_call ?_⟩
  rw [Around.under_plain (weight_type_call_type "set" [.ref l] []) rfl]
  have n1 := F.called_set.notType
  have n2 := F.called_set.canCreate
  have ok1 := F.typeCall_set_1 (.ref l)
  repeat (any_goals (first | assumption | wp_step))
  refine codeAny_mono (code_set_led1 (.ref l) (E := E) (Q₁ := fun o t => o = .ref s.heap.objs.size ∧ t = { s with heap := s.heap.push (freshSet w) }) ⟨rfl, rfl⟩) fun r t hr => ?_
  cases r with
  | error e => exact hr
  | ok fl => cases fl with
    | ret o =>
      obtain ⟨rfl, rfl⟩ := hr
      have gS : (s.heap.push (freshSet w)).get? s.heap.objs.size = some (freshSet w) := Heap.get?_push_size _ rfl
      have tS : Shared.TypeIs { s with heap := s.heap.push (freshSet w) } (.ref s.heap.objs.size) "set" := ⟨_, gS, rfl⟩
      have look := F.called_set.init.lookup
      have bnd := F.called_set.init.bind (.ref s.heap.objs.size)
      repeat (any_goals (first | assumption | wp_step))
      refine codeAny_mono (codeAny_call_builtin (R := wants (fun r t => r = .none ∧ ∃ h' tk, t = { s with heap := h', toks := tk } ∧ Txs P w h' s.heap.objs.size ks.reverse ∧ ∀ b o, s.heap.get? b = some o → h'.get? b = some o) E)
        F.called_set.init.plain F.entry_set_init (check_set_init_1 tS ?_)) fun r2 t2 hr2 => ?_
      · obtain ⟨⟨lc, ldi, lda, lsl⟩, gl, cl, nl, dl⟩ := hl
        simp only at cl dl
        subst cl; subst dl
        have gl' : (s.heap.push (freshSet w)).get? l = some { cls := .type "list", dict := ldi, data := .seq its nl, slots := lsl } := Heap.get?_push_of_some _ gl
        have u1 := F.sub_list_set
        have u2 := F.sub_list_frozenset
        have u3 : (Value.type "list" == Value.type "dict") = false := by decide
        have il : (s.heap.push (freshSet w)).IsList l its := ⟨_, gl', rfl, nl, rfl⟩
        unfold Builtin.«set.__init__» noKeywords Builtin.Frozenset.updateFrom
        generalize hPI : pyIter = PI
        wp_walk
        subst hPI
        refine wpAny_pyIter_list il (wpAny_bind (wpAny_runValue ?_))
        have ltl : l < s.heap.objs.size := Heap.lt_size gl
        have h3 : A.in1.in1.in1.handled = none := by simp [hh]
        have sz : (s.heap.push (freshSet w)).objs.size = s.heap.objs.size + 1 := Heap.size_push ..
        have neI : l ≠ (s.heap.push (freshSet w)).objs.size := by rw [sz]; exact Nat.ne_of_lt (Nat.lt_succ_of_lt ltl)
        have nS : s.heap.objs.size ∉ [(s.heap.push (freshSet w)).objs.size, l] := by
          rw [sz]
          intro z
          rcases List.mem_cons.mp z with z | z
          · exact Nat.ne_of_lt (Nat.lt_succ_self _) z
          · exact Nat.ne_of_gt ltl (List.mem_singleton.mp z)
        refine txs_loop ((Walks.list h3 _ l neI its).toS) s.heap.objs.size nS ks en nd few (fun i v hv => ?_) (its.size - 0) 0 _ (by omega) (Nat.zero_le _) ⟨⟨_, Heap.get?_push_size _ rfl, rfl, rfl⟩, il.push _⟩ (txs_new (Heap.get?_push_of_some _ gS)) fun t' mv hS => ?_
        · have q : its.toList[i]? = some v := by rw [Array.getElem?_toList]; exact hv
          exact txt_at is q
        · obtain ⟨h', g', d', tk', os'⟩ := t'
          have eg : g' = s.gens := mv.gens
          have ed : d' = s.drawn := mv.drawn
          have eo : os' = s.os := mv.os
          subst eg; subst ed; subst eo
          show wpAny _ _ _ _ _ _
          refine wpAny_pure ?_
          show wpAny _ _ (ret Value.none) _ _ _
          refine wpAny_pure ⟨rfl, h', tk', rfl, hS, fun b o e => ?_⟩
          have lb := Heap.lt_size e
          refine mv.heap b o (fun z => ?_) (Heap.get?_push_of_some _ (Heap.get?_push_of_some _ e))
          rcases List.mem_cons.mp z with z | z
          · exact Nat.ne_of_lt lb z
          · refine Nat.ne_of_lt (Nat.lt_succ_of_lt lb) ?_
            exact (List.mem_singleton.mp z).trans sz
      · cases r2 with
        | error e => exact hr2
        | ok fl2 => cases fl2 with
          | ret r =>
            obtain ⟨rfl, h', tk, rfl, hS, k⟩ := hr2
            repeat (any_goals (first | assumption | wp_step))
            exact h _ _ hS k
          | _ => exact hr2.elim
    | _ => exact hr.elim
theorem txs_vals {D : Froz.SD} {l : List Str} (F : Froz.TxOk P w D l) : ∃ ss, StrsAre (D.1.toList.map (·.2)) ss ∧ ∀ k, k ∈ ss ↔ k ∈ l := by
  have go : ∀ es : List (Int × Value), ElemsOf (PySem.strKind P w) es → ∃ ss, StrsAre (es.map (·.2)) ss ∧ ∀ k, k ∈ ss ↔ ∃ e ∈ es, (PySem.strKind P w).is k e.2 = true := fun es => by
    induction es with
    | nil => exact fun _ => ⟨[], .nil, fun k => by simp⟩
    | cons e r ih =>
      intro h
      obtain ⟨ss, s1, s2⟩ := ih h.tail
      obtain ⟨⟨k, hk, _⟩, _⟩ := h.head
      obtain ⟨t, e2⟩ : ∃ t, e.2 = .str k t := Value.isStrOf_shape hk
      refine ⟨k :: ss, by rw [List.map_cons, e2]; exact .cons k t s1, fun k' => ?_⟩
      rw [List.mem_cons, s2 k']
      constructor
      · rintro (z | ⟨e', he, z⟩)
        · exact ⟨e, List.mem_cons_self, by rw [z]; exact hk⟩
        · exact ⟨e', List.mem_cons_of_mem _ he, z⟩
      · rintro ⟨e', he, z⟩
        rcases List.mem_cons.mp he with y | y
        · rw [y] at z
          exact .inl ((PySem.strKind P w).inj e.2 k' k z hk)
        · exact .inr ⟨e', y, z⟩
  obtain ⟨ss, s1, s2⟩ := go _ F.el
  exact ⟨ss, s1, fun k => (s2 k).trans (F.mem k).symm⟩
theorem txs_sorted {a : Addr} {l : List Str} {Q : Value → Shared → Prop} (R : Txs P w s.heap a l) (hh : A.handled = none) (few : l.length < 64)
    (hQ : ∀ s' p (out : Array Value) (c : Nat) (ys : List Str), (∀ b o, s.heap.get? b = some o → s'.heap.get? b = some o) → s'.gens = s.gens → s'.os = s.os → s.heap.objs.size ≤ p →
      s'.heap.get? p = some (seqObj "list" out c) → StrsAre out.toList ys → sortedS ys = true → (∀ k, k ∈ ys ↔ k ∈ l) → ys.length = l.length → Q (.ref p) s') :
    wpAny (model P w) A (call (.builtin "sorted") [.ref a]) Q E s := by
  obtain ⟨⟨es, ep, t⟩, ho, tx, ris, led⟩ := R.ex
  have sz : es.size = l.length := tx.sz
  have small : es.size < scanBound := by rw [sz]; unfold scanBound; omega
  refine Calls.call_function_entry kind_sorted plain_sorted entry_sorted (args_sorted1 _) ?_
  unfold Builtin.«sorted»
  refine wpAny_bind (m := checkCount "sorted" 1 1 _) (wpAny_pure (wpAny_bind ?_))
  refine collect_set (A := A.in1) (es := es) (ep := ep) (t := t) hh ⟨_, ho, rfl, rfl⟩ tx.fit small ris led fun s1 vs k1 hz g1 o1 pm => ?_
  have vl : vs.length = l.length := by rw [pm.length_eq, List.length_map, Array.length_toList, sz]
  obtain ⟨ss0, a0, m0⟩ := txs_vals tx
  obtain ⟨ss, as, ps⟩ : ∃ ss, StrsAre vs ss ∧ ss.Perm ss0 := ⟨vs.map strOf, strsAre_map vs fun v hv => a0.all v (pm.mem_iff.mp hv), by rw [← a0.strs]; exact pm.map strOf⟩
  refine wpAny_bind (wpAny_newList ?_ (by rw [vl, sizeLine_eq]; omega))
  have gL : (s1.heap.push (seqObj "list" vs.toArray 0)).get? s1.heap.objs.size = some (seqObj "list" vs.toArray 0) := Heap.get?_push_size _ rfl
  refine wpAny_bind (wpAny_holding (wpAny_call_entry slot_list_sort ⟨_, gL, rfl⟩ entry_list_sort (list_sort_treeK strKind_oneLt gL as.keysOf (fun v1 v2 rest e => keyKind_strs (by rw [← e]; exact as)) (by rw [vl]; exact few) fun st' p1 p2 => ⟨_, rfl, ?_⟩) (args_list_sort _)))
  obtain ⟨ys, y1, y2, y3⟩ := sorted_out_str as p1 p2
  obtain ⟨c, hc⟩ := sortedHeap_at (vs := vs) (out := (arrOf st').map (·.2)) gL
  refine wpAny_pure ⟨_, rfl, hQ _ s1.heap.objs.size _ c ys (fun b u e => ?_) g1 o1 hz hc y1 y3 (fun k => by rw [y2.mem_iff, ps.mem_iff, m0 k]) (by rw [y2.length_eq, ← as.length, vl])⟩
  have q := k1 b u e
  have lt := Heap.lt_size q
  show (sortedHeap (s1.heap.push (seqObj "list" vs.toArray 0)) s1.heap.objs.size vs _).get? b = some u
  rw [sortedHeap_old (Nat.ne_of_lt lt) (by rw [size_push']; exact Nat.lt_succ_of_lt lt)]
  exact Heap.get?_push_of_some _ q
end
/-! ### over the layer -/
def SetT (P : Program) (w : World) (a : Addr) (l : List Str) : HO := .ext fun h => Txs P w h a l
theorem setT_new {P : Program} {w : World} {H : Hp} {h : Heap} {a : Addr} {l : List Str} (R : Txs P w h a l) : ObjOk P w H h a (SetT P w a l) := by
  obtain ⟨D, ho, _⟩ := R.ex
  exact ⟨R, ⟨_, ho⟩, fun _ _ p k => txs_at p k⟩
section
variable {X : Cx}
/-- set(names), a list of unlike texts -/
def rSetS (K : PySem.W.Frag) (P : Program) (w : World) : List V → Hp → VK → Prop := fun xs H Q => ∃ (l : Addr) (ks : List Str), xs = [V.ref l] ∧ SqL K H l (ks.map V.str) ∧ ks.Nodup ∧ ks.length < 64 ∧ ∀ a, H a = none → Q (.ref a) (upd H a (SetT P w a ks.reverse))
theorem cr_setS (hc : X.calm = true) : CallR X (.type "set") (rSetS X.K X.prog X.w) := by
  intro pins s σ H xs us Q I r h
  obtain ⟨l, ks, rfl, hl, nd, few, q⟩ := h
  rw [Vals.ref1 r]
  obtain ⟨its, rv, pl, _⟩ := I.list hl
  refine txs_call (P := X.prog) (w := X.w) (I.ok.hd hc) pl.isList (by simpa using strsAre_of rv) nd few fun h' tk R k => ?_
  exact ⟨.ref s.heap.objs.size, upd H s.heap.objs.size (SetT X.prog X.w s.heap.objs.size ks.reverse), I.laid (t' := tk) k (Nat.le_refl _) (setT_new R), rfl, q _ (I.hok.fresh (Nat.le_refl _))⟩
/-- sorted(set) -/
def rSortedTx (P : Program) (w : World) : List V → Hp → VK → Prop := fun vs H Q => ∃ (a : Addr) (l : List Str), vs = [V.ref a] ∧ H a = some (SetT P w a l) ∧ l.length < 64 ∧
  ∀ (ys : List Str) (p : Addr), sortedS ys = true → (∀ k, k ∈ ys ↔ k ∈ l) → ys.length = l.length → H p = none → Q (.ref p) (upd H p (.lst (ys.map V.str)))
theorem cr_sortedTx (hc : X.calm = true) : CallR X (.builtin "sorted") (rSortedTx X.prog X.w) := by
  intro pins s σ H vs us Q I r h
  obtain ⟨a, l, rfl, ha, few, q⟩ := h
  have R : Txs X.prog X.w s.heap a l := (I.hok a _ ha).1
  rw [Vals.ref1 r]
  refine txs_sorted R (I.ok.hd hc) few fun s' p out c ys k g o hp hg hs m1 m2 m3 => ?_
  have len : (ys.map V.str).length ≤ sizeLine := by rw [List.length_map, m3, sizeLine_eq]; omega
  have hn : H p = none := I.hok.fresh hp
  have J : Inv X pins σ (upd H p (.lst (ys.map V.str))) { s with heap := s'.heap, gens := s'.gens, drawn := s'.drawn, toks := s'.toks } :=
    I.call (ch := []) (Un.laid k hp hn) (I.hok.laid k hp ⟨len, out.toList, c, vals_of_strs hs, hg⟩) (by rw [g]; exact I.bare) fun _ z => nomatch z
  have e : s' = { s with heap := s'.heap, gens := s'.gens, drawn := s'.drawn, toks := s'.toks } := by
    cases s'; cases s; cases o; rfl
  rw [e]
  exact ⟨.ref p, _, J, rfl, q ys p m1 m2 m3 hn⟩
end
end Cal


namespace Cal
open PySem PySem.Spec PyProof.Rows L2
section
variable {P : Program} {w : World} {A : Around} {E : Value → Shared → Prop} {s : Shared}
/-- set(t), t a tuple of tuples of ints -/
theorem tups_call {l : Addr} {its : Array Value} (ks : List (Addr × List Int)) {Q : Value → Shared → Prop} (hh : A.handled = none) (hl : s.heap.IsTuple l its) (hit : its.toList = ks.map fun p => Value.ref p.1)
    (hk : ∀ p ∈ ks, IsT P w s.heap p.2 p.1) (few : ks.length < 64) (hu : A.units + 3 < cLine)
    (h : ∀ (h' : Heap) (tk : Nat) L es ep t, SetTR P w h' s.heap.objs.size L es ep t → Got ks ks.length L → (∀ b o, s.heap.get? b = some o → h'.get? b = some o) → Q (.ref s.heap.objs.size) { s with heap := h', toks := tk }) :
    wpAny (model P w) A (call (.type "set") [.ref l]) Q E s := by
  have en : its.size = ks.length := by
    have q := congrArg List.length hit
    rw [Array.length_toList, List.length_map] at q
    exact q
  have ⟨c, tl, mro⟩ := F.called_set.mro
  have made := F.called_set.made
  have sub := F.called_set.sub
  refine wpAny_call (codeAny_of_tree ?_)
  show wpAny _ _ (callAny (.type "set") _) _ _ _
  refine wpAny_pure ⟨Code.quiet_builtin _ (by decide +kernel), codeAny_builtin F.entry_type_call ?_⟩
  rw [Around.under_plain (weight_type_call_type "set" [.ref l] []) rfl]
  have n1 := F.called_set.notType
  have n2 := F.called_set.canCreate
  have ok1 := F.typeCall_set_1 (.ref l)
  repeat (any_goals (first | assumption | wp_step))
  refine codeAny_mono (code_set_led1 (.ref l) (E := E) (Q₁ := fun o t => o = .ref s.heap.objs.size ∧ t = { s with heap := s.heap.push (freshSet w) }) ⟨rfl, rfl⟩) fun r t hr => ?_
  cases r with
  | error e => exact hr
  | ok fl => cases fl with
    | ret o =>
      obtain ⟨rfl, rfl⟩ := hr
      have gS : (s.heap.push (freshSet w)).get? s.heap.objs.size = some (freshSet w) := Heap.get?_push_size _ rfl
      have tS : Shared.TypeIs { s with heap := s.heap.push (freshSet w) } (.ref s.heap.objs.size) "set" := ⟨_, gS, rfl⟩
      have look := F.called_set.init.lookup
      have bnd := F.called_set.init.bind (.ref s.heap.objs.size)
      repeat (any_goals (first | assumption | wp_step))
      refine codeAny_mono (codeAny_call_builtin (R := wants (fun r t => r = .none ∧ ∃ h' tk L es ep tb, t = { s with heap := h', toks := tk } ∧ SetTR P w h' s.heap.objs.size L es ep tb ∧ Got ks ks.length L ∧ ∀ b o, s.heap.get? b = some o → h'.get? b = some o) E)
        F.called_set.init.plain F.entry_set_init (check_set_init_1 tS ?_)) fun r2 t2 hr2 => ?_
      · obtain ⟨⟨lc, ldi, lda, lsl⟩, gl, cl, nl, dl⟩ := hl
        simp only at cl dl
        subst cl; subst dl
        have gl' : (s.heap.push (freshSet w)).get? l = some { cls := .type "tuple", dict := ldi, data := .seq its nl, slots := lsl } := Heap.get?_push_of_some _ gl
        have u1 := F.sub_tuple_set
        have u2 := F.sub_tuple_frozenset
        have u3 : (Value.type "tuple" == Value.type "dict") = false := by decide
        have il : (s.heap.push (freshSet w)).IsTuple l its := ⟨_, gl', rfl, nl, rfl⟩
        unfold Builtin.«set.__init__» noKeywords Builtin.Frozenset.updateFrom
        generalize hPI : pyIter = PI
        wp_walk
        subst hPI
        refine wpAny_pyIter_tuple il (wpAny_bind (wpAny_runValue ?_))
        have ltl : l < s.heap.objs.size := Heap.lt_size gl
        have h3 : A.in1.in1.in1.handled = none := by simp [hh]
        have sz : (s.heap.push (freshSet w)).objs.size = s.heap.objs.size + 1 := Heap.size_push ..
        have neI : l ≠ (s.heap.push (freshSet w)).objs.size := by rw [sz]; exact Nat.ne_of_lt (Nat.lt_succ_of_lt ltl)
        have nS : s.heap.objs.size ∉ [(s.heap.push (freshSet w)).objs.size, l] := by
          rw [sz]
          intro z
          rcases List.mem_cons.mp z with z | z
          · exact Nat.ne_of_lt (Nat.lt_succ_self _) z
          · exact Nat.ne_of_gt ltl (List.mem_singleton.mp z)
        have none_of : ∀ b, s.heap.objs.size ≤ b → s.heap.get? b = none := fun b hb => by
          cases q : s.heap.get? b with
          | none => rfl
          | some o => exact absurd (Nat.lt_of_lt_of_le (Heap.lt_size q) hb) (Nat.lt_irrefl _)
        refine set_update_tups ((Walks.tuple h3 _ l neI its).toS) s.heap.objs.size nS ks en few (fun i v hv => ?_) s.heap hk (none_of _ (Nat.le_refl _)) (fun b hb => none_of b (by
            rw [List.mem_singleton.mp hb, sz]
            exact Nat.le_succ _)) hu (its.size - 0) 0 _ (by omega) (Nat.zero_le _) ⟨⟨_, Heap.get?_push_size _ rfl, rfl, rfl⟩, ?_⟩ (fun b o e => Heap.get?_push_of_some _ (Heap.get?_push_of_some _ e)) ⟨[], #[], 0, _, setTR_fresh (Heap.get?_push_of_some _ gS), Got.zero ks⟩ fun t' L es ep tb mv hS got hkp => ?_
        · have q : its.toList[i]? = some v := by rw [Array.getElem?_toList]; exact hv
          rw [hit, List.getElem?_map] at q
          cases hq : ks[i]? with
          | none => rw [hq] at q; cases q
          | some p =>
            rw [hq] at q
            exact ⟨p, rfl, (Option.some.inj q).symm⟩
        · exact ⟨_, Heap.get?_push_of_some _ gl', rfl, nl, rfl⟩
        · obtain ⟨h', g', d', tk', os'⟩ := t'
          have eg : g' = s.gens := mv.gens
          have ed : d' = s.drawn := mv.drawn
          have eo : os' = s.os := mv.os
          subst eg; subst ed; subst eo
          show wpAny _ _ _ _ _ _
          refine wpAny_pure ?_
          show wpAny _ _ (ret Value.none) _ _ _
          rw [en] at got
          exact wpAny_pure ⟨rfl, h', tk', L, es, ep, tb, rfl, hS, got, hkp⟩
      · cases r2 with
        | error e => exact hr2
        | ok fl2 => cases fl2 with
          | ret r =>
            obtain ⟨rfl, h', tk, L, es, ep, tb, rfl, hS, got, k⟩ := hr2
            repeat (any_goals (first | assumption | wp_step))
            exact h _ _ _ _ _ _ hS got k
          | _ => exact hr2.elim
    | _ => exact hr.elim
end
end Cal


namespace Cal
open PySem PySem.Spec PyProof.Rows L2
section
variable {X : Cx}
/-- set(t), t a tuple of tuples of ints -/
def rSetOfTT (K : PySem.W.Frag) (P : Program) (w : World) : List V → Hp → VK → Prop := fun xs H Q => ∃ (l : Addr) (ks : List (Addr × List Int)), xs = [V.ref l] ∧ SqT K H l (ks.map fun p => V.ref p.1) ∧ (∀ p ∈ ks, SqT K H p.1 (p.2.map V.int)) ∧ ks.length < 64 ∧
  ∀ a L, H a = none → (∀ p ∈ L, p ∈ ks) → (∀ p ∈ ks, p.2 ∈ L.map (·.2)) → Q (.ref a) (upd H a (SetTO P w a L))
theorem cr_setOfTT (hc : X.calm = true) (hu : X.A.units + 64 < cLine) : CallR X (.type "set") (rSetOfTT X.K X.prog X.w) := by
  intro pins s σ H xs us Q I r h
  obtain ⟨l, ks, rfl, hl, hk, few, q⟩ := h
  rw [Vals.ref1 r]
  obtain ⟨its, rv, pl, _⟩ := I.tuple hl
  refine tups_call (P := X.prog) (w := X.w) (its := its.toArray) ks (I.ok.hd hc) pl (by simpa using refs_of_vals rv) (fun p hp => I.isT (hk p hp)) few (by omega) fun h' tk L es ep t R g k => ?_
  refine ⟨.ref s.heap.objs.size, upd H s.heap.objs.size (SetTO X.prog X.w s.heap.objs.size L), I.laid (t' := tk) k (Nat.le_refl _) (setTO_new R.t0), rfl, q _ L (I.hok.fresh (Nat.le_refl _)) (fun p hp => ?_) fun p hp => ?_⟩
  · exact List.mem_of_mem_take (g.sub p hp)
  · exact g.all p (by rw [List.take_length]; exact hp)
end
theorem DtA.pairs {K : PySem.W.Frag} {G : Hp} : ∀ {qs : List (Int × Int)} {vs : List V}, DtA K G (qs.map pairD) vs → ∃ ks : List (Addr × List Int), vs = ks.map (fun p => V.ref p.1) ∧ ks.map (·.2) = qs.map (fun q => [q.1, q.2]) ∧ ∀ p ∈ ks, G p.1 = some (.tup (p.2.map V.int))
  | [], _, h => ⟨[], by rw [show _ = [] from h]; rfl, rfl, fun p hp => by cases hp⟩
  | q :: r, _, ⟨v, vs, rfl, hv, hr⟩ => by
    obtain ⟨ks, rfl, h2, h3⟩ := DtA.pairs hr
    obtain ⟨p, us, rfl, e, k⟩ := hv
    have k' : us = [V.int q.1, V.int q.2] := by
      obtain ⟨v1, r1, rfl, a1, b1⟩ := k
      obtain ⟨v2, r2, rfl, a2, b2⟩ := b1
      rw [show v1 = V.int q.1 from a1, show v2 = V.int q.2 from a2, show r2 = [] from b2]
    subst k'
    refine ⟨(p, [q.1, q.2]) :: ks, rfl, by rw [List.map_cons, List.map_cons, h2], fun x hx => ?_⟩
    rcases List.mem_cons.mp hx with z | z
    · rw [z]; exact e
    · exact h3 x z
theorem DtA.ofPairs {K : PySem.W.Frag} {G : Hp} : ∀ {L : List (Addr × List Int)}, (∀ p ∈ L, G p.1 = some (.tup (p.2.map V.int)) ∧ p.2.length = 2) → DtA K G ((L.map fun p => (p.2.getD 0 0, p.2.getD 1 0)).map pairD) (L.map fun p => V.ref p.1)
  | [], _ => rfl
  | p :: r, h => by
    obtain ⟨h1, h2⟩ := h p (List.mem_cons_self ..)
    refine ⟨V.ref p.1, _, rfl, ⟨p.1, _, rfl, h1, ?_⟩, DtA.ofPairs fun x hx => h x (List.mem_cons_of_mem _ hx)⟩
    obtain ⟨a, xs⟩ := p
    match xs, h2 with
    | [x, y], _ => exact ⟨V.int x, _, rfl, rfl, V.int y, [], rfl, rfl, rfl⟩
section
variable {B : Bs} {ρ : Ro} {μ : Mu} {te : TE} {Pg : Program} {w : World}
/-- sorted(set(pairs)) -/
theorem ev_sortSetP {qs : List (Int × Int)} (h : Ed B te ρ μ (.tup (qs.map pairD))) (hb : ∀ q ∈ qs, (0 ≤ q.1 ∧ q.1 < 1000) ∧ 0 ≤ q.2 ∧ q.2 < 1000) (few : qs.length < 64) :
    Ev B (tCB (rSortedT B.K Pg w) (tCons (tCB (rSetOfTT B.K Pg w) (tCons te tNil)) tNil)) ρ μ (fun e => ∃ ys : List (Int × Int), e = .lst (ys.map pairD) ∧ (∀ y ∈ ys, y ∈ qs) ∧ ys.length < 64) := Ev.mk fun τ σ H a Q q => h.go a fun v H1 d hd a1 => by
  subst hd
  obtain ⟨G, g, p, vs, rfl, e, k⟩ := id a1.top
  obtain ⟨ks, rfl, k2, k3⟩ := k.pairs
  have kl : ks.length = qs.length := by have := congrArg List.length k2; rwa [List.length_map, List.length_map] at this
  have mem : ∀ x ∈ ks, ∃ q ∈ qs, x.2 = [q.1, q.2] := fun x hx => by
    have : x.2 ∈ qs.map (fun q => [q.1, q.2]) := by rw [← k2]; exact List.mem_map.mpr ⟨x, hx, rfl⟩
    obtain ⟨q, hq, e⟩ := List.mem_map.mp this
    exact ⟨q, hq, e.symm⟩
  refine ⟨p, ks, rfl, .inl (.inl (g.sub _ _ e)), fun x hx => .inl (.inl (g.sub _ _ (k3 x hx))), by omega, fun a' L ha' l1 l2 => ?_⟩
  obtain ⟨g2, sm⟩ := g.new (o := SetTO Pg w a' L) ha'
  refine ⟨a', L, 2, 1000, rfl, upd_same, fun x hx => .inl (.inl (g2.sub _ _ (sm _ _ (k3 x (l1 x hx))))), by decide, fun x hx => ?_, fun L' p2 pm nd len pw hp2 => ?_⟩
  · obtain ⟨q, hq, e⟩ := mem x (l1 x hx)
    rw [e]
    refine ⟨rfl, fun z hz => ?_⟩
    have := hb q hq
    simp only [List.mem_cons, List.mem_nil_iff, or_false] at hz
    rcases hz with rfl | rfl
    · exact this.1
    · exact this.2
  · have dL := DtA.ofPairs (K := B.K) (G := upd G a' (SetTO Pg w a' L)) (L := L') fun x hx => by
      have hx' := l1 x (pm.mem_iff.mp hx)
      obtain ⟨q, hq, e⟩ := mem x hx'
      exact ⟨sm _ _ (k3 x hx'), by rw [e]; rfl⟩
    refine q _ _ _ ⟨_, rfl, fun y hy => ?_, by rw [List.length_map]; exact len⟩ (g2.newLst hp2 dL)
    obtain ⟨x, hx, rfl⟩ := List.mem_map.mp hy
    obtain ⟨q, hq, e⟩ := mem x (l1 x (pm.mem_iff.mp hx))
    rw [e]; exact hq
end
end Cal


namespace Cal
open PySem PySem.Spec PyProof.Rows L2
theorem getD_mapG {α : Type} (g : α → D) (z : α) (l : List α) {i : Nat} (hi : i < l.length) : (l.map g).getD i .non = g (l.getD i z) := by
  rw [List.getD_eq_getElem?_getD, List.getElem?_map, List.getElem?_eq_getElem hi, List.getD_eq_getElem?_getD, List.getElem?_eq_getElem hi]; rfl
theorem Ei.congrG {B : Bs} {wi : TI} {ρ : Ro} {μ : Mu} {n : Nat} {f g : Nat → D} (h : Ei B wi ρ μ n f) (k : ∀ i, i < n → f i = g i) : Ei B wi ρ μ n g := fun τ σ H a Rr q => h τ σ H a Rr fun J H1 τ1 hsub a1 hJ => q J H1 τ1 hsub a1 fun i ρ' μ' τ' σ' H' hs a2 => by
  obtain ⟨s1, s2⟩ := hJ i ρ' μ' τ' σ' H' hs a2
  refine ⟨s1, fun hi => ?_⟩
  obtain ⟨s3, s4⟩ := s2 hi
  exact ⟨s3, fun x H2 hy => by rw [← k i hi]; exact s4 x H2 hy⟩
theorem ei_tupG {B : Bs} {tl : TE} {ρ : Ro} {μ : Mu} {α : Type} (g : α → D) (z : α) {l : List α} (h : Ed B tl ρ μ (.tup (l.map g))) : Ei B (iTup B.K tl) ρ μ l.length (fun i => g (l.getD i z)) := by
  have := ei_tup h
  rw [List.length_map] at this
  exact this.congrG fun i hi => getD_mapG g z l hi
theorem ei_lstG {B : Bs} {tl : TE} {ρ : Ro} {μ : Mu} {α : Type} (g : α → D) (z : α) {l : List α} (h : Ed B tl ρ μ (.lst (l.map g))) : Ei B (iList B.K tl) ρ μ l.length (fun i => g (l.getD i z)) := by
  have := ei_lst h
  rw [List.length_map] at this
  exact this.congrG fun i hi => getD_mapG g z l hi
theorem range_getG {α β : Type} (z : α) (l : List α) (g : α → β) : (List.range l.length).map (fun i => g (l.getD i z)) = l.map g := by
  refine List.ext_getElem? fun i => ?_
  rw [List.getElem?_map, List.getElem?_map]
  by_cases hi : i < l.length
  · rw [List.getElem?_range hi, List.getElem?_eq_getElem hi]
    show some (g (l.getD i z)) = _
    rw [List.getD_eq_getElem?_getD, List.getElem?_eq_getElem hi]; rfl
  · rw [List.getElem?_eq_none (by simpa using hi), List.getElem?_eq_none (by simpa using hi)]; rfl
end Cal


namespace Cal
open PySem PySem.Spec PyProof.Rows L2
abbrev s_is_integer : Stmt := topS 17
abbrev n_is_integer : List Str := ["thing"]
theorem sc_is_integer : FnScope n_is_integer ["thing"] (defScope s_is_integer) := ⟨rfl, rfl, rfl, by decide +kernel, rfl, by decide +kernel, by decide +kernel⟩
abbrev s_is_below : Stmt := topS 18
abbrev n_is_below : List Str := ["thing", "limit"]
theorem sc_is_below : FnScope n_is_below ["thing", "limit"] (defScope s_is_below) := ⟨rfl, rfl, rfl, by decide +kernel, rfl, by decide +kernel, by decide +kernel⟩
abbrev s_is_name : Stmt := topS 19
abbrev n_is_name : List Str := ["thing", "letter"]
theorem sc_is_name : FnScope n_is_name ["thing"] (defScope s_is_name) := ⟨rfl, rfl, rfl, by decide +kernel, rfl, by decide +kernel, by decide +kernel⟩
abbrev s_is_tuple_of : Stmt := topS 20
abbrev n_is_tuple_of : List Str := ["thing", "length"]
theorem sc_is_tuple_of : FnScope n_is_tuple_of ["thing", "length"] (defScope s_is_tuple_of) := ⟨rfl, rfl, rfl, by decide +kernel, rfl, by decide +kernel, by decide +kernel⟩
abbrev s_is_ascending : Stmt := topS 21
abbrev n_is_ascending : List Str := ["items", "one", "other"]
theorem sc_is_ascending : FnScope n_is_ascending ["items"] (defScope s_is_ascending) := ⟨rfl, rfl, rfl, by decide +kernel, rfl, by decide +kernel, by decide +kernel⟩
abbrev s_are_names_ascending : Stmt := topS 22
abbrev n_are_names_ascending : List Str := ["thing", "item"]
theorem sc_are_names_ascending : FnScope n_are_names_ascending ["thing"] (defScope s_are_names_ascending) := ⟨rfl, rfl, rfl, by decide +kernel, rfl, by decide +kernel, by decide +kernel⟩
abbrev s_are_below : Stmt := topS 23
abbrev n_are_below : List Str := ["thing", "limit", "item"]
theorem sc_are_below : FnScope n_are_below ["thing", "limit"] (defScope s_are_below) := ⟨rfl, rfl, rfl, by decide +kernel, rfl, by decide +kernel, by decide +kernel⟩
abbrev s_are_below_ascending : Stmt := topS 24
abbrev n_are_below_ascending : List Str := ["thing", "limit"]
theorem sc_are_below_ascending : FnScope n_are_below_ascending ["thing", "limit"] (defScope s_are_below_ascending) := ⟨rfl, rfl, rfl, by decide +kernel, rfl, by decide +kernel, by decide +kernel⟩
abbrev s_is_placement : Stmt := topS 30
abbrev n_is_placement : List Str := ["thing", "sites", "clients", "kept"]
theorem sc_is_placement : FnScope n_is_placement ["thing"] (defScope s_is_placement) := ⟨rfl, rfl, rfl, by decide +kernel, rfl, by decide +kernel, by decide +kernel⟩
abbrev s_are_clients : Stmt := topS 31
abbrev n_are_clients : List Str := ["clients", "count", "visited"]
theorem sc_are_clients : FnScope n_are_clients ["clients", "count"] (defScope s_are_clients) := ⟨rfl, rfl, rfl, by decide +kernel, rfl, by decide +kernel, by decide +kernel⟩
/-! ### what the program's functions say -/
def isInt : D → Bool | .int _ => true | _ => false
theorem isInt_eq {d : D} (h : isInt d = true) : ∃ i, d = .int i := by cases d <;> first | exact ⟨_, rfl⟩ | cases h
theorem isInt_of (d : D) : (isI d && !isBl d) = isInt d := by cases d <;> rfl
def isBelow (n : Int) : D → Bool | .int i => decide (0 ≤ i) && decide (i < n) | _ => false
def isNameS (s : Str) : Bool := (decide (1 ≤ (s.length : Int)) && decide ((s.length : Int) ≤ 10)) && (List.range s.cps.size).all fun i => !decide ([s.cps.getD i 0] < [97]) && !decide ([122] < [s.cps.getD i 0])
def isName : D → Bool | .str s => isNameS s | _ => false
def isTup (n : Int) : D → Bool | .tup ds => decide ((ds.length : Int) = n) | _ => false
def ltD : D → D → Bool | .int i, .int j => decide (i < j) | .str s, .str t => decide (s.cps.toList < t.cps.toList) | .tup xs, .tup ys => dLt (.tup xs) (.tup ys) | _, _ => false
def ascD (ds : List D) : Bool := (List.range (ds.length - 1)).all fun i => ltD (ds.getD i .non) (ds.getD (i + 1) .non)
def namesAsc : D → Bool | .tup ds => ((List.range ds.length).all fun i => isName (ds.getD i .non)) && ascD ds | _ => false
def areBelow (n : Int) : D → Bool | .tup ds => (List.range ds.length).all fun i => isBelow n (ds.getD i .non) | _ => false
def belowAsc (n : Int) : D → Bool | .tup ds => areBelow n (.tup ds) && ascD ds | _ => false
def areClients (n : Int) (ds : List D) : Bool := (List.range ds.length).all fun i => belowAsc n (ds.getD i .non) && (match ds.getD i .non with | .tup vs => decide (2 ≤ (vs.length : Int)) | _ => false)
def isPl : D → Bool
  | .tup [.tup ss, .tup cs] => ((List.range ss.length).all fun i => namesAsc (ss.getD i .non)) && areClients ss.length cs
  | _ => false
section
variable {P : Program} {w : World} {K : PySem.W.Frag} {mg : Str → Option Value} {base : Heap} {f : Addr} {fd : FuncData}
abbrev BN1 : List Str := ["all", "bool", "int", "isinstance", "len", "str", "tuple", "zip"]
abbrev sp_is_integer (K : PySem.W.Frag) : Sp := psp K (fun ds => ∃ d, ds = [d] ∧ Sm d) (fun ds e => ∃ d, ds = [d] ∧ e = .bl (isInt d))
abbrev sp_is_below (K : PySem.W.Frag) : Sp := psp K (fun ds => ∃ d n, ds = [d, .int n] ∧ Sm d) (fun ds e => ∃ d n, ds = [d, .int n] ∧ e = .bl (isBelow n d))
abbrev sp_is_name (K : PySem.W.Frag) : Sp := psp K (fun ds => ∃ d, ds = [d] ∧ Sm d) (fun ds e => ∃ d, ds = [d] ∧ e = .bl (isName d))
abbrev sp_is_tuple_of (K : PySem.W.Frag) : Sp := psp K (fun ds => ∃ d n, ds = [d, .int n] ∧ Sm d) (fun ds e => ∃ d n, ds = [d, .int n] ∧ e = .bl (isTup n d))
variable (bi : ∀ x, x ∈ BN1 → mg x = none)
include bi in
theorem ok_is_integer (F : Fun K "is_integer" "is_integer" s_is_integer f fd) : FnOk P w K mg base CX0 1 f fd ["thing"] (sp_is_integer K) := by
  refine F.ok sc_is_integer (fun vs H Q E h => ?_) (fun cdv A outer s H vs Q E hr h => ?_)
  · obtain ⟨G, ds, h1, ⟨d, rfl, _⟩, _⟩ := h
    exact h1.length
  · have hu := hu_of hr
    obtain ⟨G, ds, ⟨d, rfl, hd⟩, hlen, a, hq⟩ := fsp_start locT n_is_integer h
    refine ⟨_, (pss_one (ps_ret (pe_and (pe_callB (id := "isinstance") (r := rIsi K) call_isi (by rfl) (bi "isinstance" (by decide +kernel)) (by decide +kernel) (pa_cons (pv 0) (pa_cons (pe_bltn (v := .ty "int") (u := .type "int") (by rfl) (bi "int" (by decide +kernel)) (by decide +kernel) rfl) pa_nil))) (pe_one (pe_not (pe_callB (id := "isinstance") (r := rIsi K) call_isi (by rfl) (bi "isinstance" (by decide +kernel)) (by decide +kernel) (pa_cons (pv 0) (pa_cons (pe_bltn (v := .ty "bool") (u := .type "bool") (by rfl) (bi "bool" (by decide +kernel)) (by decide +kernel) rfl) pa_nil)))))))), ?_⟩
    exact x_ret a (Ed.is (ed_andV (ed_isiI (ed_var rfl) hd.ty) fun _ => ed_notV (ed_isiB (ed_var rfl) hd.ty)) (by rw [isInt_of])) fun v H' d' hd' a' => hq ⟨d, rfl, hd'⟩ a'
include bi in
theorem ok_is_below (F : Fun K "is_below" "is_below" s_is_below f fd) (c_is_integer : C8.Cal P w K mg base 1 "is_integer" (sp_is_integer K) []) : FnOk P w K mg base CX0 2 f fd ["thing", "limit"] (sp_is_below K) := by
  refine F.ok sc_is_below (fun vs H Q E h => ?_) (fun cdv A outer s H vs Q E hr h => ?_)
  · obtain ⟨G, ds, h1, ⟨d, n, rfl, _⟩, _⟩ := h
    exact h1.length
  · have hu := hu_of hr
    obtain ⟨G, ds, ⟨d, n, rfl, hd⟩, hlen, a, hq⟩ := fsp_start locT n_is_below h
    refine ⟨_, (pss_one (ps_ret (pe_and (C8.pe_c c_is_integer hr (by first | decide | omega) (by rfl) (pa_cons (pv 0) pa_nil)) (pe_one (pe_chain u_le u_lt pe_int (pv 0) (pv 1)))))), ?_⟩
    refine x_ret a (Ed.is (d := .bl (isInt d && isBelow n d)) (ed_andV (ed_p (ead_cons (ed_var rfl) ea_nil) ⟨d, rfl, hd⟩ (by rintro e ⟨d', e1, rfl⟩; cases e1; rfl)) fun hb => ?_) ?_) fun v H' d' hd' a' => hq ⟨d, n, rfl, hd'⟩ a'
    · obtain ⟨i, rfl⟩ := isInt_eq hb
      exact ed_leltI ed_int (ed_var rfl) (ed_var rfl)
    · cases d <;> rfl
abbrev sp_is_ascending (K : PySem.W.Frag) : Sp := psp K (fun ds => ∃ es, ds = [.tup es] ∧ es.length ≤ 1000000 ∧ ((∀ e ∈ es, ∃ i, e = .int i) ∨ (∀ e ∈ es, ∃ s, e = .str s) ∨ ∀ e ∈ es, ∃ q, e = pairD q)) (fun ds e => ∃ es, ds = [.tup es] ∧ e = .bl (ascD es))
abbrev sp_are_names_ascending (K : PySem.W.Frag) : Sp := psp K (fun ds => ∃ d, ds = [d] ∧ Sm d) (fun ds e => ∃ d, ds = [d] ∧ e = .bl (namesAsc d))
abbrev sp_are_below (K : PySem.W.Frag) : Sp := psp K (fun ds => ∃ d n, ds = [d, .int n] ∧ Sm d) (fun ds e => ∃ d n, ds = [d, .int n] ∧ e = .bl (areBelow n d))
abbrev sp_are_below_ascending (K : PySem.W.Frag) : Sp := psp K (fun ds => ∃ d n, ds = [d, .int n] ∧ Sm d) (fun ds e => ∃ d n, ds = [d, .int n] ∧ e = .bl (belowAsc n d))
abbrev sp_are_clients (K : PySem.W.Frag) : Sp := psp K (fun ds => ∃ es n, ds = [.tup es, .int n] ∧ es.length ≤ 1000000 ∧ SmA es) (fun ds e => ∃ es n, ds = [.tup es, .int n] ∧ e = .bl (areClients n es))
abbrev sp_is_placement (K : PySem.W.Frag) : Sp := psp K (fun ds => ∃ d, ds = [d] ∧ Sm d) (fun ds e => ∃ d, ds = [d] ∧ e = .bl (isPl d))
theorem sz1000 {n : Nat} (h : n ≤ 1000000) : n ≤ sizeLine := Nat.le_trans h (by decide)
theorem str1 (c : Nat) : (⟨#[c]⟩ : Str).cps.toList = [c] := rfl
variable (g_LONGEST_NAME : ∃ u, mg "LONGEST_NAME" = some u ∧ RelV (.int 10) u) (g_FEWEST_VISITED : ∃ u, mg "FEWEST_VISITED" = some u ∧ RelV (.int 2) u)
include bi g_LONGEST_NAME in
theorem ok_is_name (F : Fun K "is_name" "is_name" s_is_name f fd) : FnOk P w K mg base CX0 1 f fd ["thing"] (sp_is_name K) := by
  refine F.ok sc_is_name (fun vs H Q E h => ?_) (fun cdv A outer s H vs Q E hr h => ?_)
  · obtain ⟨G, ds, h1, ⟨d, rfl, _⟩, _⟩ := h
    exact h1.length
  · have hu := hu_of hr
    obtain ⟨G, ds, ⟨d, rfl, hd⟩, hlen, a, hq⟩ := fsp_start locT n_is_name h
    refine ⟨_, (pss_cons (ps_if (PW.pt (pw_or (pt_not (pt_val (pe_callB (id := "isinstance") (r := rIsi K) call_isi (by rfl) (bi "isinstance" (by decide +kernel)) (by decide +kernel) (pa_cons (pv 0) (pa_cons (pe_bltn (v := .ty "str") (u := .type "str") (by rfl) (bi "str" (by decide +kernel)) (by decide +kernel) rfl) pa_nil))))) (pw_or1 (pt_not (pt_chain u_le u_le pe_int (pe_callB (id := "len") (r := rLenU K) u_len (by rfl) (bi "len" (by decide +kernel)) (by decide +kernel) (pa_cons (pv 0) pa_nil)) (C8.pe_gc (by rfl) g_LONGEST_NAME)))))) (pss_one (ps_ret pe_bl)) pss_nil)
      (pss_one (ps_ret (pe_callB (id := "all") (r := rAll K) (cr_all rfl) (by rfl) (bi "all" (by decide +kernel)) (by decide +kernel) (pa_cons (pe_lc (own := [("letter", 1)]) (g := gName 1) (tt := tYes) rfl sc_is_name.nd (pi_str (pv 0)) (blkOk_by (N := n_is_name) (sc := defScope s_is_name) (by decide +kernel)) (fun _ _ _ _ _ => (pg_name (i := 1) sc_is_name.nd rfl (by first | exact (.inl rfl) | exact (.inr rfl)))) (fun _ _ _ _ _ => pts_nil) (fun _ _ _ _ _ => (pe_chain u_le u_le pe_str (pv 1) pe_str))) pa_nil))))), ?_⟩
    by_cases hs : isS d = true
    · obtain ⟨s, rfl⟩ := isS_eq hs
      have hz := sz1000 hd.1
      refine x_seq (x_ifb a (eb_or (b := !(decide (1 ≤ (s.length : Int)) && decide ((s.length : Int) ≤ 10))) (eb_not (eb_B (ed_isiS (ed_var rfl) hd.ty))) fun _ => eb_not (eb_test (ed_leleI ed_int (ed_lenS (ed_var rfl) hz) ed_int))) (fun hb H' a' => ?_) fun hb H' a' => x_next ?_)
      · refine x_ret a' ed_bl fun v H2 d' hd' a2 => hq ⟨_, rfl, ?_⟩ a2
        rw [hd']
        have hb' := or_not hb rfl
        show D.bl false = .bl (isNameS s)
        unfold isNameS
        rw [hb']; rfl
      · refine x_ret a' (ed_allF (ed_lc0 (ei_str (ed_var rfl)) (by decide) (Nat.le_trans (show s.cps.size ≤ 1000000 from hd.1) (by decide)) fun i hi cl => ed_leleS ed_str (ed_var rfl) ed_str)) fun v H2 d' hd' a2 => hq ⟨_, rfl, ?_⟩ a2
        rw [hd']
        have hb' := (and_of hb).2
        show _ = D.bl (isNameS s)
        unfold isNameS
        rw [hb']; rfl
    · refine x_seq (x_ifb a (eb_or (b := true) (eb_not (eb_B (ed_isiS (ed_var rfl) hd.ty))) fun hb => absurd (by simpa using hb) hs) (fun hb H' a' => ?_) fun hb H' a' => ?_)
      · refine x_ret a' ed_bl fun v H2 d' hd' a2 => hq ⟨_, rfl, ?_⟩ a2
        rw [hd']
        cases d <;> first | rfl | exact absurd rfl hs
      · simp at hb
include bi in
theorem ok_is_tuple_of (F : Fun K "is_tuple_of" "is_tuple_of" s_is_tuple_of f fd) : FnOk P w K mg base CX0 1 f fd ["thing", "length"] (sp_is_tuple_of K) := by
  refine F.ok sc_is_tuple_of (fun vs H Q E h => ?_) (fun cdv A outer s H vs Q E hr h => ?_)
  · obtain ⟨G, ds, h1, ⟨d, n, rfl, _⟩, _⟩ := h
    exact h1.length
  · have hu := hu_of hr
    obtain ⟨G, ds, ⟨d, n, rfl, hd⟩, hlen, a, hq⟩ := fsp_start locT n_is_tuple_of h
    refine ⟨_, (pss_one (ps_ret (pe_and (pe_callB (id := "isinstance") (r := rIsi K) call_isi (by rfl) (bi "isinstance" (by decide +kernel)) (by decide +kernel) (pa_cons (pv 0) (pa_cons (pe_bltn (v := .ty "tuple") (u := .type "tuple") (by rfl) (bi "tuple" (by decide +kernel)) (by decide +kernel) rfl) pa_nil))) (pe_one (pe_cmpR (r := rEqD K) (u_eq hr.units) (pe_callB (id := "len") (r := rLenU K) u_len (by rfl) (bi "len" (by decide +kernel)) (by decide +kernel) (pa_cons (pv 0) pa_nil)) (pv 1) (nomark _)))))), ?_⟩
    refine x_ret a (Ed.is (d := .bl (isT d && isTup n d)) (ed_andV (ed_isiT (ed_var rfl) hd.ty) fun hb => ?_) ?_) fun v H' d' hd' a' => hq ⟨d, n, rfl, hd'⟩ a'
    · obtain ⟨es, rfl⟩ := isT_eq hb
      exact Ed.is (ed_op (ed_lenT (ed_var rfl)) (ed_var rfl) (rd_eqI)) rfl
    · cases d <;> rfl
include bi in
theorem ok_is_ascending (F : Fun K "is_ascending" "is_ascending" s_is_ascending f fd) : FnOk P w K mg base CX0 1 f fd ["items"] (sp_is_ascending K) := by
  refine F.ok sc_is_ascending (fun vs H Q E h => ?_) (fun cdv A outer s H vs Q E hr h => ?_)
  · obtain ⟨G, ds, h1, ⟨d, rfl, _⟩, _⟩ := h
    exact h1.length
  · have hu := hu_of hr
    obtain ⟨G, ds, ⟨es, rfl, hl, hk⟩, hlen, a, hq⟩ := fsp_start locT n_is_ascending h
    refine ⟨_, (pss_one (ps_ret (pe_callB (id := "all") (r := rAll K) (cr_all rfl) (by rfl) (bi "all" (by decide +kernel)) (by decide +kernel) (pa_cons (pe_lc (own := [("one", 1), ("other", 2)]) (g := gTup K 2 (gCons (gName 1) (gCons (gName 2) gNil))) (tt := tYes) rfl sc_is_ascending.nd (RZ.pi_zipA (by rfl) (bi "zip" (by decide +kernel)) (pa_cons (pv 0) (pa_cons (pe_slice (r := rSlU K) u_sl (pv 0) (po_some pe_int) po_none) pa_nil))) (blkOk_by (N := n_is_ascending) (sc := defScope s_is_ascending) (by decide +kernel)) (fun _ _ _ _ _ => (pg_tup rfl (pgs_cons (pg_name (i := 1) sc_is_ascending.nd rfl (by first | exact (.inl rfl) | exact (.inr rfl))) (pgs_cons (pg_name (i := 2) sc_is_ascending.nd rfl (by first | exact (.inl rfl) | exact (.inr rfl))) pgs_nil)))) (fun _ _ _ _ _ => pts_nil) (fun _ _ _ _ _ => (pe_cmpR (r := rLtV K) (u_ltV hr.units) (pv 1) (pv 2) (nomark _)))) pa_nil)))), ?_⟩
    refine x_ret a (ed_allF (ed_lc2 (n := es.length - 1) (f := fun i => .tup [es.getD i .non, (es.drop 1).getD i .non]) (x := fun i => es.getD i .non) (y := fun i => es.getD (i + 1) .non) ?_ (fun i hi => ?_) (by decide) (by decide) (by omega) fun i hi cl => ?_)) fun v H' d' hd' a' => hq ⟨es, rfl, hd'⟩ a'
    · rw [show es.length - 1 = min es.length (es.drop 1).length by rw [List.length_drop]; omega]
      exact ei_zipT (ead_cons (ed_var rfl) (ead_cons (Ed.is (ed_slT (ed_var rfl) (eo_some ed_int) eo_none) (by rw [cutD1])) ea_nil))
    · show D.tup [_, _] = _
      rw [getD_drop1]
    · have m1 : es.getD i .non ∈ es := List.mem_of_getElem? (getD_of (by omega))
      have m2 : es.getD (i + 1) .non ∈ es := List.mem_of_getElem? (getD_of (by omega))
      rcases hk with hk | hk | hk
      · obtain ⟨x, hx⟩ := hk _ m1
        obtain ⟨y, hy⟩ := hk _ m2
        rw [hx, hy]
        exact ed_op (ed_var rfl) (ed_var rfl) (rd_ltVU rd_ltI)
      · obtain ⟨x, hx⟩ := hk _ m1
        obtain ⟨y, hy⟩ := hk _ m2
        rw [hx, hy]
        exact ed_op (ed_var rfl) (ed_var rfl) (rd_ltVU rd_ltS)
      · obtain ⟨x, hx⟩ := hk _ m1
        obtain ⟨y, hy⟩ := hk _ m2
        rw [hx, hy]
        exact ed_op (ed_var rfl) (ed_var rfl) rd_ltP
theorem isName_eq {d : D} (h : isName d = true) : ∃ s, d = .str s := by cases d <;> first | exact ⟨_, rfl⟩ | cases h
theorem all_range {n : Nat} {f : Nat → Bool} (h : (List.range n).all f = true) : ∀ i, i < n → f i = true := fun i hi => List.all_eq_true.mp h i (List.mem_range.mpr hi)
theorem getD_all {es : List D} {p : D → Bool} (h : ((List.range es.length).all fun i => p (es.getD i .non)) = true) : ∀ e ∈ es, p e = true := fun e he => by
  obtain ⟨i, hi⟩ := List.mem_iff_getElem?.mp he
  have hl := (List.getElem?_eq_some_iff.mp hi).1
  have := all_range h i hl
  rw [getD_of hl] at hi
  cases hi
  exact this
include bi in
theorem ok_are_names_ascending (F : Fun K "are_names_ascending" "are_names_ascending" s_are_names_ascending f fd) (c_is_name : C8.Cal P w K mg base 1 "is_name" (sp_is_name K) []) (c_is_ascending : C8.Cal P w K mg base 1 "is_ascending" (sp_is_ascending K) []) :
    FnOk P w K mg base CX0 2 f fd ["thing"] (sp_are_names_ascending K) := by
  refine F.ok sc_are_names_ascending (fun vs H Q E h => ?_) (fun cdv A outer s H vs Q E hr h => ?_)
  · obtain ⟨G, ds, h1, ⟨d, rfl, _⟩, _⟩ := h
    exact h1.length
  · have hu := hu_of hr
    obtain ⟨G, ds, ⟨d, rfl, hd⟩, hlen, a, hq⟩ := fsp_start locT n_are_names_ascending h
    refine ⟨_, (pss_one (ps_ret (pe_and (pe_callB (id := "isinstance") (r := rIsi K) call_isi (by rfl) (bi "isinstance" (by decide +kernel)) (by decide +kernel) (pa_cons (pv 0) (pa_cons (pe_bltn (v := .ty "tuple") (u := .type "tuple") (by rfl) (bi "tuple" (by decide +kernel)) (by decide +kernel) rfl) pa_nil))) (pe_and (pe_callB (id := "all") (r := rAll K) (cr_all rfl) (by rfl) (bi "all" (by decide +kernel)) (by decide +kernel) (pa_cons (pe_lc (own := [("item", 1)]) (g := gName 1) (tt := tYes) rfl sc_are_names_ascending.nd (pi_tup (pv 0)) (blkOk_by (N := n_are_names_ascending) (sc := defScope s_are_names_ascending) (by decide +kernel)) (fun _ _ _ _ _ => (pg_name (i := 1) sc_are_names_ascending.nd rfl (by first | exact (.inl rfl) | exact (.inr rfl)))) (fun _ _ _ _ _ => pts_nil) (fun _ _ _ _ _ => (C8.pe_c c_is_name hr (by first | decide | omega) (by rfl) (pa_cons (pv 1) pa_nil)))) pa_nil)) (pe_one (C8.pe_c c_is_ascending hr (by first | decide | omega) (by rfl) (pa_cons (pv 0) pa_nil))))))), ?_⟩
    by_cases ht : isT d = true
    · obtain ⟨es, rfl⟩ := isT_eq ht
      refine x_ret a (ed_andV (b := namesAsc (.tup es)) (ed_isiT (ed_var rfl) hd.ty) fun _ => ed_andV (ed_allF (f := fun i => isName (es.getD i .non)) (ed_lc0 (ei_tup (ed_var rfl)) (by decide) (Nat.le_trans hd.1 (by decide)) fun i hi cl => ed_p (ead_cons (ed_var rfl) ea_nil) ⟨_, rfl, hd.2.all _ (List.mem_of_getElem? (getD_of hi))⟩ (by rintro e ⟨d', e1, rfl⟩; cases e1; rfl))) fun hn => ?_) fun v H' d' hd' a' => hq ⟨_, rfl, hd'⟩ a'
      refine ed_p (ead_cons (ed_var rfl) ea_nil) ⟨es, rfl, hd.1, .inr (.inl fun e he => isName_eq (getD_all hn e he))⟩ (by rintro e ⟨d', e1, rfl⟩; cases e1; rfl)
    · refine x_ret a (Ed.is (ed_andV (b := true) (ed_isiT (ed_var rfl) hd.ty) fun hb => absurd hb ht) ?_) fun v H' d' hd' a' => hq ⟨_, rfl, hd'⟩ a'
      cases d <;> first | rfl | exact absurd rfl ht
include bi in
theorem ok_are_below (F : Fun K "are_below" "are_below" s_are_below f fd) (c_is_below : C8.Cal P w K mg base 2 "is_below" (sp_is_below K) []) :
    FnOk P w K mg base CX0 3 f fd ["thing", "limit"] (sp_are_below K) := by
  refine F.ok sc_are_below (fun vs H Q E h => ?_) (fun cdv A outer s H vs Q E hr h => ?_)
  · obtain ⟨G, ds, h1, ⟨d, n, rfl, _⟩, _⟩ := h
    exact h1.length
  · have hu := hu_of hr
    obtain ⟨G, ds, ⟨d, n, rfl, hd⟩, hlen, a, hq⟩ := fsp_start locT n_are_below h
    refine ⟨_, (pss_one (ps_ret (pe_and (pe_callB (id := "isinstance") (r := rIsi K) call_isi (by rfl) (bi "isinstance" (by decide +kernel)) (by decide +kernel) (pa_cons (pv 0) (pa_cons (pe_bltn (v := .ty "tuple") (u := .type "tuple") (by rfl) (bi "tuple" (by decide +kernel)) (by decide +kernel) rfl) pa_nil))) (pe_one (pe_callB (id := "all") (r := rAll K) (cr_all rfl) (by rfl) (bi "all" (by decide +kernel)) (by decide +kernel) (pa_cons (pe_lc (own := [("item", 2)]) (g := gName 2) (tt := tYes) rfl sc_are_below.nd (pi_tup (pv 0)) (blkOk_by (N := n_are_below) (sc := defScope s_are_below) (by decide +kernel)) (fun _ _ _ _ _ => (pg_name (i := 2) sc_are_below.nd rfl (by first | exact (.inl rfl) | exact (.inr rfl)))) (fun _ _ _ _ _ => pts_nil) (fun _ _ _ _ _ => (C8.pe_c c_is_below hr (by first | decide | omega) (by rfl) (pa_cons (pv 2) (pa_cons (pv 1) pa_nil))))) pa_nil)))))), ?_⟩
    by_cases ht : isT d = true
    · obtain ⟨es, rfl⟩ := isT_eq ht
      exact x_ret a (ed_andV (b := areBelow n (.tup es)) (ed_isiT (ed_var rfl) hd.ty) fun _ => (ed_allF (f := fun i => isBelow n (es.getD i .non)) (ed_lc0 (ei_tup (ed_var rfl)) (by decide) (Nat.le_trans hd.1 (by decide)) fun i hi cl => ed_p (ead_cons (ed_var rfl) (ead_cons (ed_var rfl) ea_nil)) ⟨_, _, rfl, hd.2.all _ (List.mem_of_getElem? (getD_of hi))⟩ (by rintro e ⟨d', n', e1, rfl⟩; cases e1; rfl)))) fun v H' d' hd' a' => hq ⟨_, _, rfl, hd'⟩ a'
    · refine x_ret a (Ed.is (ed_andV (b := true) (ed_isiT (ed_var rfl) hd.ty) fun hb => absurd hb ht) ?_) fun v H' d' hd' a' => hq ⟨_, _, rfl, hd'⟩ a'
      cases d <;> first | rfl | exact absurd rfl ht
theorem isBelow_eq {n : Int} {d : D} (h : isBelow n d = true) : ∃ i, d = .int i := by cases d <;> first | exact ⟨_, rfl⟩ | cases h
theorem ok_are_below_ascending (F : Fun K "are_below_ascending" "are_below_ascending" s_are_below_ascending f fd) (c_are_below : C8.Cal P w K mg base 3 "are_below" (sp_are_below K) []) (c_is_ascending : C8.Cal P w K mg base 1 "is_ascending" (sp_is_ascending K) []) :
    FnOk P w K mg base CX0 4 f fd ["thing", "limit"] (sp_are_below_ascending K) := by
  refine F.ok sc_are_below_ascending (fun vs H Q E h => ?_) (fun cdv A outer s H vs Q E hr h => ?_)
  · obtain ⟨G, ds, h1, ⟨d, n, rfl, _⟩, _⟩ := h
    exact h1.length
  · have hu := hu_of hr
    obtain ⟨G, ds, ⟨d, n, rfl, hd⟩, hlen, a, hq⟩ := fsp_start locT n_are_below_ascending h
    refine ⟨_, (pss_one (ps_ret (pe_and (C8.pe_c c_are_below hr (by first | decide | omega) (by rfl) (pa_cons (pv 0) (pa_cons (pv 1) pa_nil))) (pe_one (C8.pe_c c_is_ascending hr (by first | decide | omega) (by rfl) (pa_cons (pv 0) pa_nil)))))), ?_⟩
    by_cases ht : isT d = true
    · obtain ⟨es, rfl⟩ := isT_eq ht
      refine x_ret a (ed_andV (b := ascD es) (ed_p (ead_cons (ed_var rfl) (ead_cons (ed_var rfl) ea_nil)) ⟨_, _, rfl, hd⟩ (by rintro e ⟨d', n', e1, rfl⟩; cases e1; rfl)) fun hb => ?_) fun v H' d' hd' a' => hq ⟨_, _, rfl, hd'⟩ a'
      exact ed_p (ead_cons (ed_var rfl) ea_nil) ⟨es, rfl, hd.1, .inl fun e he => isBelow_eq (getD_all hb e he)⟩ (by rintro e ⟨d', e1, rfl⟩; cases e1; rfl)
    · refine x_ret a (Ed.is (ed_andV (a := areBelow n d) (b := true) (ed_p (ead_cons (ed_var rfl) (ead_cons (ed_var rfl) ea_nil)) ⟨_, _, rfl, hd⟩ (by rintro e ⟨d', n', e1, rfl⟩; cases e1; rfl)) fun hb => absurd hb ?_) ?_) fun v H' d' hd' a' => hq ⟨_, _, rfl, hd'⟩ a'
      · cases d <;> first | exact absurd rfl ht | exact Bool.false_ne_true
      · cases d <;> first | rfl | exact absurd rfl ht
include bi g_FEWEST_VISITED in
theorem ok_are_clients (F : Fun K "are_clients" "are_clients" s_are_clients f fd) (c_are_below_ascending : C8.Cal P w K mg base 4 "are_below_ascending" (sp_are_below_ascending K) []) :
    FnOk P w K mg base CX0 5 f fd ["clients", "count"] (sp_are_clients K) := by
  refine F.ok sc_are_clients (fun vs H Q E h => ?_) (fun cdv A outer s H vs Q E hr h => ?_)
  · obtain ⟨G, ds, h1, ⟨d, n, rfl, _⟩, _⟩ := h
    exact h1.length
  · have hu := hu_of hr
    obtain ⟨G, ds, ⟨es, n, rfl, hl, hd⟩, hlen, a, hq⟩ := fsp_start locT n_are_clients h
    refine ⟨_, (pss_one (ps_ret (pe_callB (id := "all") (r := rAll K) (cr_all rfl) (by rfl) (bi "all" (by decide +kernel)) (by decide +kernel) (pa_cons (pe_lc (own := [("visited", 2)]) (g := gName 2) (tt := tYes) rfl sc_are_clients.nd (pi_tup (pv 0)) (blkOk_by (N := n_are_clients) (sc := defScope s_are_clients) (by decide +kernel)) (fun _ _ _ _ _ => (pg_name (i := 2) sc_are_clients.nd rfl (by first | exact (.inl rfl) | exact (.inr rfl)))) (fun _ _ _ _ _ => pts_nil) (fun _ _ _ _ _ => (pe_and (C8.pe_c c_are_below_ascending hr (by first | decide | omega) (by rfl) (pa_cons (pv 2) (pa_cons (pv 1) pa_nil))) (pe_one (pe_cmpR u_ge (pe_callB (id := "len") (r := rLenU K) u_len (by rfl) (bi "len" (by decide +kernel)) (by decide +kernel) (pa_cons (pv 2) pa_nil)) (C8.pe_gc (by rfl) g_FEWEST_VISITED) (nomark _)))))) pa_nil)))), ?_⟩
    refine x_ret a (ed_allF (f := fun i => belowAsc n (es.getD i .non) && (match es.getD i .non with | .tup vs => decide (2 ≤ (vs.length : Int)) | _ => false)) (ed_lc0 (ei_tup (ed_var rfl)) (by decide) (Nat.le_trans hl (by decide)) fun i hi cl => ?_)) fun v H' d' hd' a' => hq ⟨_, _, rfl, hd'⟩ a'
    have hs := hd.all _ (List.mem_of_getElem? (getD_of hi))
    refine ed_andV (ed_p (ead_cons (ed_var rfl) (ead_cons (ed_var rfl) ea_nil)) ⟨_, _, rfl, hs⟩ (by rintro e ⟨d', n', e1, rfl⟩; cases e1; rfl)) fun hb => ?_
    have ht : isT (es.getD i .non) = true := by
      revert hb
      cases es.getD i .non <;> intro hb <;> first | rfl | cases hb
    obtain ⟨vs, hvs⟩ := isT_eq ht
    rw [hvs]
    exact ed_op (ed_lenT (ed_var rfl)) ed_int rd_geI
theorem isTup2_eq {d : D} (h : isTup 2 d = true) : ∃ x y, d = .tup [x, y] := by
  cases d with
  | tup ds =>
    have : (ds.length : Int) = 2 := of_decide_eq_true h
    match ds, this with
    | [x, y], _ => exact ⟨x, y, rfl⟩
    | [], h => cases h
    | [x], h => simp at h
    | x :: y :: z :: r, h => simp at h; omega
  | _ => cases h
theorem isPl_no {x y : D} (h : (!isT x || !isT y) = true) : isPl (.tup [x, y]) = false := by
  cases x <;> cases y <;> first | rfl | cases h
theorem isPl_no2 {d : D} (h : isTup 2 d = false) : isPl d = false := by
  cases hp : isPl d with
  | false => rfl
  | true =>
    unfold isPl at hp
    split at hp
    · cases h
    · cases hp
include bi in
theorem ok_is_placement (F : Fun K "is_placement" "is_placement" s_is_placement f fd) (c_is_tuple_of : C8.Cal P w K mg base 1 "is_tuple_of" (sp_is_tuple_of K) []) (c_are_names_ascending : C8.Cal P w K mg base 2 "are_names_ascending" (sp_are_names_ascending K) []) (c_are_clients : C8.Cal P w K mg base 5 "are_clients" (sp_are_clients K) []) :
    FnOk P w K mg base CX0 6 f fd ["thing"] (sp_is_placement K) := by
  refine F.ok sc_is_placement (fun vs H Q E h => ?_) (fun cdv A outer s H vs Q E hr h => ?_)
  · obtain ⟨G, ds, h1, ⟨d, rfl, _⟩, _⟩ := h
    exact h1.length
  · have hu := hu_of hr
    obtain ⟨G, ds, ⟨d, rfl, hd⟩, hlen, a, hq⟩ := fsp_start locT n_is_placement h
    refine ⟨_, (pss_cons (ps_if (pt_not (pt_val (C8.pe_c c_is_tuple_of hr (by first | decide | omega) (by rfl) (pa_cons (pv 0) (pa_cons pe_int pa_nil))))) (pss_one (ps_ret pe_bl)) pss_nil)
      (pss_cons (ps_asg (pv 0) (pg_tup rfl (pgs_cons (pg_name (i := 1) sc_is_placement.nd rfl (by first | exact (.inl rfl) | exact (.inr rfl))) (pgs_cons (pg_name (i := 2) sc_is_placement.nd rfl (by first | exact (.inl rfl) | exact (.inr rfl))) pgs_nil))))
      (pss_cons (ps_if (PW.pt (pw_or (pt_not (pt_val (pe_callB (id := "isinstance") (r := rIsi K) call_isi (by rfl) (bi "isinstance" (by decide +kernel)) (by decide +kernel) (pa_cons (pv 1) (pa_cons (pe_bltn (v := .ty "tuple") (u := .type "tuple") (by rfl) (bi "tuple" (by decide +kernel)) (by decide +kernel) rfl) pa_nil))))) (pw_or1 (pt_not (pt_val (pe_callB (id := "isinstance") (r := rIsi K) call_isi (by rfl) (bi "isinstance" (by decide +kernel)) (by decide +kernel) (pa_cons (pv 2) (pa_cons (pe_bltn (v := .ty "tuple") (u := .type "tuple") (by rfl) (bi "tuple" (by decide +kernel)) (by decide +kernel) rfl) pa_nil)))))))) (pss_one (ps_ret pe_bl)) pss_nil)
      (pss_one (ps_ret (pe_and (pe_callB (id := "all") (r := rAll K) (cr_all rfl) (by rfl) (bi "all" (by decide +kernel)) (by decide +kernel) (pa_cons (pe_lc (own := [("kept", 3)]) (g := gName 3) (tt := tYes) rfl sc_is_placement.nd (pi_tup (pv 1)) (blkOk_by (N := n_is_placement) (sc := defScope s_is_placement) (by decide +kernel)) (fun _ _ _ _ _ => (pg_name (i := 3) sc_is_placement.nd rfl (by first | exact (.inl rfl) | exact (.inr rfl)))) (fun _ _ _ _ _ => pts_nil) (fun _ _ _ _ _ => (C8.pe_c c_are_names_ascending hr (by first | decide | omega) (by rfl) (pa_cons (pv 3) pa_nil)))) pa_nil)) (pe_one (C8.pe_c c_are_clients hr (by first | decide | omega) (by rfl) (pa_cons (pv 2) (pa_cons (pe_callB (id := "len") (r := rLenU K) u_len (by rfl) (bi "len" (by decide +kernel)) (by decide +kernel) (pa_cons (pv 1) pa_nil)) pa_nil)))))))))), ?_⟩
    refine x_seq (x_ifb a (eb_not (eb_B (ed_p (ead_cons (ed_var rfl) (ead_cons ed_int ea_nil)) ⟨_, _, rfl, hd⟩ (by rintro e ⟨d', n', e1, rfl⟩; cases e1; rfl)))) (fun hb H' a' => ?_) fun hb H' a' => x_next ?_)
    · refine x_ret a' ed_bl fun v H2 d' hd' a2 => hq ⟨_, rfl, ?_⟩ a2
      rw [hd', isPl_no2 (by simpa using hb)]
    · obtain ⟨x, y, rfl⟩ := isTup2_eq (by simpa using hb)
      have hx : Sm x := hd.2.1
      have hy : Sm y := hd.2.2.1
      refine x_seq (x_asgG a' (ed_var rfl) gd_tup2 fun σ2 H2 a2 => ?_)
      refine x_seq (x_ifb a2 (eb_or (eb_not (eb_B (ed_isiT (ed_var rfl) hx.ty))) fun _ => eb_not (eb_B (ed_isiT (ed_var rfl) hy.ty))) (fun hb H' a' => ?_) fun hb H' a' => x_next ?_)
      · refine x_ret a' ed_bl fun v H2 d' hd' a2 => hq ⟨_, rfl, ?_⟩ a2
        rw [hd', isPl_no hb]
      · obtain ⟨h1, h2⟩ := and_of hb
        obtain ⟨ss, rfl⟩ := isT_eq h1
        obtain ⟨cs, rfl⟩ := isT_eq h2
        exact x_ret a' (ed_andV (b := areClients ss.length cs) (ed_allF (f := fun i => namesAsc (ss.getD i .non)) (ed_lc0 (ei_tup (ed_var rfl)) (by decide) (Nat.le_trans hx.1 (by decide)) fun i hi cl => ed_p (ead_cons (ed_var rfl) ea_nil) ⟨_, rfl, hx.2.all _ (List.mem_of_getElem? (getD_of hi))⟩ (by rintro e ⟨d', e1, rfl⟩; cases e1; rfl))) fun _ => ed_p (ead_cons (ed_var rfl) (ead_cons (ed_lenT (ed_var rfl)) ea_nil)) ⟨_, _, rfl, hy.1, hy.2⟩ (by rintro e ⟨d', n', e1, rfl⟩; cases e1; rfl)) fun v H2 d' hd' a2 => hq ⟨_, rfl, hd'⟩ a2
end
end Cal


namespace Cal
open PySem PySem.Spec PyProof.Rows L2
abbrev s_count_places : Stmt := topS 9
abbrev n_count_places : List Str := ["placement", "sites", "clients"]
theorem sc_count_places : FnScope n_count_places ["placement"] (defScope s_count_places) := ⟨rfl, rfl, rfl, by decide +kernel, rfl, by decide +kernel, by decide +kernel⟩
abbrev s_kept_at : Stmt := topS 11
abbrev n_kept_at : List Str := ["placement", "place", "sites", "_"]
theorem sc_kept_at : FnScope n_kept_at ["placement", "place"] (defScope s_kept_at) := ⟨rfl, rfl, rfl, by decide +kernel, rfl, by decide +kernel, by decide +kernel⟩
abbrev s_shared_by : Stmt := topS 12
abbrev n_shared_by : List Str := ["placement", "one", "other", "theirs", "register"]
theorem sc_shared_by : FnScope n_shared_by ["placement", "one", "other"] (defScope s_shared_by) := ⟨rfl, rfl, rfl, by decide +kernel, rfl, by decide +kernel, by decide +kernel⟩
abbrev s_is_client : Stmt := topS 10
abbrev n_is_client : List Str := ["placement", "place", "sites", "_"]
theorem sc_is_client : FnScope n_is_client ["placement", "place"] (defScope s_is_client) := ⟨rfl, rfl, rfl, by decide +kernel, rfl, by decide +kernel, by decide +kernel⟩
abbrev s_does_visit : Stmt := topS 13
abbrev n_does_visit : List Str := ["placement", "one", "other", "sites", "clients"]
theorem sc_does_visit : FnScope n_does_visit ["placement", "one", "other"] (defScope s_does_visit) := ⟨rfl, rfl, rfl, by decide +kernel, rfl, by decide +kernel, by decide +kernel⟩
abbrev s_is_step : Stmt := topS 14
abbrev n_is_step : List Str := ["placement", "one", "other"]
theorem sc_is_step : FnScope n_is_step ["placement", "one", "other"] (defScope s_is_step) := ⟨rfl, rfl, rfl, by decide +kernel, rfl, by decide +kernel, by decide +kernel⟩
abbrev s_is_place : Stmt := topS 32
abbrev n_is_place : List Str := ["placement", "thing"]
theorem sc_is_place : FnScope n_is_place ["placement", "thing"] (defScope s_is_place) := ⟨rfl, rfl, rfl, by decide +kernel, rfl, by decide +kernel, by decide +kernel⟩
abbrev s_check_placement : Stmt := topS 33
abbrev n_check_placement : List Str := ["placement"]
theorem sc_check_placement : FnScope n_check_placement ["placement"] (defScope s_check_placement) := ⟨rfl, rfl, rfl, by decide +kernel, rfl, by decide +kernel, by decide +kernel⟩
abbrev s_check_place : Stmt := topS 34
abbrev n_check_place : List Str := ["placement", "place"]
theorem sc_check_place : FnScope n_check_place ["placement", "place"] (defScope s_check_place) := ⟨rfl, rfl, rfl, by decide +kernel, rfl, by decide +kernel, by decide +kernel⟩
/-! ### placements as lists of names and of numbers -/
abbrev tS (k : List Str) : D := .tup (k.map .str)
abbrev tI (v : List Int) : D := .tup (v.map .int)
def plD (ss : List (List Str)) (cs : List (List Int)) : D := .tup [.tup (ss.map tS), .tup (cs.map tI)]
def PlOk (ss : List (List Str)) (cs : List (List Int)) : Prop := isPl (plD ss cs) = true ∧ Sm (plD ss cs)
def keptS (ss : List (List Str)) (p : Int) : List Str := ss.getD p.toNat []
def sharedS (ss : List (List Str)) (a b : Int) : List Str := if a = b then [] else (keptS ss a).filter fun x => decide (x ∈ keptS ss b)
def visitB (ss : List (List Str)) (cs : List (List Int)) (a b : Int) : Bool := decide ((ss.length : Int) ≤ a) && decide (b ∈ cs.getD (a - ss.length).toNat [])
def stepB (ss : List (List Str)) (cs : List (List Int)) (a b : Int) : Bool := !(sharedS ss a b).isEmpty || (visitB ss cs a b || visitB ss cs b a)
def edgesD (ss : List (List Str)) : List D := (List.range ss.length).flatMap fun (a : Nat) => ((List.range ss.length).filter fun (b : Nat) => !(sharedS ss a b).isEmpty).map fun (b : Nat) => .tup [.int a, .int b]
section
variable {P : Program} {w : World} {K : PySem.W.Frag} {mg : Str → Option Value} {base : Heap} {f : Addr} {fd : FuncData}
abbrev BNq : List Str := ["len", "tuple"]
variable (bi : ∀ x, x ∈ BNq → mg x = none)
theorem pl_len {ss : List (List Str)} {cs : List (List Int)} (h : PlOk ss cs) : ss.length ≤ 1000000 ∧ cs.length ≤ 1000000 := by
  obtain ⟨_, _, h1, h2, _⟩ := h
  refine ⟨?_, ?_⟩
  · have := h1.1; rwa [List.length_map] at this
  · have := h2.1; rwa [List.length_map] at this
theorem pl_kept {ss : List (List Str)} {cs : List (List Int)} (h : PlOk ss cs) (p : Int) : (keptS ss p).length ≤ 1000000 := by
  obtain ⟨_, _, h1, _⟩ := h
  unfold keptS
  by_cases hp : p.toNat < ss.length
  · have e : ss[p.toNat]? = some (ss.getD p.toNat []) := by rw [List.getD_eq_getElem?_getD, List.getElem?_eq_getElem hp]; rfl
    have := (h1.2.all (tS (ss.getD p.toNat [])) (List.mem_map.mpr ⟨_, List.mem_of_getElem? e, rfl⟩)).1
    rwa [List.length_map] at this
  · rw [List.getD_eq_getElem?_getD, List.getElem?_eq_none (by omega)]
    exact Nat.zero_le _
abbrev sp_count_places (K : PySem.W.Frag) : Sp := psp K (fun ds => ∃ ss cs, ds = [plD ss cs] ∧ PlOk ss cs) (fun ds e => ∃ ss cs, ds = [plD ss cs] ∧ e = .int (ss.length + cs.length))
abbrev sp_kept_at (K : PySem.W.Frag) : Sp := psp K (fun ds => ∃ ss cs p, ds = [plD ss cs, .int p] ∧ PlOk ss cs ∧ 0 ≤ p) (fun ds e => ∃ ss cs p, ds = [plD ss cs, .int p] ∧ e = tS (keptS ss p))
abbrev sp_is_client (K : PySem.W.Frag) : Sp := psp K (fun ds => ∃ ss cs p, ds = [plD ss cs, .int p]) (fun ds e => ∃ ss cs p, ds = [plD ss cs, .int p] ∧ e = .bl (decide ((ss.length : Int) ≤ p)))
abbrev sp_shared_by (K : PySem.W.Frag) : Sp := psp K (fun ds => ∃ ss cs a b, ds = [plD ss cs, .int a, .int b] ∧ PlOk ss cs ∧ 0 ≤ a ∧ 0 ≤ b) (fun ds e => ∃ ss cs a b, ds = [plD ss cs, .int a, .int b] ∧ e = tS (sharedS ss a b))
abbrev sp_does_visit (K : PySem.W.Frag) : Sp := psp K (fun ds => ∃ ss cs a b, ds = [plD ss cs, .int a, .int b] ∧ PlOk ss cs ∧ 0 ≤ a ∧ a < ss.length + cs.length) (fun ds e => ∃ ss cs a b, ds = [plD ss cs, .int a, .int b] ∧ e = .bl (visitB ss cs a b))
abbrev sp_is_step (K : PySem.W.Frag) : Sp := psp K (fun ds => ∃ ss cs a b, ds = [plD ss cs, .int a, .int b] ∧ PlOk ss cs ∧ (0 ≤ a ∧ a < ss.length + cs.length) ∧ 0 ≤ b ∧ b < ss.length + cs.length) (fun ds e => ∃ ss cs a b, ds = [plD ss cs, .int a, .int b] ∧ e = .bl (stepB ss cs a b))
abbrev sp_all_edges (K : PySem.W.Frag) : Sp := psp K (fun ds => ∃ ss cs, ds = [plD ss cs] ∧ PlOk ss cs ∧ ss.length ≤ 900) (fun ds e => ∃ ss cs, ds = [plD ss cs] ∧ e = .tup (edgesD ss))
theorem plD_inj {ss ss' : List (List Str)} {cs cs' : List (List Int)} (h : plD ss cs = plD ss' cs') : ss = ss' ∧ cs = cs' := by
  have str : ∀ {a b : List Str}, a.map D.str = b.map D.str → a = b := fun {a} => by
    induction a with
    | nil => intro b h; cases b with
      | nil => rfl
      | cons y r => simp at h
    | cons x r ih => intro b h; cases b with
      | nil => simp at h
      | cons y r' =>
        rw [List.map_cons, List.map_cons] at h
        injection h with h1 h2
        rw [D.str.inj h1, ih h2]
  have int : ∀ {a b : List Int}, a.map D.int = b.map D.int → a = b := fun {a} => by
    induction a with
    | nil => intro b h; cases b with
      | nil => rfl
      | cons y r => simp at h
    | cons x r ih => intro b h; cases b with
      | nil => simp at h
      | cons y r' =>
        rw [List.map_cons, List.map_cons] at h
        injection h with h1 h2
        rw [D.int.inj h1, ih h2]
  have hS : ∀ {a b : List (List Str)}, a.map tS = b.map tS → a = b := fun {a} => by
    induction a with
    | nil => intro b h; cases b with
      | nil => rfl
      | cons y r => simp at h
    | cons x r ih => intro b h; cases b with
      | nil => simp at h
      | cons y r' =>
        rw [List.map_cons, List.map_cons] at h
        injection h with h1 h2
        rw [str (D.tup.inj h1), ih h2]
  have hI : ∀ {a b : List (List Int)}, a.map tI = b.map tI → a = b := fun {a} => by
    induction a with
    | nil => intro b h; cases b with
      | nil => rfl
      | cons y r => simp at h
    | cons x r ih => intro b h; cases b with
      | nil => simp at h
      | cons y r' =>
        rw [List.map_cons, List.map_cons] at h
        injection h with h1 h2
        rw [int (D.tup.inj h1), ih h2]
  have h' := D.tup.inj h
  injection h' with h1 h2
  injection h2 with h2 _
  exact ⟨hS (D.tup.inj h1), hI (D.tup.inj h2)⟩
include bi in
theorem ok_count_places (F : Fun K "count_places" "count_places" s_count_places f fd) : FnOk P w K mg base CX0 1 f fd ["placement"] (sp_count_places K) := by
  refine F.ok sc_count_places (fun vs H Q E h => ?_) (fun cdv A outer s H vs Q E hr h => ?_)
  · obtain ⟨G, ds, h1, ⟨ss, cs, rfl, _⟩, _⟩ := h
    exact h1.length
  · have hu := hu_of hr
    obtain ⟨G, ds, ⟨ss, cs, rfl, hp⟩, hlen, a, hq⟩ := fsp_start locT n_count_places h
    refine ⟨_, (pss_cons (ps_asg (pv 0) (pg_tup rfl (pgs_cons (pg_name (i := 1) sc_count_places.nd rfl (by first | exact (.inl rfl) | exact (.inr rfl))) (pgs_cons (pg_name (i := 2) sc_count_places.nd rfl (by first | exact (.inl rfl) | exact (.inr rfl))) pgs_nil))))
      (pss_one (ps_ret (pe_op (r := rAddU K) u_add (pe_callB (id := "len") (r := rLenU K) u_len (by rfl) (bi "len" (by decide +kernel)) (by decide +kernel) (pa_cons (pv 1) pa_nil)) (pe_callB (id := "len") (r := rLenU K) u_len (by rfl) (bi "len" (by decide +kernel)) (by decide +kernel) (pa_cons (pv 2) pa_nil)))))), ?_⟩
    refine y_asgG a (ed_var rfl) gd_tup2 fun σ1 H1 a1 => ?_
    refine x_ret a1 (ed_op (ed_lenT (ed_var rfl)) (ed_lenT (ed_var rfl)) rd_addI) fun v H' d hd a' => hq ⟨ss, cs, rfl, ?_⟩ a'
    rw [hd, List.length_map, List.length_map]
include bi in
theorem ok_kept_at (F : Fun K "kept_at" "kept_at" s_kept_at f fd) : FnOk P w K mg base CX0 1 f fd ["placement", "place"] (sp_kept_at K) := by
  refine F.ok sc_kept_at (fun vs H Q E h => ?_) (fun cdv A outer s H vs Q E hr h => ?_)
  · obtain ⟨G, ds, h1, ⟨ss, cs, p, rfl, _⟩, _⟩ := h
    exact h1.length
  · have hu := hu_of hr
    obtain ⟨G, ds, ⟨ss, cs, p, rfl, hp, h0⟩, hlen, a, hq⟩ := fsp_start locT n_kept_at h
    refine ⟨_, (pss_cons (ps_asg (pv 0) (pg_tup rfl (pgs_cons (pg_name (i := 2) sc_kept_at.nd rfl (by first | exact (.inl rfl) | exact (.inr rfl))) (pgs_cons (pg_name (i := 3) sc_kept_at.nd rfl (by first | exact (.inl rfl) | exact (.inr rfl))) pgs_nil))))
      (pss_one (ps_ret (pe_ifExp (pt_cmpR u_lt (pv 1) (pe_callB (id := "len") (r := rLenU K) u_len (by rfl) (bi "len" (by decide +kernel)) (by decide +kernel) (pa_cons (pv 2) pa_nil)) (nomark _)) (pe_ix (r := rIx K) ix_seq (pv 2) (pv 1) (fun _ _ => rfl)) (pe_tup pa_nil))))), ?_⟩
    refine y_asgG a (ed_var rfl) gd_tup2 fun σ1 H1 a1 => ?_
    refine x_ret a1 (ed_if (d := tS (keptS ss p)) (eb_test (ed_op (ed_var rfl) (ed_lenT (ed_var rfl)) rd_ltI)) (fun hb => ?_) fun hb => ?_) fun v H' d hd a' => hq ⟨ss, cs, p, rfl, hd⟩ a'
    · have hb' := of_decide_eq_true hb
      rw [List.length_map] at hb'
      have hl : p.toNat < ss.length := by omega
      refine ed_op (ed_var rfl) (ed_var rfl) (rd_ixT ?_)
      unfold atI ixN keptS
      rw [if_pos h0, List.length_map, if_pos (by omega), List.getD_eq_getElem?_getD]
      show (ss.map tS)[p.toNat]? = _
      rw [List.getElem?_map, List.getElem?_eq_getElem hl]; rfl
    · have hb' := of_decide_eq_false hb
      rw [List.length_map] at hb'
      refine Ed.is (ed_tup ea_nil (by decide)) ?_
      unfold keptS
      rw [List.getD_eq_getElem?_getD, List.getElem?_eq_none (by omega)]; rfl
include bi in
theorem ok_shared_by (F : Fun K "shared_by" "shared_by" s_shared_by f fd) (c_kept_at : C8.Cal P w K mg base 1 "kept_at" (sp_kept_at K) []) : FnOk P w K mg base CX0 2 f fd ["placement", "one", "other"] (sp_shared_by K) := by
  refine F.ok sc_shared_by (fun vs H Q E h => ?_) (fun cdv A outer s H vs Q E hr h => ?_)
  · obtain ⟨G, ds, h1, ⟨ss, cs, x, y, rfl, _⟩, _⟩ := h
    exact h1.length
  · have hu := hu_of hr
    obtain ⟨G, ds, ⟨ss, cs, x, y, rfl, hp, hx, hy⟩, hlen, a, hq⟩ := fsp_start locT n_shared_by h
    refine ⟨_, (pss_cons (ps_if (pt_cmpR (r := rEqD K) (u_eq hr.units) (pv 1) (pv 2) (nomark _)) (pss_one (ps_ret (pe_tup pa_nil))) pss_nil)
      (pss_cons (ps_asg (C8.pe_c c_kept_at hr (by first | decide | omega) (by rfl) (pa_cons (pv 0) (pa_cons (pv 2) pa_nil))) (pg_name (i := 3) sc_shared_by.nd rfl (by first | exact (.inl rfl) | exact (.inr rfl))))
      (pss_one (ps_ret (pe_callTy (T := "tuple") (r := rTupOf K) u_tuple (by rfl) (bi "tuple" (by decide +kernel)) (by decide +kernel) (pa_cons (pe_lc (own := [("register", 4)]) (g := gName 4) rfl sc_shared_by.nd (pi_tup (C8.pe_c c_kept_at hr (by first | decide | omega) (by rfl) (pa_cons (pv 0) (pa_cons (pv 1) pa_nil)))) (blkOk_by (N := n_shared_by) (sc := defScope s_shared_by) (by decide +kernel)) (fun _ _ _ _ _ => (pg_name (i := 4) sc_shared_by.nd rfl (by first | exact (.inl rfl) | exact (.inr rfl)))) (fun _ _ _ _ _ => (pts_one (pt_cmpR (r := rIn K false) op_in_seq (pv 4) (pv 3) (by rfl)))) (fun _ _ _ _ _ => (pv 4))) pa_nil)))))), ?_⟩
    have kept : ∀ {B : Bs} {ρ : Ro} {μ : Mu} {i j : Nat} {p : Int} {E : XK}, B.K = K → 0 ≤ p → ρ[i]? = some (some (plD ss cs)) → ρ[j]? = some (some (.int p)) → Ed B (tCall (psp B.K (fun ds => ∃ ss cs p, ds = [plD ss cs, .int p] ∧ PlOk ss cs ∧ 0 ≤ p) (fun ds e => ∃ ss cs p, ds = [plD ss cs, .int p] ∧ e = tS (keptS ss p))) [] E (tCons (tVar i) (tCons (tVar j) tNil))) ρ μ (tS (keptS ss p)) := fun hK h0 h1 h2 => ed_p (ead_cons (ed_var h1) (ead_cons (ed_var h2) ea_nil)) ⟨_, _, _, rfl, hp, h0⟩ (by
      rintro e ⟨ss', cs', p', e1, rfl⟩
      injection e1 with e2 e3
      injection e3 with e3 _
      rw [(plD_inj e2).1, D.int.inj e3])
    refine y_ifb a (eb_test (ed_op (ed_var rfl) (ed_var rfl) rd_eqI)) (fun hb H1 a1 => ?_) fun hb H1 a1 => ?_
    · refine x_ret a1 (ed_tup ea_nil (by decide)) fun v H' d hd a' => hq ⟨ss, cs, x, y, rfl, ?_⟩ a'
      rw [hd]
      unfold sharedS
      rw [if_pos (of_decide_eq_true hb)]; rfl
    · refine y_set a1 (kept rfl hy rfl rfl) fun σ2 H2 a2 => ?_
      refine x_ret a2 (ed_tupL (ed_lcT (n := (keptS ss x).length) (f := fun i => ((keptS ss x).map D.str).getD i .non) (h := fun i => .str ((keptS ss x).getD i "")) (fun i => decide ((keptS ss x).getD i "" ∈ keptS ss y)) ?_ (by decide) (pl_kept hp x) (fun i hi cl => ?_) fun i hi _ cl => ?_)) fun v H' d hd a' => hq ⟨ss, cs, x, y, rfl, ?_⟩ a'
      · have := ei_tup (B := ⟨K, fun _ => True, [], locT, G, H⟩) (kept (B := ⟨K, fun _ => True, [], locT, G, H⟩) (μ := []) (E := C8.E0) rfl hx (ρ := [some (plD ss cs), some (.int x), some (.int y), some (tS (keptS ss y)), none]) (i := 0) (j := 1) rfl rfl)
        rw [List.length_map] at this
        exact this
      · have e : ((keptS ss x).map D.str).getD i .non = .str ((keptS ss x).getD i "") := by
          rw [List.getD_eq_getElem?_getD, List.getElem?_map, List.getElem?_eq_getElem hi, List.getD_eq_getElem?_getD, List.getElem?_eq_getElem hi]; rfl
        rw [e]
        exact eb_test (ed_op (ed_var rfl) (ed_var rfl) rd_inS)
      · have e : ((keptS ss x).map D.str).getD i .non = .str ((keptS ss x).getD i "") := by
          rw [List.getD_eq_getElem?_getD, List.getElem?_map, List.getElem?_eq_getElem hi, List.getD_eq_getElem?_getD, List.getElem?_eq_getElem hi]; rfl
        rw [e]
        exact ed_var rfl
      · rw [hd]
        unfold sharedS
        rw [if_neg (of_decide_eq_false hb)]
        have e : ∀ l : List Str, ((List.range l.length).filter fun i => decide (l.getD i "" ∈ keptS ss y)).map (fun i => D.str (l.getD i "")) = (l.filter fun z => decide (z ∈ keptS ss y)).map D.str := fun l => by
          have e1 : (List.range l.length).map (fun i => l.getD i "") = l := by
            refine List.ext_getElem? fun i => ?_
            rw [List.getElem?_map]
            by_cases hi : i < l.length
            · rw [List.getElem?_range hi, List.getElem?_eq_getElem hi]
              show some (l.getD i "") = _
              rw [List.getD_eq_getElem?_getD, List.getElem?_eq_getElem hi]; rfl
            · rw [List.getElem?_eq_none (by simpa using hi), List.getElem?_eq_none (by simpa using hi)]; rfl
          conv => rhs; rw [← e1]
          rw [List.filter_map, List.map_map]; rfl
        rw [e]
theorem plD_two {ss ss' : List (List Str)} {cs cs' : List (List Int)} {a b a' b' : Int} (h : [plD ss cs, .int a, .int b] = [plD ss' cs', .int a', .int b']) : ss = ss' ∧ cs = cs' ∧ a = a' ∧ b = b' := by
  injection h with h1 h2
  injection h2 with h2 h3
  injection h3 with h3 _
  exact ⟨(plD_inj h1).1, (plD_inj h1).2, D.int.inj h2, D.int.inj h3⟩
theorem plD_one0 {ss ss' : List (List Str)} {cs cs' : List (List Int)} {a a' : Int} (h : [plD ss cs, .int a] = [plD ss' cs', .int a']) : ss = ss' ∧ cs = cs' ∧ a = a' := by
  injection h with h1 h2
  injection h2 with h2 _
  exact ⟨(plD_inj h1).1, (plD_inj h1).2, D.int.inj h2⟩
include bi in
theorem ok_is_client (F : Fun K "is_client" "is_client" s_is_client f fd) : FnOk P w K mg base CX0 1 f fd ["placement", "place"] (sp_is_client K) := by
  refine F.ok sc_is_client (fun vs H Q E h => ?_) (fun cdv A outer s H vs Q E hr h => ?_)
  · obtain ⟨G, ds, h1, ⟨ss, cs, p, rfl⟩, _⟩ := h
    exact h1.length
  · have hu := hu_of hr
    obtain ⟨G, ds, ⟨ss, cs, p, rfl⟩, hlen, a, hq⟩ := fsp_start locT n_is_client h
    refine ⟨_, (pss_cons (ps_asg (pv 0) (pg_tup rfl (pgs_cons (pg_name (i := 2) sc_is_client.nd rfl (by first | exact (.inl rfl) | exact (.inr rfl))) (pgs_cons (pg_name (i := 3) sc_is_client.nd rfl (by first | exact (.inl rfl) | exact (.inr rfl))) pgs_nil))))
      (pss_one (ps_ret (pe_cmpR u_ge (pv 1) (pe_callB (id := "len") (r := rLenU K) u_len (by rfl) (bi "len" (by decide +kernel)) (by decide +kernel) (pa_cons (pv 2) pa_nil)) (nomark _))))), ?_⟩
    refine y_asgG a (ed_var rfl) gd_tup2 fun σ1 H1 a1 => ?_
    refine x_ret a1 (ed_op (ed_var rfl) (ed_lenT (ed_var rfl)) rd_geI) fun v H' d hd a' => hq ⟨ss, cs, p, rfl, ?_⟩ a'
    rw [hd, List.length_map]
include bi in
theorem ok_does_visit (F : Fun K "does_visit" "does_visit" s_does_visit f fd) (c_is_client : C8.Cal P w K mg base 1 "is_client" (sp_is_client K) []) : FnOk P w K mg base CX0 2 f fd ["placement", "one", "other"] (sp_does_visit K) := by
  refine F.ok sc_does_visit (fun vs H Q E h => ?_) (fun cdv A outer s H vs Q E hr h => ?_)
  · obtain ⟨G, ds, h1, ⟨ss, cs, x, y, rfl, _⟩, _⟩ := h
    exact h1.length
  · have hu := hu_of hr
    obtain ⟨G, ds, ⟨ss, cs, x, y, rfl, hp, h0, h1⟩, hlen, a, hq⟩ := fsp_start locT n_does_visit h
    refine ⟨_, (pss_cons (ps_asg (pv 0) (pg_tup rfl (pgs_cons (pg_name (i := 3) sc_does_visit.nd rfl (by first | exact (.inl rfl) | exact (.inr rfl))) (pgs_cons (pg_name (i := 4) sc_does_visit.nd rfl (by first | exact (.inl rfl) | exact (.inr rfl))) pgs_nil))))
      (pss_one (ps_ret (pe_and (C8.pe_c c_is_client hr (by first | decide | omega) (by rfl) (pa_cons (pv 0) (pa_cons (pv 1) pa_nil))) (pe_one (pe_cmpR (r := rIn K false) op_in_seq (pv 2) (pe_ix (r := rIx K) ix_seq (pv 4) (pe_op op_sub (pv 1) (pe_callB (id := "len") (r := rLenU K) u_len (by rfl) (bi "len" (by decide +kernel)) (by decide +kernel) (pa_cons (pv 3) pa_nil))) (fun _ _ => rfl)) (by rfl))))))), ?_⟩
    refine y_asgG a (ed_var rfl) gd_tup2 fun σ1 H1 a1 => ?_
    refine x_ret a1 (ed_andV (a := decide ((ss.length : Int) ≤ x)) (b := decide (y ∈ cs.getD (x - ss.length).toNat [])) (ed_p (ead_cons (ed_var rfl) (ead_cons (ed_var rfl) ea_nil)) ⟨_, _, _, rfl⟩ (by
      rintro e ⟨ss', cs', p', e1, rfl⟩
      obtain ⟨rfl, rfl, rfl⟩ := plD_one0 e1; rfl)) fun hb => ?_) fun v H' d hd a' => hq ⟨ss, cs, x, y, rfl, hd⟩ a'
    have hb' := of_decide_eq_true hb
    refine ed_op (ed_var rfl) (ed_op (ed_var rfl) (ed_op (ed_var rfl) (ed_lenT (ed_var rfl)) rd_sub) (rd_ixT (d := tI (cs.getD (x - ss.length).toNat [])) ?_)) rd_inI
    have hl : (x - ss.length).toNat < cs.length := by omega
    unfold atI ixN
    rw [List.length_map, List.length_map, if_pos (by omega), if_pos (by omega), List.getD_eq_getElem?_getD]
    show (cs.map tI)[(x - ss.length).toNat]? = _
    rw [List.getElem?_map, List.getElem?_eq_getElem hl]; rfl
include bi in
theorem ok_is_step (F : Fun K "is_step" "is_step" s_is_step f fd) (c_shared_by : C8.Cal P w K mg base 2 "shared_by" (sp_shared_by K) []) (c_does_visit : C8.Cal P w K mg base 2 "does_visit" (sp_does_visit K) []) : FnOk P w K mg base CX0 3 f fd ["placement", "one", "other"] (sp_is_step K) := by
  refine F.ok sc_is_step (fun vs H Q E h => ?_) (fun cdv A outer s H vs Q E hr h => ?_)
  · obtain ⟨G, ds, h1, ⟨ss, cs, x, y, rfl, _⟩, _⟩ := h
    exact h1.length
  · have hu := hu_of hr
    obtain ⟨G, ds, ⟨ss, cs, x, y, rfl, hp, ⟨hx0, hx1⟩, hy0, hy1⟩, hlen, a, hq⟩ := fsp_start locT n_is_step h
    refine ⟨_, (pss_cons (ps_if (pt_truK (K := K) (by rfl) (C8.pe_c c_shared_by hr (by first | decide | omega) (by rfl) (pa_cons (pv 0) (pa_cons (pv 1) (pa_cons (pv 2) pa_nil))))) (pss_one (ps_ret pe_bl)) pss_nil)
      (pss_one (ps_ret (pe_or (C8.pe_c c_does_visit hr (by first | decide | omega) (by rfl) (pa_cons (pv 0) (pa_cons (pv 1) (pa_cons (pv 2) pa_nil)))) (pe_one (C8.pe_c c_does_visit hr (by first | decide | omega) (by rfl) (pa_cons (pv 0) (pa_cons (pv 2) (pa_cons (pv 1) pa_nil))))))))), ?_⟩
    have em : (!((sharedS ss x y).map D.str).isEmpty) = !(sharedS ss x y).isEmpty := by rw [List.isEmpty_map]
    refine y_ifb a (eb_truT (ed_p (d := tS (sharedS ss x y)) (ead_cons (ed_var rfl) (ead_cons (ed_var rfl) (ead_cons (ed_var rfl) ea_nil))) ⟨_, _, _, _, rfl, hp, hx0, hy0⟩ (by
      rintro e ⟨ss', cs', a', b', e1, rfl⟩
      obtain ⟨rfl, rfl, rfl, rfl⟩ := plD_two e1; rfl))) (fun hb H1 a1 => ?_) fun hb H1 a1 => ?_
    · refine x_ret a1 ed_bl fun v H' d hd a' => hq ⟨ss, cs, x, y, rfl, ?_⟩ a'
      rw [hd]
      unfold stepB
      rw [← em, hb]; rfl
    · refine x_ret a1 (ed_orV (ed_p (d := .bl (visitB ss cs x y)) (ead_cons (ed_var rfl) (ead_cons (ed_var rfl) (ead_cons (ed_var rfl) ea_nil))) ⟨_, _, _, _, rfl, hp, hx0, hx1⟩ (by
        rintro e ⟨ss', cs', a', b', e1, rfl⟩
        obtain ⟨rfl, rfl, rfl, rfl⟩ := plD_two e1; rfl)) fun _ => ed_p (d := .bl (visitB ss cs y x)) (ead_cons (ed_var rfl) (ead_cons (ed_var rfl) (ead_cons (ed_var rfl) ea_nil))) ⟨_, _, _, _, rfl, hp, hy0, hy1⟩ (by
        rintro e ⟨ss', cs', a', b', e1, rfl⟩
        obtain ⟨rfl, rfl, rfl, rfl⟩ := plD_two e1; rfl)) fun v H' d hd a' => hq ⟨ss, cs, x, y, rfl, ?_⟩ a'
      rw [hd]
      unfold stepB
      rw [← em, hb]; rfl
abbrev sp_is_place (K : PySem.W.Frag) : Sp := psp K (fun ds => ∃ ss cs d, ds = [plD ss cs, d] ∧ PlOk ss cs ∧ Sm d) (fun ds e => ∃ ss cs d, ds = [plD ss cs, d] ∧ e = .bl (isBelow (ss.length + cs.length) d))
abbrev sp_check_placement (K : PySem.W.Frag) : Sp := psp K (fun ds => ∃ ss cs, ds = [plD ss cs] ∧ PlOk ss cs) (fun ds e => e = .non)
abbrev sp_check_place (K : PySem.W.Frag) : Sp := psp K (fun ds => ∃ ss cs p, ds = [plD ss cs, .int p] ∧ PlOk ss cs ∧ (0 ≤ p ∧ p < ss.length + cs.length) ∧ p < 2000000) (fun ds e => e = .non)
abbrev sp_check_two_places (K : PySem.W.Frag) : Sp := psp K (fun ds => ∃ ss cs a b, ds = [plD ss cs, .int a, .int b] ∧ PlOk ss cs ∧ (0 ≤ a ∧ a < ss.length + cs.length) ∧ 0 ≤ b ∧ b < ss.length + cs.length) (fun ds e => e = .non)
abbrev sp_keeps (K : PySem.W.Frag) : Sp := psp K (fun ds => ∃ ss cs p, ds = [plD ss cs, .int p] ∧ PlOk ss cs ∧ 0 ≤ p ∧ p < ss.length + cs.length) (fun ds e => ∃ ss cs p, ds = [plD ss cs, .int p] ∧ e = tS (keptS ss p))
abbrev sp_shared (K : PySem.W.Frag) : Sp := psp K (fun ds => ∃ ss cs a b, ds = [plD ss cs, .int a, .int b] ∧ PlOk ss cs ∧ (0 ≤ a ∧ a < ss.length + cs.length) ∧ 0 ≤ b ∧ b < ss.length + cs.length) (fun ds e => ∃ ss cs a b, ds = [plD ss cs, .int a, .int b] ∧ e = tS (sharedS ss a b))
theorem plD_one {ss ss' : List (List Str)} {cs cs' : List (List Int)} {a a' : Int} (h : [plD ss cs, .int a] = [plD ss' cs', .int a']) : ss = ss' ∧ cs = cs' ∧ a = a' := by
  injection h with h1 h2
  injection h2 with h2 _
  exact ⟨(plD_inj h1).1, (plD_inj h1).2, D.int.inj h2⟩
theorem plD_zero {ss ss' : List (List Str)} {cs cs' : List (List Int)} (h : [plD ss cs] = [plD ss' cs']) : ss = ss' ∧ cs = cs' := by
  injection h with h1 _
  exact plD_inj h1
include bi in
theorem ok_is_place (F : Fun K "is_place" "is_place" s_is_place f fd) (c_is_below : C8.Cal P w K mg base 2 "is_below" (sp_is_below K) []) (c_count_places : C8.Cal P w K mg base 1 "count_places" (sp_count_places K) []) : FnOk P w K mg base CX0 3 f fd ["placement", "thing"] (sp_is_place K) := by
  refine F.ok sc_is_place (fun vs H Q E h => ?_) (fun cdv A outer s H vs Q E hr h => ?_)
  · obtain ⟨G, ds, h1, ⟨ss, cs, d, rfl, _⟩, _⟩ := h
    exact h1.length
  · have hu := hu_of hr
    obtain ⟨G, ds, ⟨ss, cs, d, rfl, hp, hd⟩, hlen, a, hq⟩ := fsp_start locT n_is_place h
    refine ⟨_, (pss_one (ps_ret (C8.pe_c c_is_below hr (by first | decide | omega) (by rfl) (pa_cons (pv 1) (pa_cons (C8.pe_c c_count_places hr (by first | decide | omega) (by rfl) (pa_cons (pv 0) pa_nil)) pa_nil))))), ?_⟩
    exact x_ret a (ed_p (d := .bl (isBelow (ss.length + cs.length) d)) (ead_cons (ed_var rfl) (ead_cons (ed_p (d := .int (ss.length + cs.length)) (ead_cons (ed_var rfl) ea_nil) ⟨_, _, rfl, hp⟩ (by rintro e ⟨ss', cs', e1, rfl⟩; obtain ⟨rfl, rfl⟩ := plD_zero e1; rfl)) ea_nil)) ⟨_, _, rfl, hd⟩ (by rintro e ⟨d', n', e1, rfl⟩; cases e1; rfl)) fun v H' d' hd' a' => hq ⟨ss, cs, d, rfl, hd'⟩ a'
include bi in
theorem ok_check_placement (F : Fun K "check_placement" "check_placement" s_check_placement f fd) (c_is_placement : C8.Cal P w K mg base 6 "is_placement" (sp_is_placement K) []) : FnOk P w K mg base CX0 7 f fd ["placement"] (sp_check_placement K) := by
  refine F.ok sc_check_placement (fun vs H Q E h => ?_) (fun cdv A outer s H vs Q E hr h => ?_)
  · obtain ⟨G, ds, h1, ⟨ss, cs, rfl, _⟩, _⟩ := h
    exact h1.length
  · have hu := hu_of hr
    obtain ⟨G, ds, ⟨ss, cs, rfl, hp⟩, hlen, a, hq⟩ := fsp_start locT n_check_placement h
    refine ⟨_, (pss_one (ps_if (pt_not (pt_val (C8.pe_c c_is_placement hr (by first | decide | omega) (by rfl) (pa_cons (pv 0) pa_nil)))) (pss_one ps_nv) pss_nil)), ?_⟩
    refine x_ifb a (eb_not (eb_B (ed_p (d := .bl (isPl (plD ss cs))) (ead_cons (ed_var rfl) ea_nil) ⟨_, rfl, hp.2⟩ (by rintro e ⟨d', e1, rfl⟩; injection e1 with e1 _; rw [e1])))) (fun hb H1 a1 => ?_) fun hb H1 a1 => x_next (hq rfl (At.flat a1 fun _ => rfl))
    rw [hp.1] at hb; cases hb
include bi in
theorem ok_check_place (F : Fun K "check_place" "check_place" s_check_place f fd) (c_is_place : C8.Cal P w K mg base 3 "is_place" (sp_is_place K) []) : FnOk P w K mg base CX0 4 f fd ["placement", "place"] (sp_check_place K) := by
  refine F.ok sc_check_place (fun vs H Q E h => ?_) (fun cdv A outer s H vs Q E hr h => ?_)
  · obtain ⟨G, ds, h1, ⟨ss, cs, p, rfl, _⟩, _⟩ := h
    exact h1.length
  · have hu := hu_of hr
    obtain ⟨G, ds, ⟨ss, cs, p, rfl, hp, ⟨h0, h1⟩, h2⟩, hlen, a, hq⟩ := fsp_start locT n_check_place h
    refine ⟨_, (pss_one (ps_if (pt_not (pt_val (C8.pe_c c_is_place hr (by first | decide | omega) (by rfl) (pa_cons (pv 0) (pa_cons (pv 1) pa_nil))))) (pss_one ps_nv) pss_nil)), ?_⟩
    refine x_ifb a (eb_not (eb_B (ed_p (d := .bl (isBelow (ss.length + cs.length) (.int p))) (ead_cons (ed_var rfl) (ead_cons (ed_var rfl) ea_nil)) ⟨_, _, _, rfl, hp, Nat.lt_of_lt_of_le (show p.natAbs < 2000000 by omega) (by decide)⟩ (by
      rintro e ⟨ss', cs', d', e1, rfl⟩
      injection e1 with e1 e2
      injection e2 with e2 _
      obtain ⟨rfl, rfl⟩ := plD_inj e1
      rw [e2])))) (fun hb H1 a1 => ?_) fun hb H1 a1 => x_next (hq rfl (At.flat a1 fun _ => rfl))
    have : isBelow (ss.length + cs.length) (.int p) = true := by
      show (decide (0 ≤ p) && decide (p < (ss.length : Int) + cs.length)) = true
      rw [decide_eq_true h0, decide_eq_true h1]; rfl
    rw [this] at hb; cases hb
end
end Cal


namespace Cal
open PySem PySem.Spec PyProof.Rows L2
/-! ### placements of names: when they are ones, and what is the same (own text) -/
def NameB (s : Str) : Prop := 1 ≤ s.cps.size ∧ s.cps.size ≤ 10 ∧ ∀ c ∈ s.cps.toList, 97 ≤ c ∧ c ≤ 122
theorem one_lt' (a b : Nat) : [a] < [b] ↔ a < b := by
  rw [List.cons_lt_cons_iff]
  exact ⟨fun h => h.elim id fun z => absurd z.2 (List.lt_irrefl _), fun h => .inl h⟩
theorem isName_ofB {s : Str} (h : NameB s) : isNameS s = true := by
  obtain ⟨h1, h2, h3⟩ := h
  have a1 : (1 : Int) ≤ (s.length : Int) := by show (1 : Int) ≤ ((s.cps.size : Nat) : Int); omega
  have a2 : (s.length : Int) ≤ 10 := by show ((s.cps.size : Nat) : Int) ≤ 10; omega
  unfold isNameS
  rw [decide_eq_true a1, decide_eq_true a2, Bool.true_and, Bool.true_and]
  refine List.all_eq_true.mpr fun i hi => ?_
  have hi' := List.mem_range.mp hi
  have hm : s.cps.getD i 0 ∈ s.cps.toList := by
    rw [Array.getD_eq_getD_getElem?, Array.getElem?_eq_getElem hi']
    exact Array.mem_toList_iff.mpr (Array.getElem_mem hi')
  have := h3 _ hm
  rw [decide_eq_false (fun z => by have := (one_lt' _ _).mp z; omega), decide_eq_false (fun z => by have := (one_lt' _ _).mp z; omega)]; rfl
theorem lt_of_nlt : ∀ a b : List Nat, ¬ b < a → a ≠ b → a < b
  | [], [], _, h => absurd rfl h
  | [], _ :: _, _, _ => List.nil_lt_cons _ _
  | _ :: _, [], h, _ => absurd (List.nil_lt_cons _ _) h
  | x :: a, y :: b, h, ne => by
    rcases Nat.lt_trichotomy x y with z | z | z
    · exact List.cons_lt_cons_iff.mpr (.inl z)
    · subst z
      exact List.cons_lt_cons_iff.mpr (.inr ⟨rfl, lt_of_nlt a b (fun c => h (List.cons_lt_cons_iff.mpr (.inr ⟨rfl, c⟩))) fun e => ne (by rw [e])⟩)
    · exact absurd (List.cons_lt_cons_iff.mpr (.inl z)) h
theorem str_ext {a b : Str} (h : a.cps.toList = b.cps.toList) : a = b := by
  have e2 : a.cps = b.cps := Array.ext' h
  cases a with
  | mk c1 => cases b with
    | mk c2 => exact congrArg Str.mk e2
abbrev ltS (x y : Str) : Prop := x.cps.toList < y.cps.toList
theorem rising_pw : ∀ (r : List Str) (p : Str), risingS p r = true → (p :: r).Nodup → (p :: r).Pairwise ltS
  | [], p, _, _ => List.pairwise_singleton _ _
  | z :: r, p, h, nd => by
    have h : (!ltCps z.cps.toList p.cps.toList && risingS z r) = true := h
    rw [Bool.and_eq_true] at h
    obtain ⟨n1, n2⟩ := List.nodup_cons.mp nd
    have ih := rising_pw r z h.2 n2
    have hpz : ltS p z := by
      have h1 := h.1
      rw [ltCps_eq, Bool.not_eq_true'] at h1
      exact lt_of_nlt _ _ (of_decide_eq_false h1) fun e => n1 (by rw [str_ext e]; exact List.mem_cons_self ..)
    refine List.pairwise_cons.mpr ⟨fun y hy => ?_, ih⟩
    rcases List.mem_cons.mp hy with e | hy
    · rw [e]; exact hpz
    · exact List.lt_trans hpz ((List.pairwise_cons.mp ih).1 y hy)
theorem sorted_pw {k : List Str} (h : sortedS k = true) (nd : k.Nodup) : k.Pairwise ltS := by
  cases k with
  | nil => exact List.Pairwise.nil
  | cons p r => exact rising_pw r p h nd
theorem asc_extS : ∀ {a b : List Str}, a.Pairwise ltS → b.Pairwise ltS → (∀ x, x ∈ a ↔ x ∈ b) → a = b
  | [], [], _, _, _ => rfl
  | [], y :: b, _, _, h => absurd ((h y).mpr (List.mem_cons_self ..)) (by simp)
  | x :: a, [], _, _, h => absurd ((h x).mp (List.mem_cons_self ..)) (by simp)
  | x :: a, y :: b, ha, hb, h => by
    obtain ⟨a1, a2⟩ := List.pairwise_cons.mp ha
    obtain ⟨b1, b2⟩ := List.pairwise_cons.mp hb
    have e : x = y := by
      rcases List.mem_cons.mp ((h x).mp (List.mem_cons_self ..)) with e | h1
      · exact e
      · rcases List.mem_cons.mp ((h y).mpr (List.mem_cons_self ..)) with e | h2
        · exact e.symm
        · exact absurd (List.lt_trans (a1 y h2) (b1 x h1)) (List.lt_irrefl _)
    subst e
    refine congrArg (x :: ·) (asc_extS a2 b2 fun z => ⟨fun hz => ?_, fun hz => ?_⟩)
    · rcases List.mem_cons.mp ((h z).mp (List.mem_cons_of_mem _ hz)) with e | h1
      · exact absurd (e ▸ a1 z hz) (List.lt_irrefl _)
      · exact h1
    · rcases List.mem_cons.mp ((h z).mpr (List.mem_cons_of_mem _ hz)) with e | h1
      · exact absurd (e ▸ b1 z hz) (List.lt_irrefl _)
      · exact h1
theorem sort_ext {a b : List Str} (ha : sortedS a = true) (na : a.Nodup) (hb : sortedS b = true) (nb : b.Nodup) (h : ∀ x, x ∈ a ↔ x ∈ b) : a = b := asc_extS (sorted_pw ha na) (sorted_pw hb nb) h
theorem getD_atS {α : Type} {z : α} {l : List α} {i : Nat} (h : i < l.length) : l[i]? = some (l.getD i z) := by
  rw [List.getD_eq_getElem?_getD, List.getElem?_eq_getElem h]; rfl
theorem getD_memS {α : Type} {z : α} {l : List α} {i : Nat} (h : i < l.length) : l.getD i z ∈ l := List.mem_of_getElem? (getD_atS h)
theorem getD_mapS {α β : Type} (g : α → β) (z : α) (y : β) {l : List α} {i : Nat} (h : i < l.length) : (l.map g).getD i y = g (l.getD i z) := by
  rw [List.getD_eq_getElem?_getD, List.getElem?_map, getD_atS (z := z) h]; rfl
theorem asc_nd {k : List Str} (hs : sortedS k = true) (nd : k.Nodup) : ascD (k.map D.str) = true := by
  have pw := sorted_pw hs nd
  unfold ascD
  refine List.all_eq_true.mpr fun i hi => ?_
  rw [List.length_map] at hi
  have hi' := List.mem_range.mp hi
  have i1 : i < k.length := by omega
  have i2 : i + 1 < k.length := by omega
  rw [getD_mapS D.str "" _ i1, getD_mapS D.str "" _ i2]
  show decide ((k.getD i "").cps.toList < (k.getD (i + 1) "").cps.toList) = true
  have := List.pairwise_iff_getElem.mp pw i (i + 1) i1 i2 (by omega)
  rw [List.getD_eq_getElem?_getD, List.getD_eq_getElem?_getD, List.getElem?_eq_getElem i1, List.getElem?_eq_getElem i2]
  exact decide_eq_true this
theorem ascI_of {v : List Int} (h : v.Pairwise (· < ·)) : ascD (v.map D.int) = true := by
  unfold ascD
  refine List.all_eq_true.mpr fun i hi => ?_
  rw [List.length_map] at hi
  have hi' := List.mem_range.mp hi
  have i1 : i < v.length := by omega
  have i2 : i + 1 < v.length := by omega
  rw [getD_mapS D.int 0 _ i1, getD_mapS D.int 0 _ i2]
  have := List.pairwise_iff_getElem.mp h i (i + 1) i1 i2 (by omega)
  rw [List.getD_eq_getElem?_getD, List.getD_eq_getElem?_getD, List.getElem?_eq_getElem i1, List.getElem?_eq_getElem i2]
  exact decide_eq_true this
theorem strOk_B {s : Str} (h : NameB s) : PyData.strOk s = true := strOk_of fun c hc => by have := h.2.2 c hc; omega
/-- the names that are drawn -/
def pool3 : List Str := ["a", "b", "c", "d", "e", "f", "gg", "h", "x", "abcdefghij", "zz", "k"]
def U3 : List Str := pool3 ++ [("new" : Str), "g"]
theorem u3_name : ∀ x ∈ U3, NameB x := fun x hx => by
  simp only [U3, pool3, List.cons_append, List.nil_append, List.mem_cons, List.mem_nil_iff, or_false] at hx
  rcases hx with rfl | rfl | rfl | rfl | rfl | rfl | rfl | rfl | rfl | rfl | rfl | rfl | rfl | rfl <;> exact ⟨by decide, by decide, by decide⟩
theorem nd_leS {l u : List Str} (nd : l.Nodup) (h : ∀ x ∈ l, x ∈ u) : l.length ≤ u.length := by
  induction l generalizing u with
  | nil => exact Nat.zero_le _
  | cons x r ih =>
    have hx := h x (List.mem_cons_self ..)
    have n := List.nodup_cons.mp nd
    have := ih (u := u.erase x) n.2 fun y hy => (List.mem_erase_of_ne (fun e => n.1 (by rw [← e]; exact hy))).mpr (h y (List.mem_cons_of_mem _ hy))
    rw [List.length_erase_of_mem hx] at this
    have := List.length_pos_of_mem hx
    rw [List.length_cons]; omega
def RowB (k : List Str) : Prop := sortedS k = true ∧ k.Nodup ∧ ∀ x ∈ k, x ∈ U3
theorem RowB.name {k : List Str} (h : RowB k) : ∀ x ∈ k, NameB x := fun x hx => u3_name x (h.2.2 x hx)
theorem RowB.len {k : List Str} (h : RowB k) : k.length ≤ 14 := nd_leS (u := U3) h.2.1 h.2.2
def VisB (n : Nat) (v : List Int) : Prop := v.Pairwise (· < ·) ∧ (∀ x ∈ v, 0 ≤ x ∧ x < (n : Int)) ∧ 2 ≤ v.length
structure Pl3 (ss : List (List Str)) (cs : List (List Int)) : Prop where
  n1 : 2 ≤ ss.length
  m7 : ss.length + cs.length ≤ 7
  rows : ∀ k ∈ ss, RowB k
  vis : ∀ v ∈ cs, VisB ss.length v
theorem asc_len : ∀ {v : List Int} {n : Nat}, v.Pairwise (· < ·) → (∀ x ∈ v, 0 ≤ x ∧ x < (n : Int)) → v.length ≤ n := by
  intro v
  induction v with
  | nil => intro n _ _; exact Nat.zero_le _
  | cons x r ih =>
    intro n h hb
    obtain ⟨h1, h2⟩ := List.pairwise_cons.mp h
    have hx := hb x (List.mem_cons_self ..)
    -- all others lie above x: move them down by one
    have hr : ∀ y ∈ r, 0 ≤ y - 1 ∧ y - 1 < ((n - 1 : Nat) : Int) := fun y hy => by
      have := h1 y hy
      have := (hb y (List.mem_cons_of_mem _ hy)).2
      omega
    have hpw : (r.map fun y => y - 1).Pairwise (· < ·) := List.pairwise_map.mpr (h2.imp fun {a b} z => by omega)
    have key : ∀ (m : Nat) (l : List Int), l.Pairwise (· < ·) → (∀ y ∈ l, 0 ≤ y ∧ y < (m : Int)) → l.length ≤ m := by
      intro m
      induction m with
      | zero =>
        intro l _ hl
        cases l with
        | nil => exact Nat.le_refl _
        | cons y t => have := hl y (List.mem_cons_self ..); omega
      | succ m ihm =>
        intro l hl hb
        cases l with
        | nil => exact Nat.zero_le _
        | cons y t =>
          obtain ⟨g1, g2⟩ := List.pairwise_cons.mp hl
          have := ihm (t.map fun y => y - 1) (List.pairwise_map.mpr (g2.imp fun {a b} z => by omega)) fun z hz => by
            obtain ⟨q, hq, rfl⟩ := List.mem_map.mp hz
            have k1 := g1 q hq
            have k2 := hb q (List.mem_cons_of_mem _ hq)
            have k3 := hb y (List.mem_cons_self ..)
            omega
          rw [List.length_map] at this
          rw [List.length_cons]; omega
    exact key n (x :: r) h hb
theorem Pl3.ok {ss : List (List Str)} {cs : List (List Int)} (h : Pl3 ss cs) : PlOk ss cs := by
  have m7 := h.m7
  have vl : ∀ v ∈ cs, v.length ≤ 7 := fun v hv => by
    have := asc_len (h.vis v hv).1 (h.vis v hv).2.1
    omega
  refine ⟨?_, ?_⟩
  · show (((List.range (ss.map tS).length).all fun i => namesAsc ((ss.map tS).getD i .non)) && areClients (ss.map tS).length (cs.map tI)) = true
    rw [Bool.and_eq_true]
    refine ⟨List.all_eq_true.mpr fun i hi => ?_, List.all_eq_true.mpr fun i hi => ?_⟩
    · have i1 : i < ss.length := by have := List.mem_range.mp hi; rwa [List.length_map] at this
      rw [getD_mapS tS [] _ i1]
      have hR := h.rows _ (getD_memS (z := []) i1)
      have h1 := hR.1; have h2 := hR.2.1; have h3 := hR.name
      show (((List.range ((ss.getD i []).map D.str).length).all fun j => isName (((ss.getD i []).map D.str).getD j .non)) && ascD ((ss.getD i []).map D.str)) = true
      rw [asc_nd h1 h2, Bool.and_true]
      refine List.all_eq_true.mpr fun j hj => ?_
      have j1 : j < (ss.getD i []).length := by have := List.mem_range.mp hj; rwa [List.length_map] at this
      rw [getD_mapS D.str "" _ j1]
      exact isName_ofB (h3 _ (getD_memS j1))
    · have i1 : i < cs.length := by have := List.mem_range.mp hi; rwa [List.length_map] at this
      rw [getD_mapS tI [] _ i1, List.length_map]
      obtain ⟨h1, h2, h3⟩ := h.vis _ (getD_memS (z := []) i1)
      show (belowAsc ss.length (tI (cs.getD i [])) && decide (2 ≤ (((cs.getD i []).map D.int).length : Int))) = true
      rw [List.length_map, decide_eq_true (by omega), Bool.and_true]
      show (((List.range ((cs.getD i []).map D.int).length).all fun j => isBelow ss.length (((cs.getD i []).map D.int).getD j .non)) && ascD ((cs.getD i []).map D.int)) = true
      rw [ascI_of h1, Bool.and_true]
      refine List.all_eq_true.mpr fun j hj => ?_
      have j1 : j < (cs.getD i []).length := by have := List.mem_range.mp hj; rwa [List.length_map] at this
      rw [getD_mapS D.int 0 _ j1]
      have := h2 _ (getD_memS (z := 0) j1)
      show (decide (0 ≤ (cs.getD i []).getD j 0) && decide ((cs.getD i []).getD j 0 < (ss.length : Int))) = true
      rw [decide_eq_true this.1, decide_eq_true this.2]; rfl
  · refine ⟨by show 2 ≤ 1000000; decide, ⟨by rw [List.length_map]; omega, SmA.of fun d hd => ?_⟩, ⟨by rw [List.length_map]; omega, SmA.of fun d hd => ?_⟩, True.intro⟩
    · obtain ⟨k, hk', rfl⟩ := List.mem_map.mp hd
      have h3 := (h.rows k hk').name; have h4 := (h.rows k hk').len
      refine ⟨by rw [List.length_map]; omega, SmA.of fun d hd => ?_⟩
      obtain ⟨z, hz, rfl⟩ := List.mem_map.mp hd
      exact ⟨Nat.le_trans (h3 z hz).2.1 (by decide), strOk_B (h3 z hz)⟩
    · obtain ⟨v, hv, rfl⟩ := List.mem_map.mp hd
      obtain ⟨_, h2, _⟩ := h.vis v hv
      refine ⟨by rw [List.length_map]; have := vl v hv; omega, SmA.of fun d hd => ?_⟩
      obtain ⟨x, hx, rfl⟩ := List.mem_map.mp hd
      have := h2 x hx
      exact Nat.lt_of_lt_of_le (show x.natAbs < 1000 by omega) (by decide)
end Cal


namespace Cal
open PySem PySem.Spec PyProof.Rows L2
/-! Own text: deck['mixed'] = .. -/
theorem dkv_putM (l : Addr) (m n m' : Int) : putK (dkv l m n) kM (.int m') = dkv l m' n := by
  unfold putK dkv
  have e1 : (decide (kM = kM)) = true := decide_eq_true rfl
  rw [if_pos (by simp only [List.any_cons, kLM, List.any_nil, Bool.false_or]; rw [show decide True = true from rfl, Bool.true_or])]
  simp only [List.map_cons, List.map_nil]
  have h1 : ¬ (kL = kM) := of_decide_eq_false kLM
  have h2 : ¬ (kD = kM) := fun z => of_decide_eq_false kMD z.symm
  rw [if_neg h1, if_neg h2]
  first | rfl | rw [if_pos trivial] | rw [if_pos rfl]
section
variable {K : PySem.W.Frag} {dk l : Addr} {k j : Nat} {G0 H0 : Hp} {ρ : Ro} {μ : Mu} {τ : List (V × D)} {σ : L2.St} {H : Hp} {te : TE} {D0 : Ends} {tz : TS}
theorem x_putMixed (a : At (Bd K dk l k G0 H0) ρ μ τ σ H) (h : ρ[j]? = some (some (.raw (.ref dk)))) (he : Ev (Bd K dk l k G0 H0) te ρ μ (fun d => ∃ z, d = .int z)) (q : ∀ H', At (Bd K dk l k G0 H0) ρ μ τ σ H' → D0.nx σ H') : sDPut (tVar j) (tC (.str "mixed")) te D0 σ H := he.go a fun v H1 d hd a1 => by
  obtain ⟨z, rfl⟩ := hd
  obtain ⟨G, g, hv⟩ := a1.top
  obtain ⟨ns, m, n, h1, h2, h3⟩ := (g.inv : DkI dk l k H1)
  refine ⟨_, deck_at ⟨G, g⟩ h, dk, _, rfl, DPut.k (k := kM) h1 (by show 3 < sizeLine; decide), q _ ⟨G, Bd.write g (by simp) ⟨ns, z, n, ?_, ?_, h3⟩⟩⟩
  · rw [upd_same, show v = V.int z from hv, dkv_putM]
  · have hne : l ≠ dk := fun e => by rw [e, h1] at h2; cases h2
    rw [upd_ne hne]; exact h2
end
end Cal


namespace Cal
open PySem PySem.Spec PyProof.Rows L2
abbrev s__law_deck : Stmt := topS 42
abbrev n__law_deck : List Str := ["script", "seed", "mixed", "cell"]
theorem sc__law_deck : FnScope n__law_deck ["script", "seed"] (defScope s__law_deck) := ⟨rfl, rfl, rfl, by decide +kernel, rfl, by decide +kernel, by decide +kernel⟩
abbrev s__law_draw : Stmt := topS 43
abbrev n__law_draw : List Str := ["deck", "many", "cell", "figure"]
theorem sc__law_draw : FnScope n__law_draw ["deck", "many"] (defScope s__law_draw) := ⟨rfl, rfl, rfl, by decide +kernel, rfl, by decide +kernel, by decide +kernel⟩
abbrev s__law_pick : Stmt := topS 44
abbrev n__law_pick : List Str := ["deck", "some"]
theorem sc__law_pick : FnScope n__law_pick ["deck", "some"] (defScope s__law_pick) := ⟨rfl, rfl, rfl, by decide +kernel, rfl, by decide +kernel, by decide +kernel⟩
section
variable {P : Program} {w : World} {K : PySem.W.Frag} {mg : Str → Option Value} {base : Heap} {f : Addr} {fd : FuncData}
abbrev BN : List Str := ["int", "len", "max"]
variable (bi : ∀ x, x ∈ BN → mg x = none)
/-- the draw: some number below many -/
abbrev sp__law_draw (K : PySem.W.Frag) : Sp := dsp K (fun es => ∃ n, es = [.int n] ∧ 1 ≤ n ∧ n ≤ 1000000) (fun es e => ∃ n r, es = [.int n] ∧ e = .int r ∧ 0 ≤ r ∧ r < n)
abbrev sp__law_pick (K : PySem.W.Frag) : Sp := dsp K (fun es => ∃ ds, es = [.lst ds] ∧ ds ≠ [] ∧ ds.length ≤ 1000000) (fun es e => ∃ ds, es = [.lst ds] ∧ e ∈ ds)
def isIntD (d : D) : Prop := ∃ z, d = .int z
theorem rdI {B : Bs} {r : R2} {ρ : Ro} {μ : Mu} {ta tb : TE} {g : Int → Int → Int} (hr : ∀ i j, RD B r ρ μ (.int i) (.int j) (fun e => e = .int (g i j))) (ha : Ev B ta ρ μ isIntD) (hb : Ev B tb ρ μ isIntD) : Ev B (tOp r ta tb) ρ μ isIntD :=
  ev_op ha hb fun d1 d2 ⟨i, e1⟩ ⟨j, e2⟩ => by
    subst e1; subst e2
    exact fun τ σ H x y a Q q => hr i j τ σ H x y a Q fun v H' d hd a' => q v H' d ⟨_, hd⟩ a'
theorem evI {B : Bs} {te : TE} {ρ : Ro} {μ : Mu} {i : Int} (h : Ed B te ρ μ (.int i)) : Ev B te ρ μ isIntD := h.ev ⟨i, rfl⟩
include bi in
theorem ok__law_draw (F : Fun K "_law_draw" "_law_draw" s__law_draw f fd) : FnOk P w K mg base CX0 1 f fd ["deck", "many"] (sp__law_draw K) := by
  refine F.ok sc__law_draw (fun vs H Q E h => ?_) (fun cdv A outer s H vs Q E hr h => ?_)
  · obtain ⟨dk, l, G, ds, h1, ⟨es, rfl, n, rfl, _⟩, _⟩ := h
    exact h1.length
  · have hu := hu_of hr
    obtain ⟨dk, l, G, es, ⟨n, rfl, hn1, hn2⟩, hlen, a, hq⟩ := dsp_start n__law_draw h
    refine ⟨_, (pss_cons (ps_dput hu (pv 0) pe_str (pe_op (r := rAddU K) u_add (pe_dget hu (pv 0) pe_str (fun _ _ => rfl)) pe_int) rfl)
      (C8.pss_cut (ps_if (pt_cmpR (r := rNeD K) (u_ne hr.units) (pe_dget hu (pv 0) pe_str (fun _ _ => rfl)) (pe_lst pa_nil) (nomark _)) (pss_cons (ps_asg (pe_bm0 PySem.F.plainAttrs_list PySem.F.slot_list_pop PySem.F.type_list_pop mt_pop (pe_dget hu (pv 0) pe_str (fun _ _ => rfl))) (pg_name (i := 2) sc__law_draw.nd rfl (by first | exact (.inl rfl) | exact (.inr rfl))))
      (pss_cons (ps_if (pt_cmpR u_ge (pv 2) (pe_op op_pow pe_int pe_int) (nomark _)) (pss_cons (ps_expr (pe_bm PySem.F.plainAttrs_list PySem.F.slot_list_append PySem.F.type_list_append mt_append (pe_dget hu (pv 0) pe_str (fun _ _ => rfl)) (pa_cons (pe_op op_fdivW (pv 2) (pe_callB (id := "max") (call_max2 rfl) (by rfl) (bi "max" (by decide +kernel)) (by decide +kernel) (pa_cons pe_int (pa_cons (pv 1) pa_nil)))) pa_nil)))
      (pss_one (ps_ret (pe_op op_mod (pe_callTy (T := "int") call_int1 (by rfl) (bi "int" (by decide +kernel)) (by decide +kernel) (pa_cons (pv 2) pa_nil)) (pv 1))))) pss_nil)
      (pss_one (ps_dput hu (pv 0) pe_str (pe_op op_mod (pe_callTy (T := "int") call_int1 (by rfl) (bi "int" (by decide +kernel)) (by decide +kernel) (pa_cons (pe_op (r := rAddU K) u_add (pe_op (r := rAddU K) u_add (pe_op u_mul2 (pe_dget hu (pv 0) pe_str (fun _ _ => rfl)) pe_int) (pe_op op_mod (pe_callTy (T := "int") call_int1 (by rfl) (bi "int" (by decide +kernel)) (by decide +kernel) (pa_cons (pv 2) pa_nil)) pe_int)) pe_int) pa_nil)) pe_int) rfl)))) pss_nil)
      (pss_cons (ps_asg (pe_op op_mod (pe_callTy (T := "int") call_int1 (by rfl) (bi "int" (by decide +kernel)) (by decide +kernel) (pa_cons (pe_op (r := rAddU K) u_add (pe_dget hu (pv 0) pe_str (fun _ _ => rfl)) (pe_op u_mul2 pe_int (pe_dget hu (pv 0) pe_str (fun _ _ => rfl)))) pa_nil)) pe_int) (pg_name (i := 3) sc__law_draw.nd rfl (by first | exact (.inl rfl) | exact (.inr rfl))))
      (pss_cons (ps_asg (pe_op op_mod (pe_callTy (T := "int") call_int1 (by rfl) (bi "int" (by decide +kernel)) (by decide +kernel) (pa_cons (pe_op (r := rAddU K) u_add (pe_op (r := rAddU K) u_add (pe_op u_mul2 (pv 3) (pv 3)) (pe_op u_mul2 pe_int (pe_dget hu (pv 0) pe_str (fun _ _ => rfl)))) pe_int) pa_nil)) pe_int) (pg_name (i := 3) sc__law_draw.nd rfl (by first | exact (.inl rfl) | exact (.inr rfl))))
      (pss_cons (ps_asg (pe_op op_mod (pe_callTy (T := "int") call_int1 (by rfl) (bi "int" (by decide +kernel)) (by decide +kernel) (pa_cons (pe_op (r := rAddU K) u_add (pe_op u_mul2 (pv 3) pe_int) pe_int) pa_nil)) pe_int) (pg_name (i := 3) sc__law_draw.nd rfl (by first | exact (.inl rfl) | exact (.inr rfl))))
      (pss_one (ps_ret (pe_op op_mod (pe_callTy (T := "int") call_int1 (by rfl) (bi "int" (by decide +kernel)) (by decide +kernel) (pa_cons (pe_op op_fdivW (pv 3) pe_int) pa_nil)) (pv 1))))))))), ?_⟩
    -- deck['draws'] = deck['draws'] + 1
    refine (y_putDraws a rfl (rdI (fun i j => rd_addI) (ev_draws rfl) (evI ed_int)) fun H1 a1 => ?_)
    -- if deck['left'] != []
    refine ⟨fun σ' H' => ∃ c3 c : Option D, At (Bd K dk l 64 G H) [some (.raw (.ref dk)), some (.int n), c3, c] [] [] σ' H', ?_, ?_⟩
    · refine x_ifLeft a1 rfl (fun H3 a3 hne => ?_) (fun H3 a3 => x_next ⟨_, _, a3⟩)
      -- cell = deck['left'].pop()
      refine (y_popLeft (k := 63) a3 rfl hne fun c σ4 H4 a4 => ?_)
      -- if cell >= 10 ** 18
      refine (y_if (Pb := fun _ => True) a4 (et_test (P := fun d => ∃ b, d = .bl b) (ev_op (P1 := fun d => d = .int c) (P2 := isIntD) (ed_var rfl) (evI (ed_op ed_int ed_int (rd_pow ⟨by decide, by decide, by decide⟩))) fun d1 d2 e1 ⟨j, e2⟩ => by
        subst e1; subst e2
        exact fun τ σ H x y a Q q => rd_geI τ σ H x y a Q fun v H' d hd a' => q v H' d ⟨_, hd⟩ a') fun d ⟨b, e⟩ => ⟨b, e, True.intro⟩) (fun _ H5 a5 => ?_) fun _ H5 a5 => ?_)
      · -- deck['left'].append(cell // max(2, many)); return int(cell) % many
        refine (y_appLeft (k := 63) a5 rfl (evI (ed_op (ed_var rfl) (ed_cb (ead_cons ed_int (ead_cons (ed_var rfl) ea_nil)) rc_max) (rd_fdiv (wide_div (b := 30) (by omega) (by omega) (by decide) (by decide))))) (by decide) fun H6 a6 => ?_)
        exact x_ret a6 (ed_op (ed_cb (ead_cons (ed_var rfl) ea_nil) rc_intI) (ed_var rfl) (rd_mod (by omega))) fun v H7 d hd a7 => hq ⟨n, c % n, rfl, hd, Int.emod_nonneg _ (by omega), Int.emod_lt_of_pos _ (by omega)⟩ a7
      · -- deck['mixed'] = ..
        refine x_putMixed (Bd.to (k' := 64) (by decide) a5) rfl (ev_op (P1 := isIntD) (P2 := fun d => d = .int 2147483587) (ev_cb (Ps := fun ds => ∃ z, ds = [.int z]) (ea_cons (P := isIntD) (rdI (fun i j => rd_addI) (rdI (fun i j => rd_addI) (ev_op (P := isIntD) (ev_mixed rfl) ed_int fun d1 d2 ⟨j, e2⟩ e1 => by
            subst e1; subst e2
            exact fun τ σ H x y a Q q => rd_mulI2 (.inr ⟨by decide, by decide⟩) τ σ H x y a Q fun v H' d hd a' => q v H' d ⟨_, hd⟩ a') (evI (ed_op (ed_cb (ead_cons (ed_var rfl) ea_nil) rc_intI) ed_int (rd_mod (by decide))))) (evI ed_int)) fun d ⟨z, e⟩ => by
            subst e
            exact fun τ σ H a Q q => ea_nil τ σ H a Q fun vs H' ds e => q vs H' ds ⟨z, by rw [e]⟩) fun ds ⟨z, e⟩ => by
          subst e
          exact fun τ σ H x y a Q q => rc_intI τ σ H x y a Q fun v H' d hd a' => q v H' d ⟨_, hd⟩ a') ed_int fun d1 d2 ⟨i, e1⟩ e2 => by
          subst e1; subst e2
          exact fun τ σ H x y a Q q => rd_mod (by decide) τ σ H x y a Q fun v H' d hd a' => q v H' d ⟨_, hd⟩ a') fun H6 a6 => ⟨_, _, a6⟩
    · rintro σ3 H3 ⟨c3, c, a3⟩
      -- figure
      refine (y_setV (P := fun d => ∃ y : Int, d = .int y ∧ 0 ≤ y ∧ y < 2147483647) a3 (ev_op (P1 := isIntD) (P2 := fun d => d = .int 2147483647) (ev_cb (Ps := fun ds => ∃ z, ds = [.int z]) (ea_cons (P := isIntD) (rdI (fun i j => rd_addI) (ev_mixed rfl) (ev_op (P := isIntD) ed_int (ev_draws rfl) fun d1 d2 e1 ⟨j, e2⟩ => by
            subst e1; subst e2
            exact fun τ σ H x y a Q q => rd_mulI2 (.inl ⟨by decide, by decide⟩) τ σ H x y a Q fun v H' d hd a' => q v H' d ⟨_, hd⟩ a')) fun d ⟨z, e⟩ => by
            subst e
            exact fun τ σ H a Q q => ea_nil τ σ H a Q fun vs H' ds e => q vs H' ds ⟨z, by rw [e]⟩) fun ds ⟨z, e⟩ => by
          subst e
          exact fun τ σ H x y a Q q => rc_intI τ σ H x y a Q fun v H' d hd a' => q v H' d ⟨_, hd⟩ a') ed_int fun d1 d2 ⟨i, e1⟩ e2 => by
          subst e1; subst e2
          exact fun τ σ H x y a Q q => rd_mod (by decide) τ σ H x y a Q fun v H' d hd a' => q v H' d ⟨_, hd, Int.emod_nonneg _ (by decide), Int.emod_lt_of_pos _ (by decide)⟩ a') fun d σ4 H4 hd a4 => ?_)
      obtain ⟨y, rfl, b1, b2⟩ := hd
      refine (y_setV (P := isIntD) a4 (ev_op (P1 := isIntD) (P2 := fun d => d = .int 2147483629) ?_ ed_int fun d1 d2 ⟨i, e1⟩ e2 => by
        subst e1; subst e2
        exact fun τ σ H x y a Q q => rd_mod (by decide) τ σ H x y a Q fun v H' d hd a' => q v H' d ⟨_, hd⟩ a') fun d σ5 H5 hd a5 => ?_)
      · refine ev_cb (Ps := fun ds => ∃ z, ds = [.int z]) (ea_cons (P := isIntD) (rdI (fun i j => rd_addI) (rdI (fun i j => rd_addI) (evI (ed_op (ed_var rfl) (ed_var rfl) (rd_mulI2 (.inl ⟨by omega, by omega⟩)))) (ev_op (P := isIntD) ed_int (ev_draws rfl) fun d1 d2 e1 ⟨j, e2⟩ => by
            subst e1; subst e2
            exact fun τ σ H x y a Q q => rd_mulI2 (.inl ⟨by decide, by decide⟩) τ σ H x y a Q fun v H' d hd a' => q v H' d ⟨_, hd⟩ a')) (evI ed_int)) fun d ⟨z, e⟩ => by
            subst e
            exact fun τ σ H a Q q => ea_nil τ σ H a Q fun vs H' ds e => q vs H' ds ⟨z, by rw [e]⟩) fun ds ⟨z, e⟩ => by
          subst e
          exact fun τ σ H x y a Q q => rc_intI τ σ H x y a Q fun v H' d hd a' => q v H' d ⟨_, hd⟩ a'
      · obtain ⟨u, rfl⟩ := hd
        refine (y_set a5 (ed_op (ed_cb (ead_cons (ed_op (ed_op (ed_var rfl) ed_int (rd_mulI2 (.inr ⟨by decide, by decide⟩))) ed_int rd_addI) ea_nil) rc_intI) ed_int (rd_mod (by decide))) fun σ6 H6 a6 => ?_)
        exact x_ret a6 (ed_op (ed_cb (ead_cons (ed_op (ed_var rfl) ed_int (rd_fdiv (wide_div (b := 30) (by decide) (by decide) (by decide) (by decide)))) ea_nil) rc_intI) (ed_var rfl) (rd_mod (by omega))) fun v H7 d hd a7 => hq ⟨n, _, rfl, hd, Int.emod_nonneg _ (by omega), Int.emod_lt_of_pos _ (by omega)⟩ a7
include bi in
theorem ok__law_pick (F : Fun K "_law_pick" "_law_pick" s__law_pick f fd) (c__law_draw : C8.Cal P w K mg base 1 "_law_draw" (sp__law_draw K) []) : FnOk P w K mg base CX0 2 f fd ["deck", "some"] (sp__law_pick K) := by
  refine F.ok sc__law_pick (fun vs H Q E h => ?_) (fun cdv A outer s H vs Q E hr h => ?_)
  · obtain ⟨dk, l, G, ds, h1, ⟨es, rfl, n, rfl, _⟩, _⟩ := h
    exact h1.length
  · have hu := hu_of hr
    obtain ⟨dk, l, G, es, ⟨ds, rfl, hn1, hn2⟩, hlen, a, hq⟩ := dsp_start n__law_pick h
    refine ⟨_, (pss_one (ps_ret (pe_ix (r := rIx K) ix_seq (pv 1) (C8.pe_c c__law_draw hr (by first | decide | omega) (by rfl) (pa_cons (pv 0) (pa_cons (pe_callB (id := "len") (r := rLenU K) u_len (by rfl) (bi "len" (by decide +kernel)) (by decide +kernel) (pa_cons (pv 1) pa_nil)) pa_nil))) (fun _ _ => rfl)))), ?_⟩
    have hp : 0 < ds.length := List.length_pos_iff.mpr hn1
    refine x_ret a (ev_op (P1 := fun d => d = .lst ds) (P2 := fun d => ∃ r : Int, d = .int r ∧ 0 ≤ r ∧ r < ds.length) (P := fun e => e ∈ ds) (ed_var rfl) (ed_d rfl (ead_cons (ed_lenL (ed_var rfl)) ea_nil) ⟨_, rfl, by omega, by omega⟩ (by rintro e ⟨n, r, e1, rfl, h1, h2⟩; cases e1; exact ⟨r, rfl, h1, h2⟩)) fun d1 d2 e1 ⟨r, e2, h1, h2⟩ => ?_) fun v H' d' hd' a' => hq ⟨_, rfl, hd'⟩ a'
    subst e1; subst e2
    exact rd_ixLP ⟨h1, h2⟩ fun d hd => hd
end
end Cal


namespace Cal
open PySem PySem.Spec PyProof.Rows L2
/-! ### a set made of a list of texts, also of like ones, and its members sorted -/
def addT (l : List Str) (x : Str) : List Str := if x ∈ l then l else x :: l
def runT (ks : List Str) : List Str := ks.foldl addT []
theorem addT_old {l : List Str} {x : Str} (h : x ∈ l) : addT l x = l := if_pos h
theorem addT_new {l : List Str} {x : Str} (h : x ∉ l) : addT l x = x :: l := if_neg h
theorem runT_take {ks : List Str} {i : Nat} {x : Str} (h : ks[i]? = some x) : runT (ks.take (i + 1)) = addT (runT (ks.take i)) x := by
  unfold runT
  rw [List.take_add_one, h]
  show (ks.take i ++ [x]).foldl addT [] = _
  rw [List.foldl_append]; rfl
theorem addT_len (l : List Str) (x : Str) : l.length ≤ (addT l x).length := by
  unfold addT
  split
  · exact Nat.le_refl _
  · exact Nat.le_succ _
theorem fold_len (ks : List Str) : ∀ l : List Str, l.length ≤ (ks.foldl addT l).length := by
  induction ks with
  | nil => exact fun l => Nat.le_refl _
  | cons k r ih => exact fun l => Nat.le_trans (addT_len l k) (ih _)
theorem runT_le (ks : List Str) (i : Nat) : (runT (ks.take i)).length ≤ (runT ks).length := by
  unfold runT
  conv => rhs; rw [← List.take_append_drop i ks, List.foldl_append]
  exact fold_len _ _
theorem fold_mem (ks : List Str) : ∀ (l : List Str) (k : Str), k ∈ ks.foldl addT l ↔ k ∈ l ∨ k ∈ ks := by
  induction ks with
  | nil => exact fun l k => by simp
  | cons x r ih =>
    intro l k
    rw [List.foldl_cons, ih]
    unfold addT
    split
    · rename_i h
      rw [List.mem_cons]
      constructor
      · rintro (z | z)
        · exact .inl z
        · exact .inr (.inr z)
      · rintro (z | z | z)
        · exact .inl z
        · exact .inl (z ▸ h)
        · exact .inr z
    · rw [List.mem_cons, List.mem_cons]
      constructor
      · rintro ((z | z) | z)
        · exact .inr (.inl z)
        · exact .inl z
        · exact .inr (.inr z)
      · rintro (z | z | z)
        · exact .inl (.inr z)
        · exact .inl (.inl z)
        · exact .inr z
theorem runT_mem {ks : List Str} {k : Str} : k ∈ runT ks ↔ k ∈ ks := (fold_mem ks [] k).trans (by simp)
theorem fold_nd (ks : List Str) : ∀ (l : List Str), l.Nodup → (ks.foldl addT l).Nodup := by
  induction ks with
  | nil => exact fun l h => h
  | cons x r ih =>
    intro l h
    refine ih _ ?_
    unfold addT
    split
    · exact h
    · rename_i hx
      exact List.nodup_cons.mpr ⟨hx, h⟩
theorem runT_nd (ks : List Str) : (runT ks).Nodup := fold_nd ks [] List.nodup_nil
section
variable {P : Program} {w : World} {A : Around} {E : Value → Shared → Prop} {s : Shared}
theorem old_x {a : Addr} {T : String} {D : Froz.SD} {l : List Str} {k : Str} {u : Tok} {Q : Bool → Shared → Prop} (ho : s.heap.get? a = some (Froz.sObj T D)) (F : Froz.TxOk P w D l) (hk : k ∈ l) (hb : l.length < scanBound)
    (h : Q false s) : wpAny (model P w) A (setAddHashed a (.str k u) (hashStr w k)) Q E s := by
  obtain ⟨es, ep, t⟩ := D
  have hd : (Froz.sObj T (es, ep, t)).data = .set es ep t := rfl
  have hf : t.fits es.size = true := F.fit
  have hel : ElemsOf (strKind P w) es.toList := F.el
  have hsz : es.size = l.length := F.sz
  have hb0 : es.size < scanBound := by omega
  have hkey : (strKind P w).is k (.str k u) = true := Froz.is_str k u
  obtain ⟨j, hsome⟩ : ∃ j, List.findIdx? (fun e => (strKind P w).is k e.2) es.toList = some j := by
    cases hr : List.findIdx? (fun e => (strKind P w).is k e.2) es.toList with
    | some j => exact ⟨j, rfl⟩
    | none =>
      obtain ⟨e, he, hp⟩ := (F.mem k).mp hk
      have := List.findIdx?_eq_none_iff.mp hr e he
      rw [hp] at this
      cases this
  unfold setAddHashed setAddHashedIn
  refine wpAny_holding (wpAny_bind (wpAny_setState_of ho hd hf ?_))
  dsimp only
  rw [byScan_of rfl hb0 hel]
  simp only [↓reduceIte]
  unfold setAddByScan
  refine wpAny_bind ?_
  refine wpAny_bind (wpAny_rule ?_)
  refine wpAny_bind (wpAny_setScan_of (knd := strKind P w) (k := k) hkey ho hd hf hel ?_)
  rw [hsome]
  dsimp only
  exact wpAny_pure (wpAny_pure h)
/-- the loop by which a list's items get into the set -/
theorem txs_loopD {I : Addr} {fp wr : List Addr} {G : Array GenState → Array GenState → Prop} {n : Nat} {Pv : Nat → Value → Prop} {St : Nat → Shared → Prop} {R : Result → Shared → Prop}
    (W : WalksS P w A.in1 I fp wr G n Pv St) (S : Addr) (nS : S ∉ fp) (ks : List Str) (en : n = ks.length) (few : (runT ks).length < 64)
    (item : ∀ i v, Pv i v → ∃ k u, ks[i]? = some k ∧ v = .str k u) : ∀ (m i : Nat) (s : Shared), n - i = m → i ≤ n → St i s → Txs P w s.heap S (runT (ks.take i)) →
      (∀ s', Moved (S :: wr) G s s' → Txs P w s'.heap S (runT ks) → R (.ok (.ret .none)) s') → codeAny (model P w) A (.builtin "set.update.loop" ⟨[.ref S, .ref I], []⟩) R s
  | 0, i, s, hm, hi, st, hS, k => by
    have ei : i = n := by omega
    subst ei
    refine codeAny_builtin F.entry_set_update_loop ?_
    rw [Around.under_plainId F.plain_set_update_loop _]
    show wpAny _ A.in1 (pyNext (.ref I) >>= _) _ _ s
    refine wpAny_bind (W.done s _ _ st fun s' mv => ?_)
    show wpAny _ A.in1 (ret Value.none) _ _ s'
    rw [en, List.take_length] at hS
    exact wpAny_pure (k s' (mv.mono fun b hb => List.mem_cons_of_mem _ hb) (txs_at hS fun o e => mv.heap S o (fun z => nS (W.sub _ z)) e))
  | m + 1, i, s, hm, hi, st, hS, k => by
    have lt : i < n := by omega
    refine codeAny_builtin F.entry_set_update_loop ?_
    rw [Around.under_plainId F.plain_set_update_loop _]
    show wpAny _ A.in1 (pyNext (.ref I) >>= _) _ _ s
    refine wpAny_bind (W.item i s _ _ lt st fun v s' hP st' mv => ?_)
    obtain ⟨x, u, hx, rfl⟩ := item i v hP
    have hS' : Txs P w s'.heap S (runT (ks.take i)) := txs_at hS fun o e => mv.heap S o (fun z => nS (W.sub _ z)) e
    obtain ⟨D, d1, d2, d3, d4⟩ := hS'.ex
    have lx : i < ks.length := by omega
    show wpAny _ A.in1 (holding [Value.str x u] (setAdd S (.str x u)) >>= _) _ _ s'
    refine wpAny_bind (wpAny_holding ?_)
    unfold setAdd
    refine wpAny_holding (wpAny_bind ((PySem.strKind P w).pyHash (k := x) (Froz.is_str x u) ?_))
    have le1 := runT_le ks (i + 1)
    by_cases new : x ∈ runT (ks.take i)
    · refine old_x (s := { s' with toks := s'.toks + 1 }) d1 d2 new (by have := runT_le ks i; unfold scanBound; omega) ?_
      have got : Txs P w s'.heap S (runT (ks.take (i + 1))) := by
        rw [runT_take hx, addT_old new]
        exact hS'
      refine wpAny_pure ⟨plainId_quiet F.plain_set_update_loop _, txs_loopD W S nS ks en few item m (i + 1) _ (by omega) lt (W.frame _ s' _ _ st' (Nat.le_succ _) fun b hb o e => e) got fun s'' mv2 hS2 => ?_⟩
      exact k s'' (Moved.trans W.gtrans ((mv.mono fun b hb => List.mem_cons_of_mem _ hb).then_heap (Nat.le_succ _) fun b o hb e => e) mv2) hS2
    rw [runT_take hx, addT_new new] at le1
    refine Froz.add_x (s := { s' with toks := s'.toks + 1 }) d1 d2 new (by rw [List.length_cons] at le1; unfold scanBound; omega) ?_
    obtain ⟨r1, r2⟩ := add_ris (h := hashStr w x) (v := .str x u) d3
    have other : ∀ b, b ≠ S → ∀ o, s'.heap.get? b = some o → (s'.heap.update S fun _ => Froz.sObj "set" (Froz.addTx (hashStr w x) (.str x u) D)).get? b = some o := fun b hb o e => by
      rw [Heap.get?_update_ne _ _ _ _ hb]; exact e
    have got : Txs P w (s'.heap.update S fun _ => Froz.sObj "set" (Froz.addTx (hashStr w x) (.str x u) D)) S (runT (ks.take (i + 1))) := by
      refine ⟨_, Froz.get_upd _ d1 rfl, ?_, r1, by rw [r2]; exact d4⟩
      have e3 : (runT (ks.take (i + 1))) = x :: (runT (ks.take i)) := by rw [runT_take hx, addT_new new]
      rw [e3]
      exact Froz.add_ok u d2
    refine wpAny_pure ⟨plainId_quiet F.plain_set_update_loop _, txs_loopD W S nS ks en few item m (i + 1) _ (by omega) lt (W.frame _ s' _ _ st' (Nat.le_succ _) fun b hb o e => other b (fun z => nS (z ▸ hb)) o e) got fun s'' mv2 hS2 => ?_⟩
    exact k s'' (Moved.trans W.gtrans ((mv.mono fun b hb => List.mem_cons_of_mem _ hb).then_heap (Nat.le_succ _) fun b o hb e => other b (fun z => hb (by rw [z]; exact List.mem_cons_self)) o e) mv2) hS2
theorem txs_callD {l : Addr} {its : Array Value} {ks : List Str} {Q : Value → Shared → Prop} (hh : A.handled = none) (hl : s.heap.IsList l its) (is : StrsAre its.toList ks) (few : (runT ks).length < 64)
    (h : ∀ (h' : Heap) (tk : Nat), Txs P w h' s.heap.objs.size (runT ks) → (∀ b o, s.heap.get? b = some o → h'.get? b = some o) → Q (.ref s.heap.objs.size) { s with heap := h', toks := tk }) :
    wpAny (model P w) A (call (.type "set") [.ref l]) Q E s := by
  have en : its.size = ks.length := by
    have := is.length
    rw [Array.length_toList] at this
    exact this
  have ⟨c, tl, mro⟩ := F.called_set.mro
  have made := F.called_set.made
  have sub := F.called_set.sub
  refine wpAny_call (codeAny_of_tree ?_)
  show wpAny _ _ (callAny (.type "set") _) _ _ _
  refine wpAny_pure ⟨Code.quiet_builtin _ (by decide +kernel), codeAny_builtin F.entry_type_call ?_⟩
  rw [Around.under_plain (weight_type_call_type "set" [.ref l] []) rfl]
  have n1 := F.called_set.notType
  have n2 := F.called_set.canCreate
  have ok1 := F.typeCall_set_1 (.ref l)
  repeat (any_goals (first | assumption | wp_step))
  refine codeAny_mono (code_set_led1 (.ref l) (E := E) (Q₁ := fun o t => o = .ref s.heap.objs.size ∧ t = { s with heap := s.heap.push (freshSet w) }) ⟨rfl, rfl⟩) fun r t hr => ?_
  cases r with
  | error e => exact hr
  | ok fl => cases fl with
    | ret o =>
      obtain ⟨rfl, rfl⟩ := hr
      have gS : (s.heap.push (freshSet w)).get? s.heap.objs.size = some (freshSet w) := Heap.get?_push_size _ rfl
      have tS : Shared.TypeIs { s with heap := s.heap.push (freshSet w) } (.ref s.heap.objs.size) "set" := ⟨_, gS, rfl⟩
      have look := F.called_set.init.lookup
      have bnd := F.called_set.init.bind (.ref s.heap.objs.size)
      repeat (any_goals (first | assumption | wp_step))
      refine codeAny_mono (codeAny_call_builtin (R := wants (fun r t => r = .none ∧ ∃ h' tk, t = { s with heap := h', toks := tk } ∧ Txs P w h' s.heap.objs.size (runT ks) ∧ ∀ b o, s.heap.get? b = some o → h'.get? b = some o) E)
        F.called_set.init.plain F.entry_set_init (check_set_init_1 tS ?_)) fun r2 t2 hr2 => ?_
      · obtain ⟨⟨lc, ldi, lda, lsl⟩, gl, cl, nl, dl⟩ := hl
        simp only at cl dl
        subst cl; subst dl
        have gl' : (s.heap.push (freshSet w)).get? l = some { cls := .type "list", dict := ldi, data := .seq its nl, slots := lsl } := Heap.get?_push_of_some _ gl
        have u1 := F.sub_list_set
        have u2 := F.sub_list_frozenset
        have u3 : (Value.type "list" == Value.type "dict") = false := by decide
        have il : (s.heap.push (freshSet w)).IsList l its := ⟨_, gl', rfl, nl, rfl⟩
        unfold Builtin.«set.__init__» noKeywords Builtin.Frozenset.updateFrom
        generalize hPI : pyIter = PI
        wp_walk
        subst hPI
        refine wpAny_pyIter_list il (wpAny_bind (wpAny_runValue ?_))
        have ltl : l < s.heap.objs.size := Heap.lt_size gl
        have h3 : A.in1.in1.in1.handled = none := by simp [hh]
        have sz : (s.heap.push (freshSet w)).objs.size = s.heap.objs.size + 1 := Heap.size_push ..
        have neI : l ≠ (s.heap.push (freshSet w)).objs.size := by rw [sz]; exact Nat.ne_of_lt (Nat.lt_succ_of_lt ltl)
        have nS : s.heap.objs.size ∉ [(s.heap.push (freshSet w)).objs.size, l] := by
          rw [sz]
          intro z
          rcases List.mem_cons.mp z with z | z
          · exact Nat.ne_of_lt (Nat.lt_succ_self _) z
          · exact Nat.ne_of_gt ltl (List.mem_singleton.mp z)
        refine txs_loopD ((Walks.list h3 _ l neI its).toS) s.heap.objs.size nS ks en few (fun i v hv => ?_) (its.size - 0) 0 _ (by omega) (Nat.zero_le _) ⟨⟨_, Heap.get?_push_size _ rfl, rfl, rfl⟩, il.push _⟩ (txs_new (Heap.get?_push_of_some _ gS)) fun t' mv hS => ?_
        · have q : its.toList[i]? = some v := by rw [Array.getElem?_toList]; exact hv
          exact txt_at is q
        · obtain ⟨h', g', d', tk', os'⟩ := t'
          have eg : g' = s.gens := mv.gens
          have ed : d' = s.drawn := mv.drawn
          have eo : os' = s.os := mv.os
          subst eg; subst ed; subst eo
          show wpAny _ _ _ _ _ _
          refine wpAny_pure ?_
          show wpAny _ _ (ret Value.none) _ _ _
          refine wpAny_pure ⟨rfl, h', tk', rfl, hS, fun b o e => ?_⟩
          have lb := Heap.lt_size e
          refine mv.heap b o (fun z => ?_) (Heap.get?_push_of_some _ (Heap.get?_push_of_some _ e))
          rcases List.mem_cons.mp z with z | z
          · exact Nat.ne_of_lt lb z
          · refine Nat.ne_of_lt (Nat.lt_succ_of_lt lb) ?_
            exact (List.mem_singleton.mp z).trans sz
      · cases r2 with
        | error e => exact hr2
        | ok fl2 => cases fl2 with
          | ret r =>
            obtain ⟨rfl, h', tk, rfl, hS, k⟩ := hr2
            repeat (any_goals (first | assumption | wp_step))
            exact h _ _ hS k
          | _ => exact hr2.elim
    | _ => exact hr.elim
end
section
variable {X : Cx}
/-- set(names), a list of texts -/
def rSetD (K : PySem.W.Frag) (P : Program) (w : World) : List V → Hp → VK → Prop := fun xs H Q => ∃ (l : Addr) (ks : List Str), xs = [V.ref l] ∧ SqL K H l (ks.map V.str) ∧ (runT ks).length < 64 ∧ ∀ a, H a = none → Q (.ref a) (upd H a (SetT P w a (runT ks)))
theorem cr_setD (hc : X.calm = true) : CallR X (.type "set") (rSetD X.K X.prog X.w) := by
  intro pins s σ H xs us Q I r h
  obtain ⟨l, ks, rfl, hl, few, q⟩ := h
  rw [Vals.ref1 r]
  obtain ⟨its, rv, pl, _⟩ := I.list hl
  refine txs_callD (P := X.prog) (w := X.w) (I.ok.hd hc) pl.isList (by simpa using strsAre_of rv) few fun h' tk R k => ?_
  exact ⟨.ref s.heap.objs.size, upd H s.heap.objs.size (SetT X.prog X.w s.heap.objs.size (runT ks)), I.laid (t' := tk) k (Nat.le_refl _) (setT_new R), rfl, q _ (I.hok.fresh (Nat.le_refl _))⟩
end
end Cal


namespace Cal
open PySem PySem.Spec PyProof.Rows L2
/-! ### a set made of a list of ints, also of like ones -/
def GotI (w : World) (h : Heap) (a : Addr) (ks : List Int) : Prop := ∃ c, c ≤ ks.length ∧ SetR w h a (fun j => decide (j ∈ ks)) c
theorem int_atI {us : List Value} {xs : List Int} (h : IntsAre us xs) {i : Nat} {v : Value} (e : us[i]? = some v) : ∃ k t, xs[i]? = some k ∧ v = .int k t := by
  have hl := IntsAre.length h
  have hi := (List.getElem?_eq_some_iff.mp e).1
  obtain ⟨t, e2⟩ := PyProof.Rows.IntsAre.int_at h i v e
  refine ⟨xs[i]'(by omega), t, List.getElem?_eq_getElem (by omega), ?_⟩
  rw [e2, List.getD_eq_getElem?_getD, List.getElem?_eq_getElem (by omega)]
  rfl
section
variable {P : Program} {w : World} {A : Around} {E : Value → Shared → Prop} {s : Shared}
theorem ints_callD {l : Addr} {its : Array Value} {ks : List Int} {Q : Value → Shared → Prop} (hh : A.handled = none) (hl : s.heap.IsList l its) (is : IntsAre its.toList ks) (few : ks.length + 1 < scanBound)
    (h : ∀ (h' : Heap) (tk : Nat), GotI w h' s.heap.objs.size ks → (∀ b o, s.heap.get? b = some o → h'.get? b = some o) → Q (.ref s.heap.objs.size) { s with heap := h', toks := tk }) :
    wpAny (model P w) A (call (.type "set") [.ref l]) Q E s := by
  have en : its.size = ks.length := by
    have := is.length
    rw [Array.length_toList] at this
    exact this
  have ⟨c, tl, mro⟩ := F.called_set.mro
  have made := F.called_set.made
  have sub := F.called_set.sub
  refine wpAny_call (codeAny_of_tree ?_)
  show wpAny _ _ (callAny (.type "set") _) _ _ _
  refine wpAny_pure ⟨Code.quiet_builtin _ (by decide +kernel), codeAny_builtin F.entry_type_call ?_⟩
  rw [Around.under_plain (weight_type_call_type "set" [.ref l] []) rfl]
  have n1 := F.called_set.notType
  have n2 := F.called_set.canCreate
  have ok1 := F.typeCall_set_1 (.ref l)
  repeat (any_goals (first | assumption | wp_step))
  refine codeAny_mono (code_set_led1 (.ref l) (E := E) (Q₁ := fun o t => o = .ref s.heap.objs.size ∧ t = { s with heap := s.heap.push (freshSet w) }) ⟨rfl, rfl⟩) fun r t hr => ?_
  cases r with
  | error e => exact hr
  | ok fl => cases fl with
    | ret o =>
      obtain ⟨rfl, rfl⟩ := hr
      have gS : (s.heap.push (freshSet w)).get? s.heap.objs.size = some (freshSet w) := Heap.get?_push_size _ rfl
      have tS : Shared.TypeIs { s with heap := s.heap.push (freshSet w) } (.ref s.heap.objs.size) "set" := ⟨_, gS, rfl⟩
      have look := F.called_set.init.lookup
      have bnd := F.called_set.init.bind (.ref s.heap.objs.size)
      repeat (any_goals (first | assumption | wp_step))
      refine codeAny_mono (codeAny_call_builtin (R := wants (fun r t => r = .none ∧ ∃ h' tk, t = { s with heap := h', toks := tk } ∧ GotI w h' s.heap.objs.size ks ∧ ∀ b o, s.heap.get? b = some o → h'.get? b = some o) E)
        F.called_set.init.plain F.entry_set_init (check_set_init_1 tS ?_)) fun r2 t2 hr2 => ?_
      · obtain ⟨⟨lc, ldi, lda, lsl⟩, gl, cl, nl, dl⟩ := hl
        simp only at cl dl
        subst cl; subst dl
        have gl' : (s.heap.push (freshSet w)).get? l = some { cls := .type "list", dict := ldi, data := .seq its nl, slots := lsl } := Heap.get?_push_of_some _ gl
        have u1 := F.sub_list_set
        have u2 := F.sub_list_frozenset
        have u3 : (Value.type "list" == Value.type "dict") = false := by decide
        have il : (s.heap.push (freshSet w)).IsList l its := ⟨_, gl', rfl, nl, rfl⟩
        unfold Builtin.«set.__init__» noKeywords Builtin.Frozenset.updateFrom
        generalize hPI : pyIter = PI
        wp_walk
        subst hPI
        refine wpAny_pyIter_list il (wpAny_bind (wpAny_runValue ?_))
        have ltl : l < s.heap.objs.size := Heap.lt_size gl
        have h3 : A.in1.in1.in1.handled = none := by simp [hh]
        have sz : (s.heap.push (freshSet w)).objs.size = s.heap.objs.size + 1 := Heap.size_push ..
        have neI : l ≠ (s.heap.push (freshSet w)).objs.size := by rw [sz]; exact Nat.ne_of_lt (Nat.lt_succ_of_lt ltl)
        have nS : s.heap.objs.size ∉ [(s.heap.push (freshSet w)).objs.size, l] := by
          rw [sz]
          intro z
          rcases List.mem_cons.mp z with z | z
          · exact Nat.ne_of_lt (Nat.lt_succ_self _) z
          · exact Nat.ne_of_gt ltl (List.mem_singleton.mp z)
        refine set_update_ints ((Walks.list h3 _ l neI its).toS) s.heap.objs.size nS ks en few (fun i v hv => ?_) (its.size - 0) 0 _ (by omega) (Nat.zero_le _) ⟨⟨_, Heap.get?_push_size _ rfl, rfl, rfl⟩, il.push _⟩ ⟨0, Nat.le_refl 0, setR_new_at (Heap.get?_push_of_some _ gS)⟩ fun t' c mv hc hS0 => ?_
        · have q : its.toList[i]? = some v := by rw [Array.getElem?_toList]; exact hv
          exact int_atI is q
        · obtain ⟨h', g', d', tk', os'⟩ := t'
          have eg : g' = s.gens := mv.gens
          have ed : d' = s.drawn := mv.drawn
          have eo : os' = s.os := mv.os
          subst eg; subst ed; subst eo
          have hS : GotI w h' s.heap.objs.size ks := ⟨c, by rw [en] at hc; exact hc, hS0⟩
          show wpAny _ _ _ _ _ _
          refine wpAny_pure ?_
          show wpAny _ _ (ret Value.none) _ _ _
          refine wpAny_pure ⟨rfl, h', tk', rfl, hS, fun b o e => ?_⟩
          have lb := Heap.lt_size e
          refine mv.heap b o (fun z => ?_) (Heap.get?_push_of_some _ (Heap.get?_push_of_some _ e))
          rcases List.mem_cons.mp z with z | z
          · exact Nat.ne_of_lt lb z
          · refine Nat.ne_of_lt (Nat.lt_succ_of_lt lb) ?_
            exact (List.mem_singleton.mp z).trans sz
      · cases r2 with
        | error e => exact hr2
        | ok fl2 => cases fl2 with
          | ret r =>
            obtain ⟨rfl, h', tk, rfl, hS, k⟩ := hr2
            repeat (any_goals (first | assumption | wp_step))
            exact h _ _ hS k
          | _ => exact hr2.elim
    | _ => exact hr.elim
end
section
variable {X : Cx}
/-- set(places), a list of ints -/
def rSetDI (K : PySem.W.Frag) (w : World) : List V → Hp → VK → Prop := fun xs H Q => ∃ (l : Addr) (ks : List Int), xs = [V.ref l] ∧ SqL K H l (ks.map V.int) ∧ ks.length < 60 ∧ ∀ a c, c ≤ ks.length → H a = none → Q (.ref a) (upd H a (SetO w a (fun j => decide (j ∈ ks)) c))
theorem cr_setDI (hc : X.calm = true) : CallR X (.type "set") (rSetDI X.K X.w) := by
  intro pins s σ H xs us Q I r h
  obtain ⟨l, ks, rfl, hl, few, q⟩ := h
  rw [Vals.ref1 r]
  obtain ⟨its, rv, pl, _⟩ := I.list hl
  refine ints_callD (P := X.prog) (w := X.w) (I.ok.hd hc) pl.isList (by simpa using ints_of_vals rv) (by unfold scanBound; omega) fun h' tk R k => ?_
  obtain ⟨c, hcl, R⟩ := R
  exact ⟨.ref s.heap.objs.size, upd H s.heap.objs.size (SetO X.w s.heap.objs.size (fun j => decide (j ∈ ks)) c), I.laid (t' := tk) k (Nat.le_refl _) (setO_new R), rfl, q _ c hcl (I.hok.fresh (Nat.le_refl _))⟩
end
end Cal


namespace Cal
open PySem PySem.Spec PyProof.Rows L2
/-! ### list(zip(xs, ys)), two lists of one length -/
structure ZAt (z TI TO i1 i2 l1 l2 S : Addr) (xs ys : Array Value) (i : Nat) (h : Heap) : Prop where
  ti : IsPair h TI (.ref i1) (.ref i2)
  a1 : h.IsListIter i1 l1 i
  a2 : h.IsListIter i2 l2 i
  b1 : h.IsList l1 xs
  b2 : h.IsList l2 ys
  z : (IsZip h z TI TO .none ∧ ∃ a b, IsPair h TO a b) ∨ ∃ T f oT, IsZipHeld h z TI TO T f ∧ h.get? T = some oT ∧ T ≠ z ∧ T ≠ i1 ∧ T ≠ i2 ∧ T ≠ S
structure ZOff (z TI TO i1 i2 l1 l2 S : Addr) : Prop where
  d : ZipApart z TI TO i1 i2 l1 l2
  sz : z ≠ S
  sti : TI ≠ S
  sto : TO ≠ S
  s1 : i1 ≠ S
  s2 : i2 ≠ S
  t1 : l1 ≠ S
  t2 : l2 ≠ S
section
variable {P : Program} {w : World} {A : Around} {E : Value → Shared → Prop} {s : Shared} {z TI TO i1 i2 l1 l2 S : Addr} {xs ys : Array Value}
theorem ZAt.frame (O : ZOff z TI TO i1 i2 l1 l2 S) {i : Nat} {h h' : Heap} (st : ZAt z TI TO i1 i2 l1 l2 S xs ys i h) (hk : ∀ b o, b ≠ S → h.get? b = some o → h'.get? b = some o) : ZAt z TI TO i1 i2 l1 l2 S xs ys i h' where
  ti := hk _ _ O.sti st.ti
  a1 := st.a1.at fun o e => hk _ o O.s1 e
  a2 := st.a2.at fun o e => hk _ o O.s2 e
  b1 := st.b1.at fun o e => hk _ o O.t1 e
  b2 := st.b2.at fun o e => hk _ o O.t2 e
  z := by
    rcases st.z with ⟨hz, a, b, hTO⟩ | ⟨T, f, oT, hz, hT, r1, r2, r3, r4⟩
    · exact .inl ⟨hk _ _ O.sz hz, a, b, hk _ _ O.sto hTO⟩
    · exact .inr ⟨T, f, oT, hk _ _ O.sz hz, hk _ _ r4 hT, r1, r2, r3, r4⟩
theorem zat_item (O : ZOff z TI TO i1 i2 l1 l2 S) {i : Nat} {x y : Value} {Q : Option Value → Shared → Prop} (st : ZAt z TI TO i1 i2 l1 l2 S xs ys i s.heap) (hS : S < s.heap.objs.size) (ex : xs[i]? = some x) (ey : ys[i]? = some y)
    (hQ : ∀ h', ZAt z TI TO i1 i2 l1 l2 S xs ys (i + 1) h' → IsPair h' s.heap.objs.size x y → (∀ b o, b ≠ z → b ≠ TO → b ≠ i1 → b ≠ i2 → s.heap.get? b = some o → h'.get? b = some o) → Q (some (.ref s.heap.objs.size)) { s with heap := h' }) :
    wpAny (model P w) A (pyNext (.ref z)) Q E s := by
  obtain ⟨hTI, h1, h2, hl1, hl2, hz⟩ := st
  have D := O.d
  have lt : ∀ {c o}, s.heap.get? c = some o → s.heap.objs.size ≠ c := fun e => Nat.ne_of_gt (Heap.lt_size e)
  have n1 : s.heap.objs.size ≠ i1 := let ⟨_, e, _⟩ := h1; lt e
  have n2 : s.heap.objs.size ≠ i2 := let ⟨_, e, _⟩ := h2; lt e
  rcases hz with ⟨hz, a, b, hTO⟩ | ⟨T, f, oT, hz, hT, r1, r2, r3, r4⟩
  · refine wpAny_pyNext_zip_item D hz hTI hTO h1 h2 hl1 hl2 ex ey fun h' q1 q2 q3 q4 q5 q6 hk => ?_
    exact hQ h' ⟨hk _ _ D.TIz D.TITO D.TIi1 D.TIi2 hTI, q3, q4, hl1.at fun o e => hk _ o D.l1z D.l1TO D.l1i1 D.l1i2 e, hl2.at fun o e => hk _ o D.l2z D.l2TO D.l2i1 D.l2i2 e, .inr ⟨s.heap.objs.size, false, _, q1, q5, lt hz, n1, n2, Nat.ne_of_gt hS⟩⟩ q5 hk
  · refine wpAny_pyNext_zip_item_held D hz hT hTI h1 h2 hl1 hl2 ex ey fun h' q1 q3 q4 q5 q6 hk => ?_
    exact hQ h' ⟨hk _ _ D.TIz D.TIi1 D.TIi2 hTI, q3, q4, hl1.at fun o e => hk _ o D.l1z D.l1i1 D.l1i2 e, hl2.at fun o e => hk _ o D.l2z D.l2i1 D.l2i2 e, .inr ⟨T, true, oT, q1, hk _ _ r1 r2 r3 hT, r1, r2, r3, r4⟩⟩ q5 fun b o c1 _ c3 c4 e => hk b o c1 c3 c4 e
theorem zat_done (hA : A.handled = none) (O : ZOff z TI TO i1 i2 l1 l2 S) {Q : Option Value → Shared → Prop} (st : ZAt z TI TO i1 i2 l1 l2 S xs ys xs.size s.heap)
    (hQ : ∀ h', (∀ b o, b ≠ z → b ≠ TO → b ≠ i1 → b ≠ i2 → s.heap.get? b = some o → h'.get? b = some o) → Q none { s with heap := h' }) :
    wpAny (model P w) A (pyNext (.ref z)) Q E s := by
  obtain ⟨hTI, h1, h2, hl1, hl2, hz⟩ := st
  have hend : xs[xs.size]? = none ∨ ys[xs.size]? = none := .inl (Array.getElem?_eq_none (Nat.le_refl _))
  rcases hz with ⟨hz, a, b, hTO⟩ | ⟨T, f, oT, hz, hT, r1, r2, r3, r4⟩
  · exact wpAny_pyNext_zip_end hA O.d hz hTI hTO h1 h2 hl1 hl2 hend fun h' hk => hQ h' hk
  · exact wpAny_pyNext_zip_end_held hA O.d hz hT hTI h1 h2 hl1 hl2 hend fun h' hk => hQ h' fun b o c1 _ c3 c4 e => hk b o c1 c3 c4 e
/-- the pairs given out so far -/
def ZPairs (xs ys : Array Value) (lo : Addr) (h : Heap) (as : List Addr) : Prop := ∀ (j : Nat) (a : Addr), as[j]? = some a → lo < a ∧ ∃ x y, xs[j]? = some x ∧ ys[j]? = some y ∧ IsPair h a x y
theorem zil_loop {R : Result → Shared → Prop} (hh : A.handled = none) (O : ZOff z TI TO i1 i2 l1 l2 S) {lo : Addr} (e1 : z ≤ lo) (e2 : TO ≤ lo) (e3 : i1 ≤ lo) (e4 : i2 ≤ lo) (e5 : S ≤ lo) (en : ys.size = xs.size) (hn : xs.size ≤ sizeLine) (res : Value) {h₁ : Heap}
    (hR : ∀ h' tk acc c as, (∀ b o, b ≠ S → b ≠ z → b ≠ TO → b ≠ i1 → b ≠ i2 → h₁.get? b = some o → h'.get? b = some o) → h'.get? S = some { cls := .type "list", dict := none, data := .seq acc c, slots := #[] } → as.length = xs.size → ZPairs xs ys lo h' as →
      acc.toList = as.map Value.ref → R (.ok (.ret res)) { s with heap := h', toks := tk }) :
    ∀ (k i : Nat) (h : Heap) (tk c : Nat) (acc : Array Value) (as : List Addr), xs.size - i = k → i ≤ xs.size → ZAt z TI TO i1 i2 l1 l2 S xs ys i h → (∀ b o, b ≠ S → b ≠ z → b ≠ TO → b ≠ i1 → b ≠ i2 → h₁.get? b = some o → h.get? b = some o) →
      h.get? S = some { cls := .type "list", dict := none, data := .seq acc c, slots := #[] } → acc.toList = as.map Value.ref → as.length = i → ZPairs xs ys lo h as → lo < h.objs.size →
      codeAny (model P w) A (.builtin "list.extend.loop" ⟨[.ref S, .ref z, res], []⟩) R { s with heap := h, toks := tk } := by
  intro k
  induction k with
  | zero =>
    intro i h tk c acc as hk hi hst hkeep hS hacc hal hG hlo
    have hin : i = xs.size := by omega
    subst hin
    refine codeAny_builtin PySem.F.entry_extend_loop ?_
    rw [Around.under_plainId PySem.F.plain_extend_loop _]
    show wpAny _ A.in1 (pyNext (.ref z) >>= _) _ _ _
    refine wpAny_bind (zat_done (s := { s with heap := h, toks := tk }) (A := A.in1) hh O hst fun h' he => ?_)
    have he : ∀ b o, b ≠ z → b ≠ TO → b ≠ i1 → b ≠ i2 → h.get? b = some o → h'.get? b = some o := he
    refine wpAny_pure (hR h' tk acc c as (fun b o n0 n1 n2 n3 n4 e => he b o n1 n2 n3 n4 (hkeep b o n0 n1 n2 n3 n4 e)) (he S _ O.sz.symm O.sto.symm O.s1.symm O.s2.symm hS) hal (fun j a hj => ?_) hacc)
    obtain ⟨lt, x, y, g1, g2, g3⟩ := hG j a hj
    exact ⟨lt, x, y, g1, g2, he a _ (Nat.ne_of_gt (Nat.lt_of_le_of_lt e1 lt)) (Nat.ne_of_gt (Nat.lt_of_le_of_lt e2 lt)) (Nat.ne_of_gt (Nat.lt_of_le_of_lt e3 lt)) (Nat.ne_of_gt (Nat.lt_of_le_of_lt e4 lt)) g3⟩
  | succ k ih =>
    intro i h tk c acc as hk hi hst hkeep hS hacc hal hG hlo
    have hlt : i < xs.size := by omega
    have hsz : acc.size = i := by rw [← Array.length_toList, hacc, List.length_map, hal]
    have ex : xs[i]? = some xs[i] := Array.getElem?_eq_getElem hlt
    have ey : ys[i]? = some (ys[i]'(by omega)) := Array.getElem?_eq_getElem (by omega)
    refine codeAny_builtin PySem.F.entry_extend_loop ?_
    rw [Around.under_plainId PySem.F.plain_extend_loop _]
    show wpAny _ A.in1 (pyNext (.ref z) >>= _) _ _ _
    refine wpAny_bind (zat_item (s := { s with heap := h, toks := tk }) O hst (Heap.lt_size hS) ex ey fun h' hst' ht hkp => ?_)
    have hkp : ∀ b o, b ≠ z → b ≠ TO → b ≠ i1 → b ≠ i2 → h.get? b = some o → h'.get? b = some o := hkp
    have ht : IsPair h' h.objs.size _ _ := ht
    have hS' := hkp S _ O.sz.symm O.sto.symm O.s1.symm O.s2.symm hS
    have up : ∀ b o, b ≠ S → h'.get? b = some o → (h'.update S (Obj.mapSeq (·.push (Value.ref h.objs.size)))).get? b = some o := fun b o hb e => (Heap.get?_update_other _ _ (Ne.symm hb)).trans e
    have ltS : S < h.objs.size := Heap.lt_size hS
    show wpAny _ A.in1 (updateSeq S (·.push (Value.ref h.objs.size)) >>= _) _ _ _
    refine wpAny_bind ?_
    refine wpAny_updateSeq hS' rfl (wpAny_pure ⟨plainId_quiet PySem.F.plain_extend_loop _, ih (i + 1) _ tk _ (acc.push (Value.ref h.objs.size)) (as ++ [h.objs.size]) (by omega) hlt (hst'.frame O up)
      (fun b o n0 n1 n2 n3 n4 e => up b o n0 (hkp b o n1 n2 n3 n4 (hkeep b o n0 n1 n2 n3 n4 e))) (Heap.get?_update_self _ hS' rfl) (by rw [Array.toList_push, hacc, List.map_append]; rfl) (by rw [List.length_append, hal]; rfl) ?_ ?_⟩) (by rw [hsz]; omega) (by show (acc.push (Value.ref h.objs.size)).size ≤ sizeLine + 1; rw [Array.size_push, hsz]; omega)
    · intro j b hj
      rcases Nat.lt_trichotomy j as.length with q | q | q
      · rw [List.getElem?_append_left q] at hj
        obtain ⟨lt, x, y, g1, g2, g3⟩ := hG j b hj
        exact ⟨lt, x, y, g1, g2, up b _ (Nat.ne_of_gt (Nat.lt_of_le_of_lt e5 lt)) (hkp b _ (Nat.ne_of_gt (Nat.lt_of_le_of_lt e1 lt)) (Nat.ne_of_gt (Nat.lt_of_le_of_lt e2 lt)) (Nat.ne_of_gt (Nat.lt_of_le_of_lt e3 lt)) (Nat.ne_of_gt (Nat.lt_of_le_of_lt e4 lt)) g3)⟩
      · subst q
        have hb : h.objs.size = b := by simpa using hj
        subst hb
        subst hal
        exact ⟨hlo, _, _, ex, ey, up _ _ (Nat.ne_of_gt ltS) ht⟩
      · rw [List.getElem?_eq_none (by rw [List.length_append, List.length_singleton]; omega)] at hj
        cases hj
    · have e : (h'.update S (Obj.mapSeq (·.push (Value.ref h.objs.size)))).get? h.objs.size = _ := up _ _ (Nat.ne_of_gt ltS) ht
      exact Nat.lt_trans hlo (Heap.lt_size e)
theorem zip_no_len : typeLookup (.type "zip") "__len__" = pure none := am_miss_of_fast (by decide +kernel)
theorem zip_no_hint : typeLookup (.type "zip") "__length_hint__" = pure none := am_miss_of_fast (by decide +kernel)
theorem zil_extend {R : Result → Shared → Prop} (hh : A.handled = none) (O : ZOff z TI TO i1 i2 l1 l2 S) {lo : Addr} (e1 : z ≤ lo) (e2 : TO ≤ lo) (e3 : i1 ≤ lo) (e4 : i2 ≤ lo) (e5 : S ≤ lo) (en : ys.size = xs.size) (hn : xs.size ≤ sizeLine) (res : Value) (c₀ : Nat)
    (hz : IsZip s.heap z TI TO .none) (st : ZAt z TI TO i1 i2 l1 l2 S xs ys 0 s.heap) (hS : s.heap.get? S = some { cls := .type "list", data := .seq #[] c₀ }) (hlo : lo < s.heap.objs.size)
    (hR : ∀ h' tk acc c as, (∀ b o, b ≠ S → b ≠ z → b ≠ TO → b ≠ i1 → b ≠ i2 → s.heap.get? b = some o → h'.get? b = some o) → h'.get? S = some { cls := .type "list", dict := none, data := .seq acc c, slots := #[] } → as.length = xs.size → ZPairs xs ys lo h' as →
      acc.toList = as.map Value.ref → R (.ok (.ret res)) { s with heap := h', toks := tk }) :
    wpAny (model P w) A.in1 (Builtin.List.listExtendWith (.ref S) (.ref z) res)
      (fun fin s' => match fin with | .done f => R (.ok f) s' | .again c' => c'.quiet = true ∧ codeAny (model P w) A c' R s') (fun e s' => R (.error e) s') s := by
  have tz : s.TypeIs (.ref z) "zip" := ⟨_, hz, rfl⟩
  unfold Builtin.List.listExtendWith
  refine wpAny_bind (wpAny_typeOf tz ?_)
  have k1 : Builtin.List.listSameRef (.ref S) (.ref z) = false := by simp [Builtin.List.listSameRef, O.sz.symm]
  have k2 : (Value.type "zip" == Value.type "list") = false := by decide
  have k3 : (Value.type "zip" == Value.type "tuple") = false := by decide
  simp only [k1, k2, k3, Bool.or_false, Bool.false_eq_true, if_false]
  refine wpAny_bind (wpAny_pyIter_zip hz ?_)
  refine wpAny_bind (wpAny_holding ?_)
  unfold Builtin.List.listLengthHint
  refine wpAny_bind (wpAny_specialOf tz zip_no_len ?_)
  show wpAny _ A.in1 (specialOf (Value.ref z) (Str.ofString "__length_hint__") >>= _) _ _ _
  refine wpAny_bind (wpAny_specialOf tz zip_no_hint ?_)
  refine wpAny_pure ?_
  show wpAny _ A.in1 (rule "list.extend.makes-room" >>= fun _ => Builtin.List.listTouch (.ref S) >>= fun _ =>
    again (.builtin "list.extend.loop" ⟨[.ref S, .ref z, res], []⟩)) _ _ _
  refine wpAny_bind (wpAny_rule ?_)
  refine wpAny_bind ?_
  show wpAny _ A.in1 (updateSeq S (·.push .none) >>= fun _ => updateSeq S (·.pop)) _ _ _
  refine wpAny_bind (wpAny_updateSeq hS rfl ?_)
  have g2 := Heap.get?_update_self (Obj.mapSeq (·.push Value.none)) hS rfl
  refine wpAny_updateSeq (hz := by seq_fits) g2 rfl ?_
  have g3 := Heap.get?_update_self (Obj.mapSeq (·.pop)) g2 rfl
  have oth : ∀ b o, b ≠ S → s.heap.get? b = some o → ((s.heap.update S (Obj.mapSeq (·.push Value.none))).update S (Obj.mapSeq (·.pop))).get? b = some o :=
    fun b o hb e => (Heap.get?_update_other _ _ (Ne.symm hb)).trans ((Heap.get?_update_other _ _ (Ne.symm hb)).trans e)
  refine wpAny_pure ⟨plainId_quiet PySem.F.plain_extend_loop _, zil_loop (s := s) (h₁ := s.heap) hh O e1 e2 e3 e4 e5 en hn res hR xs.size 0 _ _ _ #[] [] (Nat.sub_zero _) (Nat.zero_le _) (st.frame O oth) (fun b o n0 _ _ _ _ e => oth b o n0 e) g3 rfl rfl (fun j a hj => by simp at hj) ?_⟩
  rw [Heap.size_update, Heap.size_update]
  exact hlo
theorem zil_init {R : Result → Shared → Prop} (hh : A.handled = none) (O : ZOff z TI TO i1 i2 l1 l2 S) {lo : Addr} (e1 : z ≤ lo) (e2 : TO ≤ lo) (e3 : i1 ≤ lo) (e4 : i2 ≤ lo) (e5 : S ≤ lo) (en : ys.size = xs.size) (hn : xs.size ≤ sizeLine)
    (hz : IsZip s.heap z TI TO .none) (st : ZAt z TI TO i1 i2 l1 l2 S xs ys 0 s.heap) (hS : s.heap.get? S = some { cls := .type "list", data := .seq #[] }) (hlo : lo < s.heap.objs.size)
    (hR : ∀ h' tk acc c as, (∀ b o, b ≠ S → b ≠ z → b ≠ TO → b ≠ i1 → b ≠ i2 → s.heap.get? b = some o → h'.get? b = some o) → h'.get? S = some { cls := .type "list", dict := none, data := .seq acc c, slots := #[] } → as.length = xs.size → ZPairs xs ys lo h' as →
      acc.toList = as.map Value.ref → R (.ok (.ret .none)) { s with heap := h', toks := tk }) :
    wpAny (model P w) A.in1 (Builtin.«list.__init__» ⟨[.ref S, .ref z], []⟩)
      (fun fin s' => match fin with | .done f => R (.ok f) s' | .again c' => c'.quiet = true ∧ codeAny (model P w) A c' R s') (fun e s' => R (.error e) s') s := by
  show wpAny _ A.in1 (do let old ← Builtin.List.listItems (.ref S); Builtin.List.listUpdate (.ref S) (fun _ => #[]); letGo old.toList.reverse; Builtin.List.listExtendWith (.ref S) (.ref z) .none) _ _ s
  refine wpAny_bind ?_
  unfold Builtin.List.listItems
  refine wpAny_bind (wpAny_seqItems hS rfl (wpAny_pure ?_))
  show wpAny _ A.in1 (updateSeq S (fun _ => #[]) >>= fun _ => letGo (#[] : Array Value).toList.reverse >>= fun _ => Builtin.List.listExtendWith (.ref S) (.ref z) .none) _ _ s
  refine wpAny_bind (wpAny_updateSeq hS rfl ?_)
  have g2 := Heap.get?_update_self (Obj.mapSeq (fun _ => (#[] : Array Value))) hS rfl
  have oth : ∀ b o, b ≠ S → s.heap.get? b = some o → (s.heap.update S (Obj.mapSeq (fun _ => (#[] : Array Value)))).get? b = some o :=
    fun b o hb e => (Heap.get?_update_other _ _ (Ne.symm hb)).trans e
  refine wpAny_bind (wpAny_letGo ?_)
  refine zil_extend (s := { s with heap := s.heap.update S (Obj.mapSeq (fun _ => (#[] : Array Value))) }) hh O e1 e2 e3 e4 e5 en hn .none _ (oth _ _ O.sz hz) (st.frame O oth) g2 (by show lo < (s.heap.update S _).objs.size; rw [Heap.size_update]; exact hlo) fun h' tk acc c as hk hS' hl hG hacc => ?_
  exact hR h' tk acc c as (fun b o n0 n1 n2 n3 n4 e => hk b o n0 n1 n2 n3 n4 (oth b o n0 e)) hS' hl hG hacc
/-- list(zip) of a zip that was just made -/
theorem zil_call {Q : Value → Shared → Prop} (hh : A.handled = none) (D : ZipApart z TI TO i1 i2 l1 l2) (en : ys.size = xs.size) (hn : xs.size ≤ sizeLine)
    (hz : IsZip s.heap z TI TO .none) (hTI : IsPair s.heap TI (.ref i1) (.ref i2)) (hTO : ∃ a b, IsPair s.heap TO a b) (h1 : s.heap.IsListIter i1 l1 0) (h2 : s.heap.IsListIter i2 l2 0) (hl1 : s.heap.IsList l1 xs) (hl2 : s.heap.IsList l2 ys)
    (hQ : ∀ h' tk acc c as, (∀ b o, b ≠ z → b ≠ TO → b ≠ i1 → b ≠ i2 → s.heap.get? b = some o → h'.get? b = some o) → h'.get? s.heap.objs.size = some { cls := .type "list", dict := none, data := .seq acc c, slots := #[] } → as.length = xs.size → ZPairs xs ys s.heap.objs.size h' as →
      acc.toList = as.map Value.ref → Q (.ref s.heap.objs.size) { s with heap := h', toks := tk }) :
    wpAny (model P w) A (call (.type "list") [.ref z]) Q E s := by
  refine callType_codes (Q₁ := fun obj s₁ => obj = .ref s.heap.objs.size ∧ s₁ = { s with heap := s.heap.push { cls := .type "list", data := .seq #[] } }) PySem.F.called_list (PySem.F.typeCall_list_1 _) PySem.F.entry_list_init
    (code_list_new _ ⟨rfl, rfl⟩) fun obj s₁ h₁ => ?_
  obtain ⟨rfl, rfl⟩ := h₁
  have hS : (s.heap.push { cls := .type "list", data := .seq #[] }).get? s.heap.objs.size = some { cls := .type "list", data := .seq #[] } := Heap.get?_push_size _ rfl
  have up : ∀ b o, s.heap.get? b = some o → (s.heap.push { cls := .type "list", data := .seq #[] }).get? b = some o := fun b o e => Heap.get?_push_of_some _ e
  have lt : ∀ {c o}, s.heap.get? c = some o → c < s.heap.objs.size := fun e => Heap.lt_size e
  obtain ⟨a, b, hTO⟩ := hTO
  have x1 : i1 < s.heap.objs.size := let ⟨_, e, _⟩ := h1; lt e
  have x2 : i2 < s.heap.objs.size := let ⟨_, e, _⟩ := h2; lt e
  have x3 : l1 < s.heap.objs.size := let ⟨_, e, _⟩ := hl1; lt e
  have x4 : l2 < s.heap.objs.size := let ⟨_, e, _⟩ := hl2; lt e
  have x5 := lt hz
  have x6 := lt hTI
  have x7 := lt hTO
  have O : ZOff z TI TO i1 i2 l1 l2 s.heap.objs.size := ⟨D, Nat.ne_of_lt x5, Nat.ne_of_lt x6, Nat.ne_of_lt x7, Nat.ne_of_lt x1, Nat.ne_of_lt x2, Nat.ne_of_lt x3, Nat.ne_of_lt x4⟩
  refine ⟨⟨_, hS, rfl⟩, PySem.F.args_list_init_2 _ _, zil_init (s := { s with heap := s.heap.push { cls := .type "list", data := .seq #[] } }) (A := A.in1) (lo := s.heap.objs.size) hh O (Nat.le_of_lt x5) (Nat.le_of_lt x7) (Nat.le_of_lt x1) (Nat.le_of_lt x2) (Nat.le_refl _) en hn (up _ _ hz)
    ⟨up _ _ hTI, h1.at fun o e => up _ o e, h2.at fun o e => up _ o e, hl1.at fun o e => up _ o e, hl2.at fun o e => up _ o e, .inl ⟨up _ _ hz, a, b, up _ _ hTO⟩⟩ hS (by show _ < (s.heap.push _).objs.size; rw [Heap.size_push]; exact Nat.lt_succ_self _) fun h' tk acc c as hk hS' hl hG hacc => ?_⟩
  exact ⟨rfl, hQ h' tk acc c as (fun b o n1 n2 n3 n4 e => hk b o (Nat.ne_of_lt (Heap.lt_size e)) n1 n2 n3 n4 (up b o e)) hS' hl hG hacc⟩
end
/-! ### dict(list(zip(keys, values))) -/
theorem zip_prs {P : Program} {w : World} : ∀ {kvs : List (Key × V)} {us ws : List Value}, Vals (kvs.map fun kv => kV kv.1) us → Vals (kvs.map (·.2)) ws → ∃ prs : List (Key × Value), KV kvs prs ∧ prs.length = us.length ∧ prs.length = ws.length ∧ ∀ (j : Nat) (q : Key × Value), prs[j]? = some q → ∃ u, us[j]? = some u ∧ ws[j]? = some q.2 ∧ keyIs q.1 u = true
  | [], us, ws, r1, r2 => by
    cases r1; cases r2
    exact ⟨[], .nil, rfl, rfl, fun j q e => by simp at e⟩
  | kv :: kvs, us, ws, r1, r2 => by
    rw [List.map_cons] at r1 r2
    cases r1 with
    | cons ru r1 =>
      cases r2 with
      | cons ry r2 =>
        obtain ⟨prs, rel, n1, n2, hp⟩ := zip_prs (P := P) (w := w) r1 r2
        refine ⟨(kv.1, _) :: prs, .cons ⟨rfl, ry⟩ rel, by rw [List.length_cons, List.length_cons, n1], by rw [List.length_cons, List.length_cons, n2], fun j q e => ?_⟩
        cases j with
        | zero =>
          have e' := Option.some.inj e
          subst e'
          exact ⟨_, rfl, rfl, kV_is (P := P) (w := w) ru⟩
        | succ j =>
          obtain ⟨u, g1, g2, g3⟩ := hp j q (by simpa using e)
          exact ⟨u, by simpa using g1, by simpa using g2, g3⟩
section
variable {X : Cx}
def tDictZip (K : PySem.W.Frag) (ta : TA) : TE := fun σ H Q => ta σ H fun vs H1 => ∃ (a b : Addr) (kvs : List (Key × V)), vs = [.ref a, .ref b] ∧ SqL K H1 a (kvs.map fun kv => kV kv.1) ∧ SqL K H1 b (kvs.map (·.2)) ∧ ∀ p, H1 p = none → Q (.ref p) (upd H1 p (.dK (mergeK [] kvs)))
theorem pe_dictZip {e1 e2 : Expr} {ta : TA} {p0 p1 p2 q0 q1 q2 : Pos} (cm : X.calm = true) (g0 : Gl X "dict") (m0 : X.mg "dict" = none) (g1 : Gl X "list") (m1 : X.mg "list" = none) (g2 : Gl X "zip") (m2 : X.mg "zip" = none) (ha : PA X [e1, e2] ta)
    (hs : starEach [e1, e2] X.env = (false, eval e1 X.env) :: starEach [e2] X.env := by rfl) (hpl : (backTo q2 (starEach [e2] X.env)).any (·.1) = false := by rfl) :
    PE X (.Call (.Name "dict" p0) [.Call (.Name "list" p1) [.Call (.Name "zip" p2) [e1, e2] [] q2] [] q1] [] q0) (tDictZip X.K ta) := by
  constructor
  intro pins s σ H Q I h
  refine Call_ (ld_blt I g0 m0 PyProof.Rows.boot_dict (callWith_type1 (args_cons ?_ rfl) rfl rfl))
  refine Call_ (ld_blt I g1 m1 PyProof.Rows.boot_list (callWith_type1 (args_cons ?_ rfl) rfl rfl))
  refine Call_ (ld_blt I g2 m2 PyProof.Rows.boot_zip (PyProof.Rows.callWith_type1 (thn (ha.run q2 pins s σ H _ I h) fun us t ⟨vs, H1, I1, r1, fin⟩ => ?_) hs hpl))
  obtain ⟨a, b, kvs, rfl, sa, sb, fin⟩ := fin
  cases r1 with
  | cons r rr =>
    cases rr with
    | cons r' rr =>
      cases rr
      cases r
      cases r'
      obtain ⟨its, rv, pl, hz⟩ := I1.list sa
      obtain ⟨its2, rv2, pl2, _⟩ := I1.list sb
      rw [List.length_map] at hz
      have n1 := rv.length
      have n2 := rv2.length
      rw [List.length_map] at n1 n2
      obtain ⟨prs, rel, w1, w2, hp⟩ := zip_prs (P := X.prog) (w := X.w) rv rv2
      refine call_zip_2 pl.isList pl2.isList fun h' hz' hTI hTO h1 h2 hsz hk => args_nil ?_
      refine zil_call (I1.ok.hd cm) (PySem.W.ktu_apart t.heap.objs.size a b pl.lt pl2.lt) (by simp; omega) (by simp; omega) hz' hTI ⟨_, _, hTO⟩ h1 h2 (pl.isList.at fun o e => hk _ o e) (pl2.isList.at fun o e => hk _ o e) fun h3 tk acc c as hk3 hS hal hG hacc => args_nil ?_
      have old : ∀ b o, t.heap.get? b = some o → h3.get? b = some o := fun b o e => by
        have lt : b < t.heap.objs.size := Heap.lt_size e
        exact hk3 b o (Nat.ne_of_lt (Nat.lt_add_right 4 lt)) (Nat.ne_of_lt (Nat.lt_add_right 3 lt)) (Nat.ne_of_lt lt) (Nat.ne_of_lt (Nat.lt_add_right 1 lt)) (hk b o e)
      have lS : h'.objs.size < h3.objs.size := Heap.lt_size hS
      have al : acc.size = as.length := by rw [← Array.length_toList, hacc, List.length_map]
      have bas : as.length = prs.length := by rw [hal, w1]; simp
      refine call_dict_pairs (s := { t with heap := h3, toks := tk }) (prs := prs) (I1.ok.hd cm) hS rfl rfl rfl (by rw [al, bas]) (by rw [w1]; omega) (fun j q e => ?_) fun h4 tk4 hd' k4 => ?_
      · obtain ⟨u, e1, e2, e3⟩ := hp j q e
        have jl : j < as.length := by rw [bas]; exact (List.getElem?_eq_some_iff.mp e).1
        obtain ⟨_, x, y, f1, f2, f3⟩ := hG j as[j] (List.getElem?_eq_getElem jl)
        have ex : x = u := by
          have : its.toArray[j]? = some u := by simpa using e1
          exact Option.some.inj (f1.symm.trans this)
        have ey : y = q.2 := by
          have : its2.toArray[j]? = some q.2 := by simpa using e2
          exact Option.some.inj (f2.symm.trans this)
        subst ex; subst ey
        refine ⟨as[j], x, ?_, ⟨_, f3, rfl, _, rfl⟩, e3⟩
        rw [← Array.getElem?_toList, hacc, List.getElem?_map, List.getElem?_eq_getElem jl]
        rfl
      · have lh : t.heap.objs.size ≤ h3.objs.size := by
          have lS' : h'.objs.size < h3.objs.size := lS
          rw [hsz] at lS'
          exact Nat.le_of_lt (Nat.lt_of_le_of_lt (Nat.le_add_right _ _) lS')
        have hm : (h3.objs.size == sysModules) = false := beq_eq_false_iff_ne.mpr (Nat.ne_of_gt (Nat.lt_of_lt_of_le I1.big lh))
        have hlen : (mergeK [] kvs).length ≤ sizeLine := Nat.le_trans (length_mergeK kvs []) (by rw [List.length_nil, Nat.zero_add]; exact hz)
        exact ⟨.ref h3.objs.size, upd H1 h3.objs.size (.dK (mergeK [] kvs)), I1.laid (t' := tk4) (fun b o e => k4 b o (old b o e)) lh (show ObjOk X.prog X.w _ _ _ (.dK (mergeK [] kvs)) from ⟨hlen, hm, merged [] prs, KV.merge rel .nil, hd'⟩), rfl, fin _ (I1.hok.fresh lh)⟩
end
end Cal


namespace Cal
open PySem PySem.Spec PyProof.Rows L2
/-! ### keywords in the order that turns the parameters round -/
theorem KB2 {K : PySem.W.Frag} {fd : FuncData} {p q : Str}
    (h0 : ∀ (s : Shared) a b, BindsTo s fd ⟨[a, b], []⟩ [(p, a), (q, b)]) (h1 : ∀ (s : Shared) a b, BindsTo s fd ⟨[a], [(q, b)]⟩ [(p, a), (q, b)]) (h2 : ∀ (s : Shared) a b, BindsTo s fd ⟨[], [(q, b), (p, a)]⟩ [(p, a), (q, b)]) :
    KBinds K fd [p, q] [q, p] (fun us ws => us ++ ws.reverse) (fun vs zs => vs ++ zs.reverse) :=
  ⟨fun s us ws _ hl => match us, ws, hl with
    | [a, b], [], _ => h0 s a b
    | [a], [b], _ => h1 s a b
    | [], [b, a], _ => h2 s a b
    | [], [], hl => by simp at hl
    | [], [_], hl => by simp at hl
    | [], _ :: _ :: _ :: _, hl => by simp at hl
    | [_], [], hl => by simp at hl
    | [_], _ :: _ :: _, hl => by simp at hl
    | [_, _], _ :: _, hl => by simp at hl
    | _ :: _ :: _ :: _, _, hl => by simp at hl, fun r z => Vals.append r (Vals.reverse z)⟩
theorem KB3 {K : PySem.W.Frag} {fd : FuncData} {p q r : Str}
    (h0 : ∀ (s : Shared) a b c, BindsTo s fd ⟨[a, b, c], []⟩ [(p, a), (q, b), (r, c)]) (h1 : ∀ (s : Shared) a b c, BindsTo s fd ⟨[a, b], [(r, c)]⟩ [(p, a), (q, b), (r, c)])
    (h2 : ∀ (s : Shared) a b c, BindsTo s fd ⟨[a], [(r, c), (q, b)]⟩ [(p, a), (q, b), (r, c)]) (h3 : ∀ (s : Shared) a b c, BindsTo s fd ⟨[], [(r, c), (q, b), (p, a)]⟩ [(p, a), (q, b), (r, c)]) :
    KBinds K fd [p, q, r] [r, q, p] (fun us ws => us ++ ws.reverse) (fun vs zs => vs ++ zs.reverse) :=
  ⟨fun s us ws _ hl => match us, ws, hl with
    | [a, b, c], [], _ => h0 s a b c
    | [a, b], [c], _ => h1 s a b c
    | [a], [c, b], _ => h2 s a b c
    | [], [c, b, a], _ => h3 s a b c
    | [], [], hl => by simp at hl
    | [], [_], hl => by simp at hl
    | [], [_, _], hl => by simp at hl
    | [], _ :: _ :: _ :: _ :: _, hl => by simp at hl
    | [_], [], hl => by simp at hl
    | [_], [_], hl => by simp at hl
    | [_], _ :: _ :: _ :: _, hl => by simp at hl
    | [_, _], [], hl => by simp at hl
    | [_, _], _ :: _ :: _, hl => by simp at hl
    | [_, _, _], _ :: _, hl => by simp at hl
    | _ :: _ :: _ :: _ :: _, _, hl => by simp at hl, fun r z => Vals.append r (Vals.reverse z)⟩
theorem KB4 {K : PySem.W.Frag} {fd : FuncData} {p q r t : Str}
    (h0 : ∀ (s : Shared) a b c d, BindsTo s fd ⟨[a, b, c, d], []⟩ [(p, a), (q, b), (r, c), (t, d)]) (h1 : ∀ (s : Shared) a b c d, BindsTo s fd ⟨[a, b, c], [(t, d)]⟩ [(p, a), (q, b), (r, c), (t, d)])
    (h2 : ∀ (s : Shared) a b c d, BindsTo s fd ⟨[a, b], [(t, d), (r, c)]⟩ [(p, a), (q, b), (r, c), (t, d)]) (h3 : ∀ (s : Shared) a b c d, BindsTo s fd ⟨[a], [(t, d), (r, c), (q, b)]⟩ [(p, a), (q, b), (r, c), (t, d)])
    (h4 : ∀ (s : Shared) a b c d, BindsTo s fd ⟨[], [(t, d), (r, c), (q, b), (p, a)]⟩ [(p, a), (q, b), (r, c), (t, d)]) :
    KBinds K fd [p, q, r, t] [t, r, q, p] (fun us ws => us ++ ws.reverse) (fun vs zs => vs ++ zs.reverse) :=
  ⟨fun s us ws _ hl => match us, ws, hl with
    | [a, b, c, d], [], _ => h0 s a b c d
    | [a, b, c], [d], _ => h1 s a b c d
    | [a, b], [d, c], _ => h2 s a b c d
    | [a], [d, c, b], _ => h3 s a b c d
    | [], [d, c, b, a], _ => h4 s a b c d
    | [], [], hl => by simp at hl
    | [], [_], hl => by simp at hl
    | [], [_, _], hl => by simp at hl
    | [], [_, _, _], hl => by simp at hl
    | [], _ :: _ :: _ :: _ :: _ :: _, hl => by simp at hl
    | [_], [], hl => by simp at hl
    | [_], [_], hl => by simp at hl
    | [_], [_, _], hl => by simp at hl
    | [_], _ :: _ :: _ :: _ :: _, hl => by simp at hl
    | [_, _], [], hl => by simp at hl
    | [_, _], [_], hl => by simp at hl
    | [_, _], _ :: _ :: _ :: _, hl => by simp at hl
    | [_, _, _], [], hl => by simp at hl
    | [_, _, _], _ :: _ :: _, hl => by simp at hl
    | [_, _, _, _], _ :: _, hl => by simp at hl
    | _ :: _ :: _ :: _ :: _ :: _, _, hl => by simp at hl, fun r z => Vals.append r (Vals.reverse z)⟩
end Cal


namespace Cal
open PySem PySem.Spec PyProof.Rows L2
/-! ### l.append(x), any length -/
theorem x_appendC {B : Bs} {ρ : Ro} {μ : Mu} {τ : List (V × D)} {σ : L2.St} {H : Hp} {te : TE} {p : Addr} {D0 : Ends} {j k : Nat} {ds : List D} {d : D} (a : At B ρ μ τ σ H) (hs : ρ[j]? = some (some (.raw (.ref p)))) (hm : μ[k]? = some (p, .lst ds)) (he : Ed B te ρ μ d) (hz : ds.length < sizeLine) (q : ∀ H', At B ρ (μ.set k (p, .lst (ds ++ [d]))) τ σ H' → D0.nx σ H') :
    tDrop (tBM B.K "list" rAppend (tVar j) (tCons te tNil)) D0 σ H := by
  obtain ⟨v0, h1, h2⟩ := a.var hs
  obtain ⟨G, g, hv⟩ := h2.top
  have hv' : v0 = V.ref p := hv
  subst hv'
  obtain ⟨vs, e1, k1⟩ := (g.cells _ (List.mem_of_getElem? hm)).2.2.2
  refine ⟨_, h1, .inl ⟨rfl, _, .inl (.inl e1)⟩, he.go a fun u H1 d1 hd a1 => ?_⟩
  subst hd
  obtain ⟨G1, g1, hu⟩ := id a1.top
  obtain ⟨vs1, e2, k2⟩ := (g1.cells _ (List.mem_of_getElem? hm)).2.2.2
  exact ⟨p, vs1, u, rfl, rfl, e2, by rw [k2.length]; exact hz, q _ ⟨G1, AtG.write (c' := .lst (ds ++ [d1])) g1 hm ⟨_, upd_same, k2.append ⟨u, [], rfl, hu, rfl⟩⟩⟩⟩
/-! ### while -/
theorem x_while {B : Bs} {ρ : Ro} {μ : Mu} {τ : List (V × D)} {σ : L2.St} {H : Hp} {tc : TT} {tb : TS} {D0 : Ends} (Inv : Nat → Ro → Mu → Prop) (a : At B ρ μ τ σ H) (h0 : ∃ m, Inv m ρ μ)
    (hs : ∀ m ρ' μ', Inv m ρ' μ' → ∃ b, Eb B tc ρ' μ' b ∧ (b = true → ∀ σ' H' (Dn : Ends), At B ρ' μ' τ σ' H' → (∀ m' ρ2 μ2 σ2 H2, m' < m → Inv m' ρ2 μ2 → At B ρ2 μ2 τ σ2 H2 → Dn.nx σ2 H2) → (∀ m' ρ2 μ2 σ2 H2, m' < m → Inv m' ρ2 μ2 → At B ρ2 μ2 τ σ2 H2 → Dn.ct σ2 H2) → Dn.bk = D0.nx → Dn.rt = D0.rt → tb Dn σ' H') ∧
      (b = false → ∀ σ' H', At B ρ' μ' τ σ' H' → D0.nx σ' H')) : tWhile tc tb D0 σ H := by
  obtain ⟨m0, i0⟩ := h0
  refine ⟨fun m σ H => ∃ ρ' μ', Inv m ρ' μ' ∧ At B ρ' μ' τ σ H, ⟨m0, ρ, μ, i0, a⟩, fun m σ1 H1 ⟨ρ', μ', i1, a1⟩ => ?_⟩
  obtain ⟨b, e, s1, s2⟩ := hs m ρ' μ' i1
  refine e τ σ1 H1 a1 _ fun b' H2 hb a2 => ?_
  subst hb
  cases b' with
  | true =>
    rw [if_pos rfl]
    exact ⟨fun σ3 H3 => ∃ m', m' < m ∧ ∃ ρ2 μ2, Inv m' ρ2 μ2 ∧ At B ρ2 μ2 τ σ3 H3, fun σ3 H3 h => h, s1 rfl σ1 H2 _ a2 (fun m' ρ2 μ2 σ2 H2 lt i2 a3 => ⟨m', lt, ρ2, μ2, i2, a3⟩) (fun m' ρ2 μ2 σ2 H2 lt i2 a3 => ⟨m', lt, ρ2, μ2, i2, a3⟩) rfl rfl⟩
  | false =>
    rw [if_neg Bool.false_ne_true]
    exact s2 rfl σ1 H2 a2
theorem y_while {B : Bs} {ρ : Ro} {μ : Mu} {τ : List (V × D)} {σ : L2.St} {H : Hp} {tc : TT} {tb tz : TS} {D0 : Ends} (Inv : Nat → Ro → Mu → Prop) (a : At B ρ μ τ σ H) (h0 : ∃ m, Inv m ρ μ)
    (hs : ∀ m ρ' μ', Inv m ρ' μ' → ∃ b, Eb B tc ρ' μ' b ∧ (b = true → ∀ σ' H' (Dn : Ends), At B ρ' μ' τ σ' H' → (∀ m' ρ2 μ2 σ2 H2, m' < m → Inv m' ρ2 μ2 → At B ρ2 μ2 τ σ2 H2 → Dn.nx σ2 H2) → (∀ m' ρ2 μ2 σ2 H2, m' < m → Inv m' ρ2 μ2 → At B ρ2 μ2 τ σ2 H2 → Dn.ct σ2 H2) → Dn.bk = tz D0 → Dn.rt = D0.rt → tb Dn σ' H') ∧
      (b = false → ∀ σ' H', At B ρ' μ' τ σ' H' → tz D0 σ' H')) : tSeq (tWhile tc tb) tz D0 σ H := x_while (D0 := { D0 with nx := tz D0 }) Inv a h0 hs
/-! ### the walk by a stack of ways -/
section
variable (near : Int → List Int) (i j k : Int)
def extW (w : List Int) : List (List Int) := ((near (w.getLastD i)).filter fun p => !decide (p ∈ i :: j :: w)).map fun p => w ++ [p]
inductive Walk : List (List Int) → List (List Int) → List (List Int) → Prop
  | done (f : List (List Int)) : Walk [] f f
  | hit {t f r : List (List Int)} {w : List Int} : w ≠ [] → w.getLastD i = k → Walk t (f ++ [w]) r → Walk (t ++ [w]) f r
  | go {t f r : List (List Int)} {w : List Int} : ¬ (w ≠ [] ∧ w.getLastD i = k) → Walk (t ++ extW near i j w) f r → Walk (t ++ [w]) f r
end
section
variable {near : Int → List Int} {i j k : Int}
theorem Walk.det {t f r r' : List (List Int)} (h : Walk near i j k t f r) : Walk near i j k t f r' → r = r' := by
  induction h generalizing r' with
  | done f =>
    intro h2
    generalize e : ([] : List (List Int)) = t at h2
    cases h2 with
    | done => rfl
    | hit => simp at e
    | go => simp at e
  | @hit t f r w h1 h2 _ ih =>
    intro h3
    generalize e : t ++ [w] = t' at h3
    cases h3 with
    | done => simp at e
    | hit g1 g2 g3 =>
      obtain ⟨e1, e2⟩ := List.append_inj' e rfl
      cases e2; subst e1
      exact ih g3
    | go g1 g2 =>
      obtain ⟨e1, e2⟩ := List.append_inj' e rfl
      cases e2
      exact absurd ⟨h1, h2⟩ g1
  | @go t f r w h1 _ ih =>
    intro h3
    generalize e : t ++ [w] = t' at h3
    cases h3 with
    | done => simp at e
    | hit g1 g2 g3 =>
      obtain ⟨e1, e2⟩ := List.append_inj' e rfl
      cases e2
      exact absurd ⟨g1, g2⟩ h1
    | go g1 g2 =>
      obtain ⟨e1, e2⟩ := List.append_inj' e rfl
      cases e2; subst e1
      exact ih g2
def rem (m : Nat) (w : List Int) : Nat := ((List.range m).filter fun (q : Nat) => !decide ((q : Int) ∈ w)).length
def wt (m : Nat) (w : List Int) : Nat := (m + 1) ^ rem m w
def wts (m : Nat) (t : List (List Int)) : Nat := (t.map (wt m)).sum
theorem wt_pos (m : Nat) (w : List Int) : 1 ≤ wt m w := Nat.pos_of_ne_zero (by unfold wt; exact Nat.ne_of_gt (Nat.pow_pos (Nat.succ_pos m)))
theorem wts_app (m : Nat) (s t : List (List Int)) : wts m (s ++ t) = wts m s + wts m t := by
  unfold wts; rw [List.map_append, List.sum_append]
theorem wts_one (m : Nat) (w : List Int) : wts m [w] = wt m w := by simp [wts]
theorem wts_len (m : Nat) : ∀ t : List (List Int), t.length ≤ wts m t
  | [] => Nat.zero_le _
  | w :: t => by
    have := wts_len m t
    have h := wt_pos m w
    show t.length + 1 ≤ wt m w + wts m t
    omega
theorem rem_child {m : Nat} {w : List Int} {p : Int} (h0 : 0 ≤ p) (h1 : p < m) (h2 : p ∉ w) : rem m (w ++ [p]) + 1 ≤ rem m w := by
  unfold rem
  have e : (List.range m).filter (fun (q : Nat) => !decide ((q : Int) ∈ w ++ [p])) = ((List.range m).filter fun (q : Nat) => !decide ((q : Int) ∈ w)).filter fun (q : Nat) => !decide ((q : Int) = p) := by
    rw [List.filter_filter]
    refine List.filter_congr fun q _ => ?_
    by_cases a : (q : Int) ∈ w <;> by_cases b : (q : Int) = p <;> simp [a, b]
  rw [e]
  refine List.length_filter_lt_length_iff_exists.mpr ⟨p.toNat, List.mem_filter.mpr ⟨List.mem_range.mpr (by omega), ?_⟩, ?_⟩
  · rw [show ((p.toNat : Nat) : Int) = p by omega, decide_eq_false h2]; rfl
  · rw [show ((p.toNat : Nat) : Int) = p by omega]; simp
theorem wts_ext {m : Nat} (hn : ∀ x, (near x).length ≤ m ∧ ∀ p ∈ near x, 0 ≤ p ∧ p < m) (w : List Int) : wts m (extW near i j w) + 1 ≤ wt m w := by
  have hb : ∀ c ∈ extW near i j w, wt m c ≤ (m + 1) ^ (rem m w - 1) ∧ 1 ≤ rem m w := fun c hc => by
    obtain ⟨p, hp, rfl⟩ := List.mem_map.mp hc
    obtain ⟨h1, h2⟩ := List.mem_filter.mp hp
    have h3 : p ∉ w := fun z => by
      have : p ∈ i :: j :: w := List.mem_cons_of_mem _ (List.mem_cons_of_mem _ z)
      rw [decide_eq_true this] at h2; cases h2
    have h4 := rem_child (m := m) ((hn _).2 p h1).1 ((hn _).2 p h1).2 h3
    exact ⟨Nat.pow_le_pow_right (Nat.succ_pos m) (by omega), by omega⟩
  have hl : (extW near i j w).length ≤ m := by
    unfold extW
    rw [List.length_map]
    exact Nat.le_trans (List.length_filter_le _ _) (hn _).1
  have hs : ∀ l : List (List Int), (∀ c ∈ l, wt m c ≤ (m + 1) ^ (rem m w - 1)) → wts m l ≤ l.length * (m + 1) ^ (rem m w - 1) := fun l => by
    induction l with
    | nil => exact fun _ => Nat.zero_le _
    | cons c r ih =>
      intro h
      have h1 := h c (List.mem_cons_self ..)
      have h2 := ih fun d hd => h d (List.mem_cons_of_mem _ hd)
      rw [List.length_cons, Nat.succ_mul]
      show wt m c + wts m r ≤ _
      omega
  cases e : extW near i j w with
  | nil => exact wt_pos m w
  | cons c r =>
    have h1 : 1 ≤ rem m w := (hb c (by rw [e]; exact List.mem_cons_self ..)).2
    rw [← e]
    have h2 := hs _ fun c hc => (hb c hc).1
    have h3 : (extW near i j w).length * (m + 1) ^ (rem m w - 1) ≤ m * (m + 1) ^ (rem m w - 1) := Nat.mul_le_mul_right _ hl
    have h4 : (m + 1) ^ rem m w = m * (m + 1) ^ (rem m w - 1) + (m + 1) ^ (rem m w - 1) := by
      conv => lhs; rw [show rem m w = (rem m w - 1) + 1 by omega, Nat.pow_succ, Nat.mul_comm, Nat.succ_mul]
    have h5 : 1 ≤ (m + 1) ^ (rem m w - 1) := Nat.pow_pos (Nat.succ_pos m)
    unfold wt
    omega
theorem rem_le (m : Nat) (w : List Int) : rem m w ≤ m := by
  unfold rem
  have := List.length_filter_le (fun (q : Nat) => !decide ((q : Int) ∈ w)) (List.range m)
  rwa [List.length_range] at this
theorem wt_le {m : Nat} (w : List Int) : wt m w ≤ (m + 1) ^ m := Nat.pow_le_pow_right (Nat.succ_pos m) (rem_le m w)
end
end Cal


namespace Cal
open PySem PySem.Spec PyProof.Rows L2
section
variable {B : Bs} {ρ : Ro} {μ : Mu} {ds es : List D} {d : D} {te : TE}
/-- a call by keywords in the reversed order -/
theorem ed_pwR {pre : List D → Prop} {post : List D → D → Prop} {t : TA} {gV : List V → List V → List V} (hgV : ∀ zs, gV [] zs = zs.reverse) (h : Ea B t ρ μ (fun l => l = es)) (he : es.reverse = ds) (hpre : pre ds) (hpost : ∀ e, post ds e → e = d) : Ed B (tCallW (psp B.K pre post) gV t) ρ μ d := by
  have e := ed_p (B := B) (E := C8.E0) (d := d) (ds := ds) (ρ := ρ) (μ := μ) (t := fun σ H Q => t σ H fun zs H1 => Q zs.reverse H1) (fun τ σ H a Q q => h τ σ H a _ fun vs H' l hl hlen a1 => by
    subst hl
    refine q vs.reverse H' l.reverse he (by rw [List.length_reverse, List.length_reverse, hlen]) (a1.sub fun p hp => ?_)
    rcases List.mem_append.mp hp with hp | hp
    · refine List.mem_append_left _ ?_
      rw [List.zip, ← List.reverse_zipWith hlen] at hp
      exact List.mem_reverse.mp hp
    · exact List.mem_append_right _ hp) hpre hpost
  have e2 : tCallW (psp B.K pre post) gV t = tCall (psp B.K pre post) [] C8.E0 (fun σ H Q => t σ H fun zs H1 => Q zs.reverse H1) := by
    unfold tCallW tCall
    funext σ H Q
    congr 1
    funext zs H1
    rw [hgV]
    show _ = psp B.K pre post (zs.reverse ++ []) H1 Q C8.E0
    rw [List.append_nil]
  rw [e2]; exact e
theorem rd_notN {d : D} {b : Bool} (h : ∀ G v, Dt B.K G d v → (!decide (v = .non)) = b) : RD B (fun x y H Q => y = .non ∧ Q (.bl (!decide (x = .non))) H) ρ μ d .non (fun e => e = .bl b) := rd_flat (fun _ => rfl) fun G H x y _ a c Q q => ⟨c, by rw [h G x a]; exact q⟩
theorem rp_of (h : Th 400000 10 d) (k : Ed B te ρ μ d) : Ed B (tCB (rRp B.K) (tCons te tNil)) ρ μ (.str (py d).shown) := ed_cb (ead_cons k ea_nil) (rc_rp h.ok h.nn (Nat.le_trans h.w (by decide)) (Nat.le_trans h.dp (by decide)))
end
theorem cl_nat {a : Nat} (h : a < 1000) : cl (.int a) = true := cl_int (Nat.lt_of_lt_of_le (show ((a : Int)).natAbs < 1000 by omega) (by decide))
/-! ### how many ways there are, and how long they are -/
def fac : Nat → Nat
  | 0 => 1
  | n + 1 => (n + 1) * fac n
theorem fac_pos : ∀ n, 1 ≤ fac n
  | 0 => Nat.le_refl _
  | n + 1 => Nat.le_trans (fac_pos n) (Nat.le_mul_of_pos_left _ (Nat.succ_pos n))
theorem fac_le : ∀ {a b : Nat}, a ≤ b → fac a ≤ fac b := fun {a b} h => by
  induction h with
  | refl => exact Nat.le_refl _
  | step _ ih => exact Nat.le_trans ih (Nat.le_mul_of_pos_left _ (Nat.succ_pos _))
def cnt (m : Nat) (i j : Int) (w : List Int) : Nat := fac (rem m (i :: j :: w))
section
variable {near : Int → List Int} {m : Nat} {i j k : Int}
theorem cnt_ext (hn : ∀ (x : Int) (c : Int → Bool), ((near x).filter c).length ≤ ((List.range m).filter fun (q : Nat) => c q).length) (hb : ∀ x, ∀ p ∈ near x, 0 ≤ p ∧ p < m) (w : List Int) : ((extW near i j w).map (cnt m i j)).sum ≤ cnt m i j w := by
  have hs : ∀ (l : List (List Int)) (n : Nat), (∀ c ∈ l, cnt m i j c ≤ n) → (l.map (cnt m i j)).sum ≤ l.length * n := fun l n => by
    induction l with
    | nil => exact fun _ => Nat.zero_le _
    | cons c r ih =>
      intro h
      have h1 := h c (List.mem_cons_self ..)
      have h2 := ih fun d hd => h d (List.mem_cons_of_mem _ hd)
      rw [List.length_cons, Nat.succ_mul, List.map_cons, List.sum_cons]
      omega
  have hl : (extW near i j w).length ≤ rem m (i :: j :: w) := by
    unfold extW
    rw [List.length_map]
    exact hn _ _
  have hc : ∀ c ∈ extW near i j w, cnt m i j c ≤ fac (rem m (i :: j :: w) - 1) := fun c hc => by
    obtain ⟨p, hp, rfl⟩ := List.mem_map.mp hc
    obtain ⟨h1, h2⟩ := List.mem_filter.mp hp
    have h3 : p ∉ i :: j :: w := fun z => by rw [decide_eq_true z] at h2; cases h2
    have h4 := rem_child (m := m) (hb _ p h1).1 (hb _ p h1).2 h3
    refine fac_le ?_
    show rem m ((i :: j :: w) ++ [p]) ≤ _
    omega
  have h1 := hs _ _ hc
  unfold cnt
  generalize rem m (i :: j :: w) = R at h1 hl
  cases R with
  | zero =>
    have e : extW near i j w = [] := List.eq_nil_of_length_eq_zero (by omega)
    rw [e]; exact Nat.zero_le _
  | succ R =>
    have h2 : (extW near i j w).length * fac R ≤ (R + 1) * fac R := Nat.mul_le_mul_right _ hl
    exact Nat.le_trans h1 h2
theorem Walk.count (hn : ∀ (x : Int) (c : Int → Bool), ((near x).filter c).length ≤ ((List.range m).filter fun (q : Nat) => c q).length) (hb : ∀ x, ∀ p ∈ near x, 0 ≤ p ∧ p < m) {t f r : List (List Int)} (h : Walk near i j k t f r) : r.length ≤ f.length + (t.map (cnt m i j)).sum := by
  induction h with
  | done f => exact Nat.le_add_right _ _
  | @hit t f r w h1 h2 _ ih =>
    rw [List.length_append, List.length_singleton] at ih
    rw [List.map_append, List.sum_append]
    have := fac_pos (rem m (i :: j :: w))
    have e : ([w].map (cnt m i j)).sum = fac (rem m (i :: j :: w)) := by simp [cnt]
    rw [e]; omega
  | @go t f r w h1 _ ih =>
    rw [List.map_append, List.sum_append] at ih ⊢
    have := cnt_ext (i := i) (j := j) hn hb w
    have e : ([w].map (cnt m i j)).sum = cnt m i j w := by simp
    rw [e]; omega
theorem Walk.good (hb : ∀ x, ∀ p ∈ near x, 0 ≤ p ∧ p < m) {t f r : List (List Int)} (h : Walk near i j k t f r) (ht : ∀ w ∈ t, (∀ p ∈ w, 0 ≤ p ∧ p < m) ∧ w.length + rem m w ≤ m) (hf : ∀ w ∈ f, (∀ p ∈ w, 0 ≤ p ∧ p < m) ∧ w.length ≤ m) : ∀ w ∈ r, (∀ p ∈ w, 0 ≤ p ∧ p < m) ∧ w.length ≤ m := by
  induction h with
  | done f => exact hf
  | @hit t f r w h1 h2 _ ih =>
    refine ih (fun v hv => ht v (List.mem_append_left _ hv)) fun v hv => ?_
    rcases List.mem_append.mp hv with z | z
    · exact hf v z
    · rw [List.mem_singleton.mp z]
      have := ht w (List.mem_append_right _ (List.mem_singleton.mpr rfl))
      exact ⟨this.1, by omega⟩
  | @go t f r w h1 _ ih =>
    refine ih (fun v hv => ?_) hf
    rcases List.mem_append.mp hv with z | z
    · exact ht v (List.mem_append_left _ z)
    · obtain ⟨p, hp, rfl⟩ := List.mem_map.mp z
      obtain ⟨p1, p2⟩ := List.mem_filter.mp hp
      have hw := ht w (List.mem_append_right _ (List.mem_singleton.mpr rfl))
      have hp' := hb _ p p1
      have h3 : p ∉ w := fun y => by
        have : p ∈ i :: j :: w := List.mem_cons_of_mem _ (List.mem_cons_of_mem _ y)
        rw [decide_eq_true this] at p2; cases p2
      have := rem_child (m := m) hp'.1 hp'.2 h3
      refine ⟨fun q hq => ?_, by rw [List.length_append, List.length_singleton]; omega⟩
      rcases List.mem_append.mp hq with y | y
      · exact hw.1 q y
      · rw [List.mem_singleton.mp y]; exact hp'
end
end Cal


namespace Cal
open PySem PySem.Spec PyProof.Rows L2
/-! ### names as bits -/
theorem bit_add {i x : Nat} (h : x.testBit i = false) (j : Nat) : (2 ^ i + x).testBit j = (decide (i = j) || x.testBit j) := by
  rcases Nat.lt_trichotomy j i with hj | hj | hj
  · rw [Nat.testBit_two_pow_add_gt hj, decide_eq_false (by omega), Bool.false_or]
  · subst hj
    rw [Nat.testBit_two_pow_add_eq, h, decide_eq_true rfl]; rfl
  · have hx : x = 2 ^ (i + 1) * (x / 2 ^ (i + 1)) + x % 2 ^ (i + 1) := (Nat.div_add_mod x (2 ^ (i + 1))).symm
    have h1 : (x % 2 ^ (i + 1)).testBit i = false := by rw [Nat.testBit_mod_two_pow, h, Bool.and_false]
    have h2 : x % 2 ^ (i + 1) < 2 ^ (i + 1) := Nat.mod_lt _ (Nat.two_pow_pos _)
    generalize x % 2 ^ (i + 1) = r at hx h1 h2
    generalize x / 2 ^ (i + 1) = q at hx
    have p2 : 2 ^ (i + 1) = 2 ^ i + 2 ^ i := by rw [Nat.pow_succ]; omega
    have hr : r < 2 ^ i := by
      refine Nat.lt_of_not_le fun hle => ?_
      have h3 : r - 2 ^ i < 2 ^ i := by omega
      have e : r = 2 ^ i + (r - 2 ^ i) := by omega
      rw [e, Nat.testBit_two_pow_add_eq, Nat.testBit_lt_two_pow h3] at h1
      cases h1
    have e2 : 2 ^ i + x = 2 ^ (i + 1) * q + (2 ^ i + r) := by omega
    have h4 : 2 ^ i + r < 2 ^ (i + 1) := by omega
    have l1 : (2 ^ i + x).testBit j = q.testBit (j - (i + 1)) := by
      rw [e2, Nat.testBit_two_pow_mul_add _ h4, if_neg (by omega)]
    have l2 : x.testBit j = q.testBit (j - (i + 1)) := by
      rw [hx, Nat.testBit_two_pow_mul_add _ h2, if_neg (by omega)]
    rw [l1, l2, decide_eq_false (by omega), Bool.false_or]
def bitsN (nums k : List Str) : Nat := (k.map fun s => 2 ^ nums.idxOf s).sum
theorem idx_inj {nums : List Str} {s t : Str} (hs : s ∈ nums) (h : nums.idxOf s = nums.idxOf t) : s = t := by
  have l1 := List.idxOf_lt_length_of_mem hs
  have e1 := List.getElem_idxOf l1
  have l2 : nums.idxOf t < nums.length := h ▸ l1
  have e2 := List.getElem_idxOf l2
  have e3 : nums[nums.idxOf s] = nums[nums.idxOf t] := by simp only [h]
  rw [e1, e2] at e3; exact e3
theorem bitsN_bit {nums : List Str} : ∀ {k : List Str}, k.Nodup → (∀ s ∈ k, s ∈ nums) → ∀ t, (bitsN nums k).testBit t = k.any fun s => decide (nums.idxOf s = t)
  | [], _, _, t => by show (0 : Nat).testBit t = false; rw [Nat.zero_testBit]
  | s :: r, nd, hm, t => by
    rw [List.nodup_cons] at nd
    have ih := bitsN_bit nd.2 fun x hx => hm x (List.mem_cons_of_mem _ hx)
    have h0 : (bitsN nums r).testBit (nums.idxOf s) = false := by
      rw [ih]
      refine List.any_eq_false.mpr fun x hx z => nd.1 ?_
      have := of_decide_eq_true z
      rw [idx_inj (hm s (List.mem_cons_self ..)) this.symm]; exact hx
    show (2 ^ nums.idxOf s + bitsN nums r).testBit t = _
    rw [bit_add h0, List.any_cons, ih]
/-- some bit of a and b that h hasn't -/
theorem and_ne {a b h : Nat} : (a &&& b &&& h ≠ a &&& b) ↔ ∃ t, a.testBit t = true ∧ b.testBit t = true ∧ h.testBit t = false := by
  constructor
  · intro hne
    refine Classical.byContradiction fun hn => hne (Nat.eq_of_testBit_eq fun t => ?_)
    rw [Nat.testBit_and, Nat.testBit_and]
    cases ea : a.testBit t with
    | false => rfl
    | true =>
      cases eb : b.testBit t with
      | false => rfl
      | true =>
        cases eh : h.testBit t with
        | true => rfl
        | false => exact absurd ⟨t, ea, eb, eh⟩ hn
  · rintro ⟨t, ha, hb, hh⟩ e
    have := congrArg (fun n => n.testBit t) e
    simp only [Nat.testBit_and, ha, hb, hh] at this
    cases this
end Cal


namespace Cal
open PySem PySem.Spec PyProof.Rows L2
/-! ### methods called -/
theorem DtF.no {K : PySem.W.Frag} {G : Hp} {f : Str} : ∀ {fs : List (Str × D)} {vs : List (Str × V)}, DtF K G fs vs → fs.lookup f = none → vs.lookup f = none
  | [], _, h, _ => by rw [show _ = [] from h]; rfl
  | (g, e) :: r, _, ⟨v, r', rfl, hv, hr⟩, h => by
    rw [List.lookup_cons] at h ⊢
    by_cases z : (f == g) = true
    · rw [z] at h; cases h
    · rw [Bool.not_eq_true] at z
      rw [z] at h ⊢
      exact DtF.no hr h
def tObjArgs (C : Addr) (m : Str) (ta : TE) (t : TA) : TA := fun σ H Q => ta σ H fun x H1 => ∃ a dx fs, x = .ref a ∧ H1 a = some (.ins C dx fs) ∧ fs.lookup m = none ∧ t σ H1 fun vs H2 => Q (x :: vs) H2
section
variable {B : Bs} {ρ : Ro} {μ : Mu} {ta : TE} {t : TA} {C : Addr} {m : Str} {fs : List (Str × D)} {ds : List D} {d : D} {P : D → Prop} {E : XK}
theorem ea_obj (h0 : Ed B ta ρ μ (.obj C fs)) (hn : fs.lookup m = none) (h1 : Ea B t ρ μ (fun l => l = ds)) : Ea B (tObjArgs C m ta t) ρ μ (fun l => l = .obj C fs :: ds) := fun τ σ H a Q q => h0.go a fun v H1 d hd a1 => by
  subst hd
  obtain ⟨G, g, p, dx, vs, rfl, e, kf⟩ := id a1.top
  refine ⟨p, dx, vs, rfl, g.sub _ _ e, kf.no hn, h1 _ σ H1 a1 _ fun us H2 es hes hl a2 => ?_⟩
  subst hes
  refine q (V.ref p :: us) H2 (.obj C fs :: es) rfl (by rw [List.length_cons, List.length_cons, hl]) (a2.sub fun z hz => ?_)
  rw [List.zip_cons_cons] at hz
  rcases List.mem_cons.mp hz with y | y
  · rw [y]; exact List.mem_append_right _ (List.mem_cons_self ..)
  · rcases List.mem_append.mp y with y | y
    · exact List.mem_append_left _ y
    · exact List.mem_append_right _ (List.mem_cons_of_mem _ y)
theorem ed_mt {pre : List D → Prop} {post : List D → D → Prop} (h0 : Ed B ta ρ μ (.obj C fs)) (hn : fs.lookup m = none) (h1 : Ea B t ρ μ (fun l => l = ds)) (hpre : pre (.obj C fs :: ds)) (hpost : ∀ e, post (.obj C fs :: ds) e → e = d) : Ed B (tMeth C m (psp B.K pre post) [] E ta t) ρ μ d :=
  (ed_p (t := tObjArgs C m ta t) (E := E) (ea_obj h0 hn h1) hpre hpost : Ed B (tCall (psp B.K pre post) [] E (tObjArgs C m ta t)) ρ μ d)
end
/-! ### a walk over a tuple or over a list -/
def iSeq (K : PySem.W.Frag) (te : TE) : TI := fun σ H R => iTup K te σ H R ∨ iList K te σ H R
section
variable {X : Cx} {K : PySem.W.Frag} {l tg : Expr} {tl : TE}
theorem pi_seqK (hK : X.K = K) (h : PE X l tl) : PI X tg l (iSeq K tl) := ⟨fun pins s σ H R I w => by
  subst hK
  rcases w with w | w
  · exact (pi_tup h).run pins s σ H R I w
  · exact (pi_list h).run pins s σ H R I w⟩
end
section
variable {B : Bs} {ρ : Ro} {μ : Mu} {tl : TE} {n : Nat} {f : Nat → D}
theorem ei_seqT (h : Ei B (iTup B.K tl) ρ μ n f) : Ei B (iSeq B.K tl) ρ μ n f := fun τ σ H a Rr q => .inl (h τ σ H a Rr q)
theorem ei_seqL (h : Ei B (iList B.K tl) ρ μ n f) : Ei B (iSeq B.K tl) ρ μ n f := fun τ σ H a Rr q => .inr (h τ σ H a Rr q)
end
/-! ### & and | -/
section
variable {B : Bs} {ρ : Ro} {μ : Mu} {a b : Nat}
theorem rd_andN : RD B (rI0 fun i j => .int (Builtin.bitAnd i j)) ρ μ (.int (a : Int)) (.int (b : Int)) (fun e => e = .int ((a &&& b : Nat) : Int)) := by
  have e : Builtin.bitAnd (a : Int) (b : Int) = ((a &&& b : Nat) : Int) := by rw [bitAnd_pp (by omega) (by omega), Int.toNat_natCast, Int.toNat_natCast]
  rw [← e]
  exact rd_flat (fun _ => rfl) fun G H x y _ ha hb Q q => ⟨a, b, ha, hb, q⟩
theorem rd_orN : RD B (rI0 fun i j => .int (Builtin.bitOr i j)) ρ μ (.int (a : Int)) (.int (b : Int)) (fun e => e = .int ((a ||| b : Nat) : Int)) := by
  have e : Builtin.bitOr (a : Int) (b : Int) = ((a ||| b : Nat) : Int) := by rw [Bits.bitOr_pp (by omega) (by omega), Int.toNat_natCast, Int.toNat_natCast]
  rw [← e]
  exact rd_flat (fun _ => rfl) fun G H x y _ ha hb Q q => ⟨a, b, ha, hb, q⟩
end
end Cal


namespace Cal
open PySem PySem.Spec PyProof.Rows L2
theorem DtA.setAt {K : PySem.W.Frag} {G : Hp} {d : D} {v : V} (hd : Dt K G d v) : ∀ {ds : List D} {vs : List V} (i : Nat), DtA K G ds vs → DtA K G (ds.set i d) (vs.set i v)
  | [], _, i, h => by rw [show _ = [] from h]; rfl
  | e :: r, _, 0, ⟨u, vs, rfl, hu, hr⟩ => ⟨v, vs, rfl, hd, hr⟩
  | e :: r, _, i + 1, ⟨u, vs, rfl, hu, hr⟩ => ⟨u, vs.set i v, rfl, hu, DtA.setAt hd i hr⟩
/-- l[i] = x, l a list that changes -/
theorem x_setC {B : Bs} {ρ : Ro} {μ : Mu} {τ : List (V × D)} {σ : L2.St} {H : Hp} {te ti : TE} {p : Addr} {D0 : Ends} {j k : Nat} {ds : List D} {d : D} {i : Int} (a : At B ρ μ τ σ H) (hs : ρ[j]? = some (some (.raw (.ref p)))) (hm : μ[k]? = some (p, .lst ds)) (he : Ed B te ρ μ d) (hi : Ed B ti ρ μ (.int i)) (b0 : 0 ≤ i) (b1 : i < ds.length)
    (q : ∀ H', At B ρ (μ.set k (p, .lst (ds.set i.toNat d))) τ σ H' → D0.nx σ H') : tAsg te (gSub (tVar j) ti rSetL) D0 σ H := he.go a fun v H1 d1 hd a1 => by
  subst hd
  obtain ⟨v0, h1, h2⟩ := a1.var hs
  obtain ⟨G, g, hv⟩ := h2.top
  have hv' : v0 = V.ref p := hv
  subst hv'
  refine ⟨_, h1, hi.go a1 fun u H2 d2 hd2 a2 => ?_⟩
  subst hd2
  obtain ⟨G2, g2, hu⟩ := id a2.top
  have hu' : u = V.int i := hu
  subst hu'
  have hdv := g2.temps _ (List.mem_cons_self ..)
  obtain ⟨vs1, e2, k2⟩ := (g2.cells _ (List.mem_of_getElem? hm)).2.2.2
  refine ⟨p, vs1, i, i.toNat, rfl, rfl, e2, ?_, q _ ⟨G2, AtG.write (c' := .lst (ds.set i.toNat d1)) { g2 with temps := fun t ht => g2.temps t (List.mem_cons_of_mem _ ht) } hm ⟨_, upd_same, k2.setAt hdv i.toNat⟩⟩⟩
  unfold ixN
  rw [k2.length, if_pos b0, if_pos b1]
theorem y_setC {B : Bs} {ρ : Ro} {μ : Mu} {τ : List (V × D)} {σ : L2.St} {H : Hp} {te ti : TE} {tz : TS} {p : Addr} {D0 : Ends} {j k : Nat} {ds : List D} {d : D} {i : Int} (a : At B ρ μ τ σ H) (hs : ρ[j]? = some (some (.raw (.ref p)))) (hm : μ[k]? = some (p, .lst ds)) (he : Ed B te ρ μ d) (hi : Ed B ti ρ μ (.int i)) (b0 : 0 ≤ i) (b1 : i < ds.length)
    (q : ∀ H', At B ρ (μ.set k (p, .lst (ds.set i.toNat d))) τ σ H' → tz D0 σ H') : tSeq (tAsg te (gSub (tVar j) ti rSetL)) tz D0 σ H := x_setC (D0 := { D0 with nx := tz D0 }) a hs hm he hi b0 b1 q
/-- [x] * n as a list that changes -/
theorem xl_rep {B : Bs} {ρ : Ro} {μ : Mu} {ta tb : TE} {n : Nat} {c : Int} (h1 : Ed B ta ρ μ (.lst [.int c])) (h2 : Ed B tb ρ μ (.int (n : Int))) (hn : n ≤ 1000000) : Xl B (tOp rRep ta tb) ρ μ (List.replicate n (.int c)) := fun τ σ H a Q q => h1.go a fun x H1 d1 hd1 a1 => by
  subst hd1
  refine h2.go a1 fun y H2 d2 hd2 a2 => ?_
  subst hd2
  obtain ⟨G, g, ⟨p, vs, rfl, e1, k1⟩, hy⟩ := a2.two
  obtain ⟨v, r, rfl, hv, hr⟩ := k1
  have hr' : r = [] := hr
  subst hr'
  have hv' : v = V.int c := hv
  subst hv'
  refine ⟨p, n, [V.int c], rfl, hy, g.sub _ _ e1, by omega, by omega, by
    show 1 * ((n : Int)).toNat ≤ sizeLine
    exact Nat.le_trans (by omega) (show 1000000 ≤ sizeLine by decide), fun p2 hp2 => ?_⟩
  have e : (List.replicate ((n : Int)).toNat [V.int c]).flatten = List.replicate n (V.int c) := by rw [show ((n : Int)).toNat = n by omega, flat_rep]
  rw [e]
  have a3 : At B ρ μ τ σ H2 := a2.sub fun z hz => List.mem_cons_of_mem _ (List.mem_cons_of_mem _ hz)
  exact q _ _ _ _ ⟨p2, rfl, rfl⟩ (At.flat (At.newCell (c := .lst (List.replicate n (.int c))) a3 hp2 fun G' k' => ⟨_, upd_same, dt_rep (show Dt B.K G' (.int c) (V.int c) from rfl) n⟩).1 fun _ => rfl)
end Cal


namespace Cal
open PySem PySem.Spec PyProof.Rows L2
/-! ### dicts with ints as keys -/
section
variable {B : Bs} {ρ : Ro} {μ : Mu} {τ : List (V × D)} {σ : L2.St} {H : Hp} {td te ty tk tv : TE} {p : Addr} {D0 : Ends} {tz : TS} {j k : Nat} {kks : List (Key × D)} {x : Int} {d : D}
/-- d[x] = y, d a dict that changes, x not in it -/
theorem x_dputN (a : At B ρ μ τ σ H) (hs : ρ[j]? = some (some (.raw (.ref p)))) (hm : μ[k]? = some (p, .dk kks)) (hv : Ed B te ρ μ d) (hy : Ed B ty ρ μ (.int x)) (hn : getD' kks (.inl x) = none) (hz : kks.length < 100000) (q : ∀ H', At B ρ (μ.set k (p, .dk (kks ++ [(.inl x, d)]))) τ σ H' → D0.nx σ H') : sDPut (tVar j) ty te D0 σ H := by
  refine hv.go a fun v H1 d1 hd a1 => ?_
  subst hd
  obtain ⟨w, h1, h2⟩ := a1.var hs
  obtain ⟨G, g, hw⟩ := h2.top
  have hw' : w = V.ref p := hw
  subst hw'
  refine ⟨_, h1, hy.go a1 fun u H2 d2 hd2 a2 => ?_⟩
  subst hd2
  obtain ⟨G2, g2⟩ := id a2
  have hu : u = V.int x := g2.temps (u, .int x) (List.mem_cons_self ..)
  subst hu
  obtain ⟨kv2, e2, k2'⟩ := (g2.cells _ (List.mem_of_getElem? hm)).2.2.2
  have hv2 : valV kv2 (.inl x) = none := by
    rcases k2'.get (k := .inl x) with ⟨_, h4⟩ | ⟨dd, vv, h3, _⟩
    · exact h4
    · rw [hn] at h3; cases h3
  refine ⟨p, _, rfl, DPut.k (k := Sum.inl x) e2 (by rw [k2'.len]; exact Nat.lt_trans hz (by decide)), q _ ?_⟩
  refine At.pop (At.pop (At.write (c' := .dk (kks ++ [(.inl x, d1)])) a2 hm fun G' kt hc => ?_))
  obtain ⟨kv3, e3, k3'⟩ := hc
  rw [e2] at e3
  cases e3
  refine ⟨kv2 ++ [(.inl x, v)], ?_, DtK.app (show DtK B.K G' [(.inl x, d1)] [(.inl x, v)] from ⟨v, [], rfl, kt (v, d1) (List.mem_cons_of_mem _ (List.mem_cons_self ..)), rfl⟩) k3'⟩
  rw [upd_same]
  unfold putK
  rw [if_neg (by rw [any_none hv2]; exact Bool.false_ne_true)]
theorem y_dputN (a : At B ρ μ τ σ H) (hs : ρ[j]? = some (some (.raw (.ref p)))) (hm : μ[k]? = some (p, .dk kks)) (hv : Ed B te ρ μ d) (hy : Ed B ty ρ μ (.int x)) (hn : getD' kks (.inl x) = none) (hz : kks.length < 100000) (q : ∀ H', At B ρ (μ.set k (p, .dk (kks ++ [(.inl x, d)]))) τ σ H' → tz D0 σ H') : tSeq (sDPut (tVar j) ty te) tz D0 σ H := x_dputN (D0 := { D0 with nx := tz D0 }) a hs hm hv hy hn hz q
/-- x not in d, d a dict that changes -/
theorem eb_dnotinC (hs : ρ[j]? = some (some (.raw (.ref p)))) (hm : μ[k]? = some (p, .dk kks)) (hy : Ed B ty ρ μ (.int x)) : Eb B (tB (tDNotIn ty (tVar j))) ρ μ (!(getD' kks (.inl x)).isSome) := fun τ σ H a Q q => hy.go a fun u H1 d1 hd a1 => by
  subst hd
  obtain ⟨w, h1, h2⟩ := a1.var hs
  obtain ⟨G, g, hw⟩ := h2.top
  have hu : u = V.int x := g.temps (u, .int x) (List.mem_cons_self ..)
  subst hu
  obtain ⟨ws, e3, k3⟩ := (g.cells _ (List.mem_of_getElem? hm)).2.2.2
  refine ⟨w, h1, p, _, hw, DGet.k (k := Sum.inl x) e3, _, rfl, q _ H1 ?_ a1.pop⟩
  rcases k3.get (k := .inl x) with ⟨h3, h4⟩ | ⟨dd, vv, h3, h4, _⟩ <;> rw [h3, h4] <;> rfl
/-- x in d, d a dict that stands -/
theorem eb_dinF (hs : Ed B td ρ μ (.dk kks)) (hy : Ed B ty ρ μ (.int x)) : Eb B (tB (tDIn ty td)) ρ μ (getD' kks (.inl x)).isSome := fun τ σ H a Q q => hy.go a fun u H1 d1 hd a1 => hs.go a1 fun w H2 d2 hd2 a2 => by
  subst hd; subst hd2
  obtain ⟨G, g⟩ := id a2
  have hu : u = V.int x := g.temps (u, .int x) (List.mem_cons_of_mem _ (List.mem_cons_self ..))
  subst hu
  obtain ⟨pa, ws, rfl, e3, k3⟩ := g.temps _ (List.mem_cons_self ..)
  refine ⟨pa, _, rfl, DGet.k (k := Sum.inl x) (g.sub _ _ e3), _, rfl, q _ H2 ?_ a2.pop.pop⟩
  rcases k3.get (k := .inl x) with ⟨h3, h4⟩ | ⟨dd, vv, h3, h4, _⟩ <;> rw [h3, h4] <;> rfl
/-- d[x], d a dict that stands -/
theorem ed_dgetI (hs : Ed B td ρ μ (.dk kks)) (hy : Ed B ty ρ μ (.int x)) (hz : getD' kks (.inl x) = some d) : Ed B (tDGet td ty) ρ μ d := Ev.mk fun τ σ H a Q q => hs.go a fun w H1 d1 hd a1 => hy.go a1 fun u H2 d2 hd2 a2 => by
  subst hd; subst hd2
  obtain ⟨G, g, hu⟩ := id a2.top
  obtain ⟨pa, ws, e0, e3, k3⟩ := g.temps _ (List.mem_cons_self ..)
  have hu' : u = V.int x := hu
  subst hu'
  rcases k3.get (k := .inl x) with ⟨h3, h4⟩ | ⟨dd, vv, h3, h4, h5⟩
  · rw [hz] at h3; cases h3
  · rw [hz] at h3
    cases h3
    refine ⟨pa, vv, e0, ?_, q vv H2 _ rfl ⟨G, AtG.push { g with temps := fun t ht => g.temps t (List.mem_cons_of_mem _ ht) } h5⟩⟩
    rw [← h4]
    exact DGet.k (k := Sum.inl x) (g.sub _ _ e3)
/-- {x: y} as a dict that will change, x and y ints -/
theorem xv_disp1 {y : Int} (h1 : ∀ q, Ed B tk ρ ((q, .dk []) :: μ) (.int x)) (h2 : ∀ q, Ed B tv ρ ((q, .dk []) :: μ) (.int y)) : Xv B (tDisp [(tk, tv)]) ρ μ (fun d μ' => ∃ p, d = .raw (.ref p) ∧ μ' = (p, .dk [(.inl x, .int y)]) :: μ) := fun τ σ H a Q q => fun p hp => by
  obtain ⟨a1, _⟩ := At.newCell (c := .dk []) (o := .dK []) a hp fun G _ => ⟨[], upd_same, rfl⟩
  simp only [tPairs]
  refine (h1 p).go a1 fun u H1 d1 hd1 a2 => ?_
  subst hd1
  refine (h2 p).go a2 fun v H2 d2 hd2 a3 => ?_
  subst hd2
  obtain ⟨G0, g0⟩ := id a3
  have hu : u = V.int x := g0.temps (u, .int x) (List.mem_cons_of_mem _ (List.mem_cons_self ..))
  have hv : v = V.int y := g0.temps (v, .int y) (List.mem_cons_self ..)
  subst hu; subst hv
  obtain ⟨G, g, ws, e, k⟩ := a3.cell (j := 0) rfl
  have hw : ws = [] := k
  subst hw
  refine ⟨e, [(.inl x, .int y)], rfl, by show 1 ≤ 15; decide, ?_⟩
  have a4 := At.write (j := 0) (c' := .dk [(.inl x, .int y)]) (o := .dK (mergeK [] [(.inl x, V.int y)])) a3 rfl fun G' k' _ => ⟨_, upd_same, ⟨V.int y, [], rfl, rfl, rfl⟩⟩
  exact q _ _ _ _ ⟨p, rfl, rfl⟩ (At.flat a4.pop.pop fun _ => rfl)
/-- name += e, ints -/
theorem x_aug {i : Nat} {y : Int} (a : At B ρ μ τ σ H) (hs : ρ[i]? = some (some (.int x))) (he : Ed B te ρ μ (.int y)) (q : ∀ σ' H', At B (ρ.set i (some (.int (x + y)))) μ τ σ' H' → D0.nx σ' H') : tAug i te (ipI fun i j => i + j) D0 σ H := by
  obtain ⟨u, h1, h2⟩ := a.var hs
  obtain ⟨G, g, hu⟩ := h2.top
  have hu' : u = V.int x := hu
  subst hu'
  refine ⟨_, h1, he.go a fun v H1 d hd a1 => ?_⟩
  subst hd
  obtain ⟨G1, g1, hv⟩ := id a1.top
  have hv' : v = V.int y := hv
  subst hv'
  refine ⟨x, y, rfl, rfl, q _ _ ?_⟩
  have a2 : At B ρ μ ((V.int (x + y), .int (x + y)) :: τ) σ H1 := At.flat a1.pop fun _ => rfl
  exact a2.set i
theorem y_aug {i : Nat} {y : Int} (a : At B ρ μ τ σ H) (hs : ρ[i]? = some (some (.int x))) (he : Ed B te ρ μ (.int y)) (q : ∀ σ' H', At B (ρ.set i (some (.int (x + y)))) μ τ σ' H' → tz D0 σ' H') : tSeq (tAug i te (ipI fun i j => i + j)) tz D0 σ H := x_aug (D0 := { D0 with nx := tz D0 }) a hs he q
end
end Cal


namespace Cal
open PySem PySem.Spec PyProof.Rows L2
/-! ### enumerate of a tuple -/
theorem enumT_new (t : Addr) (its : Array Value) (n : Nat) (dd : Option Addr) (sl : Array (Option Value)) : Meets (Builtin.«enumerate.__new__» ⟨[.type "enumerate", .ref t], []⟩) fun _ R s => s.heap.get? t = some { cls := .type "tuple", dict := dd, data := .seq its n, slots := sl } ∧ R (.ok (.ret (.ref (s.heap.push { cls := .type "tuple_iterator", data := .fields #[.ref t, .int 0 0] }).objs.size))) { s with heap := (s.heap.push { cls := .type "tuple_iterator", data := .fields #[.ref t, .int 0 0] }).push { cls := .type "enumerate", data := .fields #[.none, .bool false, .ref s.heap.objs.size, rawInt 0, .none, .none] } } :=
  .of_wp fun prog w A R s hh => by
    obtain ⟨hp, g, d, tk, os⟩ := s
    obtain ⟨ht, hr⟩ := hh
    have su := sub_enumerate
    have hT : Heap.IsTuple (Shared.heap ⟨hp, g, d, tk, os⟩) t its := ⟨_, ht, rfl, n, rfl⟩
    (wp_walk using AutoSeq1.wpAny_loadPart' ht); refine wpAny_stack_any fun z => wpAny_pure ?_
    split
    · rename_i c _ _ _ _ _
      cases (c == Value.type "enumerate") <;> (wp_walk using AutoSeq1.wpAny_loadPart' ht, wpAny_pyIter_tuple hT; exact ⟨_, rfl, hr⟩)
    · (wp_walk using AutoSeq1.wpAny_loadPart' ht, wpAny_pyIter_tuple hT); exact ⟨_, rfl, hr⟩
section
variable {prog : Program} {w : World} {A : Around} {E : Value → Shared → Prop} {s : Shared}
theorem call_enumT {t : Addr} {its : Array Value} {Q : Value → Shared → Prop} (hT : s.heap.IsTuple t its)
    (h : ∀ h', IsEnum h' (s.heap.objs.size + 1) s.heap.objs.size 0 .none → h'.IsTupleIter s.heap.objs.size t 0 → (∀ b o, s.heap.get? b = some o → h'.get? b = some o) → Q (.ref (s.heap.objs.size + 1)) { s with heap := h' }) : wpAny (model prog w) A (call (.type "enumerate") [.ref t]) Q E s := by
  obtain ⟨⟨c, dd, dt, sl⟩, ht, hc, n, hd⟩ := hT
  obtain rfl : c = .type "tuple" := hc
  obtain rfl : dt = .seq its n := hd
  refine callType_new F.called_enumerate (by decide) (F.typeCall_enumerate_1 _) (F.newCall_enumerate_1 _) (fun ob => F.args_object_init_2 ob _) F.entry_enumerate_new (enumT_new t its n dd sl) ⟨ht, ?_⟩
  have z1 : (s.heap.push { cls := .type "tuple_iterator", data := .fields #[.ref t, .int 0 0] }).objs.size = s.heap.objs.size + 1 := Heap.size_push ..
  have z2 := Heap.get?_push_size (s.heap.push { cls := .type "tuple_iterator", data := .fields #[.ref t, .int 0 0] }) (o := { cls := .type "enumerate", data := .fields #[.none, .bool false, .ref s.heap.objs.size, rawInt 0, .none, .none] }) rfl
  rw [z1] at z2
  show _ ∧ _
  rw [z1]
  exact ⟨⟨_, z2, rfl⟩, h _ z2 ⟨_, Heap.get?_push_of_some _ (Heap.get?_push_size _ rfl), rfl, rfl⟩ fun b o y => Heap.get?_push_of_some _ (Heap.get?_push_of_some _ y)⟩
end
def ItE (K : PySem.W.Frag) (a : Addr) : It :=
  ⟨fun i H => ∃ (xs : List V) (x : V), SqT K H a xs ∧ xs[i]? = some x, fun i H v H' => ∃ T x, v = .ref T ∧ H T = none ∧ H' = upd H T (.tup [.int (i : Nat), x]) ∧ ∀ xs, SqT K H a xs → xs[i]? = some x, fun i H => ∃ xs : List V, SqT K H a xs ∧ xs.length ≤ i⟩
theorem tup_ne {h : Heap} {e it a : Addr} {c : Int} {old : Value} {its : Array Value} (he : IsEnum h e it c old) (ht : h.IsTuple a its) : a ≠ e := fun z => by
  obtain ⟨o, ho, hc, _⟩ := ht
  rw [z, he] at ho
  cases ho
  exact absurd hc (by simp)
theorem titer_ne {h : Heap} {it a b : Addr} {i : Nat} {its : Array Value} (hi : h.IsTupleIter it b i) (ht : h.IsTuple a its) : a ≠ it := fun z => by
  obtain ⟨o, ho, hc, _⟩ := ht
  obtain ⟨o2, ho2, hc2, _⟩ := hi
  rw [z, ho2] at ho
  cases ho
  rw [hc2] at hc
  exact absurd hc (by simp)
theorem turn_enumT {P : Program} {w : World} {K : PySem.W.Frag} {elts : List Expr} {kk : Nat} {tpos : Pos} (a e it : Addr) : Turn P w K (.Tuple elts kk tpos) (ItE K a) [e, it] e (fun i h => (∃ old, IsEnum h e it ((i : Nat) : Int) old) ∧ h.IsTupleIter it a i ∧ e ≠ it) where
  mem := by simp
  obj := fun i h st b hb => by
    obtain ⟨⟨old, he⟩, ⟨o, ho, hc, hd⟩, _⟩ := st
    rcases (show b = e ∨ b = it by simpa using hb) with z | z
    · rw [z]; exact ⟨_, he, fun v q => nomatch q⟩
    · rw [z]; exact ⟨o, ho, fun v q => by rw [hd] at q; cases q⟩
  keep := fun i h h' st k => by
    obtain ⟨⟨old, he⟩, hi, hne⟩ := st
    exact ⟨⟨old, k e (by simp) _ he⟩, hi.at fun o q => k it (by simp) o q, hne⟩
  item := by
    intro X hP hw hK hc i pins s σ H E I hf st hg
    subst hP hw hK
    obtain ⟨⟨old, he⟩, hit, hne⟩ := st
    obtain ⟨xs, x, hq, hx⟩ := hg
    obtain ⟨its, rv, p, hz⟩ := I.tuple hq
    obtain ⟨u, hu, ru⟩ := rv.get hx
    have pT : s.heap.IsTuple a its.toArray := p
    have la : e < s.heap.objs.size := Heap.lt_size he
    have lb : it < s.heap.objs.size := hit.elim fun _ q => Heap.lt_size q.1
    have hlt : i < its.toArray.size := by
      have := (List.getElem?_eq_some_iff.mp hu).1
      simpa using this
    refine wpAny_pyNext_enum_itemD (fp := [it, a]) (Draws.tuple (A := X.A.in1) (I.ok.hd hc) it a (titer_ne hit pT) its.toArray) he ⟨hit, pT⟩ hlt hne (by simp [hne, (tup_ne he pT).symm]) fun y h' tk hy ho hst hT hsz hk => ?_
    have ey : y = u := by
      have : its.toArray[i]? = some u := by simpa using hu
      rw [this] at hy
      exact (Option.some.inj hy).symm
    subst ey
    refine ⟨_, rfl, wpAny_letOwnedTupleGo_enum (s := { s with heap := h', toks := tk + 1 }) ho fun h2 he2 sb => ?_⟩
    have t2 : h2.get? s.heap.objs.size = some { cls := .type "tuple", data := .seq #[.int i tk, y] } := (sb.2 _ (Nat.ne_of_gt la)).trans hT
    have nw : ObjOk X.prog X.w (upd H s.heap.objs.size (.tup [.int (i : Nat), x])) h2 s.heap.objs.size (.tup [.int (i : Nat), x]) := ⟨by show 2 ≤ sizeLine; decide, [.int i tk, y], .cons ⟨_, rfl⟩ (.cons ru .nil), ⟨_, t2, rfl, _, rfl⟩⟩
    have I1 : Inv X pins σ (upd H s.heap.objs.size (.tup [.int (i : Nat), x])) { s with heap := h2, toks := tk + 1 } := I.turnedNew (ch := [e, it]) (fun b ob hb q => (sb.2 b (fun z => hb (by simp [z]))).trans (hk b ob (fun z => hb (by simp [z])) (fun z => hb (by simp [z])) q)) hf (Nat.le_refl _) nw
    refine ⟨.ref s.heap.objs.size, _, I1, rfl, ⟨_, x, rfl, I.hok.fresh (Nat.le_refl _), rfl, fun ys hy => by rw [I.tuple_inj hy hq]; exact hx⟩, ⟨⟨y, ?_⟩, hst.1.at fun o q => (sb.2 it (Ne.symm hne)).trans q, hne⟩, fun b hb => ?_⟩
    · rw [show ((i + 1 : Nat) : Int) = (i : Int) + 1 by omega]; exact he2
    · have lt : b < s.heap.objs.size := by
        rcases (show b = e ∨ b = it by simpa using hb) with z | z <;> rw [z] <;> assumption
      rw [upd_ne (Nat.ne_of_lt lt)]; exact (hf b hb).1
  done := by
    intro X hP hw hK hc i pins s σ H E I hf st hg
    subst hP hw hK
    obtain ⟨⟨old, he⟩, hit, hne⟩ := st
    obtain ⟨xs, hq, hx⟩ := hg
    obtain ⟨its, rv, p, hz⟩ := I.tuple hq
    have pT : s.heap.IsTuple a its.toArray := p
    have hl := rv.length
    have hn : its.toArray[i]? = none := by
      rw [List.getElem?_toArray]
      exact List.getElem?_eq_none (by omega)
    obtain ⟨f0, f1, f2, f3, f4, f5⟩ := hf it (by simp)
    have D : Draws X.prog X.w X.A.in1 it [it, a] i (fun _ _ => True) (fun j h => j = i ∧ h.IsTupleIter it a i ∧ h.IsTuple a its.toArray) :=
      ⟨fun _ _ st => st.2.1.elim fun o q => ⟨o, q.1⟩, fun _ _ _ st hk => ⟨st.1, st.2.1.at fun o q => hk it (by simp) o q, st.2.2.at fun o q => hk a (by simp) o q⟩, fun j s Q E hj st _ => absurd st.1 (Nat.ne_of_lt hj), fun s Q E st hE => wpAny_nextOf_tuple_end (I.ok.hd hc) st.2.1 st.2.2 hn hE⟩
    exact wpAny_pyNext_enum_endD D he ⟨rfl, hit, pT⟩ fun h' eb => ⟨rfl, I.turned (t' := s.toks) (fun b o hb q => eb b o hb q) f0 f1 f3 f4 f5⟩
  self := fun A i s Q E st h => let ⟨⟨_, he⟩, _⟩ := st; wpAny_pyIter_enum he h
def iEnumT (K : PySem.W.Frag) (ta : TA) : TI := fun σ H R => ta σ H fun vs H1 => ∃ a xs, vs = [.ref a] ∧ SqT K H1 a xs ∧ R (ItE K a) H1
theorem pi_enumT {X : Cx} {e : Expr} {ta : TA} {p pos tpos : Pos} {elts : List Expr} {kk : Nat} (hg : Gl X "enumerate") (hm : X.mg "enumerate" = none) (ha : PA X [e] ta) (hs : starEach [e] X.env = [(false, eval e X.env)] := by rfl) : PI X (.Tuple elts kk tpos) (.Call (.Name "enumerate" p) [e] [] pos) (iEnumT X.K ta) := by
  refine ⟨fun pins s σ H R I h => Call_ (ld_blt I hg hm boot_enumerate (PyProof.Rows.callWith_type1 (thn (ha.run pos pins s σ H _ I h) fun us s1 ⟨vs, H1, I1, r1, q1⟩ => ?_) hs rfl))⟩
  obtain ⟨a, xs, rfl, hq, q⟩ := q1
  obtain ⟨u, rfl, rx⟩ := vals1 r1
  cases rx
  obtain ⟨its, rv, pt, hz⟩ := I1.tuple hq
  refine call_enumT (show s1.heap.IsTuple a its.toArray from pt) fun h' he hit hk => wpAny_pyIter_enum he ?_
  refine ⟨s1.heap.objs.size + 1, [s1.heap.objs.size + 1, s1.heap.objs.size], _, _, H1, rfl, I1.kept (t' := s1.toks) hk, turn_enumT a (s1.heap.objs.size + 1) s1.heap.objs.size, ⟨⟨.none, he⟩, hit, Nat.succ_ne_self _⟩, fun b hb => ?_, q⟩
  have hb' : s1.heap.objs.size ≤ b := by
    rcases (show b = s1.heap.objs.size + 1 ∨ b = s1.heap.objs.size by simpa using hb) with z | z
    · rw [z]; exact Nat.le_add_right _ _
    · rw [z]; exact Nat.le_refl _
  exact I1.fpOk hb' (I1.hok.fresh hb')
theorem ei_enumT {B : Bs} {ρ : Ro} {μ : Mu} {ds : List D} {t : TA} (h : Ea B t ρ μ (fun l => l = [.tup ds])) : Ei B (iEnumT B.K t) ρ μ ds.length (fun i => .tup [.int i, ds.getD i .non]) := fun τ σ H a Rr q => h τ σ H a _ fun vs H1 l hl hlen a1 => by
  subst hl
  obtain ⟨G, g, k⟩ := id (a1.args hlen)
  obtain ⟨v, rfl, p, xs, rfl, e1, k1⟩ := one_arg k
  refine ⟨p, xs, rfl, .inl (.inl (g.sub _ _ e1)), q _ H1 _ (fun z hz => List.mem_append_right _ hz) a1 fun i ρ' μ' τ' σ' H' hsub a2 => ?_⟩
  obtain ⟨G2, g2⟩ := id a2
  obtain ⟨q1, xs', c1, e3, k3⟩ := g2.temps (V.ref p, .tup ds) (hsub _ (by simp))
  cases c1
  have s1 : SqT B.K H' p xs' := .inl (.inl (g2.sub _ _ e3))
  refine ⟨fun hi => ⟨xs', s1, by rw [k3.length]; omega⟩, fun hi => ?_⟩
  obtain ⟨x, hx, dx⟩ := k3.get (getD_of (show i < ds.length by omega))
  refine ⟨⟨xs', x, s1, hx⟩, fun z H2 hz => ?_⟩
  obtain ⟨T, x1, rfl, nT, rfl, f1⟩ := hz
  have ex : x = x1 := Option.some.inj (hx.symm.trans (f1 _ s1))
  subst ex
  exact g2.newTup nT ⟨_, _, rfl, rfl, x, _, rfl, dx, rfl⟩
end Cal


namespace Cal
open PySem PySem.Spec PyProof.Rows L2
/-! ### over data: sorted(set(l)), dict(list(zip(..))), lists of new lists -/
theorem perm_mem {α : Type} [DecidableEq α] : ∀ (l ys : List α), l.Nodup → (∀ k ∈ l, k ∈ ys) → ys.length ≤ l.length → ys.Perm l
  | [], ys, _, _, h => by
    have : ys = [] := List.eq_nil_of_length_eq_zero (Nat.le_zero.mp h)
    rw [this]
  | x :: r, ys, nd, hm, h => by
    obtain ⟨n1, n2⟩ := List.nodup_cons.mp nd
    have hx := hm x (List.mem_cons_self ..)
    have p1 := List.perm_cons_erase hx
    have l1 : (ys.erase x).length + 1 = ys.length := by rw [List.length_erase_of_mem hx]; have := List.length_pos_of_mem hx; omega
    have p2 := perm_mem r (ys.erase x) n2 (fun k hk => by
      have hne : k ≠ x := fun e => n1 (e ▸ hk)
      exact (List.mem_erase_of_ne hne).mpr (hm k (List.mem_cons_of_mem _ hk))) (by rw [List.length_cons] at h; omega)
    exact p1.trans (p2.cons x)
theorem atI_of2 {α : Type} {ds : List α} {x : Int} {d : α} (h0 : 0 ≤ x) (h : ds[x.toNat]? = some d) : atI ds x = some d := by
  have hl := (List.getElem?_eq_some_iff.mp h).1
  unfold atI ixN
  rw [if_pos h0, if_pos (by omega)]
  exact h
theorem mergeK_nd : ∀ (more kvs : List (Key × V)), ((kvs ++ more).map (·.1)).Nodup → mergeK kvs more = kvs ++ more
  | [], kvs, _ => by rw [List.append_nil]; rfl
  | p :: r, kvs, h => by
    have h2 : (kvs ++ [p] ++ r) = kvs ++ p :: r := by rw [List.append_assoc]; rfl
    have e : putK kvs p.1 p.2 = kvs ++ [p] := by
      unfold putK
      rw [if_neg]
      intro z
      obtain ⟨q, hq, e⟩ := List.any_eq_true.mp z
      have e := of_decide_eq_true e
      rw [List.map_append, List.map_cons] at h
      exact (List.nodup_append.mp h).2.2 q.1 (List.mem_map.mpr ⟨q, hq, rfl⟩) p.1 (List.mem_cons_self ..) e
    show mergeK (putK kvs p.1 p.2) r = _
    rw [e, mergeK_nd r (kvs ++ [p]) (by rw [h2]; exact h), h2]
section
variable {B : Bs} {ρ : Ro} {μ : Mu} {τ : List (V × D)} {σ : L2.St} {H G : Hp} {te ta tb td ty : TE} {P : D → Prop} {R : D → Mu → Prop} {d d1 d2 : D} {ds es : List D} {D0 : Ends} {tz : TS} {k l : Nat} {Pg : Program} {w : World} {kks : List (Key × D)} {x : Int} {is : List Int}
theorem AtG.newDk {kvs : List (Key × V)} {p : Addr} (h : AtG B ρ μ τ σ H G) (hp : H p = none) (k : DtK B.K G kks kvs) : At B ρ μ ((.ref p, .dk kks) :: τ) σ (upd H p (.dK kvs)) := by
  obtain ⟨h', s⟩ := h.new (o := .dK kvs) hp
  exact ⟨_, h'.push ⟨p, kvs, rfl, upd_same, DtK.mono s kks k⟩⟩
theorem ev_sortSetD {ks : List Str} (h : Ed B te ρ μ (.lst (ks.map D.str))) (few : (runT ks).length < 64) :
    Ev B (tCB (rSortedTx Pg w) (tCons (tCB (rSetD B.K Pg w) (tCons te tNil)) tNil)) ρ μ (fun e => ∃ ys : List Str, e = .lst (ys.map D.str) ∧ sortedS ys = true ∧ (∀ k, k ∈ ys ↔ k ∈ ks) ∧ ys.Perm (runT ks)) := Ev.mk fun τ σ H a Q q => h.go a fun v H1 d hd a1 => by
  subst hd
  obtain ⟨G, g, p, vs, rfl, e, k⟩ := id a1.top
  have hs : SqL B.K H1 p (ks.map V.str) := by rw [← k.strs]; exact .inl (.inl (g.sub _ _ e))
  refine ⟨p, ks, rfl, hs, few, fun a' ha' => ?_⟩
  refine ⟨a', runT ks, rfl, upd_same, few, fun ys p2 h1 h2 h3 hp2 => ?_⟩
  obtain ⟨g2, _⟩ := g.new (o := SetT Pg w a' (runT ks)) ha'
  exact q _ _ _ ⟨ys, rfl, h1, fun k => by rw [h2 k, runT_mem], perm_mem _ _ (runT_nd ks) (fun k hk => (h2 k).mpr hk) (by omega)⟩ (g2.newLst hp2 (DtA.of_strs ys))
theorem ev_sortSetI (h : Ed B te ρ μ (.lst (is.map D.int))) (few : is.length < 60) :
    Ev B (tCB (rSortedSet w) (tCons (tCB (rSetDI B.K w) (tCons te tNil)) tNil)) ρ μ (fun e => ∃ ys : List Int, e = .lst (ys.map D.int) ∧ ys.Pairwise (· < ·) ∧ ∀ k, k ∈ ys ↔ k ∈ is) := Ev.mk fun τ σ H a Q q => h.go a fun v H1 d hd a1 => by
  subst hd
  obtain ⟨G, g, p, vs, rfl, e, k⟩ := id a1.top
  have hs : SqL B.K H1 p (is.map V.int) := by rw [← k.ints]; exact .inl (.inl (g.sub _ _ e))
  refine ⟨p, is, rfl, hs, few, fun a' c hc ha' => ?_⟩
  refine ⟨a', _, c, rfl, upd_same, by omega, fun ys p2 h1 h2 h3 hp2 => ?_⟩
  obtain ⟨g2, _⟩ := g.new (o := SetO w a' (fun j => decide (j ∈ is)) c) ha'
  exact q _ _ _ ⟨ys, rfl, h1, fun k => by rw [h2 k, decide_eq_true_eq]⟩ (g2.newLst hp2 (DtA.of_ints ys))
/-- texts as keys, texts as values -/
def txtK (ks ns : List Str) : List (Key × D) := List.zipWith (fun k n => (.inr k, .str n)) ks ns
theorem ev_dictZip {ks : List Str} {Pn : List Str → Prop} (h1 : Ed B ta ρ μ (.lst (ks.map D.str))) (nd : ks.Nodup) (h2 : Ev B tb ρ μ fun d => ∃ ns : List Str, d = .lst (ns.map D.str) ∧ ns.length = ks.length ∧ Pn ns) :
    Ev B (tDictZip B.K (tCons ta (tCons tb tNil))) ρ μ (fun d => ∃ ns : List Str, d = .dk (txtK ks ns) ∧ ns.length = ks.length ∧ Pn ns) := Ev.mk fun τ σ H a Q q => h1.go a fun v H1 d hd a1 => h2.go a1 fun v2 H2 d2 hd2 a2 => by
  subst hd
  obtain ⟨ns, rfl, hl, hn⟩ := hd2
  obtain ⟨G, g⟩ := id a2
  obtain ⟨p, vs, rfl, e1, k1⟩ := g.temps (v, .lst (ks.map D.str)) (List.mem_cons_of_mem _ (List.mem_cons_self ..))
  obtain ⟨p2, vs2, rfl, e2, k2⟩ := g.temps (v2, .lst (ns.map D.str)) (List.mem_cons_self ..)
  have s1 := k1.strs
  have s2 := k2.strs
  subst s1; subst s2
  have m1 : ∀ (ks ns : List Str), ns.length = ks.length → (List.zipWith (fun k n => ((.inr k : Key), V.str n)) ks ns).map (fun kv => kV kv.1) = ks.map V.str ∧ (List.zipWith (fun k n => ((.inr k : Key), V.str n)) ks ns).map (·.2) = ns.map V.str ∧ (List.zipWith (fun k n => ((.inr k : Key), V.str n)) ks ns).map (·.1) = ks.map Sum.inr ∧ DtK B.K G (txtK ks ns) (List.zipWith (fun k n => ((.inr k : Key), V.str n)) ks ns) := by
    intro ks
    induction ks with
    | nil => intro ns h; cases ns with
      | nil => exact ⟨rfl, rfl, rfl, rfl⟩
      | cons n r => simp at h
    | cons k r ih => intro ns h; cases ns with
      | nil => simp at h
      | cons n ns =>
        obtain ⟨f1, f2, f3, f4⟩ := ih ns (by simpa using h)
        exact ⟨congrArg (V.str k :: ·) f1, congrArg (V.str n :: ·) f2, congrArg ((Sum.inr k : Key) :: ·) f3, ⟨V.str n, _, rfl, rfl, f4⟩⟩
  obtain ⟨f1, f2, f3, f4⟩ := m1 ks ns hl
  refine ⟨p, p2, List.zipWith (fun k n => ((.inr k : Key), V.str n)) ks ns, rfl, by rw [f1]; exact .inl (.inl (g.sub _ _ e1)), by rw [f2]; exact .inl (.inl (g.sub _ _ e2)), fun p3 hp3 => ?_⟩
  rw [mergeK_nd _ [] (by rw [List.nil_append, f3]; exact List.pairwise_map.mpr (nd.imp fun h e => h (Sum.inr.inj e))), List.nil_append]
  exact q _ _ _ ⟨ns, rfl, hl, hn⟩ (At.sub (AtG.newDk g hp3 f4) fun z hz => by
    rcases List.mem_cons.mp hz with e | hz
    · rw [e]; exact List.mem_cons_self ..
    · exact List.mem_cons_of_mem _ (List.mem_cons_of_mem _ (List.mem_cons_of_mem _ hz)))
theorem txtK_get : ∀ (ks ns : List Str) (s : Str), ns.length = ks.length → s ∈ ks → ∃ n ∈ ns, getD' (txtK ks ns) (.inr s) = some (.str n) := by
  intro ks
  induction ks with
  | nil => intro ns s _ h; cases h
  | cons k r ih => intro ns s hl h; cases ns with
    | nil => simp at hl
    | cons n ns =>
      by_cases e : k = s
      · subst e
        exact ⟨n, List.mem_cons_self .., by unfold txtK getD'; simp⟩
      · have hs : s ∈ r := by
          rcases List.mem_cons.mp h with z | z
          · exact absurd z.symm e
          · exact z
        obtain ⟨m, hm, g⟩ := ih ns s (by simpa using hl) hs
        refine ⟨m, List.mem_cons_of_mem _ hm, ?_⟩
        rw [← g]
        unfold txtK getD'
        simp [e]
/-- [[], []] -/
theorem xl_two : Xv B (tLst (tCons (tLst tNil) (tCons (tLst tNil) tNil))) ρ μ fun d μ' => ∃ p p0 p1, d = rr p ∧ μ' = (p, .lst ([p0, p1].map rr)) :: (rowsMu [p0, p1] [[], []] ++ μ) := fun τ σ H a Q q => by
  refine ⟨Nat.zero_le _, fun p0 hp0 => ⟨Nat.zero_le _, fun p1 hp1 => ⟨by show 2 ≤ _; decide, fun p hp => ?_⟩⟩⟩
  obtain ⟨a0, _⟩ := At.newCell (c := .lst []) (o := .lst []) a hp0 fun G _ => ⟨[], upd_same, rfl⟩
  obtain ⟨a1, _⟩ := At.newCell (c := .lst []) (o := .lst []) a0 hp1 fun G _ => ⟨[], upd_same, rfl⟩
  obtain ⟨a2, _⟩ := At.newCell (c := .lst [rr p0, rr p1]) (o := .lst [.ref p0, .ref p1]) a1 hp fun G _ => ⟨_, upd_same, _, _, rfl, rfl, _, _, rfl, rfl, rfl⟩
  exact q _ _ _ _ ⟨p, p0, p1, rfl, rfl⟩ (At.flat (At.perm a2 ((List.Perm.swap _ _ _).cons _)) fun _ => rfl)
theorem xv_tup2 (h1 : Ed B ta ρ μ d1) (h2 : Xv B tb ρ μ R) : Xv B (tTup (tCons ta (tCons tb tNil))) ρ μ fun d μ' => ∃ d2, d = .tup [d1, d2] ∧ R d2 μ' := fun τ σ H a Q q => h1.go a fun v1 H1 d hd a1 => h2 _ σ H1 a1 _ fun v2 H2 d2 μ' hr a2 => by
  subst hd
  refine ⟨by show 2 ≤ _; decide, fun p hp => q _ _ _ _ ⟨d2, rfl, hr⟩ ?_⟩
  obtain ⟨G, g⟩ := id a2
  exact At.sub (AtG.newTup (ds := [d, d2]) g hp ⟨v1, [v2], rfl, g.temps (v1, d) (List.mem_cons_of_mem _ (List.mem_cons_self ..)), v2, [], rfl, g.temps (v2, d2) (List.mem_cons_self ..), rfl⟩) fun z hz => by
    rcases List.mem_cons.mp hz with e | hz
    · rw [e]; exact List.mem_cons_self ..
    · exact List.mem_cons_of_mem _ (List.mem_cons_of_mem _ (List.mem_cons_of_mem _ hz))
/-- a, b = an expression that makes cells -/
theorem y_asgX2 (a : At B ρ μ τ σ H) (he : Xv B te ρ μ R) (hR : ∀ d μ', R d μ' → ∃ d1 d2, d = .tup [d1, d2]) (q : ∀ d1 d2 μ' σ' H', R (.tup [d1, d2]) μ' → At B ((ρ.set k (some d1)).set l (some d2)) μ' τ σ' H' → tz D0 σ' H') : tSeq (tAsg te (gTup B.K 2 (gCons (gName k) (gCons (gName l) gNil)))) tz D0 σ H :=
  he τ σ H a _ fun v H1 d μ' hd a1 => by
    obtain ⟨d1, d2, rfl⟩ := hR d μ' hd
    exact gd_tup2 τ σ H1 v a1 _ fun σ' a2 _ _ => q d1 d2 μ' σ' H1 hd a2
/-- l.index(x), ints, x in l -/
theorem ed_index (h1 : Ed B ta ρ μ (.lst (is.map .int))) (h2 : Ed B tb ρ μ (.int x)) (hx : x ∈ is) : Ed B (tBM B.K "list" (rIndex B.K) ta (tCons tb tNil)) ρ μ (.int ((is.idxOf x : Nat) : Int)) := Ev.mk fun τ σ H a Q q => h1.go a fun v H1 d hd a1 => by
  subst hd
  obtain ⟨G, g, p, vs, rfl, e, k⟩ := id a1.top
  refine ⟨.inl ⟨rfl, _, .inl (.inl (g.sub _ _ e))⟩, h2.go a1 fun u H2 d hd a2 => ?_⟩
  subst hd
  obtain ⟨G2, g2⟩ := id a2
  have hu : u = V.int x := g2.temps (u, .int x) (List.mem_cons_self ..)
  subst hu
  obtain ⟨p', vs', ep, e2, k2⟩ := g2.temps (V.ref p, .lst (is.map .int)) (List.mem_cons_of_mem _ (List.mem_cons_self ..))
  cases ep
  have s2 := k2.ints
  subst s2
  have jl : is.idxOf x < is.length := List.idxOf_lt_length_of_mem hx
  refine ⟨p, is.map V.int, .int x, is.idxOf x, .int x, rfl, rfl, .inl (.inl (g2.sub _ _ e2)), rfl, by rw [List.all_map]; exact List.all_eq_true.mpr fun _ _ => rfl, ?_, ?_, fun m z' hm hz => ?_, q _ _ _ rfl (At.flat (At.pop (At.pop a2)) fun _ => rfl)⟩
  · rw [List.getElem?_map, List.getElem?_eq_getElem jl, List.getElem_idxOf]
    rfl
  · show (x == x) = true
    exact beq_self_eq_true x
  · rw [List.getElem?_map] at hz
    have ml : m < is.length := by omega
    rw [List.getElem?_eq_getElem ml] at hz
    cases hz
    show (is[m] == x) = false
    have := List.not_of_lt_findIdx (p := (· == x)) (xs := is) hm
    simpa using this
/-- x not in l, ints -/
theorem rd_notInL {i : Int} : RD B (rIn B.K true) ρ μ (.int i) (.lst (is.map .int)) (fun e => e = .bl (!decide (i ∈ is))) := fun τ σ H x y a Q q => by
  obtain ⟨G, g, hx, ⟨p, vs, rfl, e1, k1⟩⟩ := a.two
  have hx' : x = V.int i := hx
  have hv := k1.ints
  subst hx'; subst hv
  refine ⟨p, _, rfl, .inl (.inl (.inl (g.sub _ _ e1))), rfl, by rw [List.all_map]; exact List.all_eq_true.mpr fun _ _ => rfl, ?_⟩
  have e : inV (.int i) (is.map V.int) = decide (i ∈ is) := by
    unfold inV
    rw [List.any_map]
    by_cases h : i ∈ is
    · rw [decide_eq_true h]
      exact List.any_eq_true.mpr ⟨i, h, by show (i == i) = true; exact beq_self_eq_true i⟩
    · rw [decide_eq_false h]
      refine List.any_eq_false.mpr fun y hy z => h ?_
      have z' : (y == i) = true := z
      rw [← eq_of_beq z']; exact hy
  show Q (.bl (!inV (.int i) (is.map V.int))) H
  rw [e]
  exact q _ H _ rfl (At.flat ⟨G, g⟩ fun _ => rfl)
/-- zip of two lists -/
theorem ei_zipL {t : TA} (h : Ea B t ρ μ (fun l => l = [.lst ds, .lst es])) : Ei B (RZ.iZipA B.K t) ρ μ (min ds.length es.length) (fun i => .tup [ds.getD i .non, es.getD i .non]) := fun τ σ H a Rr q => h τ σ H a _ fun vs H1 l hl hlen a1 => by
  subst hl
  obtain ⟨G, g, k⟩ := id (a1.args hlen)
  obtain ⟨v, w, rfl, ⟨p, xs, rfl, e1, k1⟩, ⟨p', ys, rfl, e2, k2⟩⟩ := two_args k
  refine ⟨p, p', xs, ys, rfl, .inl ⟨.inl (.inl (g.sub _ _ e1)), .inl (.inl (g.sub _ _ e2)), ?_⟩⟩
  refine q _ H1 _ (fun z hz => List.mem_append_right _ hz) a1 fun i ρ' μ' τ' σ' H' hsub a2 => ?_
  obtain ⟨G2, g2⟩ := id a2
  obtain ⟨q1, xs', c1, e3, k3⟩ := g2.temps (V.ref p, .lst ds) (hsub _ (by simp))
  obtain ⟨q2, ys', c2, e4, k4⟩ := g2.temps (V.ref p', .lst es) (hsub _ (by simp))
  cases c1; cases c2
  have s1 : SqL B.K H' p xs' := .inl (.inl (g2.sub _ _ e3))
  have s2 : SqL B.K H' p' ys' := .inl (.inl (g2.sub _ _ e4))
  refine ⟨fun hi => ⟨xs', ys', s1, s2, by rw [k3.length, k4.length]; omega⟩, fun hi => ?_⟩
  obtain ⟨x, hx, dx⟩ := k3.get (getD_of (show i < ds.length by omega))
  obtain ⟨y, hy, dy⟩ := k4.get (getD_of (show i < es.length by omega))
  refine ⟨⟨xs', ys', x, y, s1, s2, hx, hy⟩, fun z H2 hz => ?_⟩
  obtain ⟨T, x1, y1, rfl, nT, rfl, f1, f2⟩ := hz
  have ex : x = x1 := Option.some.inj (hx.symm.trans (f1 _ s1))
  have ey : y = y1 := Option.some.inj (hy.symm.trans (f2 _ s2))
  subst ex; subst ey
  exact g2.newTup nT ⟨x, _, rfl, dx, y, _, rfl, dy, rfl⟩
/-- name, (one, other) = a value -/
theorem gd_tup12 {d3 : D} {m : Nat} : Gd B (gTup B.K 2 (gCons (gName k) (gCons (gTup B.K 2 (gCons (gName l) (gCons (gName m) gNil))) gNil))) ρ μ (.tup [d1, .tup [d2, d3]]) (((ρ.set k (some d1)).set l (some d2)).set m (some d3)) [k, l, m] := fun τ σ H v a Q q => by
  obtain ⟨G, g, p, vs, rfl, e, u, r, rfl, hu, w, r', rfl, hw, rfl⟩ := a.top
  obtain ⟨p', vs', rfl, e', u', r', rfl, hu', w', r'', rfl, hw', rfl⟩ := id hw
  refine ⟨p, [u, .ref p'], rfl, .inl (.inl (g.sub _ _ e)), rfl, u, [.ref p'], rfl, .ref p', [], rfl, ?_⟩
  refine ⟨p', [u', w'], rfl, .inl (.inl (g.sub _ _ e')), rfl, u', [w'], rfl, w', [], rfl, rfl, ?_⟩
  refine ⟨rfl, ?_⟩
  refine q _ (At.set m (At.set (τ := (w', d3) :: τ) l (At.set (τ := (u', d2) :: (w', d3) :: τ) k ⟨G, ((g.push hw').push hu').push hu⟩))) (by rw [List.length_set, List.length_set, List.length_set]) fun i hi => ?_
  rw [List.getElem?_set_ne (fun z => hi (by rw [z]; simp)), List.getElem?_set_ne (fun z => hi (by rw [z]; simp)), List.getElem?_set_ne (fun z => hi (by rw [z]; simp))]
/-- a row of a list of lists gets an item more, which an expression makes that changes other lists -/
theorem x_rowAppX {pk : Addr} {ls : List Addr} {rows : List (List D)} {μ0 : Mu} {ja : Nat} {ti : TE} {R0 : D → Mu → Prop} (a : At B ρ ((pk, .lst (ls.map rr)) :: (rowsMu ls rows ++ μ0)) τ σ H) (hl : ls.length = rows.length) (hk : ρ[ja]? = some (some (rr pk)))
    (hx : Ed B ti ρ ((pk, .lst (ls.map rr)) :: (rowsMu ls rows ++ μ0)) (.int x)) (b1 : 0 ≤ x) (b2 : x < rows.length) (he : Xv B te ρ ((pk, .lst (ls.map rr)) :: (rowsMu ls rows ++ μ0)) fun d μ' => ∃ μ1, μ' = (pk, .lst (ls.map rr)) :: (rowsMu ls rows ++ μ1) ∧ R0 d μ1) (hz : (rows.getD x.toNat []).length < 100000)
    (q : ∀ d μ1 H', R0 d μ1 → At B ρ ((pk, .lst (ls.map rr)) :: (rowsMu ls (rows.set x.toNat (rows.getD x.toNat [] ++ [d])) ++ μ1)) τ σ H' → D0.nx σ H') :
    tDrop (tBM B.K "list" rAppend (tOp (rIx B.K) (tVar ja) ti) (tCons te tNil)) D0 σ H := by
  have hxr : x.toNat < rows.length := by omega
  have hxl : x.toNat < ls.length := by omega
  have el : ls[x.toNat]? = some ls[x.toNat] := List.getElem?_eq_getElem hxl
  have er : rows[x.toNat]? = some (rows.getD x.toNat []) := by rw [List.getD_eq_getElem?_getD, List.getElem?_eq_getElem hxr]; rfl
  have hg := rowsMu_get el er
  have hgl := (List.getElem?_eq_some_iff.mp hg).1
  refine x_append (k := x.toNat + 1) (ds := rows.getD x.toNat []) (R := fun d μ' => ∃ μ1, μ' = (pk, .lst (ls.map rr)) :: (rowsMu ls rows ++ μ1) ∧ R0 d μ1) a (ho_of (ed_op (ed_var hk) hx (rd_ixC (k := 0) rfl (atI_of2 b1 (by rw [List.getElem?_map, el]; rfl))))) (by rw [List.getElem?_cons_succ, List.getElem?_append_left hgl]; exact hg) he (fun d μ' ⟨μ1, e, _⟩ => by rw [e, List.getElem?_cons_succ, List.getElem?_append_left hgl]; exact hg) hz fun d μ' H4 ⟨μ1, e1, e2⟩ a4 => ?_
  subst e1
  have e3 : (((pk, Cl.lst (ls.map rr)) :: (rowsMu ls rows ++ μ1)).set (x.toNat + 1) (ls[x.toNat], .lst (rows.getD x.toNat [] ++ [d]))) = (pk, .lst (ls.map rr)) :: (rowsMu ls (rows.set x.toNat (rows.getD x.toNat [] ++ [d])) ++ μ1) := by
    rw [List.set_cons_succ, List.set_append_left _ _ hgl, rowsMu_set el]
  rw [e3] at a4
  exact q d μ1 H4 e2 a4
/-- for over a target of several names -/
theorem x_forG {wi : TI} {n : Nat} {f : Nat → D} {tb : TS} {g : TG} {js : List Nat} {ρf : Nat → Ro → Ro} (a : At B ρ μ τ σ H) (hi : Ei B wi ρ μ n f) (Inv : Nat → Ro → Mu → Prop) (h0 : Inv 0 ρ μ) (hg : ∀ i ρ' μ', i < n → Inv i ρ' μ' → Gd B g ρ' μ' (f i) (ρf i ρ') js)
    (hs : ∀ i ρ' μ' τ1 σ' H' (Dn : Ends), i < n → Inv i ρ' μ' → At B (ρf i ρ') μ' τ1 σ' H' → (∀ ρ2 μ2 σ2 H2, Inv (i + 1) ρ2 μ2 → At B ρ2 μ2 τ1 σ2 H2 → Dn.nx σ2 H2) → tb Dn σ' H')
    (hd : ∀ ρ' μ' σ' H', Inv n ρ' μ' → At B ρ' μ' τ σ' H' → D0.nx σ' H') : tFor wi g tb D0 σ H :=
  x_for (js := js) a hi Inv h0 (fun i ρ' μ' τ1 σ' H' v Dn hi hI hsub a1 h1 h2 h3 h4 => hg i ρ' μ' hi hI τ1 σ' H' v a1 _ fun σ2 a2 _ _ => hs i ρ' μ' τ1 σ2 H' Dn hi hI a2 h1) hd
theorem y_forG {wi : TI} {n : Nat} {f : Nat → D} {tb : TS} {g : TG} {js : List Nat} {ρf : Nat → Ro → Ro} (a : At B ρ μ τ σ H) (hi : Ei B wi ρ μ n f) (Inv : Nat → Ro → Mu → Prop) (h0 : Inv 0 ρ μ) (hg : ∀ i ρ' μ', i < n → Inv i ρ' μ' → Gd B g ρ' μ' (f i) (ρf i ρ') js)
    (hs : ∀ i ρ' μ' τ1 σ' H' (Dn : Ends), i < n → Inv i ρ' μ' → At B (ρf i ρ') μ' τ1 σ' H' → (∀ ρ2 μ2 σ2 H2, Inv (i + 1) ρ2 μ2 → At B ρ2 μ2 τ1 σ2 H2 → Dn.nx σ2 H2) → tb Dn σ' H')
    (hd : ∀ ρ' μ' σ' H', Inv n ρ' μ' → At B ρ' μ' τ σ' H' → tz D0 σ' H') : tSeq (tFor wi g tb) tz D0 σ H := x_forG (D0 := { D0 with nx := tz D0 }) a hi Inv h0 hg hs hd
end
/-- l.index(x) within a comprehension -/
theorem pe_indexK {X : Cx} {K : PySem.W.Frag} {o e : Expr} {es : List Expr} {to : TE} {t : TA} {apos cpos : Pos} (hK : X.K = K) (ho : PE X o to) (ha : PA X (e :: es) t)
    (hbase : attributeBase o "index" X.env (eval o X.env) = eval o X.env := by rfl)
    (hfew : ((backTo cpos (starEach (e :: es) X.env)).all (fun x => !x.1) && (backToKw cpos (keywordEach [] X.env)).all (fun x => x.1.isSome)
      && decide ((e :: es).length + ([] : List Keyword).length + (if ([] : List Keyword).isEmpty then 0 else 1) < 30)) = true := by rfl)
    (hline : (apos.endLine == cpos.line) = true := by rfl) (hs : starEach (e :: es) X.env = (false, eval e X.env) :: starEach es X.env := by rfl) (hplain : (backTo cpos (starEach es X.env)).any (·.1) = false := by rfl) :
    PE X (.Call (.Attribute o "index" apos) (e :: es) [] cpos) (tBM K "list" (rIndex K) to t) := hK ▸ pe_bm PySem.F.plainAttrs_list PySem.F.slot_list_index PySem.F.type_list_index mt_index ho ha hbase hfew hline hs hplain
end Cal


/-! Own text: l.extend(t), t a tuple. -/
namespace Cal
open PySem PySem.Spec PyProof.Rows L2
theorem ext_tup (l : Addr) (as : Array Value) (n : Nat) (t : Addr) (bs : Array Value) (m : Nat) (dd : Option Addr) (sl : Array (Option Value)) (h0 : (!as.isEmpty && Builtin.List.listTooLong (as.size + bs.size)) = false) (h1 : as.size + bs.size ≤ sizeLine) :
    Meets (Builtin.«list.extend» ⟨[.ref l, .ref t], []⟩) (fun _ R s => s.heap.get? l = some { cls := .type "list", data := .seq as n } ∧ s.heap.get? t = some { cls := .type "tuple", dict := dd, data := .seq bs m, slots := sl } ∧
      R (.ok (.ret Value.none)) { s with heap := s.heap.update l (Obj.mapSeq fun x => x ++ bs), toks := s.toks }) := by
  refine .of_wp fun prog w A R s h => ?_
  obtain ⟨hp, g, d, tk, os⟩ := s
  obtain ⟨hl, hb, h⟩ := h
  have q0 : ¬ (!as.isEmpty && Builtin.List.listTooLong (as.size + bs.size)) = true := by rw [h0]; exact Bool.false_ne_true
  have q1 : as.size ≤ sizeLine := by omega
  have q2 : (as ++ bs).size ≤ sizeLine + 1 := by rw [Array.size_append]; omega
  have f1 := AutoSeq1.idx_int; have f2 := AutoSeq1.sub_tuple_tuple; have f3 := AutoSeq1.sub_list_list; have f4 := AutoSeq1.sub_tuple_list; have f5 := AutoSeq1.sub_list_tuple
  wp_walk using (wpAny_updateSeq hl rfl (hz := q1) (_hz' := q2)), AutoSeq1.wpAny_loadPart' hl, AutoSeq1.wpAny_loadPart' hb
  exact ⟨_, rfl, h⟩
def rExtendT (K : PySem.W.Frag) : V → List V → Hp → VK → Prop := fun x vs H Q => ∃ l b xs zs, x = .ref l ∧ vs = [.ref b] ∧ H l = some (.lst xs) ∧ SqT K H b zs ∧ xs.length + zs.length ≤ sizeLine ∧ Q .non (upd H l (.lst (xs ++ zs)))
theorem mt_extendT {X : Cx} : MtM X "list.extend" (rExtendT X.K) := by
  intro pins s σ H x vs v us Q I rx rv h
  obtain ⟨l, b, xs, zs, rfl, rfl, hH, hB, hz, q⟩ := h
  cases rx
  obtain ⟨u, rfl, ru⟩ := rv.one
  cases ru
  obtain ⟨z, its, n, r, hl, e⟩ := I.lstM hH
  obtain ⟨its2, r2, ⟨⟨oc, od, oda, osl⟩, g2, c2, m2, d2⟩, _⟩ := I.tuple hB
  simp only at c2 d2
  subst c2; subst d2
  have hl2 := r2.length
  have sz : its.toArray.size + its2.toArray.size ≤ sizeLine := by rw [List.size_toArray, List.size_toArray]; omega
  refine call_meets F.slot_list_extend ⟨_, e, rfl⟩ F.entry_list_extend (F.args_list_extend_2 _ _) (ext_tup l its.toArray n b its2.toArray m2 od osl (by rw [notLongL sz, Bool.and_false]) sz) ⟨e, g2, .non, _, I.lset (its' := its ++ its2) hH e (by simp) (r.append r2) (by rw [List.length_append]; omega), rfl, q⟩
section
variable {B : Bs} {ρ : Ro} {μ : Mu} {τ : List (V × D)} {σ : L2.St} {H : Hp} {te : TE} {p : Addr} {D0 : Ends} {tz : TS} {j k : Nat} {ds : List D} {P : List D → Prop}
theorem x_extendT (a : At B ρ μ τ σ H) (hs : ρ[j]? = some (some (.raw (.ref p)))) (hm : μ[k]? = some (p, .lst ds)) (he : Ev B te ρ μ fun d => ∃ es, d = .tup es ∧ P es) (hz : ∀ es, P es → ds.length + es.length ≤ sizeLine) (q : ∀ es H', P es → At B ρ (μ.set k (p, .lst (ds ++ es))) τ σ H' → D0.nx σ H') :
    tDrop (tBM B.K "list" (rExtendT B.K) (tVar j) (tCons te tNil)) D0 σ H := by
  obtain ⟨v0, h1, h2⟩ := a.var hs
  obtain ⟨G, g, hv⟩ := h2.top
  have hv' : v0 = V.ref p := hv
  subst hv'
  obtain ⟨vs, e1, k1⟩ := (g.cells _ (List.mem_of_getElem? hm)).2.2.2
  refine ⟨_, h1, .inl ⟨rfl, _, .inl (.inl e1)⟩, he.go a fun u H1 d1 ⟨es, hd, hP⟩ a1 => ?_⟩
  subst hd
  obtain ⟨G1, g1, b, us, rfl, eb, ku⟩ := id a1.top
  obtain ⟨vs1, e2, k2⟩ := (g1.cells _ (List.mem_of_getElem? hm)).2.2.2
  exact ⟨p, b, vs1, us, rfl, rfl, e2, .inl (.inl (g1.sub _ _ eb)), by rw [k2.length, ku.length]; exact hz es hP, q es _ hP ⟨G1, AtG.write (c' := .lst (ds ++ es)) g1 hm ⟨_, upd_same, k2.append ku⟩⟩⟩
theorem y_extendT (a : At B ρ μ τ σ H) (hs : ρ[j]? = some (some (.raw (.ref p)))) (hm : μ[k]? = some (p, .lst ds)) (he : Ev B te ρ μ fun d => ∃ es, d = .tup es ∧ P es) (hz : ∀ es, P es → ds.length + es.length ≤ sizeLine) (q : ∀ es H', P es → At B ρ (μ.set k (p, .lst (ds ++ es))) τ σ H' → tz D0 σ H') :
    tSeq (tDrop (tBM B.K "list" (rExtendT B.K) (tVar j) (tCons te tNil))) tz D0 σ H := x_extendT (D0 := { D0 with nx := tz D0 }) a hs hm he hz q
end
end Cal


namespace Cal
open PySem PySem.Spec PyProof.Rows L2
section
variable {P : Program} {w : World} {K : PySem.W.Frag} {mg : Str → Option Value} {base : Heap} {f : Addr} {fd : FuncData}
abbrev BNr3 : List Str := []
variable (bi : ∀ x, x ∈ BNr3 → mg x = none)
/-- the registers that some site keeps -/
def RegsOf (ss : List (List Str)) (ys : List Str) : Prop := sortedS ys = true ∧ ys.Nodup ∧ ∀ x, x ∈ ys ↔ x ∈ ss.flatten
abbrev sp__law_registers (K : PySem.W.Frag) : Sp := psp K (fun ds => ∃ ss cs, ds = [plD ss cs] ∧ Pl3 ss cs) (fun ds e => ∃ ss cs ys, ds = [plD ss cs] ∧ e = .lst (ys.map .str) ∧ RegsOf ss ys)
end
end Cal


namespace Cal
open PySem PySem.Spec PyProof.Rows L2
abbrev s__law_drawn_placement : Stmt := topS 50
abbrev n__law_drawn_placement : List Str := ["deck", "most", "regs", "clients", "n", "pool", "kept", "thick", "sites", "x", "at", "found", "turn", "row"]
theorem sc__law_drawn_placement : FnScope n__law_drawn_placement ["deck", "most", "regs", "clients"] (defScope s__law_drawn_placement) := ⟨rfl, rfl, rfl, by decide +kernel, rfl, by decide +kernel, by decide +kernel⟩
def relabS (a b : Scope) : Scope := { a with names := a.names.map fun (n, k) => if (k == NameKind.free && b.kind == .function && b.names.lookup n == some .cell) then (n, NameKind.cell) else (n, k) }
def scOf : Stmt → Scope | .Assign _ (.Call _ (.ListComp _ _ sc _ :: _) _ _) _ => sc | _ => defScope s__law_drawn_placement
abbrev scSites : Scope := scOf ((defBody s__law_drawn_placement).getD 4 (.Pass ⟨0, 0, 0, 0⟩))
theorem y_asgP2 {B : Bs} {ρ : Ro} {μ : Mu} {τ : List (V × D)} {σ : L2.St} {H : Hp} {te : TE} {tz : TS} {D0 : Ends} {k l : Nat} {P : D → Prop} (a : At B ρ μ τ σ H) (he : Ev B te ρ μ P) (hp : ∀ d, P d → ∃ d1 d2, d = .tup [d1, d2]) (q : ∀ d1 d2 σ' H', P (.tup [d1, d2]) → At B ((ρ.set k (some d1)).set l (some d2)) μ τ σ' H' → tz D0 σ' H') : tSeq (tAsg te (gTup B.K 2 (gCons (gName k) (gCons (gName l) gNil)))) tz D0 σ H :=
  he τ σ H a _ fun v H' d' μ' ⟨hP, hm⟩ a' => by
    subst hm
    obtain ⟨d1, d2, rfl⟩ := hp _ hP
    exact gd_tup2 (k := k) (l := l) τ σ H' v a' _ fun σ' a2 _ _ => q d1 d2 σ' H' hP a2
/-- a list's beginning of drawn length -/
theorem ev_slLP {B : Bs} {ρ : Ro} {μ : Mu} {te th : TE} {ds : List D} {Pi : Int → Prop} {P : D → Prop} (h : Ed B te ρ μ (.lst ds)) (hh : Ev B th ρ μ fun d => ∃ i : Int, d = .int i ∧ Pi i) (hP : ∀ i, Pi i → P (.lst (cutD ds none (some i)))) : Ev B (tSl (rSlU B.K) te tNoPart (tPart th)) ρ μ P := Ev.mk fun τ σ H a Q q => h.go a fun v H1 d hd a1 => by
  subst hd
  refine hh.go a1 fun v2 H2 d2 hd2 a2 => ?_
  obtain ⟨i, rfl, hi⟩ := hd2
  obtain ⟨G2, g2, hv⟩ := id a2.top
  refine ⟨i, hv, ?_⟩
  have a3 : At B ρ μ ((v, .lst ds) :: τ) σ H2 := At.sub a2 fun z hz => List.mem_cons_of_mem _ hz
  obtain ⟨G, g, p, vs, rfl, e, k⟩ := a3.top
  exact .inr (.inl ⟨p, vs, rfl, .inl (.inl (g.sub _ _ e)), fun p' hp' => q _ _ _ (hP i hi) (g.newLst hp' k.cut)⟩)
theorem map_range_getS {α : Type} (z : α) (l : List α) : (List.range l.length).map (fun i => l.getD i z) = l := by
  refine List.ext_getElem? fun i => ?_
  rw [List.getElem?_map]
  by_cases hi : i < l.length
  · rw [List.getElem?_range hi, getD_atS (z := z) hi]; rfl
  · rw [List.getElem?_eq_none (by rw [List.length_range]; omega), List.getElem?_eq_none (by omega)]; rfl
theorem filt_sub {α : Type} (z : α) (l : List α) (c : Nat → Bool) : (((List.range l.length).filter c).map fun i => l.getD i z).Sublist l := by
  have h : (((List.range l.length).filter c).map fun i => l.getD i z).Sublist ((List.range l.length).map fun i => l.getD i z) := List.filter_sublist.map _
  rwa [map_range_getS] at h
theorem pool_nd : pool3.Nodup := by decide +kernel
/-- a drawn placement: the most sites, registers, clients -/
def Drawn3 (most regs clients : Int) (e : D) : Prop := ∃ ss cs, e = plD ss cs ∧ Pl3 ss cs ∧ (ss.length : Int) ≤ most ∧ (cs.length : Int) ≤ clients ∧ ∃ r : Nat, (r : Int) ≤ regs ∧ ∀ k ∈ ss, ∀ x ∈ k, x ∈ pool3.take r
section
variable {P : Program} {w : World} {K : PySem.W.Frag} {mg : Str → Option Value} {base : Heap} {f : Addr} {fd : FuncData}
abbrev BNl3 : List Str := ["len", "max", "min", "range", "sorted", "tuple"]
variable (bi : ∀ x, x ∈ BNl3 → mg x = none)
abbrev sp__law_drawn_placement (K : PySem.W.Frag) : Sp := dsp K (fun es => ∃ m r c : Int, es = [.int m, .int r, .int c] ∧ (2 ≤ m ∧ m ≤ 6) ∧ (1 ≤ r ∧ r ≤ 900) ∧ 0 ≤ c ∧ c ≤ 900) (fun es e => ∃ m r c : Int, es = [.int m, .int r, .int c] ∧ Drawn3 m r c e)
include bi in
theorem ok__law_drawn_placement (F : Fun K "_law_drawn_placement" "_law_drawn_placement" s__law_drawn_placement f fd) (c__law_draw : C8.Cal P w K mg base 1 "_law_draw" (sp__law_draw K) []) (c__law_pick : C8.Cal P w K mg base 2 "_law_pick" (sp__law_pick K) []) : FnOk P w K mg base CX0 3 f fd ["deck", "most", "regs", "clients"] (sp__law_drawn_placement K) := by
  refine F.ok sc__law_drawn_placement (fun vs H Q E h => ?_) (fun cdv A outer s H vs Q E hr h => ?_)
  · obtain ⟨dk, l, G, ds, h1, ⟨es, rfl, m, r, c, rfl, _⟩, _⟩ := h
    exact h1.length
  · have hu := hu_of hr
    obtain ⟨dk, l, G, es, ⟨most, regs, clients, rfl, ⟨m2, m6⟩, ⟨r1, r9⟩, c0, c9⟩, hlen, a, hq⟩ := dsp_start n__law_drawn_placement h
    refine ⟨_, (pss_cons (ps_asg (C8.pe_c c__law_pick hr (by first | decide | omega) (by rfl) (pa_cons (pv 0) (pa_cons (pe_lst (pa_cons pe_int (pa_cons pe_int (pa_cons pe_int (pa_cons pe_int (pa_cons pe_int (pa_cons pe_int (pa_cons pe_int pa_nil)))))))) pa_nil))) (pg_name (i := 4) sc__law_drawn_placement.nd rfl (by first | exact (.inl rfl) | exact (.inr rfl))))
      (pss_cons (ps_asg (pe_callB (id := "min") (call_min2 rfl) (by rfl) (bi "min" (by decide +kernel)) (by decide +kernel) (pa_cons (pv 4) (pa_cons (pv 1) pa_nil))) (pg_name (i := 4) sc__law_drawn_placement.nd rfl (by first | exact (.inl rfl) | exact (.inr rfl))))
      (pss_cons (ps_asg (pe_slice (r := rSlU K) u_sl (pe_lst (pa_cons pe_str (pa_cons pe_str (pa_cons pe_str (pa_cons pe_str (pa_cons pe_str (pa_cons pe_str (pa_cons pe_str (pa_cons pe_str (pa_cons pe_str (pa_cons pe_str (pa_cons pe_str (pa_cons pe_str pa_nil))))))))))))) po_none (po_some (pe_callB (id := "max") (call_max2 rfl) (by rfl) (bi "max" (by decide +kernel)) (by decide +kernel) (pa_cons (pe_op (r := rAddU K) u_add pe_int (C8.pe_c c__law_draw hr (by first | decide | omega) (by rfl) (pa_cons (pv 0) (pa_cons (pv 2) pa_nil)))) (pa_cons (pe_op (r := rAddU K) u_add pe_int (C8.pe_c c__law_draw hr (by first | decide | omega) (by rfl) (pa_cons (pv 0) (pa_cons (pv 2) pa_nil)))) pa_nil))))) (pg_name (i := 5) sc__law_drawn_placement.nd rfl (by first | exact (.inl rfl) | exact (.inr rfl))))
      (pss_cons (ps_asg (C8.pe_c c__law_pick hr (by first | decide | omega) (by rfl) (pa_cons (pv 0) (pa_cons (pe_lst (pa_cons (pe_tup (pa_cons pe_int (pa_cons pe_int pa_nil))) (pa_cons (pe_tup (pa_cons pe_int (pa_cons pe_int pa_nil))) (pa_cons (pe_tup (pa_cons pe_int (pa_cons pe_int pa_nil))) (pa_cons (pe_tup (pa_cons pe_int (pa_cons pe_int pa_nil))) pa_nil))))) pa_nil))) (pg_tup rfl (pgs_cons (pg_name (i := 6) sc__law_drawn_placement.nd rfl (by first | exact (.inl rfl) | exact (.inr rfl))) (pgs_cons (pg_name (i := 7) sc__law_drawn_placement.nd rfl (by first | exact (.inl rfl) | exact (.inr rfl))) pgs_nil))))
      (pss_cons (ps_asg (pe_callTy (T := "tuple") (r := rTupOf K) u_tuple (by rfl) (bi "tuple" (by decide +kernel)) (by decide +kernel) (pa_cons (pe_lc (own := [("at", 10)]) (g := gName 10) (tt := tYes) rfl sc__law_drawn_placement.nd (pi_range1 (by rfl) (bi "range" (by decide +kernel)) (pa_cons (pv 4) pa_nil)) (blkOk_by (N := n__law_drawn_placement) (sc := defScope s__law_drawn_placement) (by decide +kernel)) (fun _ _ _ _ _ => (pg_name (i := 10) sc__law_drawn_placement.nd rfl (by first | exact (.inl rfl) | exact (.inr rfl)))) (fun _ _ _ _ _ => pts_nil) (fun _ _ _ _ _ => (pe_callTy (T := "tuple") (r := rTupOf K) u_tuple (by rfl) (bi "tuple" (by decide +kernel)) (by decide +kernel) (pa_cons (pe_callB (id := "sorted") (r := rSortU2 K) u_sorted (by rfl) (bi "sorted" (by decide +kernel)) (by decide +kernel) (pa_cons (pe_lc (own := [("x", 9)]) (g := gName 9) rfl sc__law_drawn_placement.nd (pi_listK (K := K) (by rfl) (pv 5)) (blkOk_by (N := n__law_drawn_placement) (sc := relabS scSites (defScope s__law_drawn_placement)) (by decide +kernel)) (fun _ _ _ _ _ => (pg_name (i := 9) sc__law_drawn_placement.nd rfl (by first | exact (.inl rfl) | exact (.inr rfl)))) (fun _ _ _ _ _ => (pts_one (pt_cmpR u_lt (C8.pe_c c__law_draw hr (by first | decide | omega) (by rfl) (pa_cons (pv 0) (pa_cons (pv 7) pa_nil))) (pv 6) (nomark _)))) (fun _ _ _ _ _ => (pv 9))) pa_nil)) pa_nil)))) pa_nil)) (pg_name (i := 8) sc__law_drawn_placement.nd rfl (by first | exact (.inl rfl) | exact (.inr rfl))))
      (pss_cons (ps_asg (pe_lst pa_nil) (pg_name (i := 11) sc__law_drawn_placement.nd rfl (by first | exact (.inl rfl) | exact (.inr rfl))))
      (pss_cons (ps_for PassesOwn.never rfl (pi_range1 (by rfl) (bi "range" (by decide +kernel)) (pa_cons (pe_ifExp (pt_cmpR op_gt (pv 3) pe_int (nomark _)) (C8.pe_c c__law_pick hr (by first | decide | omega) (by rfl) (pa_cons (pv 0) (pa_cons (pe_lst (pa_cons pe_int (pa_cons pe_int (pa_cons pe_int (pa_cons (pv 3) pa_nil))))) pa_nil))) pe_int) pa_nil)) (pg_name (i := 12) sc__law_drawn_placement.nd rfl (by first | exact (.inl rfl) | exact (.inr rfl)))
        (pss_cons (ps_asg (pe_callTy (T := "tuple") (r := rTupOf K) u_tuple (by rfl) (bi "tuple" (by decide +kernel)) (by decide +kernel) (pa_cons (pe_lc (own := [("at", 10)]) (g := gName 10) rfl sc__law_drawn_placement.nd (pi_range1 (by rfl) (bi "range" (by decide +kernel)) (pa_cons (pv 4) pa_nil)) (blkOk_by (N := n__law_drawn_placement) (sc := defScope s__law_drawn_placement) (by decide +kernel)) (fun _ _ _ _ _ => (pg_name (i := 10) sc__law_drawn_placement.nd rfl (by first | exact (.inl rfl) | exact (.inr rfl)))) (fun _ _ _ _ _ => (pts_one (pt_cmpR (r := rEqD K) (u_eq hr.units) (C8.pe_c c__law_draw hr (by first | decide | omega) (by rfl) (pa_cons (pv 0) (pa_cons pe_int pa_nil))) pe_int (nomark _)))) (fun _ _ _ _ _ => (pv 10))) pa_nil)) (pg_name (i := 13) sc__law_drawn_placement.nd rfl (by first | exact (.inl rfl) | exact (.inr rfl))))
      (pss_one (ps_expr (pe_bm PySem.F.plainAttrs_list PySem.F.slot_list_append PySem.F.type_list_append mt_append (pv 11) (pa_cons (pe_ifExp (pt_cmpR op_gt (pe_callB (id := "len") (r := rLenU K) u_len (by rfl) (bi "len" (by decide +kernel)) (by decide +kernel) (pa_cons (pv 13) pa_nil)) pe_int (nomark _)) (pv 13) (pe_tup (pa_cons pe_int (pa_cons (pe_op op_sub (pv 4) pe_int) pa_nil)))) pa_nil))))))
      (pss_one (ps_ret (pe_tup (pa_cons (pv 8) (pa_cons (pe_callTy (T := "tuple") (r := rTupOf K) u_tuple (by rfl) (bi "tuple" (by decide +kernel)) (by decide +kernel) (pa_cons (pe_slice (r := rSlU K) u_sl (pv 11) po_none (po_some (pe_op op_sub pe_int (pv 4)))) pa_nil)) pa_nil)))))))))))), ?_⟩
    -- n
    refine y_setV (P := fun d => ∃ n : Nat, d = .int n ∧ 2 ≤ n ∧ n ≤ 6) a (ed_d rfl (ead_cons (d := .lst [.int 2, .int 3, .int 3, .int 4, .int 4, .int 5, .int 6]) (ed_lst (ead_cons ed_int (ead_cons ed_int (ead_cons ed_int (ead_cons ed_int (ead_cons ed_int (ead_cons ed_int (ead_cons ed_int ea_nil))))))) (by show 7 ≤ _; decide)) ea_nil) ⟨_, rfl, by simp, by show 7 ≤ _; decide⟩ (by
      rintro e ⟨ds, e1, hm⟩
      cases e1
      simp only [List.mem_cons, List.mem_nil_iff, or_false] at hm
      rcases hm with rfl | rfl | rfl | rfl | rfl | rfl | rfl
      · exact ⟨2, rfl, by decide, by decide⟩
      · exact ⟨3, rfl, by decide, by decide⟩
      · exact ⟨3, rfl, by decide, by decide⟩
      · exact ⟨4, rfl, by decide, by decide⟩
      · exact ⟨4, rfl, by decide, by decide⟩
      · exact ⟨5, rfl, by decide, by decide⟩
      · exact ⟨6, rfl, by decide, by decide⟩)) fun d σ1 H1 hd a1 => ?_
    obtain ⟨n0, rfl, n1, n2⟩ := hd
    refine y_setV (P := fun d => ∃ n : Nat, d = .int n ∧ 2 ≤ n ∧ n ≤ 6 ∧ (n : Int) ≤ most) a1 ((ed_cb (ead_cons (ed_var rfl) (ead_cons (ed_var rfl) ea_nil)) rc_min).imp fun d hd => ⟨(min (n0 : Int) most).toNat, by rw [hd]; congr 1; omega, by omega, by omega, by omega⟩) fun d σ2 H2 hd a2 => ?_
    obtain ⟨n, rfl, n3, n4, n5⟩ := hd
    -- pool
    have dr : ∀ {ρ : Ro} {μ : Mu}, ρ[0]? = some (some (.raw (.ref dk))) → ρ[2]? = some (some (.int regs)) → Ev (Bd K dk l 64 G H) (tOp (rAddU K) (tC (.int 1)) (tCall (sp__law_draw K) [] C8.E0 (tCons (tVar 0) (tCons (tVar 2) tNil)))) ρ μ fun d => ∃ i : Int, d = .int i ∧ 1 ≤ i ∧ i ≤ regs := fun h0 h2 => ev_op (P1 := fun d => d = .int 1) (P2 := fun d => ∃ r : Int, d = .int r ∧ 0 ≤ r ∧ r < regs) ed_int (ed_d h0 (ead_cons (ed_var h2) ea_nil) ⟨_, rfl, by omega, by omega⟩ (by rintro e ⟨n, r, e1, rfl, h1, h2⟩; cases e1; exact ⟨r, rfl, h1, h2⟩)) fun d1 d2 e1 ⟨r, e2, h1, h2⟩ => by
      subst e1; subst e2
      exact rd_addI.imp fun d hd => ⟨_, hd, by omega, by omega⟩
    refine y_setV (P := fun d => ∃ r : Nat, d = .lst ((pool3.take r).map .str) ∧ (r : Int) ≤ regs) a2 (ev_slLP (ds := pool3.map .str) (Pi := fun i => 1 ≤ i ∧ i ≤ regs) (ed_lst (ead_cons ed_str (ead_cons ed_str (ead_cons ed_str (ead_cons ed_str (ead_cons ed_str (ead_cons ed_str (ead_cons ed_str (ead_cons ed_str (ead_cons ed_str (ead_cons ed_str (ead_cons ed_str (ead_cons ed_str ea_nil)))))))))))) (by show 12 ≤ _; decide)) (ev_cb (Ps := fun ds => ∃ i j : Int, ds = [.int i, .int j] ∧ (1 ≤ i ∧ i ≤ regs) ∧ 1 ≤ j ∧ j ≤ regs) (ea_cons (dr rfl rfl) fun d1 ⟨i, e1, h1⟩ => (ea1P (dr rfl rfl)).imp fun ds ⟨d2, e2, j, e3, h3⟩ => ⟨i, j, by rw [e2, e1, e3], h1, h3⟩) fun ds ⟨i, j, e, h1, h2⟩ => by
      subst e
      exact rc_max.imp fun d hd => ⟨_, hd, by omega, by omega⟩) fun i hi => ⟨i.toNat, by rw [cutD_take _ (by omega), ← List.map_take], by omega⟩) fun d σ3 H3 hd a3 => ?_
    obtain ⟨r, rfl, hr2⟩ := hd
    generalize hpl : pool3.take r = pl at a3
    have plS : pl.Sublist pool3 := by rw [← hpl]; exact List.take_sublist _ _
    have pll : pl.length ≤ 12 := plS.length_le
    have plU : ∀ x ∈ pl, x ∈ U3 := fun x hx => List.mem_append_left _ (plS.subset hx)
    -- kept, thick
    refine y_asgP2 (P := fun d => ∃ u v : Int, d = .tup [.int u, .int v] ∧ 1 ≤ v ∧ v ≤ 3) a3 (ed_d rfl (ead_cons (d := .lst [.tup [.int 1, .int 2], .tup [.int 2, .int 3], .tup [.int 1, .int 3], .tup [.int 1, .int 2]]) (ed_lst (ead_cons (ed_tup (ead_cons ed_int (ead_cons ed_int ea_nil)) (by show 2 ≤ _; decide)) (ead_cons (ed_tup (ead_cons ed_int (ead_cons ed_int ea_nil)) (by show 2 ≤ _; decide)) (ead_cons (ed_tup (ead_cons ed_int (ead_cons ed_int ea_nil)) (by show 2 ≤ _; decide)) (ead_cons (ed_tup (ead_cons ed_int (ead_cons ed_int ea_nil)) (by show 2 ≤ _; decide)) ea_nil)))) (by show 4 ≤ _; decide)) ea_nil) ⟨_, rfl, by simp, by show 4 ≤ _; decide⟩ (by
      rintro e ⟨ds, e1, hm⟩
      cases e1
      simp only [List.mem_cons, List.mem_nil_iff, or_false] at hm
      rcases hm with rfl | rfl | rfl | rfl
      · exact ⟨1, 2, rfl, by decide, by decide⟩
      · exact ⟨2, 3, rfl, by decide, by decide⟩
      · exact ⟨1, 3, rfl, by decide, by decide⟩
      · exact ⟨1, 2, rfl, by decide, by decide⟩)) (fun d ⟨u, v, e, _⟩ => ⟨_, _, e⟩) fun d1 d2 σ4 H4 ⟨u, v, e, v1, v3⟩ a4 => ?_
    injection e with e
    injection e with e1 e
    injection e with e2 _
    subst e1; subst e2
    -- sites
    refine y_setV (P := fun d => ∃ ss : List (List Str), d = .tup (ss.map tS) ∧ ss.length = n ∧ ∀ k ∈ ss, RowB k ∧ ∀ x ∈ k, x ∈ pl) a4 (ev_cb (ea1P (ev_lc0 (P := fun d => ∃ ss : List (List Str), d = .lst (ss.map tS) ∧ ss.length = n ∧ ∀ k ∈ ss, RowB k ∧ ∀ x ∈ k, x ∈ pl) (ei_rng1 (i := (n : Int)) (ead_cons (ed_var rfl) ea_nil) ⟨by omega, by omega⟩) (by decide) (by omega) (fun i d => ∃ ks : List Str, d = tS ks ∧ RowB ks ∧ ∀ x ∈ ks, x ∈ pl) (fun i hi cl => ev_cb (ea1P (ev_cb (P := fun d => ∃ js : List Str, d = .lst (js.map .str) ∧ RowB js ∧ ∀ x ∈ js, x ∈ pl) (ea1P (ev_lcN (P := fun d => ∃ is : List Str, d = .lst (is.map .str) ∧ is.Sublist pl) (fun _ _ => True) (h := fun i => .str (pl.getD i "")) (ei_lstG .str "" (l := pl) (ed_var rfl)) (by decide) (by omega) (fun i hi cl => et_test (P := fun d => ∃ b, d = .bl b) (ev_op (P1 := fun d => ∃ r : Int, d = .int r) (P2 := fun d => d = .int u) (ed_d rfl (ead_cons (ed_var rfl) ea_nil) ⟨_, rfl, by omega, by omega⟩ (by rintro e ⟨n, r, e1, rfl, h1, h2⟩; exact ⟨r, rfl⟩)) (ed_var rfl) fun d1 d2 ⟨r, e1⟩ e2 => by
          subst e1; subst e2
          exact rd_ltI.imp fun d hd => ⟨_, hd⟩) fun d ⟨b, e⟩ => ⟨b, e, True.intro⟩) (fun i hi cl => ed_var rfl) fun c _ => ⟨((List.range pl.length).filter c).map fun i => pl.getD i "", by rw [List.map_map]; rfl, filt_sub ("" : Str) pl c⟩)) fun ds ⟨d, e1, is, e2, hs⟩ => by
        subst e1; subst e2
        have nd : is.Nodup := (hs.trans plS).nodup pool_nd
        exact rc_sortS (Nat.lt_of_le_of_lt hs.length_le (by omega)) fun js h1 h2 => ⟨js, rfl, ⟨h2, h1.nodup_iff.mpr nd, fun x hx => plU x (hs.subset (h1.mem_iff.mp hx))⟩, fun x hx => hs.subset (h1.mem_iff.mp hx)⟩)) fun ds ⟨d, e1, js, e2, h3⟩ => by
      subst e1; subst e2
      exact rc_tupL.imp fun d hd => ⟨js, hd, h3⟩) fun ds hl2 hd => by
      have : ∀ m, m ≤ ds.length → ∃ ss : List (List Str), ds.take m = ss.map tS ∧ ∀ k ∈ ss, RowB k ∧ ∀ x ∈ k, x ∈ pl := by
        intro m
        induction m with
        | zero => exact fun _ => ⟨[], rfl, fun k hk => by cases hk⟩
        | succ m ih =>
          intro hm
          obtain ⟨ss, e1, h1⟩ := ih (by omega)
          have em : ds[m]? = some ds[m] := List.getElem?_eq_getElem (by omega)
          obtain ⟨ks, e2, h2⟩ := hd m _ em
          refine ⟨ss ++ [ks], ?_, fun k hk => ?_⟩
          · rw [List.take_add_one, em, e1, e2, List.map_append]; rfl
          · rcases List.mem_append.mp hk with z | z
            · exact h1 k z
            · rw [List.mem_singleton.mp z]; exact h2
      obtain ⟨ss, e1, h1⟩ := this ds.length (Nat.le_refl _)
      rw [List.take_length] at e1
      refine ⟨ss, by rw [e1], ?_, h1⟩
      have := congrArg List.length e1
      rw [List.length_map] at this
      rw [← this, hl2]; omega)) fun ds ⟨d, e1, ss, e2, h⟩ => by
      subst e1; subst e2
      exact rc_tupL.imp fun d hd => ⟨ss, hd, h⟩) fun d σ5 H5 hd a5 => ?_
    obtain ⟨ss, rfl, sl, hss⟩ := hd
    -- found
    refine y_asg a5 xl_nil fun d μ6 σ6 H6 hd a6 => ?_
    obtain ⟨pf, rfl, rfl⟩ := hd
    refine y_forRP (Pi := fun i => 0 ≤ i ∧ (i ≤ clients ∨ i ≤ 0)) a6 (ev_if (Pb := fun b => b = decide (clients > 0)) (eb_test (ed_op (ed_var rfl) ed_int rd_gt)) (fun hb => ed_d rfl (ead_cons (d := .lst [.int 0, .int 0, .int 1, .int clients]) (ed_lst (ead_cons ed_int (ead_cons ed_int (ead_cons ed_int (ead_cons (ed_var rfl) ea_nil)))) (by show 4 ≤ _; decide)) ea_nil) ⟨_, rfl, by simp, by show 4 ≤ _; decide⟩ (by
      have hb := of_decide_eq_true hb.symm
      rintro e ⟨ds, e1, hm⟩
      cases e1
      simp only [List.mem_cons, List.mem_nil_iff, or_false] at hm
      rcases hm with rfl | rfl | rfl | rfl
      · exact ⟨0, rfl, by omega, .inr (by omega)⟩
      · exact ⟨0, rfl, by omega, .inr (by omega)⟩
      · exact ⟨1, rfl, by omega, .inl (by omega)⟩
      · exact ⟨clients, rfl, by omega, .inl (by omega)⟩)) fun hb => ed_int.ev ⟨0, rfl, by omega, .inr (by omega)⟩) (fun i hi => ⟨by omega, by omega⟩)
      (fun mm i ρ μ => ∃ (vs : List (List Int)) (x10 x12 x13 : Option D), ρ = [some (.raw (.ref dk)), some (.int most), some (.int regs), some (.int clients), some (.int (n : Nat)), some (.lst (pl.map .str)), some (.int u), some (.int v), some (.tup (ss.map tS)), none, x10, some (.raw (.ref pf)), x12, x13] ∧ μ = [(pf, .lst (vs.map tI))] ∧ vs.length = i ∧ ∀ w ∈ vs, VisB n w) (fun mm hmm => ⟨[], _, _, _, rfl, rfl, rfl, fun w hw => by cases hw⟩) (fun mm i ρ' μ' τ1 σ7 H7 Dn hmm hi hI a7 hnx hct hbk hrt => ?_) fun mm ρ' μ' σ7 H7 hmm hI a7 => ?_
    · obtain ⟨vs, x10, x12, x13, rfl, rfl, hvl, hv⟩ := hI
      -- row
      refine y_setV (P := fun d => ∃ w : List Int, d = tI w ∧ w.Pairwise (· < ·) ∧ ∀ x ∈ w, 0 ≤ x ∧ x < (n : Int)) a7 (ev_cb (ea1P (ev_lcN (P := fun d => ∃ w : List Int, d = .lst (w.map .int) ∧ w.Pairwise (· < ·) ∧ ∀ x ∈ w, 0 ≤ x ∧ x < (n : Int)) (fun _ _ => True) (h := fun i => .int (i : Int)) (ei_rng1 (i := (n : Int)) (ead_cons (ed_var rfl) ea_nil) ⟨by omega, by omega⟩) (by decide) (by omega) (fun i hi cl => et_test (P := fun d => ∃ b, d = .bl b) (ev_op (P1 := fun d => ∃ r : Int, d = .int r) (P2 := fun d => d = .int 0) (ed_d rfl (ead_cons ed_int ea_nil) ⟨_, rfl, by decide, by decide⟩ (by rintro e ⟨n, r, e1, rfl, h1, h2⟩; exact ⟨r, rfl⟩)) ed_int fun d1 d2 ⟨r, e1⟩ e2 => by
          subst e1; subst e2
          exact rd_eqI.imp fun d hd => ⟨_, hd⟩) fun d ⟨b, e⟩ => ⟨b, e, True.intro⟩) (fun i hi cl => ed_var rfl) fun c _ => ⟨((List.range n).filter c).map fun i : Nat => (i : Int), by rw [List.map_map, show ((n : Int)).toNat = n by omega]; rfl, List.pairwise_map.mpr ((List.pairwise_lt_range.filter _).imp fun {a b} h => by omega), fun x hx => by
        obtain ⟨i, hi, rfl⟩ := List.mem_map.mp hx
        have := List.mem_range.mp (List.mem_filter.mp hi).1
        omega⟩)) fun ds ⟨d, e1, w, e2, h⟩ => by
        subst e1; subst e2
        exact rc_tupL.imp fun d hd => ⟨w, hd, h⟩) fun d σ8 H8 hd a8 => ?_
      obtain ⟨w, rfl, w1, w2⟩ := hd
      refine x_append (k := 0) (R := fun d μ' => (∃ z : List Int, d = tI z ∧ VisB n z) ∧ μ' = [(pf, .lst (vs.map tI))]) a8 (o_var rfl) rfl ((ev_if (Pb := fun b => b = decide ((w.length : Int) > 1)) (eb_test (Ed.is (ed_op (ed_lenT (ed_var rfl)) ed_int rd_gt) (by rw [List.length_map]))) (fun hb => (ed_var rfl).ev (P := fun d => ∃ z : List Int, d = tI z ∧ VisB n z) ⟨w, rfl, w1, w2, by have := of_decide_eq_true hb.symm; omega⟩) fun hb => (ed_tup (ds := [.int 0, .int ((n : Int) - 1)]) (ead_cons ed_int (ead_cons (ed_op (ed_var rfl) ed_int rd_sub) ea_nil)) (by show 2 ≤ _; decide)).ev ⟨[0, (n : Int) - 1], rfl, List.pairwise_cons.mpr ⟨fun x hx => by rw [List.mem_singleton.mp hx]; omega, List.pairwise_singleton _ _⟩, fun x hx => by
        rcases List.mem_cons.mp hx with e | hx
        · rw [e]; omega
        · rw [List.mem_singleton.mp hx]; omega, by show 2 ≤ 2; decide⟩)) (fun d μ' ⟨_, e⟩ => by rw [e]; rfl) (by rw [List.length_map]; omega) fun d μ' H9 ⟨⟨z, e1, hz⟩, e2⟩ a9 => ?_
      subst e1; subst e2
      refine hnx _ _ _ _ ⟨vs ++ [z], _, _, _, rfl, by rw [List.map_append]; rfl, by rw [List.length_append, hvl]; rfl, fun w hw => ?_⟩ a9
      rcases List.mem_append.mp hw with y | y
      · exact hv w y
      · rw [List.mem_singleton.mp y]; exact hz
    · obtain ⟨vs, x10, x12, x13, rfl, rfl, hvl, hv⟩ := hI
      have a8 := At.reslot (k := 11) (At.freeze a7) rfl
      refine x_ret a8 (P := fun d => d = plD ss (vs.take (7 - n))) (ed_tup (ead_cons (ed_var rfl) (ead_cons (Ed.is (ed_cb (ead_cons (ed_slL (ed_var rfl) eo_none (eo_some (ed_op ed_int (ed_var rfl) rd_sub))) ea_nil) rc_tupL) (by rw [cutD_take _ (by omega), ← List.map_take, show ((7 : Int) - (n : Int)).toNat = 7 - n by omega])) ea_nil)) (by show 2 ≤ _; decide)) fun v H' d hd a' => hq ⟨most, regs, clients, rfl, ss, vs.take (7 - n), hd, ⟨by omega, by rw [List.length_take]; omega, fun k hk => (hss k hk).1, fun w hw => by rw [sl]; exact hv w (List.mem_of_mem_take hw)⟩, by omega, by rw [List.length_take]; omega, r, hr2, fun k hk x hx => by rw [hpl]; exact (hss k hk).2 x hx⟩ a'
end
end Cal


namespace Cal
open PySem PySem.Spec PyProof.Rows L2
abbrev s__law_is_integer : Stmt := topS 45
abbrev n__law_is_integer : List Str := ["thing"]
theorem sc__law_is_integer : FnScope n__law_is_integer ["thing"] (defScope s__law_is_integer) := ⟨rfl, rfl, rfl, by decide +kernel, rfl, by decide +kernel, by decide +kernel⟩
abbrev s__law_are_integers : Stmt := topS 49
abbrev n__law_are_integers : List Str := ["thing", "x"]
theorem sc__law_are_integers : FnScope n__law_are_integers ["thing"] (defScope s__law_are_integers) := ⟨rfl, rfl, rfl, by decide +kernel, rfl, by decide +kernel, by decide +kernel⟩
abbrev s__law_places : Stmt := topS 53
abbrev n__law_places : List Str := ["placement"]
theorem sc__law_places : FnScope n__law_places ["placement"] (defScope s__law_places) := ⟨rfl, rfl, rfl, by decide +kernel, rfl, by decide +kernel, by decide +kernel⟩
/-! ### the law's own looks at values -/
theorem ed_ltltI {B : Bs} {ρ : Ro} {μ : Mu} {ta tb tc : TE} {i j k : Int} (ha : Ed B ta ρ μ (.int i)) (hb : Ed B tb ρ μ (.int j)) (hc : Ed B tc ρ μ (.int k)) : Ed B (tChain rLtU rLtU ta tb tc) ρ μ (.bl (decide (i < j) && decide (j < k))) :=
  ed_chain ha hb (fun _ => hc) (fun G H x y s h1 h2 Q q => .inl ⟨i, j, h1, h2, q⟩) fun _ G H x y s h1 h2 Q q => .inl ⟨j, k, h1, h2, q⟩
theorem sign_abc (c : Nat) : (!(!decide (c ∈ (("abcdefghijklmnopqrstuvwxyz" : Str)).cps.toList))) = (!decide ([c] < [97]) && !decide ([122] < [c])) := by
  have e : (("abcdefghijklmnopqrstuvwxyz" : Str)).cps.toList = (List.range 26).map (· + 97) := by decide +kernel
  have m : c ∈ (List.range 26).map (· + 97) ↔ 97 ≤ c ∧ c ≤ 122 := by
    rw [List.mem_map]
    constructor
    · rintro ⟨k, hk, rfl⟩
      have := List.mem_range.mp hk
      omega
    · rintro ⟨h1, h2⟩
      exact ⟨c - 97, List.mem_range.mpr (by omega), by omega⟩
  have l1 : ([c] < [97]) ↔ c < 97 := one_lt' _ _
  have l2 : ([122] < [c]) ↔ 122 < c := one_lt' _ _
  rw [Bool.not_not, e]
  by_cases h : 97 ≤ c ∧ c ≤ 122
  · rw [decide_eq_true (m.mpr h), decide_eq_false (fun z => by have := l1.mp z; omega), decide_eq_false (fun z => by have := l2.mp z; omega)]; rfl
  · rw [decide_eq_false (fun z => h (m.mp z))]
    by_cases h1 : c < 97
    · rw [decide_eq_true (l1.mpr h1)]; rfl
    · rw [decide_eq_true (l2.mpr (by omega))]; simp
def areInts : D → Bool
  | .tup ds => (List.range ds.length).all fun i => isInt (ds.getD i .non)
  | _ => false
theorem areInts_no {d : D} (h : isT d = false) : areInts d = false := by cases d <;> first | rfl | cases h
theorem areInts_tI (v : List Int) : areInts (tI v) = true := by
  refine List.all_eq_true.mpr fun i hi => ?_
  have i1 : i < v.length := by have := List.mem_range.mp hi; rwa [List.length_map] at this
  rw [getD_mapS D.int 0 _ i1]; rfl
section
variable {P : Program} {w : World} {K : PySem.W.Frag} {mg : Str → Option Value} {base : Heap} {f : Addr} {fd : FuncData}
abbrev BNj3 : List Str := ["bool", "int", "isinstance", "len", "tuple"]
variable (bi : ∀ x, x ∈ BNj3 → mg x = none)
abbrev sp__law_are_integers (K : PySem.W.Frag) : Sp := psp K (fun ds => ∃ d, ds = [d] ∧ Sm d) (fun ds e => ∃ d, ds = [d] ∧ e = .bl (areInts d))
abbrev sp__law_are_ascending (K : PySem.W.Frag) : Sp := psp K (fun ds => ∃ v : List Int, ds = [tI v] ∧ v.length ≤ 1000000) (fun ds e => ∃ v : List Int, ds = [tI v] ∧ e = .bl (ascD (v.map .int)))
abbrev sp__law_places (K : PySem.W.Frag) : Sp := psp K (fun ds => ∃ ss cs, ds = [plD ss cs]) (fun ds e => ∃ ss cs, ds = [plD ss cs] ∧ e = .int (ss.length + cs.length))
include bi in
theorem ok__law_is_integer (F : Fun K "_law_is_integer" "_law_is_integer" s__law_is_integer f fd) : FnOk P w K mg base CX0 1 f fd ["thing"] (sp_is_integer K) := by
  refine F.ok sc__law_is_integer (fun vs H Q E h => ?_) (fun cdv A outer s H vs Q E hr h => ?_)
  · obtain ⟨G, ds, h1, ⟨d, rfl, _⟩, _⟩ := h
    exact h1.length
  · have hu := hu_of hr
    obtain ⟨G, ds, ⟨d, rfl, hd⟩, hlen, a, hq⟩ := fsp_start locT n__law_is_integer h
    refine ⟨_, (pss_one (ps_ret (pe_and (pe_callB (id := "isinstance") (r := rIsi K) call_isi (by rfl) (bi "isinstance" (by decide +kernel)) (by decide +kernel) (pa_cons (pv 0) (pa_cons (pe_bltn (v := .ty "int") (u := .type "int") (by rfl) (bi "int" (by decide +kernel)) (by decide +kernel) rfl) pa_nil))) (pe_one (pe_not (pe_callB (id := "isinstance") (r := rIsi K) call_isi (by rfl) (bi "isinstance" (by decide +kernel)) (by decide +kernel) (pa_cons (pv 0) (pa_cons (pe_bltn (v := .ty "bool") (u := .type "bool") (by rfl) (bi "bool" (by decide +kernel)) (by decide +kernel) rfl) pa_nil)))))))), ?_⟩
    exact x_ret a (Ed.is (ed_andV (ed_isiI (ed_var rfl) hd.ty) fun _ => ed_notV (ed_isiB (ed_var rfl) hd.ty)) (by cases d <;> rfl)) fun v H' d' hd' a' => hq ⟨d, rfl, hd'⟩ a'
include bi in
theorem ok__law_are_integers (F : Fun K "_law_are_integers" "_law_are_integers" s__law_are_integers f fd) (c__law_is_integer : C8.Cal P w K mg base 1 "_law_is_integer" (sp_is_integer K) []) : FnOk P w K mg base CX0 2 f fd ["thing"] (sp__law_are_integers K) := by
  refine F.ok sc__law_are_integers (fun vs H Q E h => ?_) (fun cdv A outer s H vs Q E hr h => ?_)
  · obtain ⟨G, ds, h1, ⟨d, rfl, _⟩, _⟩ := h
    exact h1.length
  · have hu := hu_of hr
    obtain ⟨G, ds, ⟨d, rfl, hd⟩, hlen, a, hq⟩ := fsp_start locT n__law_are_integers h
    refine ⟨_, (pss_one (ps_ret (pe_and (pe_callB (id := "isinstance") (r := rIsi K) call_isi (by rfl) (bi "isinstance" (by decide +kernel)) (by decide +kernel) (pa_cons (pv 0) (pa_cons (pe_bltn (v := .ty "tuple") (u := .type "tuple") (by rfl) (bi "tuple" (by decide +kernel)) (by decide +kernel) rfl) pa_nil))) (pe_one (pe_cmpR (r := rEqE K) (op_eqE hr.units0) (pe_lc (own := [("x", 1)]) (g := gName 1) rfl sc__law_are_integers.nd (pi_tup (pv 0)) (blkOk_by (N := n__law_are_integers) (sc := defScope s__law_are_integers) (by decide +kernel)) (fun _ _ _ _ _ => (pg_name (i := 1) sc__law_are_integers.nd rfl (by first | exact (.inl rfl) | exact (.inr rfl)))) (fun _ _ _ _ _ => (pts_one (pt_not (pt_val (C8.pe_c c__law_is_integer hr (by first | decide | omega) (by rfl) (pa_cons (pv 1) pa_nil)))))) (fun _ _ _ _ _ => (pv 1))) (pe_lst pa_nil) (nomark _)))))), ?_⟩
    refine x_ret a (Ed.is (d := .bl (isT d && areInts d)) (ed_andV (ed_isiT (ed_var rfl) hd.ty) fun hb => ?_) ?_) fun v H' d' hd' a' => hq ⟨d, rfl, hd'⟩ a'
    · obtain ⟨es, rfl⟩ := isT_eq hb
      have sm : ∀ i, i < es.length → Sm (es.getD i .non) := fun i hi => hd.2.all _ (List.mem_of_getElem? (getD_of hi))
      refine Ed.is (ed_op (ed_lcT (n := es.length) (h := fun i => es.getD i .non) (fun i => !isInt (es.getD i .non)) (ei_tup (ed_var rfl)) (by decide) hd.1 (fun i hi cl => eb_not (eb_B (ed_p (ead_cons (ed_var rfl) ea_nil) ⟨_, rfl, sm i hi⟩ (by
        rintro e ⟨d, e1, rfl⟩
        injection e1 with e1 _
        rw [e1])))) fun i hi _ cl => ed_var rfl) (ed_lst ea_nil (by decide)) rd_eqE) ?_
      rw [none_left]
      show D.bl ((List.range es.length).all fun i => !!isInt (es.getD i .non)) = .bl ((List.range es.length).all fun i => isInt (es.getD i .non))
      simp only [Bool.not_not]
    · cases h : isT d with
      | true => rfl
      | false => rw [areInts_no h]; rfl
include bi in
theorem ok__law_places (F : Fun K "_law_places" "_law_places" s__law_places f fd) : FnOk P w K mg base CX0 1 f fd ["placement"] (sp__law_places K) := by
  refine F.ok sc__law_places (fun vs H Q E h => ?_) (fun cdv A outer s H vs Q E hr h => ?_)
  · obtain ⟨G, ds, h1, ⟨ss, cs, rfl⟩, _⟩ := h
    exact h1.length
  · have hu := hu_of hr
    obtain ⟨G, ds, ⟨ss, cs, rfl⟩, hlen, a, hq⟩ := fsp_start locT n__law_places h
    refine ⟨_, (pss_one (ps_ret (pe_op (r := rAddU K) u_add (pe_callB (id := "len") (r := rLenU K) u_len (by rfl) (bi "len" (by decide +kernel)) (by decide +kernel) (pa_cons (pe_ix (r := rIx K) ix_seq (pv 0) pe_int (fun _ _ => rfl)) pa_nil)) (pe_callB (id := "len") (r := rLenU K) u_len (by rfl) (bi "len" (by decide +kernel)) (by decide +kernel) (pa_cons (pe_ix (r := rIx K) ix_seq (pv 0) pe_int (fun _ _ => rfl)) pa_nil))))), ?_⟩
    exact x_ret a (ed_op (d1 := .int (ss.length : Int)) (d2 := .int (cs.length : Int)) (Ed.is (ed_lenT (ds := ss.map tS) (ed_op (ed_var rfl) ed_int (rd_ixT rfl))) (by rw [List.length_map])) (Ed.is (ed_lenT (ds := cs.map tI) (ed_op (ed_var rfl) ed_int (rd_ixT rfl))) (by rw [List.length_map])) rd_addI) fun v H' d' hd' a' => hq ⟨ss, cs, rfl, hd'⟩ a'
end
end Cal


namespace Cal
open PySem PySem.Spec PyProof.Rows L2
/-! ### changes of a placement (own text) -/
inductive Chg where
  | keep (s : Nat) (x : Str) | drop (s : Nat) (x : Str) | join (v : List Int) | leave (w : Nat)
def Chg.d : Chg → D
  | .keep s x => .tup [.str "keep", .int s, .str x]
  | .drop s x => .tup [.str "drop", .int s, .str x]
  | .join v => .tup [.str "join", tI v]
  | .leave w => .tup [.str "leave", .int w]
def Chg.word : Chg → Str
  | .keep _ _ => "keep" | .drop _ _ => "drop" | .join _ => "join" | .leave _ => "leave"
def Chg.cand (ss : List (List Str)) (cs : List (List Int)) : Chg → Prop
  | .keep s x => s < ss.length ∧ x ∈ U3
  | .drop s x => s < ss.length ∧ x ∈ U3
  | .join v => VisB ss.length v
  | .leave w => ss.length ≤ w ∧ w < ss.length + cs.length
def Chg.good (ss : List (List Str)) : Chg → Bool
  | .keep s x => !decide (x ∈ ss.getD s [])
  | .drop s x => decide (x ∈ ss.getD s [])
  | _ => true
def Chg.To (ss : List (List Str)) (cs : List (List Int)) (ss' : List (List Str)) (cs' : List (List Int)) : Chg → Prop
  | .keep s x => cs' = cs ∧ ∃ ys : List Str, sortedS ys = true ∧ ys.Nodup ∧ (∀ z, z ∈ ys ↔ z ∈ ss.getD s [] ∨ z = x) ∧ ss' = ss.set s ys
  | .drop s x => cs' = cs ∧ ss' = ss.set s ((ss.getD s []).filter fun z => !decide (z = x))
  | .join v => ss' = ss ∧ cs' = cs ++ [v]
  | .leave w => ss' = ss ∧ cs' = cs.take (w - ss.length) ++ cs.drop (w - ss.length + 1)
theorem Chg.d_word : ∀ c : Chg, ∃ r, c.d = .tup (.str c.word :: r)
  | .keep _ _ => ⟨_, rfl⟩ | .drop _ _ => ⟨_, rfl⟩ | .join _ => ⟨_, rfl⟩ | .leave _ => ⟨_, rfl⟩
theorem tI_injS {v w : List Int} (h : tI v = tI w) : v = w := (List.map_inj_right fun a b e => D.int.inj e).mp (D.tup.inj h)
def Chg.tag : Chg → Nat
  | .keep _ _ => 0 | .drop _ _ => 1 | .join _ => 2 | .leave _ => 3
def wordT : Nat → Str
  | 0 => "keep" | 1 => "drop" | 2 => "join" | _ => "leave"
theorem wordT_ne : ∀ i < 4, ∀ j < 4, wordT i = wordT j → i = j := by decide +kernel
theorem wordT_sm : ∀ i < 4, (wordT i).length ≤ 1000000 ∧ PyData.strOk (wordT i) = true := by decide +kernel
theorem Chg.tag_lt : ∀ c : Chg, c.tag < 4
  | .keep _ _ => (by decide : 0 < 4) | .drop _ _ => (by decide : 1 < 4) | .join _ => (by decide : 2 < 4) | .leave _ => (by decide : 3 < 4)
theorem Chg.word_tag (c : Chg) : c.word = wordT c.tag := by cases c <;> rfl
theorem Chg.word_eq {c c' : Chg} (h : c.word = c'.word) : c.tag = c'.tag := wordT_ne _ c.tag_lt _ c'.tag_lt (by rw [← c.word_tag, ← c'.word_tag]; exact h)
theorem Chg.d_inj {c c' : Chg} (h : c.d = c'.d) : c = c' := by
  have hw : c.word = c'.word := by
    obtain ⟨r, e⟩ := c.d_word
    obtain ⟨r', e'⟩ := c'.d_word
    rw [e, e'] at h
    have := D.tup.inj h
    injection this with h1 _
    exact D.str.inj h1
  have hw := Chg.word_eq hw
  cases c <;> cases c' <;> first | cases hw | skip
  · have h := D.tup.inj h
    injection h with _ h
    injection h with h1 h
    injection h with h2 _
    have h1 := D.int.inj h1
    rw [D.str.inj h2, show _ = _ from Int.ofNat.inj h1]
  · have h := D.tup.inj h
    injection h with _ h
    injection h with h1 h
    injection h with h2 _
    have h1 := D.int.inj h1
    rw [D.str.inj h2, show _ = _ from Int.ofNat.inj h1]
  · have h := D.tup.inj h
    injection h with _ h
    injection h with h1 _
    rw [tI_injS h1]
  · have h := D.tup.inj h
    injection h with _ h
    injection h with h1 _
    rw [show _ = _ from Int.ofNat.inj (D.int.inj h1)]
section
variable {ss ss' ss2 : List (List Str)} {cs cs' cs2 : List (List Int)} {c : Chg}
theorem VisB.len {n : Nat} {v : List Int} (h : VisB n v) : v.length ≤ n := asc_len h.1 h.2.1
theorem sm_name {x : Str} (h : NameB x) : Sm (.str x) := ⟨Nat.le_trans h.2.1 (by decide), strOk_B h⟩
theorem sm_nat {n : Nat} (h : n < 1000) : Sm (.int n) := Nat.lt_of_lt_of_le (show ((n : Int)).natAbs < 1000 by omega) (by decide)
theorem sm_vis {n : Nat} {v : List Int} (h : VisB n v) (hn : n < 1000) : Sm (tI v) := ⟨by rw [List.length_map]; have := h.len; omega, SmA.of fun d hd => by
  obtain ⟨x, hx, rfl⟩ := List.mem_map.mp hd
  have := h.2.1 x hx
  exact Nat.lt_of_lt_of_le (show x.natAbs < 1000 by omega) (by decide)⟩
theorem sm_word (c : Chg) : Sm (.str c.word) := by rw [c.word_tag]; exact wordT_sm _ c.tag_lt
theorem Chg.sm (hP : Pl3 ss cs) (hc : c.cand ss cs) : Sm c.d := by
  have m7 := hP.m7
  have hw := sm_word c
  cases c with
  | keep s x => exact ⟨by show 3 ≤ 1000000; decide, hw, sm_nat (by have := hc.1; omega), sm_name (u3_name _ hc.2), True.intro⟩
  | drop s x => exact ⟨by show 3 ≤ 1000000; decide, hw, sm_nat (by have := hc.1; omega), sm_name (u3_name _ hc.2), True.intro⟩
  | join v => exact ⟨by show 2 ≤ 1000000; decide, hw, sm_vis hc (by omega), True.intro⟩
  | leave w => exact ⟨by show 2 ≤ 1000000; decide, hw, sm_nat (by have := hc.2; omega), True.intro⟩
theorem row_at (hP : Pl3 ss cs) {s : Nat} (h : s < ss.length) : RowB (ss.getD s []) := hP.rows _ (getD_memS h)
theorem rowB_filter {r : List Str} (h : RowB r) (p : Str → Bool) : RowB (r.filter p) := by
  have hs : (r.filter p).Sublist r := List.filter_sublist
  refine ⟨?_, hs.nodup h.2.1, fun x hx => h.2.2 x (hs.subset hx)⟩
  have pw := (sorted_pw h.1 h.2.1).sublist hs
  generalize r.filter p = q at pw
  cases q with
  | nil => rfl
  | cons y t =>
    show risingS y t = true
    clear hs
    induction t generalizing y with
    | nil => rfl
    | cons z t ih =>
      obtain ⟨h1, h2⟩ := List.pairwise_cons.mp pw
      show (!ltCps z.cps.toList y.cps.toList && risingS z t) = true
      rw [Bool.and_eq_true]
      refine ⟨?_, ih z h2⟩
      rw [ltCps_eq, decide_eq_false (fun k => absurd (List.lt_trans (h1 z (List.mem_cons_self ..)) k) (List.lt_irrefl _))]; rfl
theorem rowB_ins {r ys : List Str} (h : RowB r) {x : Str} (hx : x ∈ U3) (h1 : sortedS ys = true) (h2 : ys.Nodup) (h3 : ∀ z, z ∈ ys ↔ z ∈ r ∨ z = x) : RowB ys := ⟨h1, h2, fun z hz => by
  rcases (h3 z).mp hz with y | y
  · exact h.2.2 z y
  · rw [y]; exact hx⟩
theorem mem_setS {α : Type} {l : List α} {i : Nat} {x y : α} (h : y ∈ l.set i x) : y = x ∨ y ∈ l := (List.mem_or_eq_of_mem_set h).symm
theorem pl3_set (hP : Pl3 ss cs) {s : Nat} {ys : List Str} (h : RowB ys) : Pl3 (ss.set s ys) cs := ⟨by rw [List.length_set]; exact hP.n1, by rw [List.length_set]; exact hP.m7, fun k hk => by
  rcases mem_setS hk with e | hk
  · rw [e]; exact h
  · exact hP.rows k hk, fun v hv => by rw [List.length_set]; exact hP.vis v hv⟩
/-- what a change gives is a placement -/
theorem Chg.To.pl3 (hP : Pl3 ss cs) (hc : c.cand ss cs) (hj : ∀ v, c = .join v → ss.length + cs.length < 7) (h : c.To ss cs ss' cs') : Pl3 ss' cs' := by
  cases c with
  | keep s x =>
    obtain ⟨rfl, ys, h1, h2, h3, rfl⟩ := h
    exact pl3_set hP (rowB_ins (row_at hP hc.1) hc.2 h1 h2 h3)
  | drop s x =>
    obtain ⟨rfl, rfl⟩ := h
    exact pl3_set hP (rowB_filter (row_at hP hc.1) _)
  | join v =>
    obtain ⟨rfl, rfl⟩ := h
    refine ⟨hP.n1, by have := hj v rfl; rw [List.length_append, List.length_singleton]; omega, hP.rows, fun u hu => ?_⟩
    rcases List.mem_append.mp hu with z | z
    · exact hP.vis u z
    · rw [List.mem_singleton.mp z]; exact hc
  | leave w =>
    obtain ⟨rfl, rfl⟩ := h
    have m7 := hP.m7
    refine ⟨hP.n1, by rw [List.length_append, List.length_take, List.length_drop]; omega, hP.rows, fun u hu => hP.vis u ?_⟩
    rcases List.mem_append.mp hu with z | z
    · exact List.mem_of_mem_take z
    · exact List.mem_of_mem_drop z
theorem Chg.To.det (hP : Pl3 ss cs) (hc : c.cand ss cs) (h : c.To ss cs ss' cs') (h2 : c.To ss cs ss2 cs2) : ss' = ss2 ∧ cs' = cs2 := by
  cases c with
  | keep s x =>
    obtain ⟨rfl, ys, a1, a2, a3, rfl⟩ := h
    obtain ⟨rfl, zs, b1, b2, b3, rfl⟩ := h2
    rw [sort_ext a1 a2 b1 b2 fun z => (a3 z).trans (b3 z).symm]
    exact ⟨rfl, rfl⟩
  | drop s x =>
    obtain ⟨rfl, rfl⟩ := h
    obtain ⟨rfl, rfl⟩ := h2
    exact ⟨rfl, rfl⟩
  | join v =>
    obtain ⟨rfl, rfl⟩ := h
    obtain ⟨rfl, rfl⟩ := h2
    exact ⟨rfl, rfl⟩
  | leave w =>
    obtain ⟨rfl, rfl⟩ := h
    obtain ⟨rfl, rfl⟩ := h2
    exact ⟨rfl, rfl⟩
/-- the change that takes a change back -/
def Chg.back (ss : List (List Str)) (cs : List (List Int)) : Chg → Option Chg
  | .keep s x => some (.drop s x) | .drop s x => some (.keep s x) | .join _ => some (.leave (ss.length + cs.length)) | .leave _ => none
theorem getD_setS {α : Type} {z : α} {l : List α} {i : Nat} {x : α} (h : i < l.length) : (l.set i x).getD i z = x := by
  rw [List.getD_eq_getElem?_getD, List.getElem?_set_self h]; rfl
theorem set_getS {α : Type} {z : α} {l : List α} {i : Nat} (h : i < l.length) : l.set i (l.getD i z) = l := by
  rw [List.getD_eq_getElem?_getD, List.getElem?_eq_getElem h]
  exact List.set_getElem_self h
theorem Chg.To.back (hP : Pl3 ss cs) (hc : c.cand ss cs) (hg : c.good ss = true) (h : c.To ss cs ss' cs') {b : Chg} (hb : c.back ss cs = some b) : b.cand ss' cs' ∧ b.good ss' = true ∧ b.To ss' cs' ss cs := by
  cases c with
  | keep s x =>
    cases hb
    obtain ⟨rfl, ys, a1, a2, a3, rfl⟩ := h
    have hr := row_at hP hc.1
    refine ⟨⟨by rw [List.length_set]; exact hc.1, hc.2⟩, ?_, rfl, ?_⟩
    · show decide (x ∈ (ss.set s ys).getD s []) = true
      rw [getD_setS hc.1]
      exact decide_eq_true ((a3 x).mpr (.inr rfl))
    · rw [getD_setS hc.1, List.set_set]
      have hx : x ∉ ss.getD s [] := fun z => by
        have hg : (!decide (x ∈ ss.getD s [])) = true := hg
        rw [decide_eq_true z] at hg; cases hg
      have hf := rowB_filter (rowB_ins hr hc.2 a1 a2 a3) fun z => !decide (z = x)
      have e : ys.filter (fun z => !decide (z = x)) = ss.getD s [] := sort_ext hf.1 hf.2.1 hr.1 hr.2.1 fun z => by
        rw [List.mem_filter, a3 z, Bool.not_eq_true', decide_eq_false_iff_not]
        constructor
        · rintro ⟨h1 | h1, h2⟩
          · exact h1
          · exact absurd h1 h2
        · exact fun h1 => ⟨.inl h1, fun e => hx (e ▸ h1)⟩
      rw [e]
      exact (set_getS hc.1).symm
  | drop s x =>
    cases hb
    obtain ⟨rfl, rfl⟩ := h
    have hr := row_at hP hc.1
    have hx : x ∈ ss.getD s [] := of_decide_eq_true hg
    refine ⟨⟨by rw [List.length_set]; exact hc.1, hc.2⟩, ?_, rfl, ss.getD s [], hr.1, hr.2.1, fun z => ?_, ?_⟩
    · show (!decide (x ∈ (ss.set s _).getD s [])) = true
      rw [getD_setS hc.1, decide_eq_false (fun z => by
        have := (List.mem_filter.mp z).2
        rw [Bool.not_eq_true', decide_eq_false_iff_not] at this
        exact this rfl)]
      rfl
    · rw [getD_setS hc.1, List.mem_filter, Bool.not_eq_true', decide_eq_false_iff_not]
      constructor
      · intro h1
        by_cases e : z = x
        · exact .inr e
        · exact .inl ⟨h1, e⟩
      · rintro (⟨h1, _⟩ | e)
        · exact h1
        · rw [e]; exact hx
    · rw [List.set_set]
      exact (set_getS hc.1).symm
  | join v =>
    cases hb
    obtain ⟨rfl, rfl⟩ := h
    refine ⟨⟨by omega, by rw [List.length_append, List.length_singleton]; omega⟩, rfl, rfl, ?_⟩
    rw [show ss'.length + cs.length - ss'.length = cs.length by omega, List.take_left', List.drop_of_length_le (by rw [List.length_append, List.length_singleton]; omega), List.append_nil]
    rfl
  | leave w => cases hb
/-- where a place is behind a change -/
def afterD (c : Chg) (p : Nat) : D := match c with
  | .leave w => if p < w then .int p else if p = w then .non else .int ((p : Int) - 1)
  | _ => .int p
end
end Cal


namespace Cal
open PySem PySem.Spec PyProof.Rows L2
/-! Own text: tuple(range(a, b)); new lists with what rows hold; lists that change, passed on as data. -/
section
variable {B : Bs} {ρ : Ro} {μ : Mu} {ta tb te : TE} {i j : Int}
theorem ed_tupRg2 (ha : Ed B ta ρ μ (.int i)) (hb : Ed B tb ρ μ (.int j)) (h0 : 0 ≤ i) (h1 : i ≤ 1000) (h2 : 0 ≤ j) (h3 : j ≤ 1000) : Ed B (tTupRg (tRg2 ta tb)) ρ μ (.tup ((List.range (j - i).toNat).map fun k : Nat => D.int (i + (k : Nat)))) := Ev.mk fun τ σ H a Q q => ha.go a fun v H1 d hd a1 => hb.go a1 fun u H2 d2 hd2 a2 => by
  subst hd; subst hd2
  obtain ⟨G, g, hu⟩ := a2.top
  obtain ⟨G', g', hv⟩ := At.top (B := B) (ρ := ρ) (μ := μ) (τ := τ) (σ := σ) (H := H2) (v := v) (d := .int i) ⟨G, g⟩
  refine ⟨i, j, hv, hu, RgOk.of_le h0 (by omega) (by omega) h2, fun p hp => ?_⟩
  have a3 : At B ρ μ τ σ H2 := a2.pop.pop
  obtain ⟨G3, g3⟩ := a3
  refine q _ _ _ rfl (g3.newTup hp ?_)
  have e := DtA.of_ints (K := B.K) (G := G3) ((List.range (j - i).toNat).map fun k : Nat => i + (k : Int))
  rw [List.map_map, List.map_map] at e
  exact e
theorem AtG.newCell4 {c : Cl} {o : HO} (h : AtG B ρ μ τ σ H G) (hp : H p = none) (hc : CellOk B.K G (upd H p o) p c) : At B ρ ((p, c) :: μ) τ σ (upd H p o) := by
  obtain ⟨n1, n2, n3, n4⟩ := h.notNew hp
  have h' : AtG B ρ μ τ σ (upd H p o) G := by
    refine h.laid (Same.refl G) (fun b u e => ?_) (same_new hp) h.ext (fun q hq => (h.cells q hq).1) (fun b hb => (h.out b hb).1) (fun b hb => ?_) (fun b vs e => ?_)
    · rw [upd_ne (ne_of_none (h.sub b u e) hp)]; exact h.sub b u e
    · rw [upd_ne (ne_of_mem n3 hb)]
    · by_cases hb : b = p
      · subst hb; exact absurd e hc.noTup
      · rw [upd_ne hb] at e; exact h.tup b vs e
  refine ⟨G, { h' with cells := fun q hq => ?_, nd := ?_ }⟩
  · rcases List.mem_cons.mp hq with e | hq
    · subst e; exact ⟨n1, n2, n3, hc⟩
    · exact h'.cells q hq
  · rw [List.map_cons, List.nodup_cons]
    refine ⟨fun m => ?_, h.nd⟩
    obtain ⟨q, hq, e⟩ := List.mem_map.mp m
    exact n4 q hq e
theorem xl_lstL4 {ds : List D} (h : Ed B te ρ μ (.lst ds)) : Xl B (tCB (rLstOf B.K) (tCons te tNil)) ρ μ ds := fun τ σ H a Q q => h.go a fun v H1 d hd a1 => by
  subst hd
  obtain ⟨G, g, pa, vs, rfl, e, k1⟩ := id a1.top
  refine .inl ⟨pa, vs, rfl, .inl (.inl (.inl (g.sub _ _ e))), fun l hl => q _ _ _ _ ⟨l, rfl, rfl⟩ ?_⟩
  exact At.flat (AtG.newCell4 (c := .lst ds) (o := .lst vs) g hl ⟨vs, upd_same, k1⟩) fun _ => rfl
/-- [list(one) for one in rows]: new lists with what the rows hold -/
theorem xl_rowsOf {tl : TE} {vs : List Nat} {k : Nat} {rows : List (List D)} (h : Ed B tl ρ μ (.lst (rows.map D.lst))) (hn : rows.length ≤ 1000) (hk : k ∈ vs) (hkl : k < ρ.length) :
    Xv B (tLc (iList B.K tl) (gName k) tYes (tCB (rLstOf B.K) (tCons (tVar k) tNil)) vs) ρ μ fun d μ' => ∃ p ls, ls.length = rows.length ∧ d = rr p ∧ μ' = (p, .lst (ls.map rr)) :: (rowsMu ls rows ++ μ) := fun τ σ H a Q q => (ei_lst h) (sv ρ σ ++ τ) σ H a.save _ fun J H1 τ1 hsub a1 hJ Dl hD => by
  have hf := a.fits
  have el : (rows.map D.lst).length = rows.length := List.length_map ..
  refine ⟨fun i m H => m = rows.length - i ∧ i ≤ rows.length ∧ ∃ ls : List Addr, ls.length = i ∧ At B ρ ((Dl, .lst (ls.map rr)) :: (rowsMu ls (rows.take i) ++ μ)) τ1 σ H, ⟨rows.length, by omega, Nat.zero_le _, [], rfl, (At.newCell (c := .lst []) (o := .lst []) a1 hD fun G _ => ⟨[], upd_same, rfl⟩).1⟩, fun i m H2 hW => ?_⟩
  obtain ⟨rfl, hin, ls, hls, a2⟩ := hW
  obtain ⟨s1, s2⟩ := hJ i ρ _ τ1 σ H2 (fun _ z => z) a2
  by_cases hlt : i < rows.length
  · obtain ⟨s3, s4⟩ := s2 (by rw [el]; exact hlt)
    refine .inr ⟨s3, fun H => ∃ ls : List Addr, ls.length = i + 1 ∧ At B ρ ((Dl, .lst (ls.map rr)) :: (rowsMu ls (rows.take (i + 1)) ++ μ)) τ1 σ H, fun H' ⟨ls, h1, h2⟩ => ⟨rows.length - (i + 1), by omega, rfl, hlt, ls, h1, h2⟩, fun x H3 hy => ?_⟩
    have er : rows[i]? = some (rows.getD i []) := by rw [List.getD_eq_getElem?_getD, List.getElem?_eq_getElem hlt]; rfl
    have ef : (rows.map D.lst).getD i .non = .lst (rows.getD i []) := by rw [List.getD_eq_getElem?_getD, List.getElem?_map, er]; rfl
    refine gd_name k τ1 (wipe σ vs) H3 x (At.wiped (s4 x H3 hy) vs) _ fun σ' a3 hl3 hk3 => ⟨wipe_ext (js := [k]) (fun z hz => by rw [List.mem_singleton.mp hz]; exact hk) hl3 hk3, ?_⟩
    refine tYes_if ?_
    refine xl_lstL4 (ds := rows.getD i []) (ed_var (by rw [List.getElem?_set_self (by rw [wipeR_len]; exact hkl)]; exact congrArg (fun d => some (some d)) ef)) _ _ _ a3 _ fun v H4 d μ4 ⟨p, e1, e2⟩ a4 => ?_
    subst e1; subst e2
    obtain ⟨G4, g4, hv⟩ := a4.top
    rw [show v = V.ref p from hv] at a4 ⊢
    have a4' := a4.pop
    obtain ⟨G, g5, us, e5, k5⟩ := a4'.cell (j := 1) rfl
    refine ⟨us, e5, by rw [k5.length, List.length_map, hls]; exact Nat.lt_of_lt_of_le hlt (Nat.le_trans hn (by decide)), ls ++ [p], by rw [List.length_append, hls]; rfl, ?_⟩
    have a6 := At.write (j := 1) (c' := .lst (ls.map rr ++ [rr p])) (o := .lst (us ++ [.ref p])) a4' rfl fun G k1 ⟨vs6, e6, k6⟩ => by
      rw [e5] at e6
      cases e6
      exact ⟨_, upd_same, k6.append ⟨.ref p, [], rfl, rfl, rfl⟩⟩
    refine At.restore hf (At.perm a6 ?_) fun q hq => hsub q (List.mem_append_left _ hq)
    have e7 : rowsMu (ls ++ [p]) (rows.take (i + 1)) = rowsMu ls (rows.take i) ++ [(p, .lst (rows.getD i []))] := by
      unfold rowsMu
      rw [List.take_add_one, er, Option.toList_some, List.zipWith_append (by rw [List.length_take]; omega)]
      rfl
    rw [e7, List.map_append]
    show List.Perm ((Dl, Cl.lst (ls.map rr ++ [rr p])) :: (rowsMu ls (rows.take i) ++ [(p, Cl.lst (rows.getD i []))] ++ μ)) ((p, Cl.lst (rows.getD i [])) :: (Dl, Cl.lst (ls.map rr ++ [rr p])) :: (rowsMu ls (rows.take i) ++ μ))
    refine (List.Perm.cons _ ?_).trans (List.Perm.swap _ _ _)
    rw [List.append_assoc]
    exact List.perm_middle
  · have e : i = rows.length := by omega
    subst e
    refine .inl ⟨s1 (by rw [el]; exact Nat.le_refl _), ?_⟩
    rw [List.take_length] at a2
    exact q _ H2 _ _ ⟨Dl, ls, hls, rfl, rfl⟩ (At.flat (a2.sub fun z hz => hsub z (List.mem_append_right _ hz)) fun _ => rfl)
end
end Cal


namespace Cal
open PySem PySem.Spec PyProof.Rows L2
/-! ### nothing, so many times -/
theorem mul_none (l : Addr) (its : Array Value) (n : Nat) (dd : Option Addr) (sl : Array (Option Value)) (x : Int) (u : Tok) (c0 : (decide (x < -(2 ^ 63)) || decide (x ≥ 2 ^ 63)) = false) (h0 : (its.isEmpty || x == 1) = true) :
    Meets (Builtin.«tuple.__mul__» ⟨[.ref l, .int x u], []⟩) (fun _ R st => st.heap.get? l = some { cls := .type "tuple", dict := dd, data := .seq its n, slots := sl } ∧ R (.ok (.ret (Value.ref l))) st) :=
  .of_wp fun pr w A R st hh => by
    obtain ⟨hp, ge, dr, tk, osn⟩ := st
    obtain ⟨gl, hR⟩ := hh
    have f1 := AutoSeq1.idx_int
    wp_walk using wpAny_loadPart' gl
    refine wpAny_ite_false (decide_eq_false (by rw [c0]; exact Bool.false_ne_true)) ?_
    wp_walk using wpAny_loadPart' gl
    exact ⟨_, rfl, hR⟩
def rRepE (K : PySem.W.Frag) : R2 := fun x y H Q => ∃ l k xs, x = .ref l ∧ y = .int k ∧ SqT K H l xs ∧ 2 ≤ k ∧ k ≤ 1000 ∧ xs.length ≤ 1000 ∧ (xs = [] → Q (.ref l) H) ∧ (xs ≠ [] → ∀ p, H p = none → Q (.ref p) (upd H p (.tup (List.replicate k.toNat xs).flatten)))
section
variable {X : Cx}
theorem op_repE : OpR X (binaryOp .Mult) (rRepE X.K) := fun pins s σ H x y v u Q I rx ry h => by
  obtain ⟨l, k, xs, rfl, rfl, hT, h1, h2, hz, q0, q1⟩ := h
  by_cases hx : xs = []
  · subst hx
    cases rx
    obtain ⟨t, rfl⟩ := ry
    obtain ⟨its, r, ⟨⟨cls, dd, data, sl⟩, ho, hc, n, hd⟩, hs⟩ := I.tuple hT
    have hc' : cls = .type "tuple" := hc
    have hd' : data = .seq its.toArray n := hd
    rw [hc', hd'] at ho
    have hn : its = [] := List.eq_nil_of_length_eq_zero r.length.symm
    subst hn
    refine wpAny_binaryOp_repeat_ref (T := "tuple") (U := "int") (by decide) ⟨_, ho, rfl⟩ (fun s' => typeIs_int s' k t) noFill_tuple_mul F.fills_int_mul F.slot_int_rmul repeat_tuple F.slot_int_index.lookup (call_meets F.slot_int_rmul (typeIs_int s k t) F.entry_int_rmul (F.args_int_rmul_2 _ _) (int_rmul_tuple k t l _ n dd sl) ⟨ho, rfl, ⟨_, ho, rfl⟩, call_meets F.slot_tuple_mul ⟨_, ho, rfl⟩ F.entry_tuple_mul (F.args_tuple_mul_2 _ _) (mul_none l _ n dd sl k t (by rw [decide_eq_false (by omega), decide_eq_false (by omega)] <;> rfl) rfl) ⟨ho, ?_⟩⟩)
    exact ⟨.ref l, H, I, rfl, q0 rfl⟩
  · exact op_repT pins s σ H _ _ v u Q I rx ry ⟨l, k, xs, rfl, rfl, hT, hx, h1, h2, hz, q1 hx⟩
end
section
variable {B : Bs} {ρ : Ro} {μ : Mu} {ds : List D}
theorem rd_repE {n : Int} (h2 : 2 ≤ n ∧ n ≤ 1000) (h3 : ds.length ≤ 1000) : RD B (rRepE B.K) ρ μ (.tup ds) (.int n) (fun e => e = .tup (List.replicate n.toNat ds).flatten) := fun τ σ H x y a Q q => by
  obtain ⟨G, g, ⟨p, vs, rfl, e1, k1⟩, hy⟩ := a.two
  have hy' : y = V.int n := hy
  subst hy'
  refine ⟨p, n, vs, rfl, rfl, .inl (.inl (g.sub _ _ e1)), h2.1, h2.2, by rw [k1.length]; exact h3, fun z => ?_, fun z p' hp' => q _ _ _ rfl (g.newTup hp' (k1.rep _))⟩
  have hd : ds = [] := List.eq_nil_of_length_eq_zero (by rw [← k1.length, z]; rfl)
  subst hd
  refine q _ H _ rfl ?_
  have e2 : (List.replicate n.toNat ([] : List D)).flatten = [] := List.flatten_replicate_nil
  rw [e2]
  exact ⟨G, g.push ⟨p, vs, rfl, e1, k1⟩⟩
/-- a list, so many times -/
theorem rd_repL {n : Int} (h2 : 0 ≤ n ∧ n ≤ 1000) (h3 : ds.length ≤ 1000) : RD B rRep ρ μ (.lst ds) (.int n) (fun e => e = .lst (List.replicate n.toNat ds).flatten) := fun τ σ H x y a Q q => by
  obtain ⟨G, g, ⟨p, vs, rfl, e1, k1⟩, hy⟩ := a.two
  have hy' : y = V.int n := hy
  subst hy'
  exact ⟨p, n, vs, rfl, rfl, g.sub _ _ e1, by omega, by omega, Nat.le_trans (Nat.mul_le_mul (show vs.length ≤ 1000 by rw [k1.length]; exact h3) (show n.toNat ≤ 1000 by omega)) (by decide), fun p' hp' => q _ _ _ rfl (g.newLst hp' (k1.rep _))⟩
end
end Cal


namespace Cal
open PySem PySem.Spec PyProof.Rows L2
section
variable {B : Bs} {ρ : Ro} {μ : Mu} {τ : List (V × D)} {σ : L2.St} {H : Hp} {ta tb te : TE} {as bs ds es : List D} {p : Addr} {D0 : Ends} {tz : TS} {j k : Nat}
/-- a + b: a new list that will change -/
theorem xl_addL (h1 : Ed B ta ρ μ (.lst as)) (h2 : Ed B tb ρ μ (.lst bs)) (hz : as.length + bs.length ≤ sizeLine) : Xl B (tOp (rAddU B.K) ta tb) ρ μ (as ++ bs) := fun τ σ H a Q q => h1.go a fun v H1 d hd a1 => h2.go a1 fun v2 H2 d2 hd2 a2 => by
  subst hd; subst hd2
  obtain ⟨G, g⟩ := id a2
  obtain ⟨p, vs, rfl, e1, k1⟩ := g.temps (v, .lst as) (List.mem_cons_of_mem _ (List.mem_cons_self ..))
  obtain ⟨p', us, rfl, e2, k2⟩ := g.temps (v2, .lst bs) (List.mem_cons_self ..)
  refine .inr (.inr (.inr ⟨p, p', vs, us, rfl, rfl, g.sub _ _ e1, g.sub _ _ e2, by rw [k1.length, k2.length]; exact hz, fun q' hq' => q _ _ _ _ ⟨q', rfl, rfl⟩ ?_⟩))
  have a3 := AtG.newCell4 (c := .lst (as ++ bs)) (o := .lst (vs ++ us)) g hq' ⟨_, upd_same, k1.append k2⟩
  exact At.flat (At.sub a3 fun z hz => List.mem_cons_of_mem _ (List.mem_cons_of_mem _ hz)) fun _ => rfl
theorem y_extendE (a : At B ρ μ τ σ H) (hs : ρ[j]? = some (some (.raw (.ref p)))) (hm : μ[k]? = some (p, .lst ds)) (he : Ed B te ρ μ (.lst es)) (hz : ds.length + es.length ≤ sizeLine) (q : ∀ H', At B ρ (μ.set k (p, .lst (ds ++ es))) τ σ H' → tz D0 σ H') : tSeq (tDrop (tBM B.K "list" rExtend (tVar j) (tCons te tNil))) tz D0 σ H := x_extend (D0 := { D0 with nx := tz D0 }) a hs hm he hz q
end
theorem x_asgV2 {B : Bs} {ρ : Ro} {μ : Mu} {τ : List (V × D)} {σ : L2.St} {H : Hp} {t : TA} {D0 : Ends} {k l : Nat} {Ps : D → D → Prop} (a : At B ρ μ τ σ H) (h : Ea B t ρ μ fun ds => ∃ d1 d2, ds = [d1, d2] ∧ Ps d1 d2)
    (q : ∀ d1 d2 σ' H', Ps d1 d2 → At B ((ρ.set k (some d1)).set l (some d2)) μ τ σ' H' → D0.nx σ' H') : tAsg (tTup t) (gTup B.K 2 (gCons (gName k) (gCons (gName l) gNil))) D0 σ H :=
  (ev_tup (P := fun d => ∃ d1 d2, d = .tup [d1, d2] ∧ Ps d1 d2) h fun ds ⟨d1, d2, e, hp⟩ => ⟨by rw [e]; show 2 ≤ sizeLine; decide, d1, d2, by rw [e], hp⟩).go a fun v H' d' ⟨d1, d2, e, hp⟩ a' => by
    subst e
    exact gd_tup2 (k := k) (l := l) τ σ H' v a' _ fun σ' a2 _ _ => q d1 d2 σ' H' hp a2
theorem y_asgV2 {B : Bs} {ρ : Ro} {μ : Mu} {τ : List (V × D)} {σ : L2.St} {H : Hp} {t : TA} {tz : TS} {D0 : Ends} {k l : Nat} {Ps : D → D → Prop} (a : At B ρ μ τ σ H) (h : Ea B t ρ μ fun ds => ∃ d1 d2, ds = [d1, d2] ∧ Ps d1 d2)
    (q : ∀ d1 d2 σ' H', Ps d1 d2 → At B ((ρ.set k (some d1)).set l (some d2)) μ τ σ' H' → tz D0 σ' H') : tSeq (tAsg (tTup t) (gTup B.K 2 (gCons (gName k) (gCons (gName l) gNil)))) tz D0 σ H := x_asgV2 (D0 := { D0 with nx := tz D0 }) a h q
theorem range_getS {α β : Type} (z : α) (l : List α) (f : α → β) : (List.range l.length).map (fun i => f (l.getD i z)) = l.map f := by
  conv => rhs; rw [← map_range_getS z l]
  rw [List.map_map]; rfl
theorem filt_getS {α β : Type} (z : α) (l : List α) (p : α → Bool) (f : α → β) : ((List.range l.length).filter fun n => p (l.getD n z)).map (fun n => f (l.getD n z)) = (l.filter p).map f := by
  conv => rhs; rw [← map_range_getS z l]
  rw [List.filter_map, List.map_map]; rfl
/-- the names in their order -/
def SU : List Str := ["a", "abcdefghij", "b", "c", "d", "e", "f", "g", "gg", "h", "k", "new", "x", "zz"]
theorem su_row : RowB SU := ⟨by decide +kernel, by decide +kernel, by decide +kernel⟩
theorem su_all : ∀ x ∈ U3, x ∈ SU := by decide +kernel
def regsOf (ss : List (List Str)) : List Str := SU.filter fun x => decide (x ∈ ss.flatten)
theorem regs_eq {ss : List (List Str)} {cs : List (List Int)} (hP : Pl3 ss cs) {ys : List Str} (h : RegsOf ss ys) : ys = regsOf ss := by
  have hR := rowB_filter su_row fun x => decide (x ∈ ss.flatten)
  refine sort_ext h.1 h.2.1 hR.1 hR.2.1 fun x => ?_
  rw [h.2.2 x]
  unfold regsOf
  rw [List.mem_filter, decide_eq_true_iff]
  refine ⟨fun hx => ⟨?_, hx⟩, fun hx => hx.2⟩
  obtain ⟨r, hr, hx2⟩ := List.mem_flatten.mp hx
  exact su_all x ((hP.rows r hr).2.2 x hx2)
theorem szS {n : Nat} (h : n ≤ 1000000) : n ≤ sizeLine := Nat.le_trans h (by decide)
section
variable {B : Bs} {ρ : Ro} {μ : Mu} {s : Str} {ss : List Str}
theorem rd_notInS : RD B (rIn B.K true) ρ μ (.str s) (.tup (ss.map .str)) (fun e => e = .bl (!decide (s ∈ ss))) := fun τ σ H x y a Q q => by
  obtain ⟨G, g, hx, ⟨p, vs, rfl, e1, k1⟩⟩ := a.two
  have hx' : x = V.str s := hx
  have hv := k1.strs
  subst hx'; subst hv
  refine ⟨p, _, rfl, .inr (.inl (.inl (g.sub _ _ e1))), rfl, by rw [List.all_map]; exact List.all_eq_true.mpr fun _ _ => rfl, ?_⟩
  have e : inV (.str s) (ss.map V.str) = decide (s ∈ ss) := by
    unfold inV
    rw [List.any_map]
    by_cases h : s ∈ ss
    · rw [decide_eq_true h]
      exact List.any_eq_true.mpr ⟨s, h, by show (s == s) = true; exact beq_self_eq_true s⟩
    · rw [decide_eq_false h]
      refine List.any_eq_false.mpr fun y hy z => h ?_
      have z' : (y == s) = true := z
      rw [← eq_of_beq z']; exact hy
  show Q (.bl (!inV (.str s) (ss.map V.str))) H
  rw [e]
  exact q _ H _ rfl (At.flat ⟨G, g⟩ fun _ => rfl)
end
theorem atI_0 (x : D) (r : List D) : atI (x :: r) 0 = some x := atI_of2 (by decide) rfl
theorem set_cutS {α : Type} {l : List α} {i : Nat} {x : α} (h : i < l.length) : l.take i ++ [x] ++ l.drop (i + 1) = l.set i x := by
  rw [List.set_eq_take_append_cons_drop, if_pos h, List.append_assoc]; rfl
theorem filt_str (r : List Str) (p : Str → Bool) : ((List.range r.length).filter fun n => p (r.getD n "")).map (fun n => D.str (r.getD n "")) = (r.filter p).map .str := by
  conv => rhs; rw [← map_range_getS ("" : Str) r]
  rw [List.filter_map, List.map_map]; rfl
theorem atI_map {α : Type} (g : α → D) (z : α) {l : List α} {i : Int} {p : Nat} (h : i = p) (hp : p < l.length) : atI (l.map g) i = some (g (l.getD p z)) := atI_of2 (by omega) (by rw [show i.toNat = p by omega, List.getElem?_map, getD_atS (z := z) hp]; rfl)
end Cal


namespace Cal
open PySem PySem.Spec PyProof.Rows L2
abbrev s__law_shared : Stmt := topS 51
abbrev n__law_shared : List Str := ["placement", "one", "other", "n", "x"]
theorem sc__law_shared : FnScope n__law_shared ["placement", "one", "other"] (defScope s__law_shared) := ⟨rfl, rfl, rfl, by decide +kernel, rfl, by decide +kernel, by decide +kernel⟩
abbrev s__law_has_step : Stmt := topS 52
abbrev n__law_has_step : List Str := ["placement", "one", "other", "n"]
theorem sc__law_has_step : FnScope n__law_has_step ["placement", "one", "other"] (defScope s__law_has_step) := ⟨rfl, rfl, rfl, by decide +kernel, rfl, by decide +kernel, by decide +kernel⟩
abbrev s__law_graph : Stmt := topS 54
abbrev n__law_graph : List Str := ["placement", "many", "q", "p"]
theorem sc__law_graph : FnScope n__law_graph ["placement"] (defScope s__law_graph) := ⟨rfl, rfl, rfl, by decide +kernel, rfl, by decide +kernel, by decide +kernel⟩
def lcScope : Stmt → Scope | .Return (some (.ListComp _ _ sc _)) _ => sc | .Assign _ (.ListComp _ _ sc _) _ => sc | _ => defScope s__law_graph
theorem plain_names {r : List Str} (h : ∀ x ∈ r, NameB x) : plain (tS r) = true := by
  show plainA (r.map .str) = true
  induction r with
  | nil => rfl
  | cons x t ih =>
    show (plain (.str x) && plainA (t.map .str)) = true
    rw [ih fun y hy => h y (List.mem_cons_of_mem _ hy), show plain (.str x) = true from strOk_B (h x (List.mem_cons_self ..))]; rfl
theorem dep_names (r : List Str) : dep (tS r) ≤ 1 := by
  have h : depA (r.map .str) ≤ 0 := depA_le fun d hd => by
    obtain ⟨x, _, rfl⟩ := List.mem_map.mp hd
    exact Nat.le_refl _
  show depA (r.map .str) + 1 ≤ 1
  omega
theorem eqD_nil (ds : List D) : eqD (.tup ds) (.tup []) = ds.isEmpty := by cases ds <;> rfl
def lawStep (ss : List (List Str)) (cs : List (List Int)) (p q : Nat) : Bool := if ss.length ≤ p then !decide (ss.length ≤ q) && decide ((q : Int) ∈ cs.getD (p - ss.length) []) else if ss.length ≤ q then decide ((p : Int) ∈ cs.getD (q - ss.length) []) else !decide (p = q) && !((ss.getD p []).filter fun x => decide (x ∈ ss.getD q [])).isEmpty
theorem lawStep_eq {ss : List (List Str)} {cs : List (List Int)} (hP : Pl3 ss cs) {p q : Nat} (hp : p < ss.length + cs.length) (hq : q < ss.length + cs.length) : (!decide (p = q) && lawStep ss cs p q) = stepB ss cs p q := by
  have out : ∀ k, ss.length ≤ k → ss.getD k [] = [] := fun k hk => by rw [List.getD_eq_getElem?_getD, List.getElem?_eq_none hk]; rfl
  have nov : ∀ (v : List Int), v ∈ cs → ∀ k : Nat, ss.length ≤ k → (k : Int) ∉ v := fun v hv k hk z => by have := (hP.vis v hv).2.1 _ z; omega
  have vis : ∀ a b : Nat, a < ss.length + cs.length → visitB ss cs a b = (decide (ss.length ≤ a) && decide ((b : Int) ∈ cs.getD (a - ss.length) [])) := fun a b ha => by
    unfold visitB
    rw [show ((a : Int) - (ss.length : Int)).toNat = a - ss.length by omega]
    congr 1
    rw [Bool.eq_iff_iff, decide_eq_true_iff, decide_eq_true_iff]; omega
  have cin : ∀ k, ss.length ≤ k → k < ss.length + cs.length → cs.getD (k - ss.length) [] ∈ cs := fun k h1 h2 => getD_memS (by omega)
  have kp : ∀ k : Nat, keptS ss k = ss.getD k [] := fun k => by unfold keptS; rw [show ((k : Int)).toNat = k by omega]
  unfold stepB
  rw [vis p q hp, vis q p hq]
  unfold sharedS
  rw [kp, kp]
  by_cases e : p = q
  · subst e
    rw [decide_eq_true rfl, if_pos rfl]
    by_cases h : ss.length ≤ p
    · rw [decide_eq_true h, decide_eq_false (nov _ (cin p h hp) p h)]; rfl
    · rw [decide_eq_false h]; rfl
  · rw [decide_eq_false e, if_neg (fun z => e (by omega))]
    unfold lawStep
    by_cases h : ss.length ≤ p
    · rw [if_pos h, out p h, decide_eq_true h]
      by_cases h2 : ss.length ≤ q
      · rw [decide_eq_true h2, decide_eq_false (nov _ (cin p h hp) q h2), decide_eq_false (nov _ (cin q h2 hq) p h)]; rfl
      · rw [decide_eq_false h2]; simp
    · rw [if_neg h, decide_eq_false h]
      by_cases h2 : ss.length ≤ q
      · rw [if_pos h2, decide_eq_true h2, out q h2]
        have : ((ss.getD p []).filter fun x => decide (x ∈ ([] : List Str))) = [] := List.filter_eq_nil_iff.mpr fun x _ => by simp
        rw [this]; simp
      · rw [if_neg h2, decide_eq_false h2, decide_eq_false e]; simp
section
variable {P : Program} {w : World} {K : PySem.W.Frag} {mg : Str → Option Value} {base : Heap} {f : Addr} {fd : FuncData}
abbrev BNk3 : List Str := ["len", "range", "tuple"]
variable (bi : ∀ x, x ∈ BNk3 → mg x = none)
abbrev sp__law_shared (K : PySem.W.Frag) : Sp := psp K (fun ds => ∃ ss cs, ∃ p q : Nat, ds = [plD ss cs, .int p, .int q] ∧ Pl3 ss cs ∧ p < ss.length ∧ q < ss.length) (fun ds e => ∃ ss cs, ∃ p q : Nat, ds = [plD ss cs, .int p, .int q] ∧ e = tS (if p = q then [] else (ss.getD p []).filter fun x => decide (x ∈ ss.getD q [])))
abbrev sp__law_has_step (K : PySem.W.Frag) : Sp := psp K (fun ds => ∃ ss cs, ∃ p q : Nat, ds = [plD ss cs, .int p, .int q] ∧ Pl3 ss cs ∧ p < ss.length + cs.length ∧ q < ss.length + cs.length) (fun ds e => ∃ ss cs, ∃ p q : Nat, ds = [plD ss cs, .int p, .int q] ∧ e = .bl (lawStep ss cs p q))
theorem pq_inj {ss ss' : List (List Str)} {cs cs' : List (List Int)} {p q p' q' : Nat} (h : ([plD ss cs, .int (p : Nat), .int (q : Nat)] : List D) = [plD ss' cs', .int (p' : Nat), .int (q' : Nat)]) : ss = ss' ∧ cs = cs' ∧ p = p' ∧ q = q' := by
  injection h with h1 h2
  injection h2 with h2 h3
  injection h3 with h3 _
  exact ⟨(plD_inj h1).1, (plD_inj h1).2, Int.ofNat.inj (D.int.inj h2), Int.ofNat.inj (D.int.inj h3)⟩
include bi in
theorem ok__law_shared (F : Fun K "_law_shared" "_law_shared" s__law_shared f fd) : FnOk P w K mg base CX0 1 f fd ["placement", "one", "other"] (sp__law_shared K) := by
  refine F.ok sc__law_shared (fun vs H Q E h => ?_) (fun cdv A outer s0 H vs Q E hr h => ?_)
  · obtain ⟨G, ds, h1, ⟨ss, cs, p, q, rfl, _⟩, _⟩ := h
    exact h1.length
  · have hu := hu_of hr
    obtain ⟨G, ds, ⟨ss, cs, p, q, rfl, hP, hp, hq2⟩, hlen, a, hq⟩ := fsp_start locT n__law_shared h
    have hl := (row_at hP hp).len
    refine ⟨_, (pss_cons (ps_asg (pe_callB (id := "len") (r := rLenU K) u_len (by rfl) (bi "len" (by decide +kernel)) (by decide +kernel) (pa_cons (pe_ix (r := rIx K) ix_seq (pv 0) pe_int (fun _ _ => rfl)) pa_nil)) (pg_name (i := 3) sc__law_shared.nd rfl (by first | exact (.inl rfl) | exact (.inr rfl))))
      (pss_cons (ps_if (PW.pt (pw_or (pt_cmpR (r := rEqD K) (u_eq hr.units) (pv 1) (pv 2) (nomark _)) (pw_or (pt_cmpR u_ge (pv 1) (pv 3) (nomark _)) (pw_or1 (pt_cmpR u_ge (pv 2) (pv 3) (nomark _)))))) (pss_one (ps_ret (pe_tup pa_nil))) pss_nil)
      (pss_one (ps_ret (pe_callTy (T := "tuple") (r := rTupOf K) u_tuple (by rfl) (bi "tuple" (by decide +kernel)) (by decide +kernel) (pa_cons (pe_lc (own := [("x", 4)]) (g := gName 4) rfl sc__law_shared.nd (pi_tup (pe_ix (r := rIx K) ix_seq (pe_ix (r := rIx K) ix_seq (pv 0) pe_int (fun _ _ => rfl)) (pv 1) (fun _ _ => rfl))) (blkOk_by (N := n__law_shared) (sc := defScope s__law_shared) (by decide +kernel)) (fun _ _ _ _ _ => (pg_name (i := 4) sc__law_shared.nd rfl (by first | exact (.inl rfl) | exact (.inr rfl)))) (fun _ _ _ _ _ => (pts_one (pt_cmpR (r := rIn K false) op_in_seq (pv 4) (pe_ix (r := rIx K) ix_seq (pe_ix (r := rIx K) ix_seq (pv 0) pe_int (fun _ _ => rfl)) (pv 2) (fun _ _ => rfl)) (by rfl)))) (fun _ _ _ _ _ => (pv 4))) pa_nil)))))), ?_⟩
    refine y_set (d := .int (ss.length : Nat)) a (Ed.is (ed_lenT (ds := ss.map tS) (ed_op (d1 := plD ss cs) (d2 := .int 0) (ed_var rfl) ed_int (rd_ixT rfl))) (by rw [List.length_map])) fun σ1 H1 a1 => ?_
    refine x_seq (x_ifb (b := decide (p = q)) a1 (Eb.is (b := decide ((p : Int) = (q : Int)) || (decide ((ss.length : Int) ≤ (p : Int)) || decide ((ss.length : Int) ≤ (q : Int)))) (eb_or (eb_test (ed_op (ed_var rfl) (ed_var rfl) rd_eqI)) fun _ => eb_or (eb_test (ed_op (ed_var rfl) (ed_var rfl) rd_geI)) fun _ => eb_test (ed_op (ed_var rfl) (ed_var rfl) rd_geI)) (by
      rw [decide_eq_false (p := (ss.length : Int) ≤ (p : Int)) (by omega), decide_eq_false (p := (ss.length : Int) ≤ (q : Int)) (by omega), Bool.or_false, Bool.or_false, Bool.eq_iff_iff, decide_eq_true_iff, decide_eq_true_iff]; omega)) (fun hb H2 a2 => ?_) fun hb H2 a2 => x_next ?_)
    · refine x_ret a2 (ed_tup (ds := []) ea_nil (by decide)) fun v H' d hd a' => hq ⟨ss, cs, p, q, rfl, ?_⟩ a'
      rw [hd, if_pos (of_decide_eq_true hb)]; rfl
    · refine x_ret a2 (ed_cb (ead_cons (d := .lst (((ss.getD p []).filter fun x => decide (x ∈ ss.getD q [])).map .str)) (Ed.is (ed_lcT (n := (ss.getD p []).length) (h := fun n => .str ((ss.getD p []).getD n "")) (fun n => decide ((ss.getD p []).getD n "" ∈ ss.getD q [])) (ei_tupG .str "" (l := ss.getD p []) (ed_op (d1 := .tup (ss.map tS)) (d2 := .int p) (ed_op (d1 := plD ss cs) (d2 := .int 0) (ed_var rfl) ed_int (rd_ixT rfl)) (ed_var rfl) (rd_ixT (atI_map tS [] rfl hp)))) (by decide) (by omega) (fun n hn cl => eb_test (ed_op (ed_var rfl) (ed_op (d1 := .tup (ss.map tS)) (d2 := .int q) (ed_op (d1 := plD ss cs) (d2 := .int 0) (ed_var rfl) ed_int (rd_ixT rfl)) (ed_var rfl) (rd_ixT (atI_map tS [] rfl hq2))) rd_inS)) fun n hn _ cl => ed_var rfl) (congrArg D.lst (filt_str (ss.getD p []) fun x => decide (x ∈ ss.getD q [])))) ea_nil) rc_tupL) fun v H' d hd a' => hq ⟨ss, cs, p, q, rfl, ?_⟩ a'
      rw [hd, if_neg (of_decide_eq_false hb)]
include bi in
theorem ok__law_has_step (F : Fun K "_law_has_step" "_law_has_step" s__law_has_step f fd) (c__law_shared : C8.Cal P w K mg base 1 "_law_shared" (sp__law_shared K) []) : FnOk P w K mg base CX0 2 f fd ["placement", "one", "other"] (sp__law_has_step K) := by
  refine F.ok sc__law_has_step (fun vs H Q E h => ?_) (fun cdv A outer s0 H vs Q E hr h => ?_)
  · obtain ⟨G, ds, h1, ⟨ss, cs, p, q, rfl, _⟩, _⟩ := h
    exact h1.length
  · have hu := hu_of hr
    obtain ⟨G, ds, ⟨ss, cs, p, q, rfl, hP, hp, hq2⟩, hlen, a, hq⟩ := fsp_start locT n__law_has_step h
    refine ⟨_, (pss_cons (ps_asg (pe_callB (id := "len") (r := rLenU K) u_len (by rfl) (bi "len" (by decide +kernel)) (by decide +kernel) (pa_cons (pe_ix (r := rIx K) ix_seq (pv 0) pe_int (fun _ _ => rfl)) pa_nil)) (pg_name (i := 3) sc__law_has_step.nd rfl (by first | exact (.inl rfl) | exact (.inr rfl))))
      (pss_cons (ps_if (PW.pt (pw_and (pt_cmpR u_ge (pv 1) (pv 3) (nomark _)) (pw_and1 (pt_cmpR u_ge (pv 2) (pv 3) (nomark _))))) (pss_one (ps_ret pe_bl)) pss_nil)
      (pss_cons (ps_if (pt_cmpR u_ge (pv 1) (pv 3) (nomark _)) (pss_one (ps_ret (pe_cmpR (r := rIn K false) op_in_seq (pv 2) (pe_ix (r := rIx K) ix_seq (pe_ix (r := rIx K) ix_seq (pv 0) pe_int (fun _ _ => rfl)) (pe_op op_sub (pv 1) (pv 3)) (fun _ _ => rfl)) (by rfl)))) pss_nil)
      (pss_one (ps_ret (pe_ifExp (pt_cmpR u_ge (pv 2) (pv 3) (nomark _)) (pe_cmpR (r := rIn K false) op_in_seq (pv 1) (pe_ix (r := rIx K) ix_seq (pe_ix (r := rIx K) ix_seq (pv 0) pe_int (fun _ _ => rfl)) (pe_op op_sub (pv 2) (pv 3)) (fun _ _ => rfl)) (by rfl)) (pe_cmpR (r := rNeD K) (u_ne hr.units) (C8.pe_c c__law_shared hr (by first | decide | omega) (by rfl) (pa_cons (pv 0) (pa_cons (pv 1) (pa_cons (pv 2) pa_nil)))) (pe_tup pa_nil) (nomark _)))))))), ?_⟩
    refine y_set (d := .int (ss.length : Nat)) a (Ed.is (ed_lenT (ds := ss.map tS) (ed_op (d1 := plD ss cs) (d2 := .int 0) (ed_var rfl) ed_int (rd_ixT rfl))) (by rw [List.length_map])) fun σ1 H1 a1 => ?_
    have g : ∀ k : Nat, decide ((ss.length : Int) ≤ (k : Int)) = decide (ss.length ≤ k) := fun k => by rw [Bool.eq_iff_iff, decide_eq_true_iff, decide_eq_true_iff]; omega
    have ge : ∀ {ρ : Ro} {μ : Mu} {j : Nat} {k : Nat}, ρ[j]? = some (some (.int (k : Nat))) → ρ[3]? = some (some (.int (ss.length : Nat))) → Ed ⟨K, fun _ => True, [], locT, G, H⟩ (tOp rGeU (tVar j) (tVar 3)) ρ μ (.bl (decide (ss.length ≤ k))) := fun {ρ μ j k} h1 h2 => Ed.is (ed_op (ed_var h1) (ed_var h2) rd_geI) (congrArg D.bl (g k))
    have inC : ∀ {ρ : Ro} {μ : Mu} {i j : Nat} {k m : Nat}, ss.length ≤ k → k < ss.length + cs.length → ρ[0]? = some (some (plD ss cs)) → ρ[i]? = some (some (.int (m : Nat))) → ρ[j]? = some (some (.int (k : Nat))) → ρ[3]? = some (some (.int (ss.length : Nat))) → Ed ⟨K, fun _ => True, [], locT, G, H⟩ (tOp (rIn K false) (tVar i) (tOp (rIx K) (tOp (rIx K) (tVar 0) (tC (.int 1))) (tOp (rI0 fun i j => .int (i - j)) (tVar j) (tVar 3)))) ρ μ (.bl (decide ((m : Int) ∈ cs.getD (k - ss.length) []))) := fun {ρ μ i j k m} hk1 hk2 h0 h1 h2 h3 => ed_op (ed_var h1) (ed_op (d1 := .tup (cs.map tI)) (d2 := .int ((k : Int) - (ss.length : Int))) (ed_op (d1 := plD ss cs) (d2 := .int 1) (ed_var h0) ed_int (rd_ixT rfl)) (ed_op (ed_var h2) (ed_var h3) rd_sub) (rd_ixT (atI_map tI [] (p := k - ss.length) (by omega) (by omega)))) rd_inI
    refine y_ifb (b := decide (ss.length ≤ p) && decide (ss.length ≤ q)) a1 (eb_and (eb_test (ge rfl rfl)) fun _ => eb_test (ge rfl rfl)) (fun hb H2 a2 => ?_) fun hb H2 a2 => ?_
    · rw [Bool.and_eq_true] at hb
      refine x_ret a2 ed_bl fun v H' d hd a' => hq ⟨ss, cs, p, q, rfl, ?_⟩ a'
      rw [hd]
      unfold lawStep
      rw [if_pos (of_decide_eq_true hb.1), hb.2]; rfl
    · refine y_ifb (b := decide (ss.length ≤ p)) a2 (eb_test (ge rfl rfl)) (fun hb2 H3 a3 => ?_) fun hb2 H3 a3 => ?_
      · have h1 := of_decide_eq_true hb2
        rw [hb2, Bool.true_and] at hb
        refine x_ret a3 (inC h1 hp rfl rfl rfl rfl) fun v H' d hd a' => hq ⟨ss, cs, p, q, rfl, ?_⟩ a'
        rw [hd]
        unfold lawStep
        rw [if_pos h1, hb]; rfl
      · have h1 := of_decide_eq_false hb2
        refine x_ret a3 (ed_if (b := decide (ss.length ≤ q)) (d := .bl (lawStep ss cs p q)) (eb_test (ge rfl rfl)) (fun z => Ed.is (inC (of_decide_eq_true z) hq2 rfl rfl rfl rfl) ?_) fun z => Ed.is (ed_op (d1 := tS (if p = q then [] else (ss.getD p []).filter fun x => decide (x ∈ ss.getD q []))) (d2 := .tup []) (ed_p (ead_cons (ed_var rfl) (ead_cons (ed_var rfl) (ead_cons (ed_var rfl) ea_nil))) ⟨ss, cs, p, q, rfl, hP, by omega, by have := of_decide_eq_false z; omega⟩ (by
          rintro e ⟨ss', cs', p', q', e1, rfl⟩
          obtain ⟨rfl, rfl, rfl, rfl⟩ := pq_inj e1
          rfl)) (ed_tup ea_nil (by decide)) (rd_neD (plain_names fun x hx => ?_) rfl (Nat.le_trans (dep_names _) (by decide)) (by decide))) ?_) fun v H' d hd a' => hq ⟨ss, cs, p, q, rfl, hd⟩ a'
        · unfold lawStep
          rw [if_neg h1, if_pos (of_decide_eq_true z)]
        · by_cases e : p = q
          · rw [if_pos e] at hx; cases hx
          · rw [if_neg e] at hx
            exact (row_at hP (show p < ss.length by omega)).name x (List.mem_filter.mp hx).1
        · have h2 := of_decide_eq_false z
          rw [eqD_nil]
          unfold lawStep
          rw [if_neg h1, if_neg h2]
          by_cases e : p = q
          · rw [if_pos e, decide_eq_true e]; rfl
          · rw [if_neg e, decide_eq_false e]
            cases ((ss.getD p []).filter fun x => decide (x ∈ ss.getD q [])) <;> rfl
/-- the graph of the steps -/
def rowG (ss : List (List Str)) (cs : List (List Int)) (p : Nat) : List Int := ((List.range (ss.length + cs.length)).filter fun q => lawStep ss cs p q).map fun q : Nat => (q : Int)
def graphD (ss : List (List Str)) (cs : List (List Int)) : D := .lst ((List.range (ss.length + cs.length)).map fun p => .lst ((rowG ss cs p).map .int))
abbrev sp__law_graph (K : PySem.W.Frag) : Sp := psp K (fun ds => ∃ ss cs, ds = [plD ss cs] ∧ Pl3 ss cs) (fun ds e => ∃ ss cs, ds = [plD ss cs] ∧ e = graphD ss cs)
include bi in
theorem ok__law_graph (F : Fun K "_law_graph" "_law_graph" s__law_graph f fd) (c__law_places : C8.Cal P w K mg base 1 "_law_places" (sp__law_places K) []) (c__law_has_step : C8.Cal P w K mg base 2 "_law_has_step" (sp__law_has_step K) []) : FnOk P w K mg base CX0 3 f fd ["placement"] (sp__law_graph K) := by
  refine F.ok sc__law_graph (fun vs H Q E h => ?_) (fun cdv A outer s0 H vs Q E hr h => ?_)
  · obtain ⟨G, ds, h1, ⟨ss, cs, rfl, _⟩, _⟩ := h
    exact h1.length
  · have hu := hu_of hr
    obtain ⟨G, ds, ⟨ss, cs, rfl, hP⟩, hlen, a, hq⟩ := fsp_start locT n__law_graph h
    have m7 := hP.m7
    refine ⟨_, (pss_cons (ps_asg (C8.pe_c c__law_places hr (by first | decide | omega) (by rfl) (pa_cons (pv 0) pa_nil)) (pg_name (i := 1) sc__law_graph.nd rfl (by first | exact (.inl rfl) | exact (.inr rfl))))
      (pss_one (ps_ret (pe_lc (own := [("p", 3)]) (g := gName 3) (tt := tYes) rfl sc__law_graph.nd (pi_range1 (by rfl) (bi "range" (by decide +kernel)) (pa_cons (pv 1) pa_nil)) (blkOk_by (N := n__law_graph) (sc := defScope s__law_graph) (by decide +kernel)) (fun _ _ _ _ _ => (pg_name (i := 3) sc__law_graph.nd rfl (by first | exact (.inl rfl) | exact (.inr rfl)))) (fun _ _ _ _ _ => pts_nil) (fun _ _ _ _ _ => (pe_lc (own := [("q", 2)]) (g := gName 2) rfl sc__law_graph.nd (pi_range1 (by rfl) (bi "range" (by decide +kernel)) (pa_cons (pv 1) pa_nil)) (blkOk_by (N := n__law_graph) (sc := relabS (lcScope ((defBody s__law_graph).getD 1 (.Pass ⟨0, 0, 0, 0⟩))) (defScope s__law_graph)) (by decide +kernel)) (fun _ _ _ _ _ => (pg_name (i := 2) sc__law_graph.nd rfl (by first | exact (.inl rfl) | exact (.inr rfl)))) (fun _ _ _ _ _ => (pts_one (pt_val (C8.pe_c c__law_has_step hr (by first | decide | omega) (by rfl) (pa_cons (pv 0) (pa_cons (pv 3) (pa_cons (pv 2) pa_nil))))))) (fun _ _ _ _ _ => (pv 2)))))))), ?_⟩
    refine y_set (d := .int ((ss.length + cs.length : Nat) : Int)) a (ed_p (ead_cons (ed_var rfl) ea_nil) ⟨_, _, rfl⟩ (by
      rintro e ⟨ss', cs', e1, rfl⟩
      injection e1 with e1 _
      rw [← (plD_inj e1).1, ← (plD_inj e1).2]
      congr 1)) fun σ1 H1 a1 => ?_
    have st : ∀ {ρ : Ro} {μ : Mu} {p q : Nat}, p < ss.length + cs.length → q < ss.length + cs.length → ρ[0]? = some (some (plD ss cs)) → ρ[3]? = some (some (.int (p : Nat))) → ρ[2]? = some (some (.int (q : Nat))) → Ed ⟨K, fun _ => True, [], locT, G, H⟩ (tCall (sp__law_has_step K) [] C8.E0 (tCons (tVar 0) (tCons (tVar 3) (tCons (tVar 2) tNil)))) ρ μ (.bl (lawStep ss cs p q)) := fun hp hq h0 h1 h2 => ed_p (ead_cons (ed_var h0) (ead_cons (ed_var h1) (ead_cons (ed_var h2) ea_nil))) ⟨_, _, _, _, rfl, hP, hp, hq⟩ (by
      rintro e ⟨ss', cs', p', q', e1, rfl⟩
      obtain ⟨rfl, rfl, rfl, rfl⟩ := pq_inj e1
      rfl)
    refine x_ret a1 (ed_lc0 (n := ss.length + cs.length) (h := fun p => .lst ((rowG ss cs p).map .int)) (ei_rng1 (i := ((ss.length + cs.length : Nat) : Int)) (ead_cons (ed_var rfl) ea_nil) ⟨by omega, by omega⟩) (by decide) (by omega) fun p hp cl => Ed.is (ed_lcT (n := ss.length + cs.length) (h := fun q : Nat => D.int (q : Int)) (fun q => lawStep ss cs p q) (ei_rng1 (i := ((ss.length + cs.length : Nat) : Int)) (ead_cons (ed_var rfl) ea_nil) ⟨by omega, by omega⟩) (by decide) (by omega) (fun q hq cl2 => eb_B (st hp hq rfl rfl rfl)) fun q hq _ cl2 => ed_var rfl) (by unfold rowG; rw [List.map_map]; rfl)) fun v H' d hd a' => hq ⟨ss, cs, rfl, hd⟩ a'
end
end Cal


namespace Cal
open PySem PySem.Spec PyProof.Rows L2
/-! ### what the searches ask of a placement (own helpers) -/
structure PlL (ss : List (List Str)) (cs : List (List Int)) : Prop where
  ns : ss.length ≤ 60
  nc : cs.length ≤ 60
  names : ∀ k ∈ ss, k.length ≤ 60 ∧ ∀ s ∈ k, PyData.strOk s = true ∧ s.length ≤ 100
  vis : ∀ v ∈ cs, v.Pairwise (· < ·) ∧ (∀ x ∈ v, 0 ≤ x ∧ x < ss.length) ∧ v.length ≤ 60
theorem Pl3.ll {ss : List (List Str)} {cs : List (List Int)} (h : Pl3 ss cs) : PlL ss cs := by
  have m7 := h.m7
  refine ⟨by omega, by omega, fun k hk => ⟨by have := (h.rows k hk).len; omega, fun s hs => ?_⟩, fun v hv => ?_⟩
  · have hn := (h.rows k hk).name s hs
    exact ⟨strOk_B hn, Nat.le_trans hn.2.1 (by decide)⟩
  · obtain ⟨h1, h2, h3⟩ := h.vis v hv
    exact ⟨h1, fun x hx => h2 x hx, by have := asc_len h1 h2; omega⟩
theorem get_mem {κ : Type} [DecidableEq κ] : ∀ {ds : List (κ × D)} {k : κ} {d : D}, (ds.map (·.1)).Nodup → (k, d) ∈ ds → getD' ds k = some d
  | [], _, _, _, h => by cases h
  | (k', d') :: r, k, d, hn, h => by
    rw [List.map_cons, List.nodup_cons] at hn
    unfold getD'
    rcases List.mem_cons.mp h with e | e
    · cases e
      rw [List.find?_cons_of_pos (by exact decide_eq_true rfl)]; rfl
    · have hne : k' ≠ k := fun z => hn.1 (List.mem_map.mpr ⟨(k, d), e, z.symm⟩)
      rw [List.find?_cons_of_neg (by simpa using hne)]
      exact get_mem hn.2 e
theorem get_none {κ : Type} [DecidableEq κ] : ∀ {ds : List (κ × D)} {k : κ}, (∀ p ∈ ds, p.1 ≠ k) → getD' ds k = none
  | [], _, _ => rfl
  | (k', d') :: r, k, h => by
    unfold getD'
    rw [List.find?_cons_of_neg (by simpa using h _ (List.mem_cons_self ..))]
    exact get_none fun p hp => h p (List.mem_cons_of_mem _ hp)
theorem getD_map' {α : Type} (g : α → D) (z : α) (l : List α) {i : Nat} (hi : i < l.length) : (l.map g).getD i .non = g (l.getD i z) := by
  rw [List.getD_eq_getElem?_getD, List.getElem?_map, List.getElem?_eq_getElem hi, List.getD_eq_getElem?_getD, List.getElem?_eq_getElem hi]; rfl
theorem getD_in {α : Type} {z : α} {l : List α} {i : Nat} (hi : i < l.length) : l.getD i z ∈ l := by
  rw [List.getD_eq_getElem?_getD, List.getElem?_eq_getElem hi]; exact List.getElem_mem hi
theorem getD_at {α : Type} {z : α} {l : List α} {i : Nat} (hi : i < l.length) : l[i]? = some (l.getD i z) := by
  rw [List.getD_eq_getElem?_getD, List.getElem?_eq_getElem hi]; rfl
theorem atI_of {α : Type} {ds : List α} {x : Int} {d : α} (h0 : 0 ≤ x) (h : ds[x.toNat]? = some d) : atI ds x = some d := by
  have hl := (List.getElem?_eq_some_iff.mp h).1
  unfold atI ixN
  rw [if_pos h0, if_pos (by omega)]
  exact h
theorem take_succ {α : Type} {l : List α} {i : Nat} {x : α} (h : l[i]? = some x) : l.take (i + 1) = l.take i ++ [x] := by
  rw [List.take_add_one, h]; rfl
theorem tI_inj {v w : List Int} (h : tI v = tI w) : v = w := (List.map_inj_right fun a b e => D.int.inj e).mp (D.tup.inj h)
theorem lI_inj {v w : List Int} (h : D.lst (v.map .int) = D.lst (w.map .int)) : v = w := (List.map_inj_right fun a b e => D.int.inj e).mp (D.lst.inj h)
section
variable {B : Bs} {ρ : Ro} {μ : Mu} {is : List Int} {i : Int}
theorem rd_inIL : RD B (rIn B.K false) ρ μ (.int i) (.lst (is.map .int)) (fun e => e = .bl (decide (i ∈ is))) := fun τ σ H x y a Q q => by
  obtain ⟨G, g, hx, ⟨p, vs, rfl, e1, k1⟩⟩ := a.two
  have hx' : x = V.int i := hx
  have hv := k1.ints
  subst hx'; subst hv
  refine ⟨p, _, rfl, .inl (.inl (.inl (g.sub _ _ e1))), rfl, by rw [List.all_map]; exact List.all_eq_true.mpr fun _ _ => rfl, ?_⟩
  have e : inV (.int i) (is.map V.int) = decide (i ∈ is) := by
    unfold inV
    rw [List.any_map]
    by_cases h : i ∈ is
    · rw [decide_eq_true h]
      exact List.any_eq_true.mpr ⟨i, h, by show (i == i) = true; exact beq_self_eq_true i⟩
    · rw [decide_eq_false h]
      refine List.any_eq_false.mpr fun y hy z => h ?_
      have z' : (y == i) = true := z
      rw [← eq_of_beq z']; exact hy
  show Q (.bl (inV (.int i) (is.map V.int))) H
  rw [e]
  exact q _ H _ rfl (At.flat ⟨G, g⟩ fun _ => rfl)
end
end Cal


namespace Cal
open PySem PySem.Spec PyProof.Rows L2
abbrev s_kept_bits : Stmt := topS 27
abbrev n_kept_bits : List Str := ["placement", "sites", "clients", "numbers", "row", "register", "bits", "name", "kept"]
theorem sc_kept_bits : FnScope n_kept_bits ["placement"] (defScope s_kept_bits) := ⟨rfl, rfl, rfl, by decide +kernel, rfl, by decide +kernel, by decide +kernel⟩
/-! ### registers as bits -/
def numD (nums : List Str) : List (Key × D) := (List.range nums.length).map fun i => (.inr (nums.getD i ""), .int i)
def bitsOf (nums k : List Str) : Int := (k.map fun s => (2 : Int) ^ (nums.idxOf s)).sum
theorem numD_get {nums : List Str} (nd : nums.Nodup) {s : Str} (h : s ∈ nums) : getD' (numD nums) (.inr s) = some (.int (nums.idxOf s)) := by
  have hl := List.idxOf_lt_length_of_mem h
  refine get_mem ?_ (List.mem_map.mpr ⟨nums.idxOf s, List.mem_range.mpr hl, ?_⟩)
  · unfold numD
    rw [List.map_map]
    have e : (List.range nums.length).map ((fun x : Key × D => x.1) ∘ fun i : Nat => ((.inr (nums.getD i "") : Key), D.int i)) = nums.map Sum.inr := by
      refine List.ext_getElem? fun i => ?_
      rw [List.getElem?_map, List.getElem?_map]
      by_cases hi : i < nums.length
      · rw [List.getElem?_range hi, List.getElem?_eq_getElem hi]
        show some (Sum.inr (nums.getD i "") : Key) = _
        rw [List.getD_eq_getElem?_getD, List.getElem?_eq_getElem hi]; rfl
      · rw [List.getElem?_eq_none (by simpa using hi), List.getElem?_eq_none (by simpa using hi)]; rfl
    rw [e]
    exact List.pairwise_map.mpr (nd.imp fun h z => h (Sum.inr.inj z))
  · rw [List.getD_eq_getElem?_getD, List.getElem?_eq_getElem hl, Option.getD_some, List.getElem_idxOf hl]
theorem numD_none {nums : List Str} {s : Str} (h : s ∉ nums) : getD' (numD nums) (.inr s) = none := get_none fun p hp e => by
  obtain ⟨i, hi, rfl⟩ := List.mem_map.mp hp
  have hi' := List.mem_range.mp hi
  have e' : nums.getD i "" = s := Sum.inr.inj e
  exact h (by rw [← e']; exact getD_in hi')
theorem numD_app (nums : List Str) (s : Str) : numD nums ++ [(.inr s, .int nums.length)] = numD (nums ++ [s]) := by
  unfold numD
  rw [List.length_append, List.length_singleton, List.range_succ, List.map_append]
  congr 1
  · refine List.map_congr_left fun i hi => ?_
    have hi' := List.mem_range.mp hi
    rw [List.getD_eq_getElem?_getD, List.getD_eq_getElem?_getD, List.getElem?_append_left hi']
  · rw [List.map_cons, List.map_nil, List.getD_eq_getElem?_getD, List.getElem?_append_right (Nat.le_refl _), Nat.sub_self]; rfl
def stepN (nums : List Str) (s : Str) : List Str := if s ∈ nums then nums else nums ++ [s]
theorem setd_step (nums : List Str) (nd : nums.Nodup) (s : Str) : setdD (numD nums) s (.int nums.length) = numD (stepN nums s) := by
  unfold setdD stepN
  by_cases h : s ∈ nums
  · rw [numD_get nd h, if_pos h]; rfl
  · rw [numD_none h, if_neg h]
    exact numD_app nums s
theorem step_nd {nums : List Str} (nd : nums.Nodup) (s : Str) : (stepN nums s).Nodup := by
  unfold stepN
  split
  · exact nd
  · rename_i h
    exact List.nodup_append.mpr ⟨nd, by simp, fun a ha b hb e => h (by rw [← List.mem_singleton.mp hb, ← e]; exact ha)⟩
theorem step_mem {nums : List Str} {s x : Str} : x ∈ stepN nums s ↔ x ∈ nums ∨ x = s := by
  unfold stepN
  split
  · rename_i h
    exact ⟨.inl, fun z => z.elim id fun e => e ▸ h⟩
  · simp
theorem step_len (nums : List Str) (s : Str) : (stepN nums s).length ≤ nums.length + 1 := by
  unfold stepN
  split
  · omega
  · simp
theorem Ei.congr {B : Bs} {wi : TI} {ρ : Ro} {μ : Mu} {n : Nat} {f g : Nat → D} (h : Ei B wi ρ μ n f) (k : ∀ i, i < n → f i = g i) : Ei B wi ρ μ n g := fun τ σ H a Rr q => h τ σ H a Rr fun J H1 τ1 hsub a1 hJ => q J H1 τ1 hsub a1 fun i ρ' μ' τ' σ' H' hs a2 => by
  obtain ⟨s1, s2⟩ := hJ i ρ' μ' τ' σ' H' hs a2
  refine ⟨s1, fun hi => ?_⟩
  obtain ⟨s3, s4⟩ := s2 hi
  exact ⟨s3, fun x H2 hy => by rw [← k i hi]; exact s4 x H2 hy⟩
theorem ei_tupM {B : Bs} {tl : TE} {ρ : Ro} {μ : Mu} {α : Type} (g : α → D) (z : α) {l : List α} (h : Ed B tl ρ μ (.tup (l.map g))) : Ei B (iTup B.K tl) ρ μ l.length (fun i => g (l.getD i z)) := by
  have := ei_tup h
  rw [List.length_map] at this
  exact this.congr fun i hi => getD_map' g z l hi
theorem ei_lstM {B : Bs} {tl : TE} {ρ : Ro} {μ : Mu} {α : Type} (g : α → D) (z : α) {l : List α} (h : Ed B tl ρ μ (.lst (l.map g))) : Ei B (iList B.K tl) ρ μ l.length (fun i => g (l.getD i z)) := by
  have := ei_lst h
  rw [List.length_map] at this
  exact this.congr fun i hi => getD_map' g z l hi
theorem range_getD {α β : Type} (z : α) (l : List α) (g : α → β) : (List.range l.length).map (fun i => g (l.getD i z)) = l.map g := by
  refine List.ext_getElem? fun i => ?_
  rw [List.getElem?_map, List.getElem?_map]
  by_cases hi : i < l.length
  · rw [List.getElem?_range hi, List.getElem?_eq_getElem hi]
    show some (g (l.getD i z)) = _
    rw [List.getD_eq_getElem?_getD, List.getElem?_eq_getElem hi]; rfl
  · rw [List.getElem?_eq_none (by simpa using hi), List.getElem?_eq_none (by simpa using hi)]; rfl
section
variable {P : Program} {w : World} {K : PySem.W.Frag} {mg : Str → Option Value} {base : Heap} {f : Addr} {fd : FuncData}
abbrev BNbits : List Str := ["len", "sum"]
variable (bi : ∀ x, x ∈ BNbits → mg x = none)
def bitsD (nums : List Str) (ss : List (List Str)) (cs : List (List Int)) : List Int := ss.map (bitsOf nums) ++ List.replicate cs.length 0
def NumsOk (nums : List Str) (ss : List (List Str)) : Prop := nums.Nodup ∧ (∀ k ∈ ss, ∀ s ∈ k, s ∈ nums) ∧ nums.length ≤ 3600
abbrev sp_kept_bits (K : PySem.W.Frag) : Sp := psp K (fun ds => ∃ ss cs, ds = [plD ss cs] ∧ PlL ss cs) (fun ds e => ∃ ss cs nums, ds = [plD ss cs] ∧ NumsOk nums ss ∧ e = .lst ((bitsD nums ss cs).map .int))
include bi in
theorem ok_kept_bits (F : Fun K "kept_bits" "kept_bits" s_kept_bits f fd) : FnOk P w K mg base CX0 1 f fd ["placement"] (sp_kept_bits K) := by
  refine F.ok sc_kept_bits (fun vs H Q E h => ?_) (fun cdv A outer s H vs Q E hr h => ?_)
  · obtain ⟨G, ds, h1, ⟨ss, cs, rfl, _⟩, _⟩ := h
    exact h1.length
  · have hu := hu_of hr
    obtain ⟨G, ds, ⟨ss, cs, rfl, hp⟩, hlen, a, hq⟩ := fsp_start locT n_kept_bits h
    refine ⟨_, (pss_cons (ps_asg (pv 0) (pg_tup rfl (pgs_cons (pg_name (i := 1) sc_kept_bits.nd rfl (by first | exact (.inl rfl) | exact (.inr rfl))) (pgs_cons (pg_name (i := 2) sc_kept_bits.nd rfl (by first | exact (.inl rfl) | exact (.inr rfl))) pgs_nil))))
      (pss_cons (ps_asg pe_dnewK (pg_name (i := 3) sc_kept_bits.nd rfl (by first | exact (.inl rfl) | exact (.inr rfl))))
      (pss_cons (ps_for PassesOwn.never rfl (pi_tup (pv 1)) (pg_name (i := 4) sc_kept_bits.nd rfl (by first | exact (.inl rfl) | exact (.inr rfl)))
        (pss_one (ps_for PassesOwn.never rfl (pi_tup (pv 4)) (pg_name (i := 5) sc_kept_bits.nd rfl (by first | exact (.inl rfl) | exact (.inr rfl)))
        (pss_one (ps_expr (pe_dsetd (pv 3) (pv 5) (pe_callB (id := "len") call_lenD (by rfl) (bi "len" (by decide +kernel)) (by decide +kernel) (pa_cons (pv 3) pa_nil)) (by constructor <;> rfl)))))))
      (pss_cons (ps_setLc (i := 6) (own := [("kept", 8)]) (g := gName 8) (tt := tYes) rfl sc_kept_bits.nd rfl rfl (sw_true rfl rfl rfl (by decide +kernel)) (pi_tup (pv 1)) (blkOk_by (N := n_kept_bits) (sc := defScope s_kept_bits) (by decide +kernel)) (fun _ _ _ _ _ => (pg_name (i := 8) sc_kept_bits.nd rfl (by first | exact (.inl rfl) | exact (.inr rfl)))) (fun _ _ _ _ _ => pts_nil) (fun _ _ _ _ _ => (pe_callB (id := "sum") (r := rSum K) (cr_sum rfl) (by rfl) (bi "sum" (by decide +kernel)) (by decide +kernel) (pa_cons (pe_lc (own := [("name", 7)]) (g := gName 7) (tt := tYes) rfl sc_kept_bits.nd (pi_tupK (K := K) (by rfl) (pv 8)) (blkOk_by (N := n_kept_bits) (sc := relabS (lcScope ((defBody s_kept_bits).getD 3 (.Pass ⟨0, 0, 0, 0⟩))) (defScope s_kept_bits)) (by decide +kernel)) (fun _ _ _ _ _ => (pg_name (i := 7) sc_kept_bits.nd rfl (by first | exact (.inl rfl) | exact (.inr rfl)))) (fun _ _ _ _ _ => pts_nil) (fun _ _ _ _ _ => (pe_op op_oneShl pe_int (pe_dget hu (pv 3) (pv 7) (fun _ _ => rfl))))) pa_nil))))
      (pss_one (ps_ret (pe_op (r := rAddU K) u_add (pv 6) (pe_op op_rep (pe_lst (pa_cons pe_int pa_nil)) (pe_callB (id := "len") (r := rLenU K) u_len (by rfl) (bi "len" (by decide +kernel)) (by decide +kernel) (pa_cons (pv 2) pa_nil)))))))))), ?_⟩
    have l1 := hp.ns
    have l2 := hp.nc
    refine y_asgG a (ed_var rfl) gd_tup2 fun σ1 H1 a1 => ?_
    refine y_asg (R := fun d μ' => ∃ p, d = .raw (.ref p) ∧ μ' = (p, .dk []) :: []) a1 (fun τ σ H a Q q => fun p hp => q _ _ _ _ ⟨p, rfl, rfl⟩ (At.flat (At.newCell (c := .dk []) (o := .dK []) a hp fun G _ => ⟨[], upd_same, rfl⟩).1 fun _ => rfl)) fun d μ2 σ2 H2 hd a2 => ?_
    obtain ⟨p, rfl, rfl⟩ := hd
    refine y_forN a2 (ei_tup (ed_var rfl)) (fun i ρ μ => ∃ (nums : List Str) (x4 x5 : Option D), ρ = [some (plD ss cs), some (.tup (ss.map tS)), some (.tup (cs.map tI)), some (.raw (.ref p)), x4, x5, none, none, none] ∧ μ = [(p, .dk (numD nums))] ∧ nums.Nodup ∧ (∀ k ∈ ss.take i, ∀ s ∈ k, s ∈ nums) ∧ nums.length ≤ i * 60) ⟨[], none, none, rfl, rfl, List.nodup_nil, fun k hk => by simp at hk, Nat.zero_le _⟩ (fun i ρ' μ' τ1 σ4 H4 Dn hi hI a4 hnx hct hbk hrt => ?_) fun ρ' μ' σ4 H4 hI a4 => ?_
    · obtain ⟨nums, x4, x5, rfl, rfl, nd, hm, hlen2⟩ := hI
      have hi' : i < ss.length := by rwa [List.length_map] at hi
      rw [getD_map' tS [] ss hi'] at a4
      obtain ⟨kl, ks⟩ := hp.names _ (getD_in (z := []) hi')
      refine x_forN a4 (ei_tup (ed_var rfl)) (fun j ρ μ => ∃ (nums : List Str) (x5 : Option D), ρ = [some (plD ss cs), some (.tup (ss.map tS)), some (.tup (cs.map tI)), some (.raw (.ref p)), some (tS (ss.getD i [])), x5, none, none, none] ∧ μ = [(p, .dk (numD nums))] ∧ nums.Nodup ∧ (∀ k ∈ ss.take i, ∀ s ∈ k, s ∈ nums) ∧ (∀ s ∈ (ss.getD i []).take j, s ∈ nums) ∧ nums.length ≤ i * 60 + j) ⟨nums, _, rfl, rfl, nd, hm, fun s hs => by simp at hs, hlen2⟩ (fun j ρ' μ' τ2 σ5 H5 Dn2 hj hI a5 hnx2 hct2 hbk2 hrt2 => ?_) fun ρ' μ' σ5 H5 hI a5 => ?_
      · obtain ⟨nums, x5, rfl, rfl, nd, hm, hm2, hlen2⟩ := hI
        have hj' : j < (ss.getD i []).length := by rwa [List.length_map] at hj
        rw [getD_map' D.str "" (ss.getD i []) hj'] at a5
        have nl : (numD nums).length = nums.length := by unfold numD; rw [List.length_map, List.length_range]
        refine x_setd (k := 0) (kks := numD nums) a5 rfl rfl (ed_var rfl) (Ed.is (ed_lenDC (k := 0) rfl rfl) (by rw [nl])) (by rw [nl]; omega) fun H6 a6 => ?_
        rw [setd_step nums nd] at a6
        refine hnx2 _ _ _ _ ⟨stepN nums ((ss.getD i []).getD j ""), _, rfl, rfl, step_nd nd _, fun k hk s hs => step_mem.mpr (.inl (hm k hk s hs)), fun s hs => ?_, by have := step_len nums ((ss.getD i []).getD j ""); omega⟩ a6
        rw [take_succ (getD_at (z := ("" : Str)) hj')] at hs
        rcases List.mem_append.mp hs with z | z
        · exact step_mem.mpr (.inl (hm2 s z))
        · exact step_mem.mpr (.inr (List.mem_singleton.mp z))
      · obtain ⟨nums, x5, rfl, rfl, nd, hm, hm2, hlen2⟩ := hI
        rw [List.length_map, List.take_length] at hm2
        rw [List.length_map] at hlen2
        refine hnx _ _ _ _ ⟨nums, _, _, rfl, rfl, nd, fun k hk s hs => ?_, by rw [Nat.succ_mul]; omega⟩ a5
        rw [take_succ (getD_at (z := []) hi')] at hk
        rcases List.mem_append.mp hk with z | z
        · exact hm k z s hs
        · rw [List.mem_singleton.mp z] at hs
          exact hm2 s hs
    · obtain ⟨nums, x4, x5, rfl, rfl, nd, hm, hlen2⟩ := hI
      rw [List.length_map, List.take_length] at hm
      rw [List.length_map] at hlen2
      have hN : NumsOk nums ss := ⟨nd, hm, by omega⟩
      have a5 := At.reslot (k := 3) (At.freezeC (by intro _ _ z; cases z) a4) rfl
      refine y_set (d := .lst ((ss.map (bitsOf nums)).map .int)) a5 (Ed.is (ed_lc0 (n := ss.length) (f := fun i => tS (ss.getD i [])) (h := fun i => .int (bitsOf nums (ss.getD i []))) (ei_tupM tS [] (ed_var rfl)) (by decide) (by omega) fun i hi cl => ?_) (by rw [range_getD [] ss fun k => D.int (bitsOf nums k), List.map_map]; rfl)) fun σ6 H6 a6 => ?_
      · obtain ⟨kl, ks⟩ := hp.names _ (getD_in (z := []) hi)
        refine ed_cb (ead_cons (d := .lst (((ss.getD i []).map fun s => (2 : Int) ^ (nums.idxOf s)).map .int)) (Ed.is (ed_lc0 (n := (ss.getD i []).length) (f := fun j => .str ((ss.getD i []).getD j "")) (h := fun j => .int ((2 : Int) ^ (nums.idxOf ((ss.getD i []).getD j "")))) (ei_tupM D.str "" (ed_var rfl)) (by decide) (by omega) fun j hj cl => ?_) (by rw [range_getD ("" : Str) (ss.getD i []) fun s : Str => D.int ((2 : Int) ^ (nums.idxOf s)), List.map_map]; rfl)) ea_nil) rc_sum
        have hm' := hm _ (getD_in (z := []) hi) _ (getD_in (z := ("" : Str)) hj)
        exact ed_op ed_int (ed_dgetS (ed_var rfl) (ed_var rfl) (numD_get nd hm')) (rd_oneShl (by have := List.idxOf_lt_length_of_mem hm'; omega))
      · refine x_ret a6 (ed_op (ed_var rfl) (ed_op (ed_lst (ead_cons ed_int ea_nil) (by show 1 ≤ _; decide)) (Ed.is (ed_lenT (ed_var rfl)) (by rw [List.length_map])) (rd_rep (n := cs.length) (by omega))) (rd_addL (Nat.le_trans (show _ ≤ 1000 by rw [List.length_map, List.length_map, List.length_replicate]; omega) (by decide)))) fun v H' d hd a' => hq ⟨ss, cs, nums, rfl, hN, ?_⟩ a'
        rw [hd]
        unfold bitsD
        rw [List.map_append, List.map_replicate]
end
end Cal


namespace Cal
open PySem PySem.Spec PyProof.Rows L2
abbrev s_Net___init__ : Stmt := clsS (topS 26) 0
abbrev n_Net___init__ : List Str := ["self", "placement", "numbers", "other", "one"]
theorem sc_Net___init__ : FnScope n_Net___init__ ["self", "placement"] (defScope s_Net___init__) := ⟨rfl, rfl, rfl, by decide +kernel, rfl, by decide +kernel, by decide +kernel⟩
/-! ### a placement made ready for searches -/
def nearL (ss : List (List Str)) (cs : List (List Int)) : List (List Int) := (List.range (ss.length + cs.length)).map fun (a : Nat) => ((List.range (ss.length + cs.length)).filter fun (b : Nat) => stepB ss cs a b).map fun (b : Nat) => (b : Int)
def nearDD (ss : List (List Str)) (cs : List (List Int)) : D := .lst ((nearL ss cs).map fun r => .lst (r.map .int))
def netF (nums : List Str) (ss : List (List Str)) (cs : List (List Int)) : List (Str × D) := [("sites", .int ss.length), ("near", nearDD ss cs), ("bits", .lst ((bitsD nums ss cs).map .int))]
section
variable {P : Program} {w : World} {K : PySem.W.Frag} {mg : Str → Option Value} {base : Heap} {f : Addr} {fd : FuncData}
abbrev BNnet : List Str := ["len", "range"]
variable (bi : ∀ x, x ∈ BNnet → mg x = none)
/-- what a net's class has -/
structure NetC (K : PySem.W.Frag) (C : Addr) : Prop where
  cl : Cls K C
  n1 : NoAttr K C "sites"
  n2 : NoAttr K C "near"
  n3 : NoAttr K C "bits"
abbrev sp_net (K : PySem.W.Frag) (C : Addr) : Sp := isp K C (fun ds => ∃ ss cs, ds = [plD ss cs] ∧ PlL ss cs ∧ PlOk ss cs) (fun ds fs => ∃ ss cs nums, ds = [plD ss cs] ∧ NumsOk nums ss ∧ fs = netF nums ss cs)
include bi in
theorem ok_Net___init__ {C : Addr} (F : Fun K "__init__" "Net.__init__" s_Net___init__ f fd) (nc : NetC K C) (c_count_places : C8.Cal P w K mg base 1 "count_places" (sp_count_places K) []) (c_is_step : C8.Cal P w K mg base 3 "is_step" (sp_is_step K) []) (c_kept_bits : C8.Cal P w K mg base 1 "kept_bits" (sp_kept_bits K) []) : FnOk P w K mg base CX0 4 f fd ["self", "placement"] (sp_net K C) := by
  refine F.ok sc_Net___init__ (fun vs H Q E h => ?_) (fun cdv A outer s H vs Q E hr h => ?_)
  · obtain ⟨x, dx, G, ds, us, rfl, h1, ⟨ss, cs, rfl, _⟩, _⟩ := h
    rw [List.length_cons, h1.length]; rfl
  · have hu := hu_of hr
    obtain ⟨x, dx, G, ds, ⟨ss, cs, rfl, hp, ho⟩, hlen, a, hq⟩ := isp_start n_Net___init__ h
    refine ⟨_, (pss_cons (ps_asg (pe_callTy (T := "range") cr_range1 (by rfl) (bi "range" (by decide +kernel)) (by decide +kernel) (pa_cons (C8.pe_c c_count_places hr (by first | decide | omega) (by rfl) (pa_cons (pv 1) pa_nil)) pa_nil)) (pg_name (i := 2) sc_Net___init__.nd rfl (by first | exact (.inl rfl) | exact (.inr rfl))))
      (pss_cons (ps_fld (pv 0) (pe_callB (id := "len") (r := rLenU K) u_len (by rfl) (bi "len" (by decide +kernel)) (by decide +kernel) (pa_cons (pe_ix (r := rIx K) ix_seq (pv 1) pe_int (fun _ _ => rfl)) pa_nil)) (by rfl))
      (pss_cons (ps_fld (pv 0) (pe_lc (own := [("one", 4)]) (g := gName 4) (tt := tYes) rfl sc_Net___init__.nd (pi_rngV (pv 2)) (blkOk_by (N := n_Net___init__) (sc := defScope s_Net___init__) (by decide +kernel)) (fun _ _ _ _ _ => (pg_name (i := 4) sc_Net___init__.nd rfl (by first | exact (.inl rfl) | exact (.inr rfl)))) (fun _ _ _ _ _ => pts_nil) (fun _ _ _ _ _ => (pe_lc (own := [("other", 3)]) (g := gName 3) rfl sc_Net___init__.nd (pi_rngV (pv 2)) (blkOk_by (N := n_Net___init__) (sc := relabS (lcScope ((defBody s_Net___init__).getD 2 (.Pass ⟨0, 0, 0, 0⟩))) (defScope s_Net___init__)) (by decide +kernel)) (fun _ _ _ _ _ => (pg_name (i := 3) sc_Net___init__.nd rfl (by first | exact (.inl rfl) | exact (.inr rfl)))) (fun _ _ _ _ _ => (pts_one (pt_val (C8.pe_c c_is_step hr (by first | decide | omega) (by rfl) (pa_cons (pv 1) (pa_cons (pv 4) (pa_cons (pv 3) pa_nil))))))) (fun _ _ _ _ _ => (pv 3))))) (by rfl))
      (pss_one (ps_fld (pv 0) (C8.pe_c c_kept_bits hr (by first | decide | omega) (by rfl) (pa_cons (pv 1) pa_nil)) (by rfl)))))), ?_⟩
    have l1 := hp.ns
    have l2 := hp.nc
    refine y_asg a (xv_rng (ed_p (d := .int (ss.length + cs.length)) (ead_cons (ed_var rfl) ea_nil) ⟨_, _, rfl, ho⟩ (by rintro e ⟨ss', cs', e1, rfl⟩; obtain ⟨rfl, rfl⟩ := plD_zero e1; rfl))) fun d μ1 σ1 H1 hd a1 => ?_
    obtain ⟨p, rfl, rfl⟩ := hd
    refine y_fld (p := x) (R := fun d μ' => d = .int ss.length ∧ μ' = _) a1 rfl (Ed.is (ed_lenT (ed_op (ed_var rfl) ed_int (rd_ixT (d := .tup (ss.map tS)) rfl))) (by rw [List.length_map])) (fun d μ' hd => ⟨1, by rw [hd.2]; rfl⟩) nc.cl nc.n1 (by decide) fun d μ' k H2 hd hk a2 => ?_
    obtain ⟨rfl, rfl⟩ := hd
    have ek : k = 1 := by
      match k, hk with
      | 0, hk => exact absurd (congrArg Prod.snd (Option.some.inj hk)) (fun z => by cases z)
      | 1, _ => rfl
      | k + 2, hk => simp at hk
    subst ek
    have em : (((ss.length : Int) + cs.length) - 0).toNat = ss.length + cs.length := by omega
    have zi : ∀ k : Nat, (0 : Int) + (k : Int) = k := fun k => Int.zero_add _
    refine y_fld (p := x) (R := fun d μ' => d = nearDD ss cs ∧ μ' = _) a2 rfl (Ed.is (ed_lc0 (n := (((ss.length : Int) + cs.length) - 0).toNat) (f := fun i => .int (0 + i)) (h := fun (a : Nat) => .lst (((List.range (((ss.length : Int) + cs.length) - 0).toNat).filter fun (b : Nat) => stepB ss cs (0 + a) (0 + b)).map fun (b : Nat) => .int (0 + b))) (ei_rngV (k := 0) (ed_var rfl) rfl ⟨by omega, by omega, by omega, by omega⟩) (by decide) (by omega) fun i hi cl => ?_) ?_) (fun d μ' hd => ⟨1, by rw [hd.2]; rfl⟩) nc.cl nc.n2 (by show 1 < 1000; decide) fun d μ' k H3 hd hk a3 => ?_
    · refine ed_lcT (fun b => stepB ss cs (0 + i) (0 + b)) (ei_rngV (k := 1) (ed_var rfl) rfl ⟨by omega, by omega, by omega, by omega⟩) (by decide) (by omega) (fun j hj cl2 => ?_) fun j hj _ cl2 => ed_var rfl
      exact eb_test (ed_p (ead_cons (ed_var rfl) (ead_cons (ed_var rfl) (ead_cons (ed_var rfl) ea_nil))) ⟨_, _, _, _, rfl, ho, ⟨by omega, by omega⟩, by omega, by omega⟩ (by
        rintro e ⟨ss', cs', a', b', e1, rfl⟩
        obtain ⟨rfl, rfl, rfl, rfl⟩ := plD_two e1; rfl))
    · unfold nearDD nearL
      rw [em, List.map_map]
      simp only [zi]
      refine congrArg D.lst (List.map_congr_left fun a _ => ?_)
      show D.lst _ = D.lst (List.map D.int (List.map _ _))
      rw [List.map_map]; rfl
    · obtain ⟨rfl, rfl⟩ := hd
      have ek : k = 1 := by
        match k, hk with
        | 0, hk => exact absurd (congrArg Prod.snd (Option.some.inj hk)) (fun z => by cases z)
        | 1, _ => rfl
        | k + 2, hk => simp at hk
      subst ek
      refine x_fld (p := x) a3 rfl (ev_p (P := fun d => ∃ nums, NumsOk nums ss ∧ d = .lst ((bitsD nums ss cs).map .int)) (ead_cons (ed_var rfl) ea_nil) ⟨_, _, rfl, hp⟩ (by
        rintro e ⟨ss', cs', nums, e1, h1, rfl⟩
        obtain ⟨rfl, rfl⟩ := plD_zero e1
        exact ⟨nums, h1, rfl⟩)) (fun d μ' hd => ⟨1, by rw [hd.2]; rfl⟩) nc.cl nc.n3 (by show 2 < 1000; decide) fun d μ' k H4 hd hk a4 => ?_
      obtain ⟨⟨nums, hn, rfl⟩, rfl⟩ := hd
      have ek : k = 1 := by
        match k, hk with
        | 0, hk => exact absurd (congrArg Prod.snd (Option.some.inj hk)) (fun z => by cases z)
        | 1, _ => rfl
        | k + 2, hk => simp at hk
      subst ek
      have ef : putFD ("bits" : Str) (.lst ((bitsD nums ss cs).map .int)) (putFD "near" (nearDD ss cs) (putFD "sites" (.int ss.length) [])) = netF nums ss cs := by
        have e1 : ¬ (("sites" : Str) = "near") := by decide +kernel
        have e2 : ¬ (("sites" : Str) = "bits") := by decide +kernel
        have e3 : ¬ (("near" : Str) = "bits") := by decide +kernel
        simp only [putFD, if_neg e1, if_neg e2, if_neg e3]; rfl
      rw [ef] at a4
      exact hq ⟨ss, cs, nums, rfl, hn, rfl⟩ (k := 1) rfl a4
end
end Cal


namespace Cal
open PySem PySem.Spec PyProof.Rows L2
/-! ### rings by a stack of ways -/
def nearF (ss : List (List Str)) (cs : List (List Int)) (x : Int) : List Int := (nearL ss cs).getD x.toNat []
abbrev tW (ws : List (List Int)) : List D := ws.map fun w => D.tup (w.map .int)
theorem nearF_bd (ss : List (List Str)) (cs : List (List Int)) (x : Int) : (nearF ss cs x).length ≤ ss.length + cs.length ∧ ∀ p ∈ nearF ss cs x, 0 ≤ p ∧ p < (ss.length + cs.length : Nat) := by
  unfold nearF nearL
  by_cases h : x.toNat < ss.length + cs.length
  · rw [List.getD_eq_getElem?_getD, List.getElem?_map, List.getElem?_range h]
    refine ⟨?_, fun p hp => ?_⟩
    · show (List.map _ _).length ≤ _
      rw [List.length_map]
      have := List.length_filter_le (fun (b : Nat) => stepB ss cs (x.toNat : Nat) b) (List.range (ss.length + cs.length))
      rwa [List.length_range] at this
    · obtain ⟨q, hq, rfl⟩ := List.mem_map.mp hp
      have := List.mem_range.mp (List.mem_filter.mp hq).1
      exact ⟨by omega, by omega⟩
  · rw [List.getD_eq_getElem?_getD, List.getElem?_eq_none (by rw [List.length_map, List.length_range]; omega)]
    exact ⟨Nat.zero_le _, fun p hp => by cases hp⟩
theorem near_at {ss : List (List Str)} {cs : List (List Int)} {x : Int} (h0 : 0 ≤ x) (h1 : x < (ss.length + cs.length : Nat)) : atI ((nearL ss cs).map fun r => D.lst (r.map .int)) x = some (.lst ((nearF ss cs x).map .int)) := by
  have hl : x.toNat < (nearL ss cs).length := by unfold nearL; rw [List.length_map, List.length_range]; omega
  refine atI_of h0 ?_
  unfold nearF
  rw [List.getElem?_map, List.getElem?_eq_getElem hl, List.getD_eq_getElem?_getD, List.getElem?_eq_getElem hl]; rfl
theorem filt_getD {l : List Int} {c : Int → Bool} {g : Int → D} : ((List.range l.length).filter fun n => c (l.getD n 0)).map (fun n => g (l.getD n 0)) = (l.filter c).map g := by
  have e1 : (List.range l.length).map (fun i => l.getD i 0) = l := by
    have := range_getD (0 : Int) l (fun x => x)
    rwa [List.map_id'] at this
  conv => rhs; rw [← e1]
  rw [List.filter_map, List.map_map]; rfl
theorem getLastD_mem (x : Int) : ∀ r : List Int, r.getLastD x ∈ x :: r
  | [] => List.mem_cons_self ..
  | y :: r => by
    rw [List.getLastD_cons]
    exact List.mem_cons_of_mem _ (getLastD_mem y r)
theorem last_at {w : List Int} {i : Int} (h : w ≠ []) : atI (w.map D.int) (-1) = some (.int (w.getLastD i)) := by
  unfold atI ixN
  have hl : 1 ≤ w.length := by cases w with
    | nil => exact absurd rfl h
    | cons x r => simp
  rw [if_neg (by decide), List.length_map, if_pos (by omega)]
  show (w.map D.int)[(-1 + (w.length : Int)).toNat]? = _
  rw [List.getElem?_map, show (-1 + (w.length : Int)).toNat = w.length - 1 by omega, List.getLastD_eq_getLast?, List.getLast?_eq_getElem?]
  rw [List.getElem?_eq_getElem (by omega)]; rfl
theorem lastD_in {w : List Int} {x : Int} (h : w ≠ []) : w.getLastD x ∈ w := by
  cases w with
  | nil => exact absurd rfl h
  | cons y r => rw [List.getLastD_cons]; exact getLastD_mem y r
theorem lastD_eq {w : List Int} (h : w ≠ []) (x y : Int) : w.getLastD x = w.getLastD y := by
  cases w with
  | nil => exact absurd rfl h
  | cons z r => rw [List.getLastD_cons, List.getLastD_cons]
/-- the law's rows are the program's -/
theorem row_near {ss : List (List Str)} {cs : List (List Int)} (hP : Pl3 ss cs) {p : Nat} (hp : p < ss.length + cs.length) : rowG ss cs p = nearF ss cs (p : Int) := by
  unfold rowG nearF nearL
  rw [show ((p : Int)).toNat = p by omega, List.getD_eq_getElem?_getD, List.getElem?_map, List.getElem?_range hp]
  show _ = ((List.range (ss.length + cs.length)).filter fun (b : Nat) => stepB ss cs p b).map fun (b : Nat) => (b : Int)
  refine congrArg _ (List.filter_congr fun q hq => ?_)
  have hq' := List.mem_range.mp hq
  rw [← lawStep_eq hP hp hq']
  by_cases e : p = q
  · subst e
    rw [decide_eq_true rfl, Bool.not_true, Bool.false_and]
    unfold lawStep
    by_cases h : ss.length ≤ p
    · rw [if_pos h, decide_eq_true h]; rfl
    · rw [if_neg h, if_neg h, decide_eq_true rfl]; rfl
  · rw [decide_eq_false e]; rfl
section
variable (near : Int → List Int)
def extR (w : List Int) : List (List Int) := ((near (w.getLastD 0)).filter fun p => !decide (p ∈ w)).map fun p => w ++ [p]
def hitR (one other : Int) (w : List Int) : Bool := decide (3 ≤ w.length) && (decide (other ∈ w) && decide (one ∈ near (w.getLastD 0)))
inductive First (one other : Int) : List (List Int) → Option (List Int) → Prop
  | no : First one other [] none
  | hit {t : List (List Int)} {w : List Int} : hitR near one other w = true → First one other (t ++ [w]) (some w)
  | go {t : List (List Int)} {w : List Int} {r : Option (List Int)} : hitR near one other w = false → First one other (t ++ extR near w) r → First one other (t ++ [w]) r
end
section
variable {near : Int → List Int} {one other : Int}
theorem First.det {t : List (List Int)} {r r' : Option (List Int)} (h : First near one other t r) : First near one other t r' → r = r' := by
  induction h generalizing r' with
  | no =>
    intro h2
    generalize e : ([] : List (List Int)) = t at h2
    cases h2 with
    | no => rfl
    | hit => simp at e
    | go => simp at e
  | @hit t w h1 =>
    intro h3
    generalize e : t ++ [w] = t' at h3
    cases h3 with
    | no => simp at e
    | hit g1 =>
      obtain ⟨e1, e2⟩ := List.append_inj' e rfl
      cases e2; rfl
    | go g1 g2 =>
      obtain ⟨e1, e2⟩ := List.append_inj' e rfl
      cases e2
      rw [h1] at g1; cases g1
  | @go t w r h1 _ ih =>
    intro h3
    generalize e : t ++ [w] = t' at h3
    cases h3 with
    | no => simp at e
    | hit g1 =>
      obtain ⟨e1, e2⟩ := List.append_inj' e rfl
      cases e2
      rw [h1] at g1; cases g1
    | go g1 g2 =>
      obtain ⟨e1, e2⟩ := List.append_inj' e rfl
      cases e2; subst e1
      exact ih g2
theorem extR_eq {w : List Int} (h : w ≠ []) (hb : ∀ x, ∀ p ∈ near x, 0 ≤ p) : extR near w = extW near (-1) (-1) w := by
  unfold extR extW
  rw [lastD_eq h (-1) 0]
  refine congrArg _ (List.filter_congr fun p hp => ?_)
  have := hb _ p hp
  congr 1
  rw [Bool.eq_iff_iff, decide_eq_true_iff, decide_eq_true_iff]
  refine ⟨fun z => List.mem_cons_of_mem _ (List.mem_cons_of_mem _ z), fun z => ?_⟩
  rcases List.mem_cons.mp z with z | z
  · omega
  · rcases List.mem_cons.mp z with z | z
    · omega
    · exact z
theorem wts_extR {m : Nat} (hn : ∀ x, (near x).length ≤ m ∧ ∀ p ∈ near x, 0 ≤ p ∧ p < m) {w : List Int} (h : w ≠ []) : wts m (extR near w) + 1 ≤ wt m w := by
  rw [extR_eq h fun x p hp => ((hn x).2 p hp).1]
  exact wts_ext hn w
/-- ways that the walk makes -/
structure GoodR (near : Int → List Int) (m : Nat) (one : Int) (w : List Int) : Prop where
  ne : w ≠ []
  hd : w.getD 0 0 = one
  nd : w.Nodup
  bd : ∀ p ∈ w, 0 ≤ p ∧ p < (m : Int)
  sz : w.length + rem m w ≤ 8
  st : ∀ k, k + 1 < w.length → w.getD (k + 1) 0 ∈ near (w.getD k 0)
theorem GoodR.start {m : Nat} (hm : m ≤ 7) (h0 : 0 ≤ one) (h1 : one < (m : Int)) : GoodR near m one [one] where
  ne := by simp
  hd := rfl
  nd := by simp
  bd := fun p hp => by rw [List.mem_singleton.mp hp]; exact ⟨h0, h1⟩
  sz := by have := rem_le m [one]; show 1 + _ ≤ 8; omega
  st := fun k hk => by simp at hk
theorem getLastD_getD {w : List Int} (h : w ≠ []) : w.getLastD 0 = w.getD (w.length - 1) 0 := by
  rw [List.getLastD_eq_getLast?, List.getLast?_eq_getElem?, List.getD_eq_getElem?_getD]
theorem GoodR.ext {m : Nat} (hn : ∀ x, (near x).length ≤ m ∧ ∀ p ∈ near x, 0 ≤ p ∧ p < m) {w v : List Int} (h : GoodR near m one w) (hv : v ∈ extR near w) : GoodR near m one v := by
  obtain ⟨p, hp, rfl⟩ := List.mem_map.mp hv
  obtain ⟨p1, p2⟩ := List.mem_filter.mp hp
  have hp' := (hn _).2 p p1
  have pw : p ∉ w := fun z => by rw [decide_eq_true z] at p2; cases p2
  have l0 : 1 ≤ w.length := List.length_pos_iff.mpr h.ne
  refine ⟨by simp, ?_, ?_, fun q hq => ?_, ?_, fun k hk => ?_⟩
  · rw [List.getD_eq_getElem?_getD, List.getElem?_append_left (by omega), ← List.getD_eq_getElem?_getD]; exact h.hd
  · exact List.nodup_append.mpr ⟨h.nd, by simp, fun a ha b hb e => pw (by rw [← List.mem_singleton.mp hb, ← e]; exact ha)⟩
  · rcases List.mem_append.mp hq with z | z
    · exact h.bd q z
    · rw [List.mem_singleton.mp z]; exact hp'
  · have := rem_child (m := m) hp'.1 hp'.2 pw
    have := h.sz
    rw [List.length_append, List.length_singleton]; omega
  · rw [List.length_append, List.length_singleton] at hk
    by_cases e : k + 1 = w.length
    · have e1 : (w ++ [p]).getD (k + 1) 0 = p := by rw [List.getD_eq_getElem?_getD, List.getElem?_append_right (by omega), e, Nat.sub_self]; rfl
      have e2 : (w ++ [p]).getD k 0 = w.getLastD 0 := by
        rw [List.getD_eq_getElem?_getD, List.getElem?_append_left (by omega), ← List.getD_eq_getElem?_getD, getLastD_getD h.ne, show w.length - 1 = k by omega]
      rw [e1, e2]; exact p1
    · have e1 : (w ++ [p]).getD (k + 1) 0 = w.getD (k + 1) 0 := by rw [List.getD_eq_getElem?_getD, List.getElem?_append_left (by omega), ← List.getD_eq_getElem?_getD]
      have e2 : (w ++ [p]).getD k 0 = w.getD k 0 := by rw [List.getD_eq_getElem?_getD, List.getElem?_append_left (by omega), ← List.getD_eq_getElem?_getD]
      rw [e1, e2]; exact h.st k (by omega)
end
end Cal


namespace Cal
open PySem PySem.Spec PyProof.Rows L2
/-! ### how many different ints stand in a tuple: len(set(t)) -/
section
variable {X : Cx} {a : Expr} {ta : TE} {p p2 q pos : Pos}
def tLenSetT (K : PySem.W.Frag) (ta : TE) : TE := fun σ H Q => ta σ H fun x H1 => ∃ (t : Addr) (is : List Int), x = .ref t ∧ SqT K H1 t (is.map .int) ∧ is.length ≤ 1000 ∧ ∀ js : List Int, js.Nodup → (∀ z, z ∈ js ↔ z ∈ is) → Q (.int (js.length : Nat)) H1
theorem pe_lenSetT (cm : X.calm = true) (g1 : Gl X "len") (m1 : X.mg "len" = none) (g2 : Gl X "set") (m2 : X.mg "set" = none) (pa : PE X a ta) (na : starEach [a] X.env = (false, eval a X.env) :: starEach [] X.env := by rfl) :
    PE X (.Call (.Name "len" p) [.Call (.Name "set" p2) [a] [] q] [] pos) (tLenSetT X.K ta) := by
  constructor
  intro pins s σ H Q I h
  refine Call_ (ld_blt I g1 m1 PySem.boot_len (callWith_builtin1 (args_cons ?_ rfl) rfl rfl))
  refine Call_ (ld_blt I g2 m2 PyProof.Rows.boot_set ?_)
  refine callWith_type1 (args_cons (thn (pa.run pins s σ H _ I h) fun v t => ?_) na) na rfl
  rintro ⟨x, H1, I1, r1, tp, is, rfl, sq, few, fin⟩
  refine args_nil ?_
  cases r1
  obtain ⟨its, rv, tup, _⟩ := I1.tuple sq
  have iAre : IntsAre its.toArray.toList is := ints_of_vals rv
  refine call_set_tupI is (I1.ok.hd cm) tup iAre (by unfold scanBound; omega) fun h' tk c R hc kp => args_nil ?_
  obtain ⟨o, es, ep, tb, ho, hex, hd, good, nd, mem, _, fits, size, _⟩ := R
  have I2 : Inv X pins σ H1 { t with heap := h', toks := tk } := I1.kept kp
  have few' : (es.size : Int) < 2 ^ 63 := by rw [size]; omega
  have ln : (es.toList.map keyOf).length = es.size := by rw [List.length_map, Array.length_toList]
  have val := fin _ nd fun z => by rw [← mem z, decide_eq_true_eq]
  rw [ln] at val
  exact call_len_set ho hex hd fits few' ⟨.int (es.size : Nat), H1, I2.tok _, ⟨_, rfl⟩, val⟩
end
/-! ### a dict whose keys are tuples, made by a comprehension -/
section
variable {X : Cx}
theorem setT_ok {pins : List (Addr × Obj)} {σ : L2.St} {H : Hp} {s : Shared} {E : Value → Shared → Prop} {dd kk : Addr} {kvs : List (List Key × V)} {ks : List Key} {y : V} {u r : Value} {Q : Unit → Shared → Prop}
    (hu : X.A.units + 64 < cLine) (I : Inv X pins σ H s) (h1 : H dd = some (.dT kvs)) (h2 : H kk = some (.tup (ks.map kV))) (hz : kvs.length < sizeLine) (ru : RelV (.ref kk) u) (rr : RelV y r)
    (h : ∀ s', Inv X pins σ (upd H dd (.dT (putK kvs ks y))) s' → Q () s') : wpAny (model X.prog X.w) X.A (dictSet dd u r) Q E s := by
  cases (show u = Value.ref kk from ru)
  obtain ⟨bd, ns, xs, rel, dh⟩ := dt_of I.hok h1
  have xl : xs.length ≤ sizeLine := (Paired.length rel) ▸ bd
  have pl := length_putK kvs ks y
  refine wpAny_dictSet_heap (hsz := xl) (show X.A.units < cLine by omega) (key_of I.hok h2) dh fun h' dh' same => h _ ?_
  obtain ⟨o, es, ep, ho, c2, c3, c4, _, c5⟩ := dh'
  refine d_write I (by rw [h1]; exact True.intro) same ⟨o, ho⟩ ⟨by omega, ns, _, (rel.put ks h2 rr).keeps fun b ys eb => ?_, o, es, ep, ho, c2, c3, c4, c5⟩
  rw [upd_ne (ne_of eb h1 fun z => nomatch z)]; exact eb
/-- {k: v for target in iter}, the keys tuples -/
def tDcT (wi : TI) (g : TG) (tk tv : TE) (vs : List Nat) : TE := fun σ H Q => wi σ H fun J H1 => ∀ D, H1 D = none → ∃ W : Nat → Nat → Hp → Prop, (∃ m, W 0 m (upd H1 D (.dT []))) ∧ ∀ i m H, W i m H →
  (J.stop i H ∧ Q (.ref D) H) ∨ (J.go i H ∧ ∃ Nx : Hp → Prop, (∀ H', Nx H' → ∃ m', m' < m ∧ W (i + 1) m' H') ∧ ∀ x H', J.yld i H x H' → g x (wipe σ vs) H' fun σ2 H2 => wipe σ2 vs = wipe σ vs ∧
    tk σ2 H2 fun y H4 => tv σ2 H4 fun z H5 => ∃ kvs ks kk, y = .ref kk ∧ H5 kk = some (.tup (ks.map kV)) ∧ H5 D = some (.dT kvs) ∧ kvs.length < sizeLine ∧ Nx (upd H5 D (.dT (putK kvs ks z))))
section
variable {kx vx tg iter : Expr} {scope : Scope} {own : List (Str × Nat)} {pos : Pos} {wi : TI} {g : TG} {tk tv : TE}
theorem pe_dcT (cm : X.calm = true) (hu : X.A.units + 64 < cLine) (hN : X.N.Nodup) (hi : PI X tg iter wi) (ok : BlkOk X.N X.env.scope scope own)
    (hg : ∀ s H C cl fp, PG (X.blk s H scope (compEnvC scope cl C X.env) fp) tg g)
    (hk : ∀ s H C cl fp, PE (X.blk s H scope (compEnvC scope cl C X.env) fp) kx tk)
    (hv : ∀ s H C cl fp, PE (X.blk s H scope (compEnvC scope cl C X.env) fp) vx tv) (hs : ∀ x, foldedSetIterable iter X.env x = pure x := by intro _; rfl) :
    PE X (.DictComp kx vx [⟨tg, iter, [], 0⟩] scope pos) (tDcT wi g tk tv (own.map (·.2))) := by
  constructor
  intro pins s σ H Q I h
  rw [arm_eval_DictComp]
  have free : ∀ y ∈ scope.names, y.2 = .free → ∃ c, X.env.cells.lookup y.1 = some c := fun y hy e =>
    (ok.free y hy e).elim (fun k => I.ok.has _ (.inl k)) fun k => I.ok.has _ (.inr k)
  refine wpAny_comprehension_free (use := none) rfl hs (closure_ok free) ok.kind (fun y hy e => by rw [ok.uniq y hy, e])
    (thn (hi.run pins s σ H _ I h) fun xv s1 hx => thn hx fun itv s2 h2 => ?_)
  obtain ⟨it, fp, tn, J, H2, rfl, I2, T, st2, f2, q⟩ := h2
  refine wpAny_newObj_type (newEnv_comp ?_)
  have hD0 : H2 s2.heap.objs.size = none := I2.hok.fresh (Nat.le_refl _)
  obtain ⟨W, ⟨m0, w0⟩, turn⟩ := q _ hD0
  have ob0 := dt_empty (P := X.prog) (w := X.w) (H := upd H2 s2.heap.objs.size (.dT [])) s2.heap I2.big
  have sz : ∀ b ∈ fp, b < s2.heap.objs.size := fun b hb => let ⟨_, e, _⟩ := T.obj _ _ st2 b hb; Heap.lt_size e
  have fne : ∀ b ∈ fp, b ≠ s2.heap.objs.size := fun b hb => Nat.ne_of_lt (sz b hb)
  generalize hD : s2.heap.objs.size = D at hD0 w0 turn ob0 fne ⊢
  generalize e3 : ({ s2 with heap := s2.heap.push { cls := .type "dict", data := .dict #[] } } : Shared) = s3
  have h3 : s3.heap = s2.heap.push { cls := .type "dict", data := .dict #[] } := by rw [← e3]
  have up : ∀ b o, s2.heap.get? b = some o → s3.heap.get? b = some o := fun b o e => by rw [h3]; exact Heap.get?_push_of_some _ e
  have I3 : Inv X pins σ (upd H2 D (.dT [])) s3 := by
    subst e3
    exact I2.laid (t' := s2.toks) (fun b o e => Heap.get?_push_of_some _ e) (Nat.le_of_eq hD) ob0
  have f3 : ∀ b ∈ fp, FpOk X pins (upd H2 D (.dT [])) b ∧ b < s3.heap.objs.size := fun b hb =>
    ⟨⟨by rw [upd_ne (fne b hb)]; exact (f2 b hb).1, (f2 b hb).2⟩, by rw [h3, Heap.size_push]; exact Nat.lt_succ_of_lt (sz b hb)⟩
  have st3 : tn 0 s3.heap := T.keep _ _ _ st2 fun b _ o e => up b o e
  have I4 := block_start I3 ok hN f3
  generalize hcl : cellsFrom (s3.heap.objs.size + 1) scope.names (cloFrom X.env.cells scope.names []) = cl at I4
  have pg := hg s3 (upd H2 D (.dT [])) s3.heap.objs.size cl fp
  have pk := hk s3 (upd H2 D (.dT [])) s3.heap.objs.size cl fp
  have pv := hv s3 (upd H2 D (.dT [])) s3.heap.objs.size cl fp
  have goalIs : codeAny (model X.prog X.w) X.A (.compStart (.DictComp kx vx [⟨tg, iter, [], 0⟩] scope pos) 0 (.ref it) (.ref D) (compEnvC scope cl s3.heap.objs.size X.env))
      (compPost (model X.prog X.w) X.A X.xe none (EP X pins σ Q) (.ref D) s3.heap.objs.size) { s3 with heap := pushCells (s3.heap.push { cls := .type "dict", data := .dict #[] }) scope.names } := by
    have nofp : ∀ b ∈ fp, (upd H2 D (.dT [])) b = none := fun b hb => (f3 b hb).1.1
    generalize hce : compEnvC scope cl s3.heap.objs.size X.env = ce at I4 pg pk pv ⊢
    have cL : ce.locals = s3.heap.objs.size := by subst hce; rfl
    generalize hH3 : upd H2 D (.dT []) = H3 at I3 I4 pg pk pv w0 nofp f3
    generalize hs4 : ({ s3 with heap := pushCells (s3.heap.push { cls := .type "dict", data := .dict #[] }) scope.names } : Shared) = s4 at I4 ⊢
    have st4 : tn 0 s4.heap := T.keep _ _ _ st3 fun b _ o e => by rw [← hs4]; exact pushCells_keeps _ _ _ _ (Heap.get?_push_of_some _ e)
    have stat : ∀ {σ' : L2.St} {H' : Hp} {t : Shared}, Inv (X.blk s3 H3 scope ce fp) [] σ' H' t → (∀ b ∈ fp, H' b = none) → ∀ b ∈ fp, FpOk (X.blk s3 H3 scope ce fp) [] H' b := fun I' no b hb =>
      ⟨no b hb, (I'.ok.exf b hb).1, I'.ok.exfs b hb, .inl hb, fun x c e => (I'.ok.exf b hb).2 x c e, fun p hp => by cases (List.mem_append.mp hp) <;> contradiction⟩
    have main : codeAny (model X.prog X.w) X.A (.compLoop (.DictComp kx vx [⟨tg, iter, [], 0⟩] scope pos) 0 (.ref it) (.ref D) ce)
        (compPost (model X.prog X.w) X.A X.xe none (EP X pins σ Q) (.ref D) s3.heap.objs.size) s4 := by
      refine compLoop_anyD (fun n t => ∃ i H', Inv (X.blk s3 H3 scope ce fp) [] (wipe σ (own.map (·.2))) H' t ∧ tn i t.heap ∧ (∀ b ∈ fp, H' b = none) ∧ W i n H') ?_ m0 ⟨0, H3, I4, st4, nofp, w0⟩
      rintro n s5 ⟨i, H5, I5, st5, no5, w5⟩
      rcases turn i n H5 w5 with ⟨stop, qq⟩ | ⟨go, Nx, hNx, step⟩
      · refine thnF (T.done (X.blk s3 H3 scope ce fp) rfl rfl rfl cm i [] s5 _ H5 (fun _ _ => False) I5 (stat I5 no5) st5 stop) fun r s6 ⟨hr, I6⟩ => ?_
        subst hr
        have I7 : Inv X pins σ H5 s6 := I3.call' (ch := fp) I6.os I6.base I6.hok I6.bare fun b hb => let z := (f3 b hb).1; ⟨z.2.2.2.1, z.2.1, z.2.2.2.2.1, z.2.2.2.2.2⟩
        have nC : H5 s3.heap.objs.size = none := by rw [← cL]; exact I6.free
        obtain ⟨m, hn, _⟩ := I6.loc
        have hn' : s6.heap.Ns ce.locals m := hn
        rw [cL] at hn'
        obtain ⟨k0, k1, k2, k3, k4, k5⟩ := I3.fpOk (Nat.le_refl _) nC
        refine ⟨m, hn', fun h'' sb => ⟨.ref D, H5, ?_, rfl, qq⟩⟩
        exact I7.turned (t' := s6.toks) (fun b o hb e => (sb.2 b hb).trans e) k0 k1 k3 k4 k5
      · refine thnF (T.item (X.blk s3 H3 scope ce fp) rfl rfl rfl cm i [] s5 _ H5 (fun _ _ => False) I5 (stat I5 no5) st5 go) fun r s6 ⟨u, hr, h6⟩ => ?_
        subst hr
        refine thnF h6 fun _ s7 ⟨x, H7, I7, r7, y7, st7, no7⟩ => ?_
        refine thnF (pg.run _ s7 _ H7 x u _ (I7.pinned (stat I7 no7) (T.obj _ _ st7)) r7 (step x H7 y7)) fun _ s8 ⟨σ8, H8, I8, hw8, q8⟩ => ?_
        have ts : wpAny (model X.prog X.w) X.A (forIn ([] : List Expr) true fun c r => if r = true then do let ok ← isTrue c ce (eval c ce); pure (ForInStep.yield ok) else pure (ForInStep.yield r)) (fun ok t => ok = true ∧ t = s8) (fun _ _ => False) s8 := by
          show wpAny _ _ (pure true) _ _ _
          exact wpAny_pure ⟨rfl, rfl⟩
        refine thnF ts fun b s9 ⟨hb, hs9⟩ => ?_
        subst hb; subst hs9
        rw [if_pos rfl]
        refine thnF (pk.run _ s9 σ8 H8 _ I8 q8) fun z s10 ⟨yk, H10, I10, r10, q10⟩ => ?_
        refine thnF (pv.run _ s10 σ8 H10 _ I10 q10) fun z2 s11 ⟨yv, H11, I11, r11, kvs, ks, kk, ek, hkk, hDD, hz, nx⟩ => ?_
        subst ek
        refine setT_ok (X := X.blk s3 H3 scope ce fp) hu I11 hDD hkk hz r10 r11 fun s12 I12 => ?_
        obtain ⟨m', hm, w'⟩ := hNx _ nx
        have pin : ∀ b ∈ fp, ∀ o, s7.heap.get? b = some o → s12.heap.get? b = some o ∧ _ = none := fun b hb o e =>
          let z := I12.pin (b, o) (List.mem_append_right _ (List.mem_append_right _ (mem_pinsAt hb e)))
          ⟨z.1, z.2.1⟩
        have hl : (wipe σ (own.map (·.2))).length = σ8.length := by rw [← hw8, wipe_length]
        refine ⟨m', hm, i + 1, _, (I12.unpinned (pins := [])).weak hl (fun j v e => ?_), T.keep _ _ _ st7 fun b hb o e => (pin b hb o e).1, fun b hb => ?_, w'⟩
        · rw [← hw8] at e
          exact (wipe_some e).1
        · obtain ⟨o, e, _⟩ := T.obj _ _ st7 b hb
          exact (pin b hb o e).2
    exact codeAny_compStart_dict main (T.self X.A 0 _ _ _ st4 main)
  subst hcl
  subst e3
  exact goalIs
end
end
abbrev tZ (v : List Int) : D := .tup (v.map .int)
/-! ### .. as data -/
section
variable {B : Bs} {ρ : Ro} {μ : Mu} {te td ty : TE} {is : List Int} {kvs : List (List Key × D)}
/-- the different items of a list -/
def uniq : List Int → List Int
  | [] => []
  | x :: r => if x ∈ r then uniq r else x :: uniq r
theorem uniq_mem : ∀ {l : List Int} {z : Int}, z ∈ uniq l ↔ z ∈ l
  | [], z => Iff.rfl
  | x :: r, z => by
    unfold uniq
    split
    · rename_i h
      rw [uniq_mem, List.mem_cons]
      exact ⟨.inr, fun h2 => h2.elim (fun e => e ▸ h) id⟩
    · rw [List.mem_cons, List.mem_cons, uniq_mem]
theorem uniq_nodup : ∀ l : List Int, (uniq l).Nodup
  | [] => List.nodup_nil
  | x :: r => by
    unfold uniq
    split
    · exact uniq_nodup r
    · rename_i h
      exact List.nodup_cons.mpr ⟨fun z => h (uniq_mem.mp z), uniq_nodup r⟩
theorem uniq_le : ∀ l : List Int, (uniq l).length ≤ l.length
  | [] => Nat.le_refl _
  | x :: r => by
    unfold uniq
    have := uniq_le r
    split
    · rw [List.length_cons]; omega
    · rw [List.length_cons, List.length_cons]; omega
theorem uniq_len : ∀ {l : List Int}, (uniq l).length = l.length ↔ l.Nodup
  | [] => ⟨fun _ => List.nodup_nil, fun _ => rfl⟩
  | x :: r => by
    unfold uniq
    rw [List.nodup_cons]
    have := uniq_le r
    split
    · rename_i h
      rw [List.length_cons]
      exact ⟨fun e => by omega, fun e => absurd h e.1⟩
    · rename_i h
      rw [List.length_cons, List.length_cons, Nat.add_right_cancel_iff, uniq_len]
      exact ⟨fun e => ⟨h, e⟩, fun e => e.2⟩
theorem len_sub : ∀ {a b : List Int}, a.Nodup → (∀ z ∈ a, z ∈ b) → a.length ≤ b.length
  | [], b, _, _ => Nat.zero_le _
  | x :: r, b, hn, hs => by
    rw [List.nodup_cons] at hn
    have hx := hs x (List.mem_cons_self ..)
    have := len_sub (a := r) (b := b.erase x) hn.2 fun z hz => (List.mem_erase_of_ne (fun e => hn.1 (by rw [← e]; exact hz))).mpr (hs z (List.mem_cons_of_mem _ hz))
    rw [List.length_erase_of_mem hx] at this
    have := List.length_pos_of_mem hx
    rw [List.length_cons]; omega
theorem ed_any {bs : List Bool} (h : Ed B te ρ μ (.lst (bs.map D.bl))) : Ed B (tCB (rAny B.K) (tCons te tNil)) ρ μ (.bl (bs.any id)) := ev_cb (ead_cons h ea_nil) fun ds e => by
  subst e
  exact rc_any
theorem ed_anyF {n : Nat} {f : Nat → Bool} (h : Ed B te ρ μ (.lst ((List.range n).map fun i => D.bl (f i)))) : Ed B (tCB (rAny B.K) (tCons te tNil)) ρ μ (.bl ((List.range n).any f)) := by
  have := ed_any (bs := (List.range n).map f) (Ed.is h (by rw [List.map_map]; rfl))
  rwa [List.any_map] at this
theorem ed_lenSetT (h : Ed B te ρ μ (tZ is)) (few : is.length ≤ 1000) : Ed B (tLenSetT B.K te) ρ μ (.int ((uniq is).length : Nat)) := Ev.mk fun τ σ H a Q q => h.go a fun v H1 d1 hd a1 => by
  subst hd
  obtain ⟨G, g, pa, vs, rfl, e, k1⟩ := id a1.top
  have hv := k1.ints
  subst hv
  refine ⟨pa, is, rfl, .inl (.inl (g.sub _ _ e)), few, fun js h1 h2 => ?_⟩
  have e1 : js.length = (uniq is).length := Nat.le_antisymm (len_sub h1 fun z hz => uniq_mem.mpr ((h2 z).mp hz)) (len_sub (uniq_nodup is) fun z hz => (h2 z).mpr (uniq_mem.mp hz))
  rw [e1]
  exact q _ H1 _ rfl (At.flat a1.pop fun _ => rfl)
theorem keyW_at {K : PySem.W.Frag} {G : Hp} {v : V} {l : List Int} (h : Dt K G (tZ l) v) : ∃ q, v = .ref q ∧ G q = some (.tup ((l.map Sum.inl).map kV)) := by
  obtain ⟨q, vs, rfl, e, k⟩ := h
  have hv := k.ints
  subst hv
  refine ⟨q, rfl, ?_⟩
  rw [e, List.map_map]; rfl
/-- way in d -/
theorem ed_dinW (hs : Ed B td ρ μ (.dt kvs)) (hy : Ed B ty ρ μ (tZ is)) : Ed B (tDIn ty td) ρ μ (.bl (getD' kvs (is.map Sum.inl)).isSome) := Ev.mk fun τ σ H a Q q => hy.go a fun u H1 d1 hd a1 => hs.go a1 fun w H2 d2 hd2 a2 => by
  subst hd; subst hd2
  obtain ⟨G, g⟩ := id a2
  obtain ⟨qa, rfl, hq⟩ := keyW_at (g.temps _ (List.mem_cons_of_mem _ (List.mem_cons_self ..)))
  obtain ⟨pa, ws, rfl, e3, k3⟩ := g.temps _ (List.mem_cons_self ..)
  refine ⟨pa, _, rfl, DGet.t (g.sub _ _ e3) (g.sub _ _ hq), q _ H2 (.bl (valV ws (is.map Sum.inl)).isSome) ?_ (At.flat a2.pop.pop fun _ => rfl)⟩
  rcases k3.get (k := is.map Sum.inl) with ⟨h3, h4⟩ | ⟨dd, vv, h3, h4, _⟩ <;> rw [h3, h4] <;> rfl
/-- {way: True for way, _ in ..} -/
def dctW (key : Nat → List Int) : Nat → List (List Key × D)
  | 0 => []
  | i + 1 => putD (dctW key i) ((key i).map Sum.inl) (.bl true)
theorem dctW_len (key : Nat → List Int) : ∀ n, (dctW key n).length ≤ n
  | 0 => Nat.le_refl _
  | n + 1 => by have := putD_len (dctW key n) ((key n).map (Sum.inl : Int → Key)) (.bl true); have := dctW_len key n; show (putD _ _ _).length ≤ _; omega
theorem putD_has {kvs : List (List Key × D)} {k k' : List Key} {d : D} : (getD' (putD kvs k d) k').isSome = ((getD' kvs k').isSome || decide (k = k')) := by
  have isS : ∀ l : List (List Key × D), (getD' l k').isSome = l.any fun p => decide (p.1 = k') := fun l => by
    unfold getD'
    rw [Option.isSome_map, List.isSome_find?]
  rw [isS, isS]
  unfold putD
  split
  · rename_i h
    have e : ((kvs.map fun p => if p.1 = k then (p.1, d) else p).any fun p => decide (p.1 = k')) = kvs.any fun p => decide (p.1 = k') := by
      rw [List.any_map]
      refine congrArg (List.any kvs) (funext fun p => ?_)
      show decide ((if p.1 = k then (p.1, d) else p).1 = k') = _
      split <;> rfl
    rw [e]
    by_cases hk : k = k'
    · subst hk
      rw [h, Bool.true_or]
    · rw [decide_eq_false hk, Bool.or_false]
  · rw [List.any_append, List.any_cons, List.any_nil, Bool.or_false]
theorem dctW_has (key : Nat → List Int) (w : List Int) : ∀ n, (getD' (dctW key n) (w.map Sum.inl)).isSome = (List.range n).any fun i => decide (key i = w)
  | 0 => rfl
  | n + 1 => by
    show (getD' (putD _ _ _) _).isSome = _
    rw [putD_has, dctW_has key w n, List.range_succ, List.any_append, List.any_cons, List.any_nil, Bool.or_false]
    refine congrArg (_ || ·) (decide_eq_decide.mpr ⟨fun e => (List.map_inj_right fun a b e => Sum.inl.inj e).mp e, fun e => by rw [e]⟩)
theorem ed_dcT {wi : TI} {vs : List Nat} {n : Nat} {f : Nat → D} {k l : Nat} (key : Nat → List Int) (snd : Nat → D) (hi : Ei B wi ρ μ n f) (hf : ∀ i, i < n → f i = .tup [tZ (key i), snd i]) (hk : k ∈ vs) (hl : l ∈ vs) (kl : l ≠ k) (kr : k < ρ.length) (hn : n ≤ 1000000) :
    Ed B (tDcT wi (gTup B.K 2 (gCons (gName k) (gCons (gName l) gNil))) (tVar k) (tC (.bl true)) vs) ρ μ (.dt (dctW key n)) := Ev.mk fun τ σ H a Q q => hi (sv ρ σ ++ τ) σ H a.save _ fun J H1 τ1 hsub a1 hJ Dl hD => by
  have hf' := a.fits
  refine ⟨fun i m H => m = n - i ∧ i ≤ n ∧ At B ρ ((Dl, .dt (dctW key i)) :: μ) τ1 σ H, ⟨n, by omega, Nat.zero_le _, (At.newCell (c := .dt []) (o := .dT []) a1 hD fun G _ => ⟨[], upd_same, rfl⟩).1⟩, fun i m H2 hW => ?_⟩
  obtain ⟨rfl, hin, a2⟩ := hW
  obtain ⟨s1, s2⟩ := hJ i ρ _ τ1 σ H2 (fun _ z => z) a2
  by_cases hlt : i < n
  · obtain ⟨s3, s4⟩ := s2 hlt
    refine .inr ⟨s3, fun H => At B ρ ((Dl, .dt (dctW key (i + 1))) :: μ) τ1 σ H, fun H' h2 => ⟨n - (i + 1), by omega, rfl, hlt, h2⟩, fun x H3 hy => ?_⟩
    have a3 := s4 x H3 hy
    rw [hf i hlt] at a3
    refine gd_tup2 τ1 (wipe σ vs) H3 x (At.wiped a3 vs) _ fun σ' a4 hl3 hk3 => ⟨wipe_ext (js := [k, l]) (fun z hz => by
      rcases List.mem_cons.mp hz with e | e
      · rw [e]; exact hk
      · rw [List.mem_singleton.mp e]; exact hl) hl3 hk3, ?_⟩
    have hv : ((((wipeR ρ vs).set k (some (tZ (key i)))).set l (some (snd i))) : Ro)[k]? = some (some (tZ (key i))) := by
      rw [List.getElem?_set_ne kl, List.getElem?_set_self (by rw [wipeR_len]; exact kr)]
    refine (ed_var hv).go a4 fun y H4 dy hdy a5 => ?_
    subst hdy
    obtain ⟨G, g⟩ := id a5
    obtain ⟨qa, rfl, hq⟩ := keyW_at (g.temps _ (List.mem_cons_self ..))
    obtain ⟨ws, e3, k3⟩ := (g.cells (Dl, .dt (dctW key i)) (List.mem_cons_self ..)).2.2.2
    refine ⟨ws, (key i).map Sum.inl, qa, rfl, g.sub _ _ hq, e3, ?_, ?_⟩
    · rw [k3.length]
      exact Nat.lt_of_le_of_lt (dctW_len key i) (Nat.lt_of_lt_of_le hlt (Nat.le_trans hn (by decide)))
    · have a6 : At B _ ((Dl, .dt (dctW key (i + 1))) :: μ) τ1 σ' (upd H4 Dl (.dT (putK ws ((key i).map Sum.inl) (.bl true)))) := At.write (j := 0) (c' := .dt (dctW key (i + 1))) a5.pop rfl fun G' _ ⟨ws', e4, k4⟩ => by
        rw [e3] at e4
        cases e4
        exact ⟨_, upd_same, k4.put (d := .bl true) rfl⟩
      exact At.restore hf' a6 fun q hq => hsub q (List.mem_append_left _ hq)
  · have e : i = n := by omega
    subst e
    refine .inl ⟨s1 (Nat.le_refl _), q _ H2 _ rfl ?_⟩
    exact (At.freezeC (c := .dt (dctW key i)) (by intro _ _ z; cases z) a2).sub fun z hz => by
      rcases List.mem_cons.mp hz with e | e
      · rw [e]; exact List.mem_cons_self ..
      · exact List.mem_cons_of_mem _ (hsub z (List.mem_append_right _ e))
end
end Cal


namespace Cal
open PySem PySem.Spec PyProof.Rows L2
abbrev s_find_ring : Stmt := topS 3
abbrev n_find_ring : List Str := ["net", "one", "other", "begun", "way", "place"]
theorem sc_find_ring : FnScope n_find_ring ["net", "one", "other"] (defScope s_find_ring) := ⟨rfl, rfl, rfl, by decide +kernel, rfl, by decide +kernel, by decide +kernel⟩
abbrev s__law_rings : Stmt := topS 56
abbrev n__law_rings : List Str := ["graph", "one", "other", "found", "todo", "way", "q"]
theorem sc__law_rings : FnScope n__law_rings ["graph", "one", "other"] (defScope s__law_rings) := ⟨rfl, rfl, rfl, by decide +kernel, rfl, by decide +kernel, by decide +kernel⟩
def optW : Option (List Int) → D
  | none => .non
  | some w => tI w
theorem netF_inj {C : Addr} {nums nums' : List Str} {ss ss' : List (List Str)} {cs cs' : List (List Int)} (h : D.obj C (netF nums ss cs) = D.obj C (netF nums' ss' cs')) : nearL ss cs = nearL ss' cs' := by
  injection h with _ h1
  unfold netF at h1
  injection h1 with _ h1
  injection h1 with h1
  have h1 := (Prod.mk.inj h1).2
  have h2 := D.lst.inj h1
  exact (List.map_inj_right fun a b e => (List.map_inj_right fun a b e => D.int.inj e).mp (D.lst.inj e)).mp h2
section
variable {P : Program} {w : World} {K : PySem.W.Frag} {mg : Str → Option Value} {base : Heap} {f : Addr} {fd : FuncData}
abbrev BNF : List Str := ["len"]
variable (bi : ∀ x, x ∈ BNF → mg x = none)
variable (g_FEWEST_IN_RING : ∃ u, mg "FEWEST_IN_RING" = some u ∧ RelV (.int 3) u)
abbrev sp_find_ring (K : PySem.W.Frag) (C : Addr) : Sp := psp K (fun ds => ∃ (ss : List (List Str)) (cs : List (List Int)) (nums : List Str) (i j : Int), ds = [.obj C (netF nums ss cs), .int i, .int j] ∧ ss.length + cs.length ≤ 7 ∧ 0 ≤ i ∧ i < (ss.length + cs.length : Nat)) (fun ds e => ∃ (ss : List (List Str)) (cs : List (List Int)) (nums : List Str) (i j : Int) (r : Option (List Int)), ds = [.obj C (netF nums ss cs), .int i, .int j] ∧ First (nearF ss cs) i j [[i]] r ∧ e = optW r)
include bi g_FEWEST_IN_RING in
theorem ok_find_ring {C : Addr} (nc : NetC K C) (F : Fun K "find_ring" "find_ring" s_find_ring f fd) : FnOk P w K mg base CX0 1 f fd ["net", "one", "other"] (sp_find_ring K C) := by
  refine F.ok sc_find_ring (fun vs H Q E h => ?_) (fun cdv A outer s0 H vs Q E hr h => ?_)
  · obtain ⟨G, ds, h1, ⟨ss, cs, nums, i, j, rfl, _⟩, _⟩ := h
    exact h1.length
  · have hu := hu_of hr
    obtain ⟨G, ds, ⟨ss, cs, nums, i, j, rfl, hm7, hi0, hi1⟩, hlen, a, hq⟩ := fsp_start locT n_find_ring h
    refine ⟨_, (pss_cons (ps_asg (pe_lst (pa_cons (pe_tup (pa_cons (pv 1) pa_nil)) pa_nil)) (pg_name (i := 3) sc_find_ring.nd rfl (by first | exact (.inl rfl) | exact (.inr rfl))))
      (pss_cons (ps_while PassesOwn.never (pt_truK (K := K) (by rfl) (pv 3)) (pss_cons (ps_asg (pe_bm0 PySem.F.plainAttrs_list PySem.F.slot_list_pop PySem.F.type_list_pop mt_pop (pv 3)) (pg_name (i := 4) sc_find_ring.nd rfl (by first | exact (.inl rfl) | exact (.inr rfl))))
      (pss_cons (ps_if (PW.pt (pw_and (pt_cmpR u_ge (pe_callB (id := "len") (r := rLenU K) u_len (by rfl) (bi "len" (by decide +kernel)) (by decide +kernel) (pa_cons (pv 4) pa_nil)) (C8.pe_gc (by rfl) g_FEWEST_IN_RING) (nomark _)) (pw_and (pt_cmpR (r := rIn K false) op_in_seq (pv 2) (pv 4) (by rfl)) (pw_and1 (pt_cmpR (r := rIn K false) op_in_seq (pv 1) (pe_ix (r := rIx K) ix_seq (pe_fldK (K := K) (by rfl) (pv 0) (by rfl)) (pe_ix (r := rIx K) ix_seq (pv 4) (pe_un u_neg pe_int) (fun _ _ => rfl)) (fun _ _ => rfl)) (by rfl)))))) (pss_one (ps_ret (pv 4))) pss_nil)
      (pss_one (ps_expr (pe_bm PySem.F.plainAttrs_list PySem.F.slot_list_extend PySem.F.type_list_extend mt_extend (pv 3) (pa_cons (pe_lc (own := [("place", 5)]) (g := gName 5) rfl sc_find_ring.nd (pi_list (pe_ix (r := rIx K) ix_seq (pe_fldK (K := K) (by rfl) (pv 0) (by rfl)) (pe_ix (r := rIx K) ix_seq (pv 4) (pe_un u_neg pe_int) (fun _ _ => rfl)) (fun _ _ => rfl))) (blkOk_by (N := n_find_ring) (sc := defScope s_find_ring) (by decide +kernel)) (fun _ _ _ _ _ => (pg_name (i := 5) sc_find_ring.nd rfl (by first | exact (.inl rfl) | exact (.inr rfl)))) (fun _ _ _ _ _ => (pts_one (pt_cmpR (r := rIn K true) op_notIn_seq (pv 5) (pv 4) (by rfl)))) (fun _ _ _ _ _ => (pe_op (r := rAddU K) u_add (pv 4) (pe_tup (pa_cons (pv 5) pa_nil))))) pa_nil)))))))
      (pss_one (ps_ret pe_non)))), ?_⟩
    have hbd := nearF_bd ss cs
    have nearE : ∀ {ρ : Ro} {μ : Mu} {te : TE} {x : Int}, ρ[0]? = some (some (.obj C (netF nums ss cs))) → Ed ⟨K, fun _ => True, [], locT, G, H⟩ te ρ μ (.int x) → 0 ≤ x → x < (ss.length + cs.length : Nat) → Ed ⟨K, fun _ => True, [], locT, G, H⟩ (tOp (rIx K) (tFld K (tVar 0) "near") te) ρ μ (.lst ((nearF ss cs x).map .int)) := fun h0 hx b0 b1 => ed_op (ed_fld (ed_var h0) nc.cl nc.n2 (d := nearDD ss cs) rfl) hx (rd_ixL (near_at b0 b1))
    refine y_asg (R := fun d μ' => ∃ p, d = .raw (.ref p) ∧ μ' = (p, .lst (tW [[i]])) :: []) a (xl_lst (ds := tW [[i]]) (ead_cons (ed_tup (ds := [.int i]) (ead_cons (ed_var rfl) ea_nil) (by show 1 ≤ _; decide)) ea_nil) (by show 1 ≤ _; decide)) fun d μ2 σ2 H2 hd a2 => ?_
    obtain ⟨pb, rfl, rfl⟩ := hd
    have m8 : (ss.length + cs.length + 1) ^ (ss.length + cs.length) ≤ 2097152 := Nat.le_trans (Nat.pow_le_pow_left (show ss.length + cs.length + 1 ≤ 8 by omega) _) (Nat.le_trans (Nat.pow_le_pow_right (by decide) hm7) (by decide))
    have s24 : 2097152 < sizeLine := by decide
    refine y_while (fun n ρ μ => ∃ (t : List (List Int)) (x4 x5 : Option D), ρ = [some (.obj C (netF nums ss cs)), some (.int i), some (.int j), some (.raw (.ref pb)), x4, x5] ∧ μ = [(pb, .lst (tW t))] ∧
      n = wts (ss.length + cs.length) t ∧ wts (ss.length + cs.length) t ≤ 2097152 ∧ (∀ w ∈ t, GoodR (nearF ss cs) (ss.length + cs.length) i w) ∧ ∀ r, First (nearF ss cs) i j t r → First (nearF ss cs) i j [[i]] r) a2
      ⟨_, _, _, _, rfl, rfl, rfl, by rw [wts_one]; exact Nat.le_trans (wt_le _) m8, fun w hw => by rw [List.mem_singleton.mp hw]; exact GoodR.start hm7 hi0 hi1, fun r h => h⟩ fun n ρ' μ' hI => ?_
    obtain ⟨t, x4, x5, rfl, rfl, rfl, hb, hg, hw⟩ := hI
    refine ⟨_, eb_truC (k := 0) (ds := tW t) rfl rfl, fun hne σ4 H4 Dn a4 hnx hct hbk hrt => ?_, fun hnil σ4 H4 a4 => ?_⟩
    · obtain ⟨t', w, rfl⟩ : ∃ t' w, t = t' ++ [w] := by
        rcases List.eq_nil_or_concat t with e | ⟨t', w, e⟩
        · rw [e] at hne; cases hne
        · exact ⟨t', w, by rw [e, List.concat_eq_append]⟩
      have gw := hg w (List.mem_append_right _ (List.mem_singleton.mpr rfl))
      rw [wts_app, wts_one] at hb hnx
      have wp := wt_pos (ss.length + cs.length) w
      have wl8 : w.length ≤ 8 := by have := gw.sz; omega
      refine y_asg (R := fun d μ' => d = tI w ∧ μ' = [(pb, .lst (tW t'))]) a4 (Xv.imp (xv_pop (k := 0) (ds := tW t') (d := tI w) rfl (by show some (pb, Cl.lst (tW (t' ++ [w]))) = _; rw [show tW (t' ++ [w]) = tW t' ++ [D.tup (w.map .int)] from List.map_append])) fun d μ' ⟨h1, h2⟩ => ⟨h1, by rw [h2]; rfl⟩) fun d μ5 σ5 H5 hd a5 => ?_
      obtain ⟨rfl, rfl⟩ := hd
      have lastE : ∀ {ρ : Ro} {μ : Mu}, ρ[4]? = some (some (tI w)) → Ed ⟨K, fun _ => True, [], locT, G, H⟩ (tOp (rIx K) (tVar 4) (tUn (rU fun i => .int (-i)) (tC (.int 1)))) ρ μ (.int (w.getLastD 0)) := fun h => ed_op (ed_var h) (ed_un ed_int ru_neg) (rd_ixT (last_at gw.ne))
      have lastB := gw.bd _ (lastD_in (x := 0) gw.ne)
      refine y_ifb (b := hitR (nearF ss cs) i j w) a5 (Eb.is (eb_and (eb_test (ed_op (Ed.is (ed_lenT (ed_var rfl)) (by rw [List.length_map])) ed_int rd_geI)) fun _ => eb_and (eb_test (ed_op (ed_var rfl) (ed_var rfl) rd_inI)) fun _ => eb_test (ed_op (ed_var rfl) (nearE rfl (lastE rfl) lastB.1 lastB.2) rd_inIL)) (by
        unfold hitR
        congr 1
        rw [Bool.eq_iff_iff, decide_eq_true_iff, decide_eq_true_iff]; omega)) (fun hc H6 a6 => ?_) fun hc H6 a6 => ?_
      · refine x_ret a6 (ed_var rfl) fun v H' d hd a' => ?_
        show Dn.rt v H'
        rw [hrt]
        exact hq ⟨ss, cs, nums, i, j, some w, rfl, hw _ (.hit hc), hd⟩ a'
      · have ext := wts_extR (near := nearF ss cs) hbd gw.ne
        have eL : (((List.range (nearF ss cs (w.getLastD 0)).length).filter fun n => !decide ((nearF ss cs (w.getLastD 0)).getD n 0 ∈ w)).map fun n => D.tup (w.map .int ++ [.int ((nearF ss cs (w.getLastD 0)).getD n 0)])) = tW (extR (nearF ss cs) w) := by
          rw [filt_getD (l := nearF ss cs (w.getLastD 0)) (c := fun p : Int => !decide (p ∈ w)) (g := fun p : Int => D.tup (w.map D.int ++ [D.int p]))]
          unfold extR tW
          rw [List.map_map]
          refine List.map_congr_left fun p _ => ?_
          show _ = D.tup (List.map D.int (w ++ [p]))
          rw [List.map_append]; rfl
        have wl := wts_len (ss.length + cs.length) t'
        have el := wts_len (ss.length + cs.length) (extR (nearF ss cs) w)
        refine x_extend (k := 0) (ds := tW t') (es := tW (extR (nearF ss cs) w)) a6 rfl rfl (Ed.is (ed_lcT (fun n => !decide ((nearF ss cs (w.getLastD 0)).getD n 0 ∈ w)) (ei_lstM D.int 0 (nearE rfl (lastE rfl) lastB.1 lastB.2)) (by decide) (by have := (hbd (w.getLastD 0)).1; omega) (fun n hn cl => eb_test (ed_op (ed_var rfl) (ed_var rfl) rd_notInI)) fun n hn _ cl => ed_op (ed_var rfl) (ed_tup (ead_cons (ed_var rfl) ea_nil) (by show 1 ≤ _; decide)) (rd_addT (by show (w.map D.int).length + 1 ≤ _; rw [List.length_map]; exact Nat.le_trans (show w.length + 1 ≤ 10 by omega) (by decide)))) (by rw [eL])) (by rw [List.length_map, List.length_map]; omega) fun H8 a8 => ?_
        refine hnx _ _ _ _ _ ?_ ⟨t' ++ extR (nearF ss cs) w, _, _, rfl, by rw [show tW (t' ++ extR (nearF ss cs) w) = tW t' ++ tW (extR (nearF ss cs) w) from List.map_append]; rfl, rfl, by rw [wts_app]; omega, fun v hv => ?_, fun r h => hw r (.go hc h)⟩ a8
        · rw [wts_app]; omega
        · rcases List.mem_append.mp hv with z | z
          · exact hg v (List.mem_append_left _ z)
          · exact gw.ext hbd z
    · have et : t = [] := by
        cases t with
        | nil => rfl
        | cons x r => cases hnil
      subst et
      exact x_ret a4 ed_non fun v H' d hd a' => hq ⟨ss, cs, nums, i, j, none, rfl, hw _ .no, hd⟩ a'
abbrev sp__law_rings (K : PySem.W.Frag) : Sp := psp K (fun ds => ∃ (ss : List (List Str)) (cs : List (List Int)) (i j : Nat), ds = [graphD ss cs, .int i, .int j] ∧ Pl3 ss cs ∧ i < ss.length + cs.length) (fun ds e => ∃ (ss : List (List Str)) (cs : List (List Int)) (i j : Nat) (f : List (List Int)), ds = [graphD ss cs, .int i, .int j] ∧ First (nearF ss cs) i j [[(i : Int)]] f.head? ∧ (∀ w ∈ f, GoodR (nearF ss cs) (ss.length + cs.length) i w ∧ hitR (nearF ss cs) i j w = true) ∧ f.length ≤ 4 ∧ e = .lst (tW f) ∧ Pl3 ss cs)
include bi in
theorem ok__law_rings (F : Fun K "_law_rings" "_law_rings" s__law_rings f fd) : FnOk P w K mg base CX0 1 f fd ["graph", "one", "other"] (sp__law_rings K) := by
  refine F.ok sc__law_rings (fun vs H Q E h => ?_) (fun cdv A outer s0 H vs Q E hr h => ?_)
  · obtain ⟨G, ds, h1, ⟨ss, cs, i, j, rfl, _⟩, _⟩ := h
    exact h1.length
  · have hu := hu_of hr
    obtain ⟨G, ds, ⟨ss, cs, i, j, rfl, hP, hi1⟩, hlen, a, hq⟩ := fsp_start locT n__law_rings h
    refine ⟨_, (pss_cons (ps_par (i := 3) (j := 4) (by rfl) sc__law_rings.nd rfl rfl (by decide) rfl rfl (pa_cons (pe_lst pa_nil) (pa_cons (pe_lst (pa_cons (pe_tup (pa_cons (pv 1) pa_nil)) pa_nil)) pa_nil)) (by rfl))
      (pss_cons (ps_while PassesOwn.never (PW.pt (pw_and (pt_cmpR (r := rNeE K) (op_neE hr.units0) (pv 4) (pe_lst pa_nil) (nomark _)) (pw_and1 (pt_cmpR u_lt (pe_callB (id := "len") (r := rLenU K) u_len (by rfl) (bi "len" (by decide +kernel)) (by decide +kernel) (pa_cons (pv 3) pa_nil)) pe_int (nomark _))))) (pss_cons (ps_asg (pe_bm0 PySem.F.plainAttrs_list PySem.F.slot_list_pop PySem.F.type_list_pop mt_pop (pv 4)) (pg_name (i := 5) sc__law_rings.nd rfl (by first | exact (.inl rfl) | exact (.inr rfl))))
      (C8.pss_cut (ps_if (PW.pt (pw_and (pt_cmpR op_gt (pe_callB (id := "len") (r := rLenU K) u_len (by rfl) (bi "len" (by decide +kernel)) (by decide +kernel) (pa_cons (pv 5) pa_nil)) pe_int (nomark _)) (pw_and (pt_cmpR (r := rIn K false) op_in_seq (pv 1) (pe_ix (r := rIx K) ix_seq (pv 0) (pe_ix (r := rIx K) ix_seq (pv 5) (pe_un u_neg pe_int) (fun _ _ => rfl)) (fun _ _ => rfl)) (by rfl)) (pw_and1 (pt_cmpR (r := rIn K false) op_in_seq (pv 2) (pv 5) (by rfl)))))) (pss_one (ps_expr (pe_bm PySem.F.plainAttrs_list PySem.F.slot_list_append PySem.F.type_list_append mt_append (pv 3) (pa_cons (pv 5) pa_nil)))) pss_nil)
      (pss_one (ps_expr (pe_bm PySem.F.plainAttrs_list PySem.F.slot_list_extend PySem.F.type_list_extend mt_extend (pv 4) (pa_cons (pe_lc (own := [("q", 6)]) (g := gName 6) rfl sc__law_rings.nd (pi_list (pe_ix (r := rIx K) ix_seq (pv 0) (pe_ix (r := rIx K) ix_seq (pv 5) (pe_un u_neg pe_int) (fun _ _ => rfl)) (fun _ _ => rfl))) (blkOk_by (N := n__law_rings) (sc := defScope s__law_rings) (by decide +kernel)) (fun _ _ _ _ _ => (pg_name (i := 6) sc__law_rings.nd rfl (by first | exact (.inl rfl) | exact (.inr rfl)))) (fun _ _ _ _ _ => (pts_one (pt_cmpR (r := rIn K true) op_notIn_seq (pv 6) (pv 5) (by rfl)))) (fun _ _ _ _ _ => (pe_op (r := rAddU K) u_add (pv 5) (pe_tup (pa_cons (pv 6) pa_nil))))) pa_nil)))))))
      (pss_one (ps_ret (pv 3))))), ?_⟩
    have hm7 := hP.m7
    have hbd := nearF_bd ss cs
    have nearE : ∀ {ρ : Ro} {μ : Mu} {te : TE} {x : Int}, ρ[0]? = some (some (graphD ss cs)) → Ed ⟨K, fun _ => True, [], locT, G, H⟩ te ρ μ (.int x) → 0 ≤ x → x < (ss.length + cs.length : Nat) → Ed ⟨K, fun _ => True, [], locT, G, H⟩ (tOp (rIx K) (tVar 0) te) ρ μ (.lst ((nearF ss cs x).map .int)) := fun {ρ μ te x} h0 hx b0 b1 => ed_op (ed_var h0) hx (rd_ixL (atI_of2 b0 (by
      rw [List.getElem?_map, List.getElem?_range (by omega)]
      show some (D.lst ((rowG ss cs x.toNat).map .int)) = _
      rw [row_near hP (by omega), show ((x.toNat : Nat) : Int) = x by omega])))
    refine y_par2 (R := fun d μ' => ∃ p, d = .raw (.ref p) ∧ μ' = (p, .lst (tW [])) :: []) (R2' := fun d1 μ1 d μ' => ∃ p, d = .raw (.ref p) ∧ μ' = (p, .lst (tW [[(i : Int)]])) :: μ1) a xl_nil (fun d1 μ1 _ => xl_lst (ds := tW [[(i : Int)]]) (ead_cons (ed_tup (ds := [.int i]) (ead_cons (ed_var rfl) ea_nil) (by show 1 ≤ _; decide)) ea_nil) (by show 1 ≤ _; decide)) fun d1 μ1 d2 μ2 σ2 H2 hd1 hd2 a2 => ?_
    obtain ⟨pf, rfl, rfl⟩ := hd1
    obtain ⟨pt, rfl, rfl⟩ := hd2
    have m8 : (ss.length + cs.length + 1) ^ (ss.length + cs.length) ≤ 2097152 := Nat.le_trans (Nat.pow_le_pow_left (show ss.length + cs.length + 1 ≤ 8 by omega) _) (Nat.le_trans (Nat.pow_le_pow_right (by decide) hm7) (by decide))
    have s24 : 2097152 < sizeLine := by decide
    refine y_while (fun n ρ μ => ∃ (t f : List (List Int)) (x5 x6 : Option D), ρ = [some (graphD ss cs), some (.int (i : Nat)), some (.int (j : Nat)), some (.raw (.ref pf)), some (.raw (.ref pt)), x5, x6] ∧ μ = [(pt, .lst (tW t)), (pf, .lst (tW f))] ∧
      n = wts (ss.length + cs.length) t ∧ wts (ss.length + cs.length) t ≤ 2097152 ∧ (∀ w ∈ t, GoodR (nearF ss cs) (ss.length + cs.length) i w) ∧ (f = [] → ∀ r, First (nearF ss cs) i j t r → First (nearF ss cs) i j [[(i : Int)]] r) ∧ (f ≠ [] → First (nearF ss cs) i j [[(i : Int)]] f.head?) ∧ (∀ w ∈ f, GoodR (nearF ss cs) (ss.length + cs.length) i w ∧ hitR (nearF ss cs) i j w = true) ∧ f.length ≤ 4) a2
      ⟨_, _, [], _, _, rfl, rfl, rfl, by rw [wts_one]; exact Nat.le_trans (wt_le _) m8, fun w hw => by rw [List.mem_singleton.mp hw]; exact GoodR.start hm7 (by omega) (by omega), fun _ r h => h, fun h => absurd rfl h, (fun w hw => by cases hw), Nat.zero_le _⟩ fun n ρ' μ' hI => ?_
    obtain ⟨t, f, x5, x6, rfl, rfl, rfl, hb, hg, hw0, hw1, hf, hl4⟩ := hI
    refine ⟨(!(tW t).isEmpty) && decide (((tW f).length : Int) < 4), eb_and (eb_neNilC (k := 0) (ds := tW t) rfl rfl) fun _ => eb_test (ed_op (ed_cb (ead_cons (ed_var rfl) ea_nil) (rc_lenC (k := 1) (ds := tW f) rfl)) ed_int rd_ltI), fun hne σ4 H4 Dn a4 hnx hct hbk hrt => ?_, fun hnil σ4 H4 a4 => ?_⟩
    · rw [Bool.and_eq_true] at hne
      have hf3 : f.length < 4 := by have := of_decide_eq_true hne.2; rw [List.length_map] at this; omega
      obtain ⟨t', w, rfl⟩ : ∃ t' w, t = t' ++ [w] := by
        rcases List.eq_nil_or_concat t with e | ⟨t', w, e⟩
        · rw [e] at hne; cases hne.1
        · exact ⟨t', w, by rw [e, List.concat_eq_append]⟩
      have gw := hg w (List.mem_append_right _ (List.mem_singleton.mpr rfl))
      rw [wts_app, wts_one] at hb hnx
      have wp := wt_pos (ss.length + cs.length) w
      have wl8 : w.length ≤ 8 := by have := gw.sz; omega
      refine y_asg (R := fun d μ' => d = tI w ∧ μ' = [(pt, .lst (tW t')), (pf, .lst (tW f))]) a4 (Xv.imp (xv_pop (k := 0) (ds := tW t') (d := tI w) rfl (by show some (pt, Cl.lst (tW (t' ++ [w]))) = _; rw [show tW (t' ++ [w]) = tW t' ++ [D.tup (w.map .int)] from List.map_append])) fun d μ' ⟨h1, h2⟩ => ⟨h1, by rw [h2]; rfl⟩) fun d μ5 σ5 H5 hd a5 => ?_
      obtain ⟨rfl, rfl⟩ := hd
      have lastE : ∀ {ρ : Ro} {μ : Mu}, ρ[5]? = some (some (tI w)) → Ed ⟨K, fun _ => True, [], locT, G, H⟩ (tOp (rIx K) (tVar 5) (tUn (rU fun i => .int (-i)) (tC (.int 1)))) ρ μ (.int (w.getLastD 0)) := fun h => ed_op (ed_var h) (ed_un ed_int ru_neg) (rd_ixT (last_at gw.ne))
      have lastB := gw.bd _ (lastD_in (x := 0) gw.ne)
      refine y_cut (M := fun σ' H' => ∃ f', (hitR (nearF ss cs) i j w = true ∧ f' = f ++ [w] ∨ hitR (nearF ss cs) i j w = false ∧ f' = f) ∧ At ⟨K, fun _ => True, [], locT, G, H⟩ [some (graphD ss cs), some (.int (i : Nat)), some (.int (j : Nat)), some (.raw (.ref pf)), some (.raw (.ref pt)), some (tI w), x6] [(pt, .lst (tW t')), (pf, .lst (tW f'))] [] σ' H') (x_ifb (b := hitR (nearF ss cs) i j w) a5 (Eb.is (b := decide ((2 : Int) < ((w.length : Nat) : Int)) && (decide ((i : Int) ∈ nearF ss cs (w.getLastD 0)) && decide ((j : Int) ∈ w))) (eb_and (eb_test (ed_op (Ed.is (ed_lenT (ed_var rfl)) (by rw [List.length_map])) ed_int rd_gt)) fun _ => eb_and (eb_test (ed_op (ed_var rfl) (nearE rfl (lastE rfl) lastB.1 lastB.2) rd_inIL)) fun _ => eb_test (ed_op (ed_var rfl) (ed_var rfl) rd_inI)) (by
        unfold hitR
        rw [Bool.and_comm (decide ((i : Int) ∈ _))]
        congr 1
        rw [Bool.eq_iff_iff, decide_eq_true_iff, decide_eq_true_iff]; omega)) (fun hc H6 a6 => ?_) fun hc H6 a6 => x_next ⟨f, .inr ⟨hc, rfl⟩, a6⟩) fun σ6 H6 ⟨f', hf', a6⟩ => ?_
      · refine x_appendC (k := 1) a6 rfl rfl (ed_var rfl) (by rw [List.length_map]; omega) fun H7 a7 => ⟨f ++ [w], .inl ⟨hc, rfl⟩, ?_⟩
        rw [show tW (f ++ [w]) = tW f ++ [D.tup (w.map .int)] from List.map_append]; exact a7
      · have ext := wts_extR (near := nearF ss cs) hbd gw.ne
        have eL : (((List.range (nearF ss cs (w.getLastD 0)).length).filter fun n => !decide ((nearF ss cs (w.getLastD 0)).getD n 0 ∈ w)).map fun n => D.tup (w.map .int ++ [.int ((nearF ss cs (w.getLastD 0)).getD n 0)])) = tW (extR (nearF ss cs) w) := by
          rw [filt_getD (l := nearF ss cs (w.getLastD 0)) (c := fun p : Int => !decide (p ∈ w)) (g := fun p : Int => D.tup (w.map D.int ++ [D.int p]))]
          unfold extR tW
          rw [List.map_map]
          refine List.map_congr_left fun p _ => ?_
          show _ = D.tup (List.map D.int (w ++ [p]))
          rw [List.map_append]; rfl
        have wl := wts_len (ss.length + cs.length) t'
        have el := wts_len (ss.length + cs.length) (extR (nearF ss cs) w)
        refine x_extend (k := 0) (ds := tW t') (es := tW (extR (nearF ss cs) w)) a6 rfl rfl (Ed.is (ed_lcT (fun n => !decide ((nearF ss cs (w.getLastD 0)).getD n 0 ∈ w)) (ei_lstM D.int 0 (nearE rfl (lastE rfl) lastB.1 lastB.2)) (by decide) (by have := (hbd (w.getLastD 0)).1; omega) (fun n hn cl => eb_test (ed_op (ed_var rfl) (ed_var rfl) rd_notInI)) fun n hn _ cl => ed_op (ed_var rfl) (ed_tup (ead_cons (ed_var rfl) ea_nil) (by show 1 ≤ _; decide)) (rd_addT (by show (w.map D.int).length + 1 ≤ _; rw [List.length_map]; exact Nat.le_trans (show w.length + 1 ≤ 10 by omega) (by decide)))) (by rw [eL])) (by rw [List.length_map, List.length_map]; omega) fun H8 a8 => ?_
        refine hnx _ _ _ _ _ ?_ ⟨t' ++ extR (nearF ss cs) w, f', _, _, rfl, by rw [show tW (t' ++ extR (nearF ss cs) w) = tW t' ++ tW (extR (nearF ss cs) w) from List.map_append]; rfl, rfl, by rw [wts_app]; omega, fun v hv => ?_, fun e r h => ?_, fun e => ?_, fun v hv => ?_, ?_⟩ a8
        · rw [wts_app]; omega
        · rcases List.mem_append.mp hv with z | z
          · exact hg v (List.mem_append_left _ z)
          · exact gw.ext hbd z
        · rcases hf' with ⟨hc, e2⟩ | ⟨hc, e2⟩
          · rw [e2] at e; simp at e
          · exact hw0 (by rw [← e2]; exact e) r (.go hc h)
        · rcases hf' with ⟨hc, rfl⟩ | ⟨hc, rfl⟩
          · cases f with
            | nil => exact hw0 rfl _ (.hit hc)
            | cons x r => exact hw1 (by simp)
          · exact hw1 e
        · rcases hf' with ⟨hc, rfl⟩ | ⟨hc, rfl⟩
          · rcases List.mem_append.mp hv with z | z
            · exact hf v z
            · rw [List.mem_singleton.mp z]; exact ⟨gw, hc⟩
          · exact hf v hv
        · rcases hf' with ⟨hc, rfl⟩ | ⟨hc, rfl⟩
          · rw [List.length_append, List.length_singleton]; omega
          · exact hl4
    · have a5 := At.reslot (k := 3) (At.freeze (At.perm a4 (List.Perm.swap _ _ _))) rfl
      refine x_ret a5 (ed_var rfl) fun v H' d hd a' => hq ⟨ss, cs, i, j, f, rfl, ?_, hf, hl4, hd, hP⟩ a'
      by_cases e : f = []
      · subst e
        have et : t = [] := by
          cases t with
          | nil => rfl
          | cons x r => simp at hnil
        subst et
        exact hw0 rfl _ .no
      · exact hw1 e
end
end Cal


namespace Cal
open PySem PySem.Spec PyProof.Rows L2
abbrev s__law_is_ring : Stmt := topS 55
abbrev n__law_is_ring : List Str := ["graph", "one", "other", "thing", "x", "at"]
theorem sc__law_is_ring : FnScope n__law_is_ring ["graph", "one", "other", "thing"] (defScope s__law_is_ring) := ⟨rfl, rfl, rfl, by decide +kernel, rfl, by decide +kernel, by decide +kernel⟩
theorem ints_of : ∀ {es : List D}, areInts (.tup es) = true → ∃ v : List Int, es = v.map .int := fun {es} h => by
  have h2 : ∀ d ∈ es, isInt d = true := fun d hd => by
    obtain ⟨i, hi, rfl⟩ := List.getElem_of_mem hd
    have := List.all_eq_true.mp h i (List.mem_range.mpr hi)
    rwa [List.getD_eq_getElem?_getD, List.getElem?_eq_getElem hi] at this
  clear h
  induction es with
  | nil => exact ⟨[], rfl⟩
  | cons d r ih =>
    obtain ⟨v, e⟩ := ih fun d hd => h2 d (List.mem_cons_of_mem _ hd)
    have hd := h2 d (List.mem_cons_self ..)
    cases d with
    | int i => exact ⟨i :: v, by rw [e]; rfl⟩
    | _ => cases hd
/-- the item before, the last one before the first -/
def prevI (v : List Int) (k : Nat) : Int := if k = 0 then v.getD (v.length - 1) 0 else v.getD (k - 1) 0
theorem prev_at {v : List Int} {k : Nat} (h : k < v.length) : atI (v.map D.int) ((k : Int) - 1) = some (.int (prevI v k)) := by
  unfold atI ixN prevI
  rw [List.length_map]
  by_cases e : k = 0
  · subst e
    rw [if_neg (by omega), if_pos (by omega), if_pos rfl, show (((0 : Nat) : Int) - 1 + ((v.length : Nat) : Int)).toNat = v.length - 1 by omega]
    show (v.map D.int)[v.length - 1]? = _
    rw [List.getElem?_map, getD_atS (z := 0) (by omega)]; rfl
  · rw [if_pos (by omega), if_pos (by omega), if_neg e, show ((k : Int) - 1).toNat = k - 1 by omega]
    show (v.map D.int)[k - 1]? = _
    rw [List.getElem?_map, getD_atS (z := 0) (by omega)]; rfl
def ringI (ss : List (List Str)) (cs : List (List Int)) (one other : Nat) (v : List Int) : Bool :=
  !(decide ((v.length : Int) < 3) || (!decide (((uniq v).length : Int) = (v.length : Int)) || !(List.range v.length).all fun k => !!(decide (0 ≤ v.getD k 0) && decide (v.getD k 0 < ((ss.length + cs.length : Nat) : Int))))) &&
    (!(!decide (v.getD 0 0 = (one : Int)) || !decide ((other : Int) ∈ v)) && (List.range v.length).all fun k => !!decide (v.getD k 0 ∈ rowG ss cs (prevI v k).toNat))
def intsD : List D → List Int
  | [] => [] | .int i :: r => i :: intsD r | _ :: r => intsD r
theorem intsD_map (v : List Int) : intsD (v.map .int) = v := by
  induction v with
  | nil => rfl
  | cons i r ih => show i :: intsD (r.map .int) = _; rw [ih]
def ringB (ss : List (List Str)) (cs : List (List Int)) (one other : Nat) : D → Bool
  | .tup es => areInts (.tup es) && ringI ss cs one other (intsD es)
  | _ => false
theorem prev_mem {v : List Int} {k : Nat} (h : k < v.length) : ∃ j, j < v.length ∧ prevI v k = v.getD j 0 := by
  unfold prevI
  by_cases e : k = 0
  · rw [if_pos e]; exact ⟨v.length - 1, by omega, rfl⟩
  · rw [if_neg e]; exact ⟨k - 1, by omega, rfl⟩
theorem ringB_graph {ss ss' : List (List Str)} {cs cs' : List (List Int)} {i j : Nat} {d : D} (h : graphD ss cs = graphD ss' cs') : ringB ss cs i j d = ringB ss' cs' i j d := by
  have h1 := D.lst.inj h
  have hl : ss.length + cs.length = ss'.length + cs'.length := by have := congrArg List.length h1; rwa [List.length_map, List.length_map, List.length_range, List.length_range] at this
  have hrow : ∀ p, p < ss.length + cs.length → rowG ss cs p = rowG ss' cs' p := fun p hp => by
    have h2 := congrArg (fun l => l[p]?) h1
    simp only [List.getElem?_map] at h2
    rw [List.getElem?_range hp, List.getElem?_range (by omega)] at h2
    have h3 := D.lst.inj (Option.some.inj h2)
    exact (List.map_inj_right fun a b e => D.int.inj e).mp h3
  have hI : ∀ v : List Int, ringI ss cs i j v = ringI ss' cs' i j v := fun v => by
    unfold ringI
    rw [hl]
    cases hb : (decide ((v.length : Int) < 3) || (!decide (((uniq v).length : Int) = (v.length : Int)) || !(List.range v.length).all fun k => !!(decide (0 ≤ v.getD k 0) && decide (v.getD k 0 < ((ss'.length + cs'.length : Nat) : Int))))) with
    | true => rfl
    | false =>
      congr 2
      rw [Bool.or_eq_false_iff, Bool.or_eq_false_iff] at hb
      have h4 := hb.2.2
      rw [Bool.not_eq_false'] at h4
      rw [Bool.eq_iff_iff, List.all_eq_true, List.all_eq_true]
      refine forall_congr' fun k => forall_congr' fun hk => ?_
      obtain ⟨q, hq, e⟩ := prev_mem (List.mem_range.mp hk)
      have := List.all_eq_true.mp h4 q (List.mem_range.mpr hq)
      rw [Bool.not_not, Bool.and_eq_true, ← e] at this
      have b0 := of_decide_eq_true this.1
      have b1 := of_decide_eq_true this.2
      rw [hrow _ (by omega)]
  cases d with
  | tup es => show (areInts (.tup es) && ringI ss cs i j (intsD es)) = (areInts (.tup es) && ringI ss' cs' i j (intsD es)); rw [hI]
  | _ => rfl
section
variable {P : Program} {w : World} {K : PySem.W.Frag} {mg : Str → Option Value} {base : Heap} {f : Addr} {fd : FuncData}
abbrev BNm3 : List Str := ["len", "range", "set"]
variable (bi : ∀ x, x ∈ BNm3 → mg x = none)
abbrev sp__law_is_ring (K : PySem.W.Frag) : Sp := psp K (fun ds => ∃ ss cs, ∃ (one other : Nat) (d : D), ds = [graphD ss cs, .int one, .int other, d] ∧ Pl3 ss cs ∧ Sm d ∧ ∀ v : List Int, d = tI v → v.length ≤ 1000) (fun ds e => ∃ ss cs, ∃ (one other : Nat) (d : D), ds = [graphD ss cs, .int one, .int other, d] ∧ e = .bl (ringB ss cs one other d))
include bi in
theorem ok__law_is_ring (F : Fun K "_law_is_ring" "_law_is_ring" s__law_is_ring f fd) (c__law_are_integers : C8.Cal P w K mg base 2 "_law_are_integers" (sp__law_are_integers K) []) : FnOk P w K mg base CX0 3 f fd ["graph", "one", "other", "thing"] (sp__law_is_ring K) := by
  refine F.ok sc__law_is_ring (fun vs H Q E h => ?_) (fun cdv A outer s0 H vs Q E hr h => ?_)
  · obtain ⟨G, ds, h1, ⟨ss, cs, one, other, d, rfl, _⟩, _⟩ := h
    exact h1.length
  · have hu := hu_of hr
    obtain ⟨G, ds, ⟨ss, cs, one, other, d, rfl, hP, hsm, hlen2⟩, hlen, a, hq⟩ := fsp_start locT n__law_is_ring h
    have m7 := hP.m7
    refine ⟨_, (pss_cons (ps_if (PW.pt (pw_or (pt_not (pt_val (C8.pe_c c__law_are_integers hr (by first | decide | omega) (by rfl) (pa_cons (pv 3) pa_nil)))) (pw_or (pt_cmpR u_lt (pe_callB (id := "len") (r := rLenU K) u_len (by rfl) (bi "len" (by decide +kernel)) (by decide +kernel) (pa_cons (pv 3) pa_nil)) pe_int (nomark _)) (pw_or (pt_cmpR (r := rNeD K) (u_ne hr.units) (pe_lenSetT (by rfl) (by rfl) (bi "len" (by decide +kernel)) (by rfl) (bi "set" (by decide +kernel)) (pv 3)) (pe_callB (id := "len") (r := rLenU K) u_len (by rfl) (bi "len" (by decide +kernel)) (by decide +kernel) (pa_cons (pv 3) pa_nil)) (nomark _)) (pw_or1 (pt_cmpR (r := rNeE K) (op_neE hr.units0) (pe_lc (own := [("x", 4)]) (g := gName 4) rfl sc__law_is_ring.nd (pi_tup (pv 3)) (blkOk_by (N := n__law_is_ring) (sc := defScope s__law_is_ring) (by decide +kernel)) (fun _ _ _ _ _ => (pg_name (i := 4) sc__law_is_ring.nd rfl (by first | exact (.inl rfl) | exact (.inr rfl)))) (fun _ _ _ _ _ => (pts_one (pt_not (pt_chain u_le u_lt pe_int (pv 4) (pe_callB (id := "len") (r := rLenU K) u_len (by rfl) (bi "len" (by decide +kernel)) (by decide +kernel) (pa_cons (pv 0) pa_nil)))))) (fun _ _ _ _ _ => (pv 4))) (pe_lst pa_nil) (nomark _))))))) (pss_one (ps_ret pe_bl)) pss_nil)
      (pss_cons (ps_if (PW.pt (pw_or (pt_cmpR (r := rNeD K) (u_ne hr.units) (pe_ix (r := rIx K) ix_seq (pv 3) pe_int (fun _ _ => rfl)) (pv 1) (nomark _)) (pw_or1 (pt_cmpR (r := rIn K true) op_notIn_seq (pv 2) (pv 3) (by rfl))))) (pss_one (ps_ret pe_bl)) pss_nil)
      (pss_one (ps_ret (pe_cmpR (r := rEqE K) (op_eqE hr.units0) (pe_lc (own := [("at", 5)]) (g := gName 5) rfl sc__law_is_ring.nd (pi_range1 (by rfl) (bi "range" (by decide +kernel)) (pa_cons (pe_callB (id := "len") (r := rLenU K) u_len (by rfl) (bi "len" (by decide +kernel)) (by decide +kernel) (pa_cons (pv 3) pa_nil)) pa_nil)) (blkOk_by (N := n__law_is_ring) (sc := defScope s__law_is_ring) (by decide +kernel)) (fun _ _ _ _ _ => (pg_name (i := 5) sc__law_is_ring.nd rfl (by first | exact (.inl rfl) | exact (.inr rfl)))) (fun _ _ _ _ _ => (pts_one (pt_cmpR (r := rIn K true) op_notIn_seq (pe_ix (r := rIx K) ix_seq (pv 3) (pv 5) (fun _ _ => rfl)) (pe_ix (r := rIx K) ix_seq (pv 0) (pe_ix (r := rIx K) ix_seq (pv 3) (pe_op op_sub (pv 5) pe_int) (fun _ _ => rfl)) (fun _ _ => rfl)) (by rfl)))) (fun _ _ _ _ _ => (pv 5))) (pe_lst pa_nil) (nomark _)))))), ?_⟩
    have areI : ∀ {ρ : Ro} {μ : Mu}, ρ[3]? = some (some d) → Ed ⟨K, fun _ => True, [], locT, G, H⟩ (tCall (sp__law_are_integers K) [] C8.E0 (tCons (tVar 3) tNil)) ρ μ (.bl (areInts d)) := fun h => ed_p (ead_cons (ed_var h) ea_nil) ⟨_, rfl, hsm⟩ (by
      rintro e ⟨d', e1, rfl⟩
      injection e1 with e1 _
      rw [e1])
    cases hI : areInts d with
    | false =>
      refine y_ifb (b := !areInts d || true) a (eb_or (eb_not (eb_B (areI rfl))) fun z => by rw [hI] at z; cases z) (fun _ H1 a1 => ?_) fun z => by rw [Bool.or_true] at z; cases z
      refine x_ret a1 ed_bl fun v H' d' hd a' => hq ⟨ss, cs, one, other, d, rfl, ?_⟩ a'
      rw [hd]
      cases d with
      | tup es => show _ = D.bl (areInts (.tup es) && _); rw [hI]; rfl
      | _ => rfl
    | true =>
      obtain ⟨es, rfl⟩ : ∃ es, d = .tup es := by cases d <;> first | exact ⟨_, rfl⟩ | cases hI
      obtain ⟨v, rfl⟩ := ints_of hI
      have vl : v.length ≤ 1000 := hlen2 v rfl
      have gl : ((List.range (ss.length + cs.length)).map fun p => D.lst ((rowG ss cs p).map .int)).length = ss.length + cs.length := by rw [List.length_map, List.length_range]
      have lv : ∀ {ρ : Ro} {μ : Mu}, ρ[3]? = some (some (tI v)) → Ed ⟨K, fun _ => True, [], locT, G, H⟩ (tCB (rLenU K) (tCons (tVar 3) tNil)) ρ μ (.int (v.length : Nat)) := fun h => Ed.is (ed_lenT (ed_var h)) (by rw [List.length_map])
      have lg : ∀ {ρ : Ro} {μ : Mu}, ρ[0]? = some (some (graphD ss cs)) → Ed ⟨K, fun _ => True, [], locT, G, H⟩ (tCB (rLenU K) (tCons (tVar 0) tNil)) ρ μ (.int ((ss.length + cs.length : Nat) : Int)) := fun h => Ed.is (ed_lenL (ed_var h)) (by rw [gl])
      refine y_ifb (b := !areInts (tI v) || (decide ((v.length : Int) < 3) || (!decide (((uniq v).length : Int) = (v.length : Int)) || !(List.range v.length).all fun k => !!(decide (0 ≤ v.getD k 0) && decide (v.getD k 0 < ((ss.length + cs.length : Nat) : Int)))))) a (eb_or (eb_not (eb_B (areI rfl))) fun _ => eb_or (eb_test (ed_op (lv rfl) ed_int rd_ltI)) fun _ => eb_or (eb_test (ed_op (ed_lenSetT (ed_var rfl) vl) (lv rfl) rd_neI)) fun _ => eb_test (Ed.is (ed_op (ed_lcT (n := v.length) (h := fun k => .int (v.getD k 0)) (fun k => !(decide (0 ≤ v.getD k 0) && decide (v.getD k 0 < ((ss.length + cs.length : Nat) : Int)))) (ei_tupG .int 0 (l := v) (ed_var rfl)) (by decide) (by omega) (fun k hk cl => eb_not (eb_test (ed_leltI ed_int (ed_var rfl) (lg rfl)))) fun k hk _ cl => ed_var rfl) (ed_lst ea_nil (by decide)) rd_neE) (congrArg (fun z => D.bl (!z)) none_left))) (fun hb H1 a1 => ?_) fun hb H1 a1 => ?_
      · refine x_ret a1 ed_bl fun v' H' d' hd a' => hq ⟨ss, cs, one, other, tI v, rfl, ?_⟩ a'
        rw [hd]
        have hI' : areInts (tI v) = true := hI
        rw [hI', Bool.not_true, Bool.false_or] at hb
        show _ = D.bl (areInts (tI v) && ringI ss cs one other (intsD (v.map .int)))
        rw [intsD_map]
        unfold ringI
        rw [hb, Bool.not_true, Bool.false_and, Bool.and_false]
      · have hI' : areInts (tI v) = true := hI
        rw [hI', Bool.not_true, Bool.false_or] at hb
        have hb2 := hb
        rw [Bool.or_eq_false_iff, Bool.or_eq_false_iff] at hb2
        have l3 := of_decide_eq_false hb2.1
        have inr : ∀ k, k < v.length → 0 ≤ v.getD k 0 ∧ v.getD k 0 < ((ss.length + cs.length : Nat) : Int) := fun k hk => by
          have h := hb2.2.2
          rw [Bool.not_eq_false'] at h
          have := List.all_eq_true.mp h k (List.mem_range.mpr hk)
          rw [Bool.not_not, Bool.and_eq_true] at this
          exact ⟨of_decide_eq_true this.1, of_decide_eq_true this.2⟩
        have tail : ∀ x : Bool, ringB ss cs one other (tI v) = x ↔ (!(!decide (v.getD 0 0 = (one : Int)) || !decide ((other : Int) ∈ v)) && (List.range v.length).all fun k => !!decide (v.getD k 0 ∈ rowG ss cs (prevI v k).toNat)) = x := fun x => by
          show (areInts (tI v) && ringI ss cs one other (intsD (v.map .int))) = x ↔ _
          rw [intsD_map, hI', Bool.true_and]
          unfold ringI
          rw [hb, Bool.not_false, Bool.true_and]
        refine y_ifb (b := !decide (v.getD 0 0 = (one : Int)) || !decide ((other : Int) ∈ v)) a1 (eb_or (eb_test (ed_op (ed_op (d1 := tI v) (d2 := .int 0) (ed_var rfl) ed_int (rd_ixT (atI_map D.int 0 (p := 0) rfl (by omega)))) (ed_var rfl) rd_neI)) fun _ => eb_test (ed_op (ed_var rfl) (ed_var rfl) rd_notInI)) (fun hc H2 a2 => ?_) fun hc H2 a2 => ?_
        · refine x_ret a2 ed_bl fun v' H' d' hd a' => hq ⟨ss, cs, one, other, tI v, rfl, ?_⟩ a'
          rw [hd, (tail false).mpr (by rw [hc]; rfl)]
        · refine x_ret a2 (Ed.is (ed_op (ed_lcT (n := v.length) (h := fun k : Nat => D.int (k : Int)) (fun k => !decide (v.getD k 0 ∈ rowG ss cs (prevI v k).toNat)) (ei_rng1 (i := ((v.length : Nat) : Int)) (ead_cons (lv rfl) ea_nil) ⟨by omega, by omega⟩) (by decide) (by omega) (fun k hk cl => ?_) fun k hk _ cl => ed_var rfl) (ed_lst ea_nil (by decide)) rd_eqE) (congrArg D.bl none_left)) fun v' H' d' hd a' => hq ⟨ss, cs, one, other, tI v, rfl, ?_⟩ a'
          · obtain ⟨j, hj, ej⟩ := prev_mem hk
            have hr := inr j hj
            rw [← ej] at hr
            have hrow : atI ((List.range (ss.length + cs.length)).map fun p => D.lst ((rowG ss cs p).map .int)) (prevI v k) = some (.lst ((rowG ss cs (prevI v k).toNat).map .int)) := atI_of2 hr.1 (by
              have h1 := hr.1
              have h2 := hr.2
              have h3 : (prevI v k).toNat < ss.length + cs.length := by omega
              rw [List.getElem?_map, List.getElem?_range h3]; rfl)
            exact eb_test (ed_op (ed_op (d1 := tI v) (d2 := .int (k : Nat)) (ed_var rfl) (ed_var rfl) (rd_ixT (atI_map D.int 0 rfl hk))) (ed_op (ed_var rfl) (ed_op (d1 := tI v) (d2 := .int ((k : Int) - 1)) (ed_var rfl) (ed_op (ed_var rfl) ed_int rd_sub) (rd_ixT (prev_at hk))) (rd_ixL hrow)) rd_notInL)
          · rw [hd, (tail _).mpr rfl, hc]; rfl
end
end Cal


namespace Cal
open PySem PySem.Spec PyProof.Rows L2
abbrev s_check_pair : Stmt := topS 40
abbrev n_check_pair : List Str := ["placement", "one", "other"]
theorem sc_check_pair : FnScope n_check_pair ["placement", "one", "other"] (defScope s_check_pair) := ⟨rfl, rfl, rfl, by decide +kernel, rfl, by decide +kernel, by decide +kernel⟩
abbrev s_has_steps : Stmt := topS 36
abbrev n_has_steps : List Str := ["net", "way", "one", "other"]
theorem sc_has_steps : FnScope n_has_steps ["net", "way"] (defScope s_has_steps) := ⟨rfl, rfl, rfl, by decide +kernel, rfl, by decide +kernel, by decide +kernel⟩
abbrev s_ring_of : Stmt := topS 38
abbrev n_ring_of : List Str := ["placement", "one", "other"]
theorem sc_ring_of : FnScope n_ring_of ["placement", "one", "other"] (defScope s_ring_of) := ⟨rfl, rfl, rfl, by decide +kernel, rfl, by decide +kernel, by decide +kernel⟩
abbrev s_ring_holds : Stmt := topS 39
abbrev n_ring_holds : List Str := ["placement", "one", "other", "thing"]
theorem sc_ring_holds : FnScope n_ring_holds ["placement", "one", "other", "thing"] (defScope s_ring_holds) := ⟨rfl, rfl, rfl, by decide +kernel, rfl, by decide +kernel, by decide +kernel⟩
def stepsN (near : Int → List Int) (way : List Int) : Bool := (List.range (way.length - 1)).all fun i => decide (way.getD (i + 1) 0 ∈ near (way.getD i 0))
theorem below_ints {m : Nat} {d : D} (h : areBelow (m : Int) d = true) : ∃ v : List Int, d = tI v ∧ ∀ p ∈ v, 0 ≤ p ∧ p < (m : Int) := by
  cases d with
  | tup es =>
    have h2 : ∀ d ∈ es, isBelow (m : Int) d = true := fun d hd => by
      obtain ⟨i, hi, rfl⟩ := List.getElem_of_mem hd
      have := List.all_eq_true.mp h i (List.mem_range.mpr hi)
      rwa [List.getD_eq_getElem?_getD, List.getElem?_eq_getElem hi] at this
    clear h
    induction es with
    | nil => exact ⟨[], rfl, fun p hp => by cases hp⟩
    | cons d r ih =>
      obtain ⟨v, e, hb⟩ := ih fun d hd => h2 d (List.mem_cons_of_mem _ hd)
      have hd := h2 d (List.mem_cons_self ..)
      cases d with
      | int i =>
        have hd' : (decide (0 ≤ i) && decide (i < (m : Int))) = true := hd
        rw [Bool.and_eq_true] at hd'
        refine ⟨i :: v, by injection e with e; rw [e]; rfl, fun p hp => ?_⟩
        rcases List.mem_cons.mp hp with z | z
        · rw [z]; exact ⟨of_decide_eq_true hd'.1, of_decide_eq_true hd'.2⟩
        · exact hb p z
      | _ => cases hd
  | _ => cases h
theorem below_of {m : Nat} {v : List Int} (h : ∀ p ∈ v, 0 ≤ p ∧ p < (m : Int)) : areBelow (m : Int) (tI v) = true := by
  show ((List.range (v.map D.int).length).all fun i => isBelow (m : Int) ((v.map D.int).getD i .non)) = true
  refine List.all_eq_true.mpr fun i hi => ?_
  have hi' : i < v.length := by have := List.mem_range.mp hi; rwa [List.length_map] at this
  rw [getD_map' D.int 0 v hi']
  have := h _ (getD_in (z := (0 : Int)) hi')
  show (decide (0 ≤ v.getD i 0) && decide (v.getD i 0 < (m : Int))) = true
  rw [decide_eq_true this.1, decide_eq_true this.2]; rfl
theorem nb_ring {ss : List (List Str)} {cs : List (List Int)} {one other : Nat} {d : D} (h : areBelow ((ss.length + cs.length : Nat) : Int) d = false) : ringB ss cs one other d = false := by
  cases hr : ringB ss cs one other d with
  | false => rfl
  | true =>
    cases d with
    | tup es =>
      have hr2 : (areInts (.tup es) && ringI ss cs one other (intsD es)) = true := hr
      rw [Bool.and_eq_true] at hr2
      obtain ⟨v, rfl⟩ := ints_of hr2.1
      have h3 := hr2.2
      rw [intsD_map] at h3
      unfold ringI at h3
      rw [Bool.and_eq_true, Bool.not_eq_true', Bool.or_eq_false_iff, Bool.or_eq_false_iff] at h3
      have h4 := h3.1.2.2
      rw [Bool.not_eq_false'] at h4
      rw [below_of (v := v) (m := ss.length + cs.length) fun p hp => by
        obtain ⟨i, hi, rfl⟩ := List.getElem_of_mem hp
        have := List.all_eq_true.mp h4 i (List.mem_range.mpr hi)
        rw [Bool.not_not, Bool.and_eq_true, List.getD_eq_getElem?_getD, List.getElem?_eq_getElem hi] at this
        exact ⟨of_decide_eq_true this.1, of_decide_eq_true this.2⟩] at h
      cases h
    | _ => cases hr
theorem row_nearI {ss : List (List Str)} {cs : List (List Int)} (hP : Pl3 ss cs) {x : Int} (h0 : 0 ≤ x) (h1 : x < ((ss.length + cs.length : Nat) : Int)) : rowG ss cs x.toNat = nearF ss cs x := by
  rw [row_near hP (by omega), show ((x.toNat : Nat) : Int) = x by omega]
theorem ring_steps {ss : List (List Str)} {cs : List (List Int)} (hP : Pl3 ss cs) {v : List Int} (hl : 1 ≤ v.length) (hb : ∀ p ∈ v, 0 ≤ p ∧ p < ((ss.length + cs.length : Nat) : Int)) :
    stepsN (nearF ss cs) (v ++ v.take 1) = (List.range v.length).all fun k => !!decide (v.getD k 0 ∈ rowG ss cs (prevI v k).toNat) := by
  have l1 : (v ++ v.take 1).length - 1 = v.length := by rw [List.length_append, List.length_take]; omega
  have inn : ∀ k, k < v.length → (v ++ v.take 1).getD k 0 = v.getD k 0 := fun k hk => by rw [List.getD_eq_getElem?_getD, List.getElem?_append_left hk, ← List.getD_eq_getElem?_getD]
  have out : (v ++ v.take 1).getD v.length 0 = v.getD 0 0 := by
    rw [List.getD_eq_getElem?_getD, List.getElem?_append_right (Nat.le_refl _), Nat.sub_self, List.getElem?_take_of_lt (by decide), ← List.getD_eq_getElem?_getD]
  have rw1 : ∀ k, k < v.length → rowG ss cs (prevI v k).toNat = nearF ss cs (prevI v k) := fun k hk => by
    obtain ⟨j, hj, e⟩ := prev_mem hk
    have := hb _ (getD_in (z := (0 : Int)) hj)
    rw [← e] at this
    exact row_nearI hP this.1 this.2
  unfold stepsN
  rw [l1, Bool.eq_iff_iff, List.all_eq_true, List.all_eq_true]
  constructor
  · intro h k hk
    have hk' := List.mem_range.mp hk
    rw [Bool.not_not, rw1 k hk']
    unfold prevI
    by_cases e : k = 0
    · subst e
      have := h (v.length - 1) (List.mem_range.mpr (by omega))
      rw [show v.length - 1 + 1 = v.length by omega, out, inn _ (by omega)] at this
      rw [if_pos rfl]; exact this
    · have := h (k - 1) (List.mem_range.mpr (by omega))
      rw [show k - 1 + 1 = k by omega, inn _ hk', inn _ (by omega)] at this
      rw [if_neg e]; exact this
  · intro h i hi
    have hi' := List.mem_range.mp hi
    by_cases e : i + 1 = v.length
    · have := h 0 (List.mem_range.mpr (by omega))
      rw [Bool.not_not, rw1 0 (by omega)] at this
      unfold prevI at this
      rw [if_pos rfl] at this
      rw [e, out, inn _ hi', show i = v.length - 1 by omega]; exact this
    · have := h (i + 1) (List.mem_range.mpr (by omega))
      rw [Bool.not_not, rw1 (i + 1) (by omega)] at this
      unfold prevI at this
      rw [if_neg (by omega), show i + 1 - 1 = i by omega] at this
      rw [inn (i + 1) (by omega), inn i hi']; exact this
section
variable {P : Program} {w : World} {K : PySem.W.Frag} {mg : Str → Option Value} {base : Heap} {f : Addr} {fd : FuncData}
abbrev BNP : List Str := ["all", "len", "set", "zip"]
variable (bi : ∀ x, x ∈ BNP → mg x = none)
variable (g_FEWEST_IN_RING : ∃ u, mg "FEWEST_IN_RING" = some u ∧ RelV (.int 3) u)
abbrev sp_check_pair (K : PySem.W.Frag) : Sp := psp K (fun ds => ∃ ss cs a b, ds = [plD ss cs, .int a, .int b] ∧ PlOk ss cs ∧ (0 ≤ a ∧ a < ss.length + cs.length) ∧ (0 ≤ b ∧ b < ss.length + cs.length) ∧ a ≠ b) (fun ds e => e = .non)
include bi in
theorem ok_check_pair (F : Fun K "check_pair" "check_pair" s_check_pair f fd) (c_check_placement : C8.Cal P w K mg base 7 "check_placement" (sp_check_placement K) []) (c_check_place : C8.Cal P w K mg base 4 "check_place" (sp_check_place K) []) : FnOk P w K mg base CX0 8 f fd ["placement", "one", "other"] (sp_check_pair K) := by
  refine F.ok sc_check_pair (fun vs H Q E h => ?_) (fun cdv A outer s H vs Q E hr h => ?_)
  · obtain ⟨G, ds, h1, ⟨ss, cs, x, y, rfl, _⟩, _⟩ := h
    exact h1.length
  · have hu := hu_of hr
    obtain ⟨G, ds, ⟨ss, cs, x, y, rfl, hp, ⟨hx0, hx1⟩, ⟨hy0, hy1⟩, hne⟩, hlen, a, hq⟩ := fsp_start locT n_check_pair h
    have hl := pl_len hp
    refine ⟨_, (pss_cons (ps_expr (C8.pe_c c_check_placement hr (by first | decide | omega) (by rfl) (pa_cons (pv 0) pa_nil)))
      (pss_cons (ps_expr (C8.pe_c c_check_place hr (by first | decide | omega) (by rfl) (pa_cons (pv 0) (pa_cons (pv 1) pa_nil))))
      (pss_cons (ps_expr (C8.pe_c c_check_place hr (by first | decide | omega) (by rfl) (pa_cons (pv 0) (pa_cons (pv 2) pa_nil))))
      (pss_one (ps_if (pt_cmpR (r := rEqD K) (u_eq hr.units) (pv 1) (pv 2) (nomark _)) (pss_one ps_nv) pss_nil))))), ?_⟩
    refine y_drop a (ed_p (d := .non) (ead_cons (ed_var rfl) ea_nil) ⟨_, _, rfl, hp⟩ fun e he => he) fun d μ' H1 hd a1 => ?_
    obtain ⟨_, rfl⟩ := hd
    refine y_drop a1 (ed_p (d := .non) (ead_cons (ed_var rfl) (ead_cons (ed_var rfl) ea_nil)) ⟨_, _, _, rfl, hp, ⟨hx0, hx1⟩, by omega⟩ fun e he => he) fun d μ' H2 hd a2 => ?_
    obtain ⟨_, rfl⟩ := hd
    refine y_drop a2 (ed_p (d := .non) (ead_cons (ed_var rfl) (ead_cons (ed_var rfl) ea_nil)) ⟨_, _, _, rfl, hp, ⟨hy0, hy1⟩, by omega⟩ fun e he => he) fun d μ' H3 hd a3 => ?_
    obtain ⟨_, rfl⟩ := hd
    exact x_ifb (b := decide (x = y)) a3 (eb_test (ed_op (ed_var rfl) (ed_var rfl) rd_eqI)) (fun hb => absurd (of_decide_eq_true hb) hne) fun hb H4 a4 => x_next (hq rfl (At.flat a4 fun _ => rfl))
abbrev sp_has_steps (K : PySem.W.Frag) (C : Addr) : Sp := psp K (fun ds => ∃ (ss : List (List Str)) (cs : List (List Int)) (nums : List Str) (way : List Int), ds = [.obj C (netF nums ss cs), tI way] ∧ way.length ≤ 2000 ∧ ∀ p ∈ way, 0 ≤ p ∧ p < ((ss.length + cs.length : Nat) : Int)) (fun ds e => ∃ (ss : List (List Str)) (cs : List (List Int)) (nums : List Str) (way : List Int), ds = [.obj C (netF nums ss cs), tI way] ∧ e = .bl (stepsN (nearF ss cs) way))
include bi in
theorem ok_has_steps {C : Addr} (nc : NetC K C) (F : Fun K "has_steps" "has_steps" s_has_steps f fd) : FnOk P w K mg base CX0 1 f fd ["net", "way"] (sp_has_steps K C) := by
  refine F.ok sc_has_steps (fun vs H Q E h => ?_) (fun cdv A outer s H vs Q E hr h => ?_)
  · obtain ⟨G, ds, h1, ⟨ss, cs, nums, way, rfl, _⟩, _⟩ := h
    exact h1.length
  · have hu := hu_of hr
    obtain ⟨G, ds, ⟨ss, cs, nums, way, rfl, hw, hway⟩, hlen, a, hq⟩ := fsp_start locT n_has_steps h
    refine ⟨_, (pss_one (ps_ret (pe_callB (id := "all") (r := rAll K) (cr_all rfl) (by rfl) (bi "all" (by decide +kernel)) (by decide +kernel) (pa_cons (pe_lc (own := [("one", 2), ("other", 3)]) (g := gTup K 2 (gCons (gName 2) (gCons (gName 3) gNil))) (tt := tYes) rfl sc_has_steps.nd (RZ.pi_zipA (by rfl) (bi "zip" (by decide +kernel)) (pa_cons (pv 1) (pa_cons (pe_slice (r := rSlU K) u_sl (pv 1) (po_some pe_int) po_none) pa_nil))) (blkOk_by (N := n_has_steps) (sc := defScope s_has_steps) (by decide +kernel)) (fun _ _ _ _ _ => (pg_tup rfl (pgs_cons (pg_name (i := 2) sc_has_steps.nd rfl (by first | exact (.inl rfl) | exact (.inr rfl))) (pgs_cons (pg_name (i := 3) sc_has_steps.nd rfl (by first | exact (.inl rfl) | exact (.inr rfl))) pgs_nil)))) (fun _ _ _ _ _ => pts_nil) (fun _ _ _ _ _ => (pe_cmpR (r := rIn K false) op_in_seq (pv 3) (pe_ix (r := rIx K) ix_seq (pe_fldK (K := K) (by rfl) (pv 0) (by rfl)) (pv 2) (fun _ _ => rfl)) (by rfl)))) pa_nil)))), ?_⟩
    refine x_ret a (ed_allF (f := fun i => decide (way.getD (i + 1) 0 ∈ nearF ss cs (way.getD i 0))) (ed_lc2 (n := way.length - 1) (f := fun i => .tup [(way.map D.int).getD i .non, ((way.map D.int).drop 1).getD i .non]) (x := fun i => .int (way.getD i 0)) (y := fun i => .int (way.getD (i + 1) 0)) ?_ (fun i hi => ?_) (by decide) (by decide) (by omega) fun i hi cl => ?_)) fun v H' d hd a' => hq ⟨ss, cs, nums, way, rfl, hd⟩ a'
    · have e : way.length - 1 = min (way.map D.int).length ((way.map D.int).drop 1).length := by rw [List.length_drop, List.length_map]; omega
      rw [e]
      exact ei_zipT (ead_cons (ed_var rfl) (ead_cons (Ed.is (ed_slT (ed_var rfl) (eo_some ed_int) eo_none) (by rw [cutD1])) ea_nil))
    · show D.tup [_, _] = _
      rw [getD_drop1, getD_map' D.int 0 way (by omega), getD_map' D.int 0 way (by omega)]
    · have h1 := hway _ (getD_in (z := (0 : Int)) (show i < way.length by omega))
      exact ed_op (ed_var rfl) (ed_op (ed_fld (ed_var rfl) nc.cl nc.n2 (d := nearDD ss cs) rfl) (ed_var rfl) (rd_ixL (near_at h1.1 h1.2))) rd_inIL
theorem net_near {C : Addr} {nums nums' : List Str} {ss ss' : List (List Str)} {cs cs' : List (List Int)} (h : D.obj C (netF nums ss cs) = D.obj C (netF nums' ss' cs')) : nearF ss cs = nearF ss' cs' := by
  unfold nearF; rw [netF_inj h]
/-- two places that may be asked for a ring -/
def Pair3 (ss : List (List Str)) (cs : List (List Int)) (i j : Nat) : Prop := Pl3 ss cs ∧ i < ss.length + cs.length ∧ j < ss.length + cs.length ∧ i ≠ j
theorem plij_inj {ss ss' : List (List Str)} {cs cs' : List (List Int)} {i j i' j' : Nat} {r r' : List D} (h : (plD ss cs :: D.int (i : Nat) :: D.int (j : Nat) :: r : List D) = plD ss' cs' :: D.int (i' : Nat) :: D.int (j' : Nat) :: r') : ss = ss' ∧ cs = cs' ∧ i = i' ∧ j = j' ∧ r = r' := by
  injection h with h1 h2
  injection h2 with h2 h3
  injection h3 with h3 h4
  exact ⟨(plD_inj h1).1, (plD_inj h1).2, Int.ofNat.inj (D.int.inj h2), Int.ofNat.inj (D.int.inj h3), h4⟩
abbrev sp_ring_of (K : PySem.W.Frag) : Sp := psp K (fun ds => ∃ (ss : List (List Str)) (cs : List (List Int)) (i j : Nat), ds = [plD ss cs, .int i, .int j] ∧ Pair3 ss cs i j) (fun ds e => ∃ (ss : List (List Str)) (cs : List (List Int)) (i j : Nat) (r : Option (List Int)), ds = [plD ss cs, .int i, .int j] ∧ First (nearF ss cs) i j [[(i : Int)]] r ∧ e = optW r)
include bi in
theorem ok_ring_of {C : Addr} (nc : NetC K C) (F : Fun K "ring_of" "ring_of" s_ring_of f fd) (c_check_pair : C8.Cal P w K mg base 8 "check_pair" (sp_check_pair K) []) (m_Net : C8.Mak P w K mg base 4 "Net" C (sp_net K C) []) (c_find_ring : C8.Cal P w K mg base 1 "find_ring" (sp_find_ring K C) []) : FnOk P w K mg base CX0 9 f fd ["placement", "one", "other"] (sp_ring_of K) := by
  refine F.ok sc_ring_of (fun vs H Q E h => ?_) (fun cdv A outer s H vs Q E hr h => ?_)
  · obtain ⟨G, ds, h1, ⟨ss, cs, i, j, rfl, _⟩, _⟩ := h
    exact h1.length
  · have hu := hu_of hr
    obtain ⟨G, ds, ⟨ss, cs, i, j, rfl, hP, hi, hj, hne⟩, hlen, a, hq⟩ := fsp_start locT n_ring_of h
    have m7 := hP.m7
    refine ⟨_, (pss_cons (ps_expr (C8.pe_c c_check_pair hr (by first | decide | omega) (by rfl) (pa_cons (pv 0) (pa_cons (pv 1) (pa_cons (pv 2) pa_nil)))))
      (pss_one (ps_ret (C8.pe_c c_find_ring hr (by first | decide | omega) (by rfl) (pa_cons (C8.pe_mk m_Net hr (by first | decide | omega) (by rfl) (pa_cons (pv 0) pa_nil)) (pa_cons (pv 1) (pa_cons (pv 2) pa_nil))))))), ?_⟩
    refine y_drop a (ed_p (d := .non) (ead_cons (ed_var rfl) (ead_cons (ed_var rfl) (ead_cons (ed_var rfl) ea_nil))) ⟨_, _, _, _, rfl, hP.ok, ⟨by omega, by omega⟩, ⟨by omega, by omega⟩, by omega⟩ fun e he => he) fun d μ' H1 hd a1 => ?_
    obtain ⟨_, rfl⟩ := hd
    refine x_ret a1 (P := fun d => ∃ r, First (nearF ss cs) i j [[(i : Int)]] r ∧ d = optW r) (ev_callP (Ps := fun ds => ∃ nums, ds = [.obj C (netF nums ss cs), .int (i : Nat), .int (j : Nat)]) (ea_cons (P := fun d => ∃ nums, d = .obj C (netF nums ss cs)) (ev_make rfl (ead_cons (ed_var rfl) ea_nil) ⟨_, _, rfl, hP.ll, hP.ok⟩ (by
      rintro fs ⟨ss', cs', nums, e1, _, rfl⟩
      obtain ⟨rfl, rfl⟩ := plD_zero e1
      exact ⟨nums, rfl⟩)) fun d ⟨nums, e⟩ => (ead_cons (ed_var rfl) (ead_cons (ed_var rfl) ea_nil)).imp fun ds e2 => ⟨nums, by rw [e2, e]⟩) (fun ds ⟨nums, e⟩ => ⟨ss, cs, nums, _, _, e, m7, by omega, by omega⟩) fun ds e ⟨nums, e1⟩ ⟨ss', cs', nums', i', j', r, e2, hw, e3⟩ => ?_) fun v H' d ⟨r, hd1, hd2⟩ a' => hq ⟨ss, cs, i, j, r, rfl, hd1, hd2⟩ a'
    rw [e1] at e2
    injection e2 with h1 h2
    injection h2 with h2 h3
    injection h3 with h3 _
    rw [← net_near h1, ← D.int.inj h2, ← D.int.inj h3] at hw
    exact ⟨r, hw, e3⟩
abbrev sp_ring_holds (K : PySem.W.Frag) : Sp := psp K (fun ds => ∃ (ss : List (List Str)) (cs : List (List Int)) (i j : Nat) (d : D), ds = [plD ss cs, .int i, .int j, d] ∧ Pair3 ss cs i j ∧ Sm d ∧ ∀ v : List Int, d = tI v → v.length ≤ 1000) (fun ds e => ∃ (ss : List (List Str)) (cs : List (List Int)) (i j : Nat) (d : D), ds = [plD ss cs, .int i, .int j, d] ∧ e = .bl (ringB ss cs i j d))
include bi g_FEWEST_IN_RING in
theorem ok_ring_holds {C : Addr} (nc : NetC K C) (F : Fun K "ring_holds" "ring_holds" s_ring_holds f fd) (c_check_pair : C8.Cal P w K mg base 8 "check_pair" (sp_check_pair K) []) (c_count_places : C8.Cal P w K mg base 1 "count_places" (sp_count_places K) []) (c_are_below : C8.Cal P w K mg base 3 "are_below" (sp_are_below K) []) (m_Net : C8.Mak P w K mg base 4 "Net" C (sp_net K C) []) (c_has_steps : C8.Cal P w K mg base 1 "has_steps" (sp_has_steps K C) []) : FnOk P w K mg base CX0 9 f fd ["placement", "one", "other", "thing"] (sp_ring_holds K) := by
  refine F.ok sc_ring_holds (fun vs H Q E h => ?_) (fun cdv A outer s H vs Q E hr h => ?_)
  · obtain ⟨G, ds, h1, ⟨ss, cs, i, j, d, rfl, _⟩, _⟩ := h
    exact h1.length
  · have hu := hu_of hr
    obtain ⟨G, ds, ⟨ss, cs, i, j, d, rfl, ⟨hP, hi, hj, hne⟩, hsm, hvl⟩, hlen, a, hq⟩ := fsp_start locT n_ring_holds h
    have m7 := hP.m7
    refine ⟨_, (pss_cons (ps_expr (C8.pe_c c_check_pair hr (by first | decide | omega) (by rfl) (pa_cons (pv 0) (pa_cons (pv 1) (pa_cons (pv 2) pa_nil)))))
      (pss_cons (ps_if (PW.pt (pw_or (pt_not (pt_val (C8.pe_c c_are_below hr (by first | decide | omega) (by rfl) (pa_cons (pv 3) (pa_cons (C8.pe_c c_count_places hr (by first | decide | omega) (by rfl) (pa_cons (pv 0) pa_nil)) pa_nil))))) (pw_or1 (pt_cmpR u_lt (pe_callB (id := "len") (r := rLenU K) u_len (by rfl) (bi "len" (by decide +kernel)) (by decide +kernel) (pa_cons (pv 3) pa_nil)) (C8.pe_gc (by rfl) g_FEWEST_IN_RING) (nomark _))))) (pss_one (ps_ret pe_bl)) pss_nil)
      (pss_cons (ps_if (PW.pt (pw_or (pt_cmpR (r := rNeD K) (u_ne hr.units) (pe_ix (r := rIx K) ix_seq (pv 3) pe_int (fun _ _ => rfl)) (pv 1) (nomark _)) (pw_or (pt_cmpR (r := rIn K true) op_notIn_seq (pv 2) (pv 3) (by rfl)) (pw_or1 (pt_cmpR (r := rNeD K) (u_ne hr.units) (pe_lenSetT (by rfl) (by rfl) (bi "len" (by decide +kernel)) (by rfl) (bi "set" (by decide +kernel)) (pv 3)) (pe_callB (id := "len") (r := rLenU K) u_len (by rfl) (bi "len" (by decide +kernel)) (by decide +kernel) (pa_cons (pv 3) pa_nil)) (nomark _)))))) (pss_one (ps_ret pe_bl)) pss_nil)
      (pss_one (ps_ret (C8.pe_c c_has_steps hr (by first | decide | omega) (by rfl) (pa_cons (C8.pe_mk m_Net hr (by first | decide | omega) (by rfl) (pa_cons (pv 0) pa_nil)) (pa_cons (pe_op (r := rAddU K) u_add (pv 3) (pe_slice (r := rSlU K) u_sl (pv 3) po_none (po_some pe_int))) pa_nil)))))))), ?_⟩
    refine y_drop a (ed_p (d := .non) (ead_cons (ed_var rfl) (ead_cons (ed_var rfl) (ead_cons (ed_var rfl) ea_nil))) ⟨_, _, _, _, rfl, hP.ok, ⟨by omega, by omega⟩, ⟨by omega, by omega⟩, by omega⟩ fun e he => he) fun d' μ' H1 hd a1 => ?_
    obtain ⟨_, rfl⟩ := hd
    have bel : ∀ {ρ : Ro} {μ : Mu}, ρ[0]? = some (some (plD ss cs)) → ρ[3]? = some (some d) → Ed ⟨K, fun _ => True, [], locT, G, H⟩ (tCall (sp_are_below K) [] C8.E0 (tCons (tVar 3) (tCons (tCall (sp_count_places K) [] C8.E0 (tCons (tVar 0) tNil)) tNil))) ρ μ (.bl (areBelow ((ss.length + cs.length : Nat) : Int) d)) := fun h0 h3 => ed_p (ead_cons (ed_var h3) (ead_cons (d := .int ((ss.length + cs.length : Nat) : Int)) (ed_p (ead_cons (ed_var h0) ea_nil) ⟨_, _, rfl, hP.ok⟩ (by
        rintro e ⟨ss', cs', e1, rfl⟩
        obtain ⟨rfl, rfl⟩ := plD_zero e1
        congr 1)) ea_nil)) ⟨_, _, rfl, hsm⟩ (by
        rintro e ⟨d', n', e1, rfl⟩
        injection e1 with e1 e2
        injection e2 with e2 _
        rw [e1, D.int.inj e2])
    cases hB : areBelow ((ss.length + cs.length : Nat) : Int) d with
    | false =>
      refine y_ifb (b := !areBelow ((ss.length + cs.length : Nat) : Int) d || true) a1 (eb_or (eb_not (eb_B (bel rfl rfl))) fun z => by rw [hB] at z; cases z) (fun _ H2 a2 => ?_) fun z => by rw [Bool.or_true] at z; cases z
      exact x_ret a2 ed_bl fun v H' e he a' => hq ⟨ss, cs, i, j, d, rfl, by rw [he, nb_ring hB]⟩ a'
    | true =>
      obtain ⟨v, rfl, hv⟩ := below_ints hB
      have vl := hvl v rfl
      have lv : ∀ {ρ : Ro} {μ : Mu}, ρ[3]? = some (some (tI v)) → Ed ⟨K, fun _ => True, [], locT, G, H⟩ (tCB (rLenU K) (tCons (tVar 3) tNil)) ρ μ (.int (v.length : Nat)) := fun h => Ed.is (ed_lenT (ed_var h)) (by rw [List.length_map])
      have allb : ((List.range v.length).all fun k => !!(decide (0 ≤ v.getD k 0) && decide (v.getD k 0 < ((ss.length + cs.length : Nat) : Int)))) = true := List.all_eq_true.mpr fun k hk => by
        have := hv _ (getD_in (z := (0 : Int)) (List.mem_range.mp hk))
        rw [decide_eq_true this.1, decide_eq_true this.2]; rfl
      have eR : ringB ss cs i j (tI v) = (!(decide ((v.length : Int) < 3) || !decide (((uniq v).length : Int) = (v.length : Int))) && (!(!decide (v.getD 0 0 = (i : Int)) || !decide ((j : Int) ∈ v)) && (List.range v.length).all fun k => !!decide (v.getD k 0 ∈ rowG ss cs (prevI v k).toNat))) := by
        show (areInts (tI v) && ringI ss cs i j (intsD (v.map .int))) = _
        rw [intsD_map, areInts_tI, Bool.true_and]
        unfold ringI
        rw [allb, Bool.not_true, Bool.or_false]
      refine y_ifb (b := !areBelow ((ss.length + cs.length : Nat) : Int) (tI v) || decide ((v.length : Int) < 3)) a1 (eb_or (eb_not (eb_B (bel rfl rfl))) fun _ => eb_test (ed_op (lv rfl) ed_int rd_ltI)) (fun hb H2 a2 => ?_) fun hb H2 a2 => ?_
      · have hB' : areBelow ((ss.length + cs.length : Nat) : Int) (tI v) = true := hB
        rw [hB', Bool.not_true, Bool.false_or] at hb
        exact x_ret a2 ed_bl fun v' H' e he a' => hq ⟨ss, cs, i, j, tI v, rfl, by rw [he, eR, hb]; rfl⟩ a'
      · have hB' : areBelow ((ss.length + cs.length : Nat) : Int) (tI v) = true := hB
        rw [hB', Bool.not_true, Bool.false_or] at hb
        have l3 := of_decide_eq_false hb
        refine y_ifb (b := !decide (v.getD 0 0 = (i : Int)) || (!decide ((j : Int) ∈ v) || !decide (((uniq v).length : Int) = (v.length : Int)))) a2 (eb_or (eb_test (ed_op (ed_op (d1 := tI v) (d2 := .int 0) (ed_var rfl) ed_int (rd_ixT (atI_map D.int 0 (p := 0) rfl (by omega)))) (ed_var rfl) rd_neI)) fun _ => eb_or (eb_test (ed_op (ed_var rfl) (ed_var rfl) rd_notInI)) fun _ => eb_test (ed_op (ed_lenSetT (ed_var rfl) vl) (lv rfl) rd_neI)) (fun hc H3 a3 => ?_) fun hc H3 a3 => ?_
        · refine x_ret a3 ed_bl fun v' H' e he a' => hq ⟨ss, cs, i, j, tI v, rfl, ?_⟩ a'
          rw [he, eR, hb]
          revert hc
          cases (decide (v.getD 0 0 = (i : Int))) <;> cases (decide ((j : Int) ∈ v)) <;> cases (decide (((uniq v).length : Int) = (v.length : Int))) <;> intro hc <;> first | rfl | cases hc
        · have eR2 : ringB ss cs i j (tI v) = stepsN (nearF ss cs) (v ++ v.take 1) := by
            rw [ring_steps hP (by omega) hv, eR, hb]
            revert hc
            cases (decide (v.getD 0 0 = (i : Int))) <;> cases (decide ((j : Int) ∈ v)) <;> cases (decide (((uniq v).length : Int) = (v.length : Int))) <;> intro hc <;> first | rfl | cases hc
          refine x_ret a3 (P := fun e => e = .bl (ringB ss cs i j (tI v))) (ev_callP (Ps := fun ds => ∃ nums, ds = [.obj C (netF nums ss cs), tI (v ++ v.take 1)]) (ea_cons (P := fun d => ∃ nums, d = .obj C (netF nums ss cs)) (ev_make rfl (ead_cons (ed_var rfl) ea_nil) ⟨_, _, rfl, hP.ll, hP.ok⟩ (by
            rintro fs ⟨ss', cs', nums, e1, _, rfl⟩
            obtain ⟨rfl, rfl⟩ := plD_zero e1
            exact ⟨nums, rfl⟩)) fun d ⟨nums, e⟩ => (ead_cons (d := tI (v ++ v.take 1)) (Ed.is (ed_op (d1 := tI v) (d2 := tI (v.take 1)) (ed_var rfl) (Ed.is (ed_slT (ed_var rfl) eo_none (eo_some ed_int)) (by rw [cutD_take _ (by decide)]; show D.tup ((v.map D.int).take 1) = _; rw [← List.map_take])) (rd_addT (szS (by rw [List.length_map, List.length_map, List.length_take]; omega)))) (by rw [← List.map_append])) ea_nil).imp fun ds e2 => ⟨nums, by rw [e2, e]⟩) (fun ds ⟨nums, e⟩ => ⟨ss, cs, nums, _, e, by rw [List.length_append, List.length_take]; omega, fun p hp => (List.mem_append.mp hp).elim (hv p) fun z => hv p ((List.take_sublist _ _).subset z)⟩) fun ds e ⟨nums, e1⟩ ⟨ss', cs', nums', way, e2, e3⟩ => ?_) fun v' H' e he a' => hq ⟨ss, cs, i, j, tI v, rfl, he⟩ a'
          rw [e1] at e2
          injection e2 with h1 h2
          injection h2 with h2 _
          rw [e3, ← net_near h1, ← tI_inj h2, eR2]
end
end Cal


/-! Own text: l.extend(list) whose list is told by a property; zip in a comprehension within another; two names with a test. -/
namespace Cal
open PySem PySem.Spec PyProof.Rows L2
section
variable {B : Bs} {ρ : Ro} {μ : Mu} {τ : List (V × D)} {σ : L2.St} {H : Hp} {te : TE} {tt : TT} {p : Addr} {D0 : Ends} {j k : Nat} {ds : List D} {P : List D → Prop} {tz : TS}
theorem x_extendV (a : At B ρ μ τ σ H) (hs : ρ[j]? = some (some (.raw (.ref p)))) (hm : μ[k]? = some (p, .lst ds)) (he : Ev B te ρ μ fun d => ∃ es, d = .lst es ∧ P es) (hz : ∀ es, P es → ds.length + es.length ≤ sizeLine) (q : ∀ es H', P es → At B ρ (μ.set k (p, .lst (ds ++ es))) τ σ H' → D0.nx σ H') :
    tDrop (tBM B.K "list" rExtend (tVar j) (tCons te tNil)) D0 σ H := by
  obtain ⟨v0, h1, h2⟩ := a.var hs
  obtain ⟨G, g, hv⟩ := h2.top
  have hv' : v0 = V.ref p := hv
  subst hv'
  obtain ⟨vs, e1, k1⟩ := (g.cells _ (List.mem_of_getElem? hm)).2.2.2
  refine ⟨_, h1, .inl ⟨rfl, _, .inl (.inl e1)⟩, he.go a fun u H1 d1 ⟨es, hd, hP⟩ a1 => ?_⟩
  subst hd
  obtain ⟨G1, g1, b, us, rfl, eb, ku⟩ := id a1.top
  obtain ⟨vs1, e2, k2⟩ := (g1.cells _ (List.mem_of_getElem? hm)).2.2.2
  refine ⟨p, b, vs1, us, rfl, rfl, e2, g1.sub _ _ eb, by rw [k2.length, ku.length]; exact hz es hP, q es _ hP ⟨G1, AtG.write (c' := .lst (ds ++ es)) g1 hm ⟨_, upd_same, k2.append ku⟩⟩⟩
theorem y_extendV (a : At B ρ μ τ σ H) (hs : ρ[j]? = some (some (.raw (.ref p)))) (hm : μ[k]? = some (p, .lst ds)) (he : Ev B te ρ μ fun d => ∃ es, d = .lst es ∧ P es) (hz : ∀ es, P es → ds.length + es.length ≤ sizeLine) (q : ∀ es H', P es → At B ρ (μ.set k (p, .lst (ds ++ es))) τ σ H' → tz D0 σ H') :
    tSeq (tDrop (tBM B.K "list" rExtend (tVar j) (tCons te tNil))) tz D0 σ H := x_extendV (D0 := { D0 with nx := tz D0 }) a hs hm he hz q
theorem ed_lc2F {wi : TI} {k l : Nat} {vs : List Nat} {n : Nat} {f x y h : Nat → D} (c : Nat → Bool) (hi : Ei B wi ρ μ n f) (hf : ∀ i, i < n → f i = .tup [x i, y i]) (hk : k ∈ vs) (hl : l ∈ vs) (hn : n ≤ 1000000) (ht : ∀ i, i < n → ∀ cl, Eb B tt (((wipeR ρ vs).set k (some (x i))).set l (some (y i))) (cl :: μ) (c i)) (he : ∀ i, i < n → c i = true → ∀ cl, Ed B te (((wipeR ρ vs).set k (some (x i))).set l (some (y i))) (cl :: μ) (h i)) :
    Ed B (tLc wi (gTup B.K 2 (gCons (gName k) (gCons (gName l) gNil))) tt te vs) ρ μ (.lst (((List.range n).filter c).map h)) :=
  ev_lc hi (fun i => ((wipeR ρ vs).set k (some (x i))).set l (some (y i))) (js := [k, l]) (fun z hz => by
    rcases List.mem_cons.mp hz with e | hz
    · rw [e]; exact hk
    · rw [List.mem_singleton.mp hz]; exact hl) hn c (fun i d => d = h i) (fun i hi2 cl => by rw [hf i hi2]; exact gd_tup2) ht he fun ds h => by rw [h.det]
end
section
variable {B : Bs} {ρ : Ro} {μ : Mu} {ta te : TE} {tr t : TA} {n : Nat} {Q : D → Prop} {Ps : List D → Prop}
/-- args that all keep one property -/
theorem ea_nilQ : Ea B tNil ρ μ (fun ds => (∀ d ∈ ds, Q d) ∧ ds.length = 0) := ea_nil.imp fun ds e => by
  rw [e]; exact ⟨fun d hd => (nomatch hd), rfl⟩
theorem ea_consQ (h : Ev B ta ρ μ Q) (hr : Ea B tr ρ μ (fun ds => (∀ d ∈ ds, Q d) ∧ ds.length = n)) : Ea B (tCons ta tr) ρ μ (fun ds => (∀ d ∈ ds, Q d) ∧ ds.length = n + 1) := ea_cons h fun d hd => hr.imp fun ds hds => ⟨fun e he => by
  rcases List.mem_cons.mp he with z | z
  · rw [z]; exact hd
  · exact hds.1 e z, by rw [List.length_cons, hds.2]⟩
theorem xl_lstP (h : Ea B t ρ μ Ps) (hl : ∀ ds, Ps ds → ds.length ≤ sizeLine) : Xv B (tLst t) ρ μ (fun d μ' => ∃ p ds, d = .raw (.ref p) ∧ μ' = (p, .lst ds) :: μ ∧ Ps ds) := fun τ σ H a Q q => h τ σ H a _ fun vs H1 es hes hlen a1 => by
  refine ⟨by rw [hlen]; exact hl es hes, fun p hp => q _ _ _ _ ⟨p, es, rfl, rfl, hes⟩ ?_⟩
  have a2 := (At.newCell (c := .lst es) (o := .lst vs) a1 hp fun G k => ⟨vs, upd_same, DtA.of_zip hlen fun q hq => k q (List.mem_append_left _ hq)⟩).1
  exact At.flat (At.sub a2 fun z hz => List.mem_append_right _ hz) fun _ => rfl
end
theorem ev_dN {K : PySem.W.Frag} {dk l : Addr} {G0 H0 : Hp} {ρ : Ro} {μ : Mu} {j : Nat} {P : D → Prop} {pre : List D → Prop} {post : List D → D → Prop} {t : TA} {E : XK} {Ps : List D → Prop} (h : ρ[j]? = some (some (.raw (.ref dk)))) (ht : Ea (Bd K dk l 64 G0 H0) t ρ μ Ps) (hpre : ∀ es, Ps es → pre es) (hpost : ∀ es e, Ps es → post es e → P e) : Ev (Bd K dk l 64 G0 H0) (tCall (dsp K pre post) [] E (tCons (tVar j) t)) ρ μ P :=
  ev_d (Ps := Ps) (ea_cons (P := fun d => d = .raw (.ref dk)) (ed_var h) fun d e => ht.imp fun es hes => ⟨es, by rw [e], hes⟩) hpre hpost
theorem pi_zipAK {X : Cx} {K : PySem.W.Frag} {e e2 : Expr} {ta : TA} {p pos tpos : Pos} {elts : List Expr} {kk : Nat} (hK : X.K = K) (hg : Gl X "zip") (hm : X.mg "zip" = none) (ha : PA X [e, e2] ta)
    (hs : starEach [e, e2] X.env = (false, eval e X.env) :: starEach [e2] X.env := by rfl) (hpl : (backTo pos (starEach [e2] X.env)).any (·.1) = false := by rfl) :
    PI X (.Tuple elts kk tpos) (.Call (.Name "zip" p) [e, e2] [] pos) (RZ.iZipA K ta) := hK ▸ RZ.pi_zipA hg hm ha hs hpl
end Cal


namespace Cal
open PySem PySem.Spec PyProof.Rows L2
abbrev s__law_made_placement : Stmt := topS 58
abbrev n__law_made_placement : List Str := ["deck", "n", "ring", "at", "some", "ties", "x", "tie"]
theorem sc__law_made_placement : FnScope n__law_made_placement ["deck"] (defScope s__law_made_placement) := ⟨rfl, rfl, rfl, by decide +kernel, rfl, by decide +kernel, by decide +kernel⟩
def scTies : Scope := match (defBody s__law_made_placement).getD 6 (.Pass ⟨0, 0, 0, 0⟩) with
  | .Return (some (.Tuple (.Call _ (.ListComp _ _ sc _ :: _) _ _ :: _) _ _)) _ => sc
  | _ => defScope s__law_made_placement
theorem rowB_sub {r q : List Str} (h : RowB r) (hs : q.Sublist r) : RowB q := by
  refine ⟨?_, hs.nodup h.2.1, fun x hx => h.2.2 x (hs.subset hx)⟩
  have pw := (sorted_pw h.1 h.2.1).sublist hs
  clear hs
  cases q with
  | nil => rfl
  | cons y t =>
    show risingS y t = true
    induction t generalizing y with
    | nil => rfl
    | cons z t ih =>
      obtain ⟨h1, h2⟩ := List.pairwise_cons.mp pw
      show (!ltCps z.cps.toList y.cps.toList && risingS z t) = true
      rw [Bool.and_eq_true]
      refine ⟨?_, ih z h2⟩
      rw [ltCps_eq, decide_eq_false (fun k => absurd (List.lt_trans (h1 z (List.mem_cons_self ..)) k) (List.lt_irrefl _))]; rfl
/-- ties: pairs of numbers -/
def pr (a b : Int) : D := .tup [.int a, .int b]
def TieOk (d : D) : Prop := ∃ es, d = .lst es ∧ es.length ≤ 7 ∧ ∀ e ∈ es, ∃ a b : Int, e = pr a b
def tieB (d : D) (i : Int) : Bool := match d with | .tup [.int a, .int b] => decide (i ∈ [a, b]) | _ => false
def abcS : List Str := ["a", "b", "c", "d", "e", "f", "g"]
theorem abc_row : RowB abcS := ⟨by decide +kernel, by decide +kernel, by decide +kernel⟩
def rowM (es : List D) (k : Nat) : List Str := ((List.range (min 7 es.length)).filter fun i => tieB (es.getD i .non) k).map fun i => abcS.getD i ""
theorem rowM_ok (es : List D) (k : Nat) : RowB (rowM es k) := by
  refine rowB_sub abc_row ?_
  have h := filt_sub ("" : Str) (abcS.take (min 7 es.length)) fun i => tieB (es.getD i .non) k
  have e : (((List.range (abcS.take (min 7 es.length)).length).filter fun i => tieB (es.getD i .non) k).map fun i => (abcS.take (min 7 es.length)).getD i "") = rowM es k := by
    have l7 : (abcS.take (min 7 es.length)).length = min 7 es.length := by rw [List.length_take]; show min (min 7 es.length) 7 = _; omega
    unfold rowM
    rw [l7]
    refine List.map_congr_left fun i hi => ?_
    have hi' := List.mem_range.mp (List.mem_filter.mp hi).1
    rw [List.getD_eq_getElem?_getD, List.getElem?_take_of_lt hi', ← List.getD_eq_getElem?_getD]
  rw [← e]
  exact h.trans (List.take_sublist _ _)
section
variable {B : Bs} {ρ : Ro} {μ : Mu} {a b : Int}
theorem ed_pr : Ed B (tTup (tCons (tC (.int a)) (tCons (tC (.int b)) tNil))) ρ μ (pr a b) := ed_tup (ead_cons ed_int (ead_cons ed_int ea_nil)) (by show 2 ≤ sizeLine; decide)
end
theorem tie_of {es : List D} (hl : es.length ≤ 7) (h : ∀ e ∈ es, ∃ a b : Int, e = pr a b) : TieOk (.lst es) := ⟨es, rfl, hl, h⟩
section
variable {P : Program} {w : World} {K : PySem.W.Frag} {mg : Str → Option Value} {base : Heap} {f : Addr} {fd : FuncData}
abbrev BNM3 : List Str := ["int", "range", "tuple", "zip"]
variable (bi : ∀ x, x ∈ BNM3 → mg x = none)
abbrev sp__law_made_placement (K : PySem.W.Frag) : Sp := dsp K (fun es => es = []) (fun es e => ∃ ss, e = plD ss [] ∧ Pl3 ss [] ∧ 4 ≤ ss.length)
include bi in
theorem ok__law_made_placement (F : Fun K "_law_made_placement" "_law_made_placement" s__law_made_placement f fd) (c__law_draw : C8.Cal P w K mg base 1 "_law_draw" (sp__law_draw K) []) (c__law_pick : C8.Cal P w K mg base 2 "_law_pick" (sp__law_pick K) []) : FnOk P w K mg base CX0 3 f fd ["deck"] (sp__law_made_placement K) := by
  refine F.ok sc__law_made_placement (fun vs H Q E h => ?_) (fun cdv A outer s0 H vs Q E hr h => ?_)
  · obtain ⟨dk, l, G, ds, h1, ⟨es, rfl, rfl⟩, _⟩ := h
    exact h1.length
  · have hu := hu_of hr
    obtain ⟨dk, l, G, es, rfl, hlen, a, hq⟩ := dsp_start n__law_made_placement h
    refine ⟨_, (pss_cons (ps_asg (pe_op (r := rAddU K) u_add pe_int (C8.pe_c c__law_draw hr (by first | decide | omega) (by rfl) (pa_cons (pv 0) (pa_cons pe_int pa_nil)))) (pg_name (i := 1) sc__law_made_placement.nd rfl (by first | exact (.inl rfl) | exact (.inr rfl))))
      (pss_cons (ps_setLc (i := 2) (own := [("at", 3)]) (g := gName 3) (tt := tYes) rfl sc__law_made_placement.nd rfl rfl (sw_true rfl rfl rfl (by decide +kernel)) (pi_range1 (by rfl) (bi "range" (by decide +kernel)) (pa_cons (pv 1) pa_nil)) (blkOk_by (N := n__law_made_placement) (sc := defScope s__law_made_placement) (by decide +kernel)) (fun _ _ _ _ _ => (pg_name (i := 3) sc__law_made_placement.nd rfl (by first | exact (.inl rfl) | exact (.inr rfl)))) (fun _ _ _ _ _ => pts_nil) (fun _ _ _ _ _ => (pe_tup (pa_cons (pv 3) (pa_cons (pe_op op_mod (pe_callTy (T := "int") call_int1 (by rfl) (bi "int" (by decide +kernel)) (by decide +kernel) (pa_cons (pe_op (r := rAddU K) u_add (pv 3) pe_int) pa_nil)) (pv 1)) pa_nil)))))
      (pss_cons (ps_asg (pe_lst (pa_cons (pv 2) (pa_cons (pe_op (r := rAddU K) u_add (pv 2) (pe_lst (pa_cons (pe_tup (pa_cons pe_int (pa_cons pe_int pa_nil))) pa_nil))) (pa_cons (pe_op (r := rAddU K) u_add (pe_lst (pa_cons (pe_tup (pa_cons pe_int (pa_cons pe_int pa_nil))) (pa_cons (pe_tup (pa_cons pe_int (pa_cons pe_int pa_nil))) (pa_cons (pe_tup (pa_cons pe_int (pa_cons pe_int pa_nil))) pa_nil)))) (pe_lc (own := [("at", 3)]) (g := gName 3) (tt := tYes) rfl sc__law_made_placement.nd (pi_range2 (by rfl) (bi "range" (by decide +kernel)) (pa_cons pe_int (pa_cons (pv 1) pa_nil))) (blkOk_by (N := n__law_made_placement) (sc := defScope s__law_made_placement) (by decide +kernel)) (fun _ _ _ _ _ => (pg_name (i := 3) sc__law_made_placement.nd rfl (by first | exact (.inl rfl) | exact (.inr rfl)))) (fun _ _ _ _ _ => pts_nil) (fun _ _ _ _ _ => (pe_tup (pa_cons pe_int (pa_cons (pv 3) pa_nil)))))) (pa_cons (pe_slice (r := rSlU K) u_sl (pv 2) po_none (po_some (pe_un u_neg pe_int))) pa_nil))))) (pg_name (i := 4) sc__law_made_placement.nd rfl (by first | exact (.inl rfl) | exact (.inr rfl))))
      (C8.pss_cut (ps_if (pt_cmpR op_gt (pv 1) pe_int (nomark _)) (pss_one (ps_expr (pe_bm PySem.F.plainAttrs_list PySem.F.slot_list_extend PySem.F.type_list_extend mt_extend (pv 4) (pa_cons (pe_lst (pa_cons (pe_lst (pa_cons (pe_tup (pa_cons pe_int (pa_cons pe_int pa_nil))) (pa_cons (pe_tup (pa_cons pe_int (pa_cons pe_int pa_nil))) (pa_cons (pe_tup (pa_cons pe_int (pa_cons pe_int pa_nil))) (pa_cons (pe_tup (pa_cons pe_int (pa_cons pe_int pa_nil))) (pa_cons (pe_tup (pa_cons pe_int (pa_cons pe_int pa_nil))) (pa_cons (pe_tup (pa_cons pe_int (pa_cons pe_int pa_nil))) pa_nil))))))) (pa_cons (pe_lst (pa_cons (pe_tup (pa_cons pe_int (pa_cons pe_int pa_nil))) (pa_cons (pe_tup (pa_cons pe_int (pa_cons pe_int pa_nil))) (pa_cons (pe_tup (pa_cons pe_int (pa_cons pe_int pa_nil))) (pa_cons (pe_tup (pa_cons pe_int (pa_cons pe_int pa_nil))) (pa_cons (pe_tup (pa_cons pe_int (pa_cons pe_int pa_nil))) pa_nil)))))) pa_nil))) pa_nil)))) pss_nil)
      (C8.pss_cut (ps_if (pt_cmpR (r := rEqD K) (u_eq hr.units) (pv 1) pe_int (nomark _)) (pss_one (ps_expr (pe_bm PySem.F.plainAttrs_list PySem.F.slot_list_extend PySem.F.type_list_extend mt_extend (pv 4) (pa_cons (pe_op op_rep (pe_lst (pa_cons (pe_lst (pa_cons (pe_tup (pa_cons pe_int (pa_cons pe_int pa_nil))) (pa_cons (pe_tup (pa_cons pe_int (pa_cons pe_int pa_nil))) (pa_cons (pe_tup (pa_cons pe_int (pa_cons pe_int pa_nil))) (pa_cons (pe_tup (pa_cons pe_int (pa_cons pe_int pa_nil))) (pa_cons (pe_tup (pa_cons pe_int (pa_cons pe_int pa_nil))) (pa_cons (pe_tup (pa_cons pe_int (pa_cons pe_int pa_nil))) (pa_cons (pe_tup (pa_cons pe_int (pa_cons pe_int pa_nil))) pa_nil)))))))) pa_nil)) pe_int) pa_nil)))) pss_nil)
      (pss_cons (ps_asg (C8.pe_c c__law_pick hr (by first | decide | omega) (by rfl) (pa_cons (pv 0) (pa_cons (pv 4) pa_nil))) (pg_name (i := 5) sc__law_made_placement.nd rfl (by first | exact (.inl rfl) | exact (.inr rfl))))
      (pss_one (ps_ret (pe_tup (pa_cons (pe_callTy (T := "tuple") (r := rTupOf K) u_tuple (by rfl) (bi "tuple" (by decide +kernel)) (by decide +kernel) (pa_cons (pe_lc (own := [("at", 3)]) (g := gName 3) (tt := tYes) rfl sc__law_made_placement.nd (pi_range1 (by rfl) (bi "range" (by decide +kernel)) (pa_cons (pv 1) pa_nil)) (blkOk_by (N := n__law_made_placement) (sc := defScope s__law_made_placement) (by decide +kernel)) (fun _ _ _ _ _ => (pg_name (i := 3) sc__law_made_placement.nd rfl (by first | exact (.inl rfl) | exact (.inr rfl)))) (fun _ _ _ _ _ => pts_nil) (fun _ _ _ _ _ => (pe_callTy (T := "tuple") (r := rTupOf K) u_tuple (by rfl) (bi "tuple" (by decide +kernel)) (by decide +kernel) (pa_cons (pe_lc (own := [("x", 6), ("tie", 7)]) (g := gTup K 2 (gCons (gName 6) (gCons (gName 7) gNil))) rfl sc__law_made_placement.nd (pi_zipAK (K := K) (by rfl) (by rfl) (bi "zip" (by decide +kernel)) (pa_cons (pe_lst (pa_cons pe_str (pa_cons pe_str (pa_cons pe_str (pa_cons pe_str (pa_cons pe_str (pa_cons pe_str (pa_cons pe_str pa_nil)))))))) (pa_cons (pv 5) pa_nil))) (blkOk_by (N := n__law_made_placement) (sc := relabS scTies (defScope s__law_made_placement)) (by decide +kernel)) (fun _ _ _ _ _ => (pg_tup rfl (pgs_cons (pg_name (i := 6) sc__law_made_placement.nd rfl (by first | exact (.inl rfl) | exact (.inr rfl))) (pgs_cons (pg_name (i := 7) sc__law_made_placement.nd rfl (by first | exact (.inl rfl) | exact (.inr rfl))) pgs_nil)))) (fun _ _ _ _ _ => (pts_one (pt_cmpR (r := rIn K false) op_in_seq (pv 3) (pv 7) (by rfl)))) (fun _ _ _ _ _ => (pv 6))) pa_nil)))) pa_nil)) (pa_cons (pe_tup pa_nil) pa_nil))))))))))), ?_⟩
    -- n
    refine y_setV (P := fun d => ∃ n : Nat, d = .int (n : Nat) ∧ 4 ≤ n ∧ n ≤ 6) a (ev_op (P1 := fun d => d = .int 4) (P2 := fun d => ∃ r : Int, d = .int r ∧ 0 ≤ r ∧ r < 3) ed_int (ed_d rfl (ead_cons ed_int ea_nil) ⟨_, rfl, by decide, by decide⟩ (by rintro e ⟨n, r, e1, rfl, h1, h2⟩; cases e1; exact ⟨r, rfl, h1, h2⟩)) fun d1 d2 e1 ⟨r, e2, h1, h2⟩ => by
      subst e1; subst e2
      exact rd_addI.imp fun d hd => ⟨(4 + r).toNat, by rw [hd]; congr 1; omega, by omega, by omega⟩) fun d σ1 H1 hd a1 => ?_
    obtain ⟨n, rfl, n4, n6⟩ := hd
    -- ring
    generalize hrg : (List.range n).map (fun k : Nat => pr (k : Int) (((k : Int) + 1) % (n : Int))) = rg
    have rgl : rg.length = n := by rw [← hrg, List.length_map, List.length_range]
    have rgp : ∀ e ∈ rg, ∃ a b : Int, e = pr a b := fun e he => by
      rw [← hrg] at he
      obtain ⟨k, _, rfl⟩ := List.mem_map.mp he
      exact ⟨_, _, rfl⟩
    refine y_set (d := .lst rg) a1 (Ed.is (ed_lc0 (n := n) (h := fun k : Nat => pr (k : Int) (((k : Int) + 1) % (n : Int))) (ei_rng1 (i := (n : Int)) (ead_cons (ed_var rfl) ea_nil) ⟨by omega, by omega⟩) (by decide) (by omega) fun k hk cl => ed_tup (ead_cons (ed_var rfl) (ead_cons (ed_op (ed_cb (ead_cons (ed_op (ed_var rfl) ed_int rd_addI) ea_nil) rc_intI) (ed_var rfl) (rd_mod (by omega))) ea_nil)) (by show 2 ≤ sizeLine; decide)) (by rw [← hrg])) fun σ2 H2 a2 => ?_
    -- some
    generalize hst : (List.range ((n : Int) - 3).toNat).map (fun k : Nat => pr 2 (3 + (k : Int))) = st
    have stl : st.length ≤ 3 := by rw [← hst, List.length_map, List.length_range]; omega
    have stp : ∀ e ∈ st, ∃ a b : Int, e = pr a b := fun e he => by
      rw [← hst] at he
      obtain ⟨k, _, rfl⟩ := List.mem_map.mp he
      exact ⟨_, _, rfl⟩
    refine y_asg (R := fun d μ' => ∃ p, d = .raw (.ref p) ∧ μ' = (p, .lst [.lst rg, .lst (rg ++ [pr 0 2]), .lst ([pr 0 1, pr 1 2, pr 0 2] ++ st), .lst (cutD rg none (some (-1)))]) :: []) a2 (xl_lst (ead_cons (ed_var rfl) (ead_cons (ed_op (d1 := .lst rg) (d2 := .lst [pr 0 2]) (ed_var rfl) (ed_lst (ead_cons ed_pr ea_nil) (by show 1 ≤ _; decide)) (rd_addL (szS (by show rg.length + 1 ≤ _; omega)))) (ead_cons (ed_op (d1 := .lst [pr 0 1, pr 1 2, pr 0 2]) (d2 := .lst st) (ed_lst (ead_cons ed_pr (ead_cons ed_pr (ead_cons ed_pr ea_nil))) (by show 3 ≤ _; decide)) (Ed.is (ed_lc0 (n := ((n : Int) - 3).toNat) (h := fun k : Nat => pr 2 (3 + (k : Int))) (ei_rng2 (i := 3) (j := (n : Int)) (ead_cons ed_int (ead_cons (ed_var rfl) ea_nil)) ⟨by omega, by omega, by omega, by omega⟩) (by decide) (by omega) fun k hk cl => ed_tup (ead_cons ed_int (ead_cons (ed_var rfl) ea_nil)) (by show 2 ≤ sizeLine; decide)) (by rw [← hst])) (rd_addL (szS (by show 3 + st.length ≤ _; omega)))) (ead_cons (ed_slL (ed_var rfl) eo_none (eo_some (ed_un ed_int ru_neg))) ea_nil)))) (by show 4 ≤ _; decide)) fun d μ3 σ3 H3 hd a3 => ?_
    obtain ⟨p, rfl, rfl⟩ := hd
    have A0 : ∀ d ∈ [D.lst rg, .lst (rg ++ [pr 0 2]), .lst ([pr 0 1, pr 1 2, pr 0 2] ++ st), .lst (cutD rg none (some (-1)))], TieOk d := fun d hd => by
      simp only [List.mem_cons, List.not_mem_nil, or_false] at hd
      rcases hd with rfl | rfl | rfl | rfl
      · exact tie_of (by omega) rgp
      · refine tie_of (by rw [List.length_append]; show _ + 1 ≤ _; omega) fun e he => ?_
        rcases List.mem_append.mp he with z | z
        · exact rgp e z
        · rw [List.mem_singleton.mp z]; exact ⟨_, _, rfl⟩
      · refine tie_of (by rw [List.length_append]; show 3 + _ ≤ _; omega) fun e he => ?_
        rcases List.mem_append.mp he with z | z
        · simp only [List.mem_cons, List.not_mem_nil, or_false] at z
          rcases z with rfl | rfl | rfl <;> exact ⟨_, _, rfl⟩
        · exact stp e z
      · have hs := cutD_sub rg none (some (-1))
        exact tie_of (by have := hs.length_le; omega) fun e he => rgp e (hs.subset he)
    have fixT : ∀ es : List D, es.length ≤ 7 → (es.all fun e => match e with | .tup [.int _, .int _] => true | _ => false) = true → TieOk (.lst es) := fun es hl h => tie_of hl fun e he => by
      have := List.all_eq_true.mp h e he
      split at this
      · exact ⟨_, _, rfl⟩
      · cases this
    have l0 : [D.lst rg, .lst (rg ++ [pr 0 2]), .lst ([pr 0 1, pr 1 2, pr 0 2] ++ st), .lst (cutD rg none (some (-1)))].length = 4 := rfl
    have l0' : [D.lst rg, .lst (rg ++ [pr 0 2]), .lst ([pr 0 1, pr 1 2, pr 0 2] ++ st), .lst (cutD rg none (some (-1)))] ≠ [] := by simp
    generalize [D.lst rg, .lst (rg ++ [pr 0 2]), .lst ([pr 0 1, pr 1 2, pr 0 2] ++ st), .lst (cutD rg none (some (-1)))] = L0 at a3 A0 l0 l0'
    refine y_cut (M := fun σ' H' => ∃ ds, (∀ d ∈ ds, TieOk d) ∧ ds ≠ [] ∧ ds.length ≤ 6 ∧ At (Bd K dk l 64 G H) [some (.raw (.ref dk)), some (.int (n : Nat)), some (.lst rg), none, some (.raw (.ref p)), none, none, none] [(p, .lst ds)] [] σ' H') (x_ifb (b := decide ((4 : Int) < (n : Int))) a3 (eb_test (ed_op (ed_var rfl) ed_int rd_gt)) (fun _ H4 a4 => ?_) fun _ H4 a4 => x_next ⟨L0, A0, l0', by omega, a4⟩) fun σ4 H4 ⟨L1, A1, l1', l1, a4⟩ => ?_
    · refine x_extend (k := 0) (es := [.lst [pr 0 1, pr 1 2, pr 0 2, pr 2 3, pr 3 4, pr 2 4], .lst [pr 0 1, pr 1 2, pr 2 3, pr 0 3, pr 3 4]]) a4 rfl rfl (ed_lst (ead_cons (ed_lst (ead_cons ed_pr (ead_cons ed_pr (ead_cons ed_pr (ead_cons ed_pr (ead_cons ed_pr (ead_cons ed_pr (ea_nil))))))) (by show 6 ≤ _; decide)) (ead_cons (ed_lst (ead_cons ed_pr (ead_cons ed_pr (ead_cons ed_pr (ead_cons ed_pr (ead_cons ed_pr (ea_nil)))))) (by show 5 ≤ _; decide)) ea_nil)) (by show 2 ≤ _; decide)) (szS (by show _ + 2 ≤ _; omega)) fun H5 a5 => ⟨_, fun d hd => ?_, by simp, by rw [List.length_append]; show _ + 2 ≤ _; omega, a5⟩
      rcases List.mem_append.mp hd with z | z
      · exact A0 d z
      · simp only [List.mem_cons, List.not_mem_nil, or_false] at z
        rcases z with rfl | rfl <;> exact fixT _ (by decide) rfl
    refine y_cut (M := fun σ' H' => ∃ ds, (∀ d ∈ ds, TieOk d) ∧ ds ≠ [] ∧ ds.length ≤ 10 ∧ At (Bd K dk l 64 G H) [some (.raw (.ref dk)), some (.int (n : Nat)), some (.lst rg), none, some (.raw (.ref p)), none, none, none] [(p, .lst ds)] [] σ' H') (x_ifb (b := decide ((n : Int) = 6)) a4 (eb_test (ed_op (ed_var rfl) ed_int rd_eqI)) (fun _ H5 a5 => ?_) fun _ H5 a5 => x_next ⟨L1, A1, l1', by omega, a5⟩) fun σ5 H5 ⟨L2, A2, l2', l2, a5⟩ => ?_
    · refine x_extend (k := 0) (es := List.replicate 4 (.lst [pr 0 1, pr 1 2, pr 2 3, pr 0 4, pr 4 2, pr 1 5, pr 5 3])) a5 rfl rfl (ed_op (d1 := .lst [.lst [pr 0 1, pr 1 2, pr 2 3, pr 0 4, pr 4 2, pr 1 5, pr 5 3]]) (d2 := .int 4) (ed_lst (ead_cons (ed_lst (ead_cons ed_pr (ead_cons ed_pr (ead_cons ed_pr (ead_cons ed_pr (ead_cons ed_pr (ead_cons ed_pr (ead_cons ed_pr (ea_nil)))))))) (by show 7 ≤ _; decide)) ea_nil) (by show 1 ≤ _; decide)) ed_int (rd_rep (n := 4) (by decide))) (szS (by show _ + 4 ≤ _; omega)) fun H6 a6 => ⟨_, fun d hd => ?_, by simp, by rw [List.length_append]; show _ + 4 ≤ _; omega, a6⟩
      rcases List.mem_append.mp hd with z | z
      · exact A1 d z
      · rw [(List.mem_replicate.mp z).2]; exact fixT _ (by decide) rfl
    have a6 := At.reslot (k := 4) (At.freeze a5) rfl
    -- ties
    refine y_setV (P := TieOk) a6 (ed_d rfl (ead_cons (ed_var rfl) ea_nil) ⟨_, rfl, l2', by omega⟩ (by rintro e ⟨ds', e1, hm⟩; cases e1; exact A2 e hm)) fun d σ7 H7 hd a7 => ?_
    obtain ⟨es, rfl, el, ep⟩ := hd
    refine x_ret a7 (P := fun e => e = plD ((List.range n).map (rowM es)) []) (Ed.is (ed_tup (ead_cons (d := .tup (((List.range n).map (rowM es)).map tS)) (ed_cb (ead_cons (Ed.is (ed_lc0 (n := n) (h := fun k : Nat => tS (rowM es k)) (ei_rng1 (i := (n : Int)) (ead_cons (ed_var rfl) ea_nil) ⟨by omega, by omega⟩) (by decide) (by omega) fun k hk cl => ed_cb (ead_cons (d := .lst ((rowM es k).map .str)) (Ed.is (ed_lc2F (n := min 7 es.length) (f := fun i => .tup [(abcS.map D.str).getD i .non, es.getD i .non]) (x := fun i => .str (abcS.getD i "")) (y := fun i => es.getD i .non) (h := fun i => .str (abcS.getD i "")) (fun i => tieB (es.getD i .non) k) (ei_zipL (ds := abcS.map D.str) (es := es) (ead_cons (ed_lst (ds := abcS.map D.str) (ead_cons ed_str (ead_cons ed_str (ead_cons ed_str (ead_cons ed_str (ead_cons ed_str (ead_cons ed_str (ead_cons ed_str ea_nil))))))) (by show 7 ≤ _; decide)) (ead_cons (ed_var rfl) ea_nil))) (fun i hi => ?_) (by decide) (by decide) (by omega) (fun i hi cl2 => ?_) fun i hi _ cl2 => ed_var rfl) (by unfold rowM; rw [List.map_map]; rfl)) ea_nil) rc_tupL) (by rw [List.map_map]; rfl)) ea_nil) rc_tupL) (ead_cons (ed_tup (ds := []) ea_nil (by decide)) ea_nil)) (by show 2 ≤ _; decide)) rfl) fun v H' d hd a' => hq ⟨_, hd, ⟨by rw [List.length_map, List.length_range]; omega, by rw [List.length_map, List.length_range]; show n + 0 ≤ 7; omega, fun r hr => ?_, fun v hv => by cases hv⟩, by rw [List.length_map, List.length_range]; omega⟩ a'
    · show D.tup [_, _] = _
      rw [getD_mapS D.str "" _ (show i < abcS.length by show i < 7; omega)]
    · have hi' : i < es.length := by omega
      obtain ⟨a, b, e⟩ := ep _ (getD_memS (z := D.non) hi')
      rw [e]
      exact eb_test (ed_op (d2 := tI [a, b]) (ed_var rfl) (ed_var rfl) rd_inI)
    · obtain ⟨k, _, rfl⟩ := List.mem_map.mp hr
      exact rowM_ok es k
end
end Cal


namespace Cal
open PySem PySem.Spec PyProof.Rows L2
section
variable {B : Bs} {ρ : Ro} {μ : Mu} {te : TE} {P : D → Prop}
/-- [.. for .. in range(n)], n told by what is said of it alone -/
theorem ev_lcR {t : TA} {k : Nat} {vs : List Nat} {Pn : Int → Prop} (h : Ea B t ρ μ (fun es => ∃ n : Int, es = [.int n] ∧ Pn n)) (hk : k ∈ vs) (hn : ∀ n, Pn n → 0 ≤ n ∧ n ≤ 1000000) (Pe : D → Prop) (he : ∀ (i : Nat) cl, Ev B te ((wipeR ρ vs).set k (some (.int i))) (cl :: μ) Pe)
    (hP : ∀ (n : Int) (ds : List D), Pn n → (ds.length : Int) = n → (∀ d ∈ ds, Pe d) → P (.lst ds)) : Ev B (tLc (iRng1 t) (gName k) tYes te vs) ρ μ P := Ev.mk fun τ σ H a Q q => h (sv ρ σ ++ τ) σ H a.save _ fun vs' H1 ds hds hl a1 => by
  obtain ⟨n, rfl, hn'⟩ := hds
  obtain ⟨G, g, k1⟩ := a1.args hl
  obtain ⟨v, r, rfl, hv, hr⟩ := k1
  have hr' : r = [] := hr
  subst hr'
  have hv' : v = V.int n := hv
  subst hv'
  obtain ⟨b1, b2⟩ := hn n hn'
  have a2 : At B ρ μ τ σ H1 := At.sub (⟨G, g⟩ : At B ρ μ (sv ρ σ ++ τ) σ H1) fun z hz => List.mem_append_right _ hz
  have e0 : Ea B (fun _ H Q => Q [V.int n] H : TA) ρ μ (fun es => es = [.int n]) := fun τ σ H a Q q => q [V.int n] H [.int n] rfl rfl (At.flat a fun _ => rfl)
  have := (ev_lc0 (te := te) (P := P) (n := n.toNat) (ei_rng1 e0 ⟨by omega, by omega⟩) hk (by omega) (fun _ => Pe) (fun i _ cl => he i cl) fun ds hd1 hd2 => hP n ds hn' (by omega) fun d hd => by
    obtain ⟨i, hi⟩ := List.mem_iff_getElem?.mp hd
    exact hd2 i d hi).go a2 q
  exact this
end
end Cal


namespace Cal
open PySem PySem.Spec PyProof.Rows L2
abbrev s__law_any : Stmt := topS 46
abbrev n__law_any : List Str := ["deck", "deep", "way", "some", "turn"]
theorem sc__law_any : FnScope n__law_any ["deck", "deep"] (defScope s__law_any) := ⟨rfl, rfl, rfl, by decide +kernel, rfl, by decide +kernel, by decide +kernel⟩
/-- a value that may be shown: lists and dicts are allowed -/
structure Tk (n k : Nat) (d : D) : Prop where
  ok : okD d = true
  w : wd d ≤ n
  dp : dep d ≤ k
theorem Tk.mono {n k n' k' : Nat} {d : D} (h : Tk n k d) (a : n ≤ n') (b : k ≤ k') : Tk n' k' d := ⟨h.ok, Nat.le_trans h.w a, Nat.le_trans h.dp b⟩
theorem tkA {n k : Nat} {ds : List D} (h : ∀ d ∈ ds, Tk n k d) : okA ds = true ∧ wdA ds ≤ ds.length * (n + 2) ∧ depA ds ≤ k := by
  refine ⟨okA_all fun d hd => (h d hd).ok, ?_, depA_le fun d hd => (h d hd).dp⟩
  induction ds with
  | nil => exact Nat.zero_le _
  | cons d r ih =>
    have := ih fun e he => h e (List.mem_cons_of_mem _ he)
    have := (h d (List.mem_cons_self ..)).w
    show wd d + 2 + wdA r ≤ (r.length + 1) * (n + 2)
    rw [Nat.add_mul]; omega
theorem tk_all {n k : Nat} {ds : List D} (h : (ds.all fun d => okD d && decide (wd d ≤ n) && decide (dep d ≤ k)) = true) : ∀ d ∈ ds, Tk n k d := fun d hd => by
  have := List.all_eq_true.mp h d hd
  rw [Bool.and_eq_true, Bool.and_eq_true] at this
  exact ⟨this.1.1, of_decide_eq_true this.1.2, of_decide_eq_true this.2⟩
def anyI : List D := [.int 0, .int 1, .int (-1), .int 7, .int (10 ^ 29), .int (-(10 ^ 20)), .int 2, .int 5]
def anyS : List D := [.str "", .str "a", .str "keep", .str "best", .str "x\ny", .str "~"]
def anyB : List D := [.bl true, .bl false, .non]
theorem anyI_tk : ∀ d ∈ anyI, Tk 500 2 d := tk_all (by decide +kernel)
theorem anyS_tk : ∀ d ∈ anyS, Tk 500 2 d := tk_all (by decide +kernel)
theorem anyB_tk : ∀ d ∈ anyB, Tk 500 2 d := tk_all (by decide +kernel)
section
variable {P : Program} {w : World} {K : PySem.W.Frag} {mg : Str → Option Value} {base : Heap} {f : Addr} {fd : FuncData}
abbrev BNy3 : List Str := ["len", "range", "tuple"]
variable (bi : ∀ x, x ∈ BNy3 → mg x = none)
abbrev sp__law_any (n : Nat) (K : PySem.W.Frag) : Sp := dsp K (fun es => ∃ k : Int, es = [.int k] ∧ 0 ≤ k ∧ k < n) (fun es e => ∃ k : Int, es = [.int k] ∧ Tk (500 * 4 ^ k.toNat) (2 * k.toNat + 2) e)
include bi in
theorem any_step {n : Nat} (F : Fun K "_law_any" "_law_any" s__law_any f fd) (c__law_draw : C8.Cal P w K mg base 1 "_law_draw" (sp__law_draw K) []) (c__law_pick : C8.Cal P w K mg base 2 "_law_pick" (sp__law_pick K) []) (c__law_any : C8.Cal P w K mg base (3 + n) "_law_any" (sp__law_any n K) []) :
    FnOk P w K mg base CX0 (3 + (n + 1)) f fd ["deck", "deep"] (sp__law_any (n + 1) K) := by
  refine F.ok sc__law_any (fun vs H Q E h => ?_) (fun cdv A outer s0 H vs Q E hr h => ?_)
  · obtain ⟨dk, l, G, ds, h1, ⟨es, rfl, k, rfl, _⟩, _⟩ := h
    exact h1.length
  · have hr : Room (3 + n) _ := hr
    have hu := hu_of hr
    obtain ⟨dk, l, G, es, ⟨k, rfl, k0, k1⟩, hlen, a, hq⟩ := dsp_start n__law_any h
    refine ⟨_, (pss_cons (ps_asg (C8.pe_c c__law_draw hr (by first | decide | omega) (by rfl) (pa_cons (pv 0) (pa_cons pe_int pa_nil))) (pg_name (i := 2) sc__law_any.nd rfl (by first | exact (.inl rfl) | exact (.inr rfl))))
      (pss_cons (ps_if (pt_cmpR u_lt (pv 2) pe_int (nomark _)) (pss_one (ps_ret (C8.pe_c c__law_pick hr (by first | decide | omega) (by rfl) (pa_cons (pv 0) (pa_cons (pe_lst (pa_cons pe_int (pa_cons pe_int (pa_cons (pe_un u_neg pe_int) (pa_cons pe_int (pa_cons (pe_op op_pow pe_int pe_int) (pa_cons (pe_un u_neg (pe_op op_pow pe_int pe_int)) (pa_cons pe_int (pa_cons pe_int pa_nil))))))))) pa_nil))))) pss_nil)
      (pss_cons (ps_if (pt_cmpR u_lt (pv 2) pe_int (nomark _)) (pss_one (ps_ret (C8.pe_c c__law_pick hr (by first | decide | omega) (by rfl) (pa_cons (pv 0) (pa_cons (pe_lst (pa_cons pe_str (pa_cons pe_str (pa_cons pe_str (pa_cons pe_str (pa_cons pe_str (pa_cons pe_str pa_nil))))))) pa_nil))))) pss_nil)
      (pss_cons (ps_if (pt_cmpR (r := rEqD K) (u_eq hr.units) (pv 2) pe_int (nomark _)) (pss_one (ps_ret (C8.pe_c c__law_pick hr (by first | decide | omega) (by rfl) (pa_cons (pv 0) (pa_cons (pe_lst (pa_cons pe_bl (pa_cons pe_bl (pa_cons pe_non pa_nil)))) pa_nil))))) pss_nil)
      (pss_cons (ps_asg (pe_ifExp (pt_cmpR op_gt (pv 1) pe_int (nomark _)) (pe_lc (own := [("turn", 4)]) (g := gName 4) (tt := tYes) rfl sc__law_any.nd (pi_range1 (by rfl) (bi "range" (by decide +kernel)) (pa_cons (C8.pe_c c__law_draw hr (by first | decide | omega) (by rfl) (pa_cons (pv 0) (pa_cons pe_int pa_nil))) pa_nil)) (blkOk_by (N := n__law_any) (sc := defScope s__law_any) (by decide +kernel)) (fun _ _ _ _ _ => (pg_name (i := 4) sc__law_any.nd rfl (by first | exact (.inl rfl) | exact (.inr rfl)))) (fun _ _ _ _ _ => pts_nil) (fun _ _ _ _ _ => (C8.pe_c c__law_any hr (by first | decide | omega) (by rfl) (pa_cons (pv 0) (pa_cons (pe_op op_sub (pv 1) pe_int) pa_nil))))) (pe_lst pa_nil)) (pg_name (i := 3) sc__law_any.nd rfl (by first | exact (.inl rfl) | exact (.inr rfl))))
      (pss_cons (ps_if (pt_cmpR (r := rEqD K) (u_eq hr.units) (pv 2) pe_int (nomark _)) (pss_one (ps_ret (pv 3))) pss_nil)
      (pss_one (ps_ret (pe_ifExp (pt_cmpR (r := rEqD K) (u_eq hr.units) (pv 2) pe_int (nomark _)) (pe_disp (pps_cons pe_str (pv 3) (pps_cons pe_int (pe_callB (id := "len") (r := rLenU K) u_len (by rfl) (bi "len" (by decide +kernel)) (by decide +kernel) (pa_cons (pv 3) pa_nil)) pps_nil)) (by rfl) (by rfl) (fun z => by cases z) (by decide)) (pe_callTy (T := "tuple") (r := rTupOf K) u_tuple (by rfl) (bi "tuple" (by decide +kernel)) (by decide +kernel) (pa_cons (pv 3) pa_nil))))))))))), ?_⟩
    have hW : 500 ≤ 500 * 4 ^ k.toNat := Nat.le_mul_of_pos_right _ (Nat.pow_pos (by decide))
    have up : ∀ {d : D}, Tk 500 2 d → Tk (500 * 4 ^ k.toNat) (2 * k.toNat + 2) d := fun h => h.mono hW (by omega)
    refine y_setV (P := fun d => ∃ r : Int, d = .int r) a (ed_d rfl (ead_cons ed_int ea_nil) ⟨_, rfl, by decide, by decide⟩ (by rintro e ⟨n, r, e1, rfl, _⟩; exact ⟨r, rfl⟩)) fun d σ1 H1 hd a1 => ?_
    obtain ⟨r, rfl⟩ := hd
    refine y_ifb a1 (eb_test (ed_op (ed_var rfl) ed_int rd_ltI)) (fun _ H2 a2 => ?_) fun _ H2 a2 => ?_
    · exact x_ret a2 (ed_d (P := Tk 500 2) rfl (ead_cons (d := .lst anyI) (ed_lst (ead_cons ed_int (ead_cons ed_int (ead_cons (ed_un ed_int ru_neg) (ead_cons ed_int (ead_cons (ed_op ed_int ed_int (rd_pow ⟨by decide, by decide, by decide⟩)) (ead_cons (ed_un (ed_op ed_int ed_int (rd_pow ⟨by decide, by decide, by decide⟩)) ru_neg) (ead_cons ed_int (ead_cons ed_int ea_nil)))))))) (by decide)) ea_nil) ⟨_, rfl, by unfold anyI; simp, by show 8 ≤ _; decide⟩ (by rintro e ⟨ds', e1, hm⟩; cases e1; exact anyI_tk e hm)) fun v H' e he a' => hq ⟨_, rfl, up he⟩ a'
    refine y_ifb a2 (eb_test (ed_op (ed_var rfl) ed_int rd_ltI)) (fun _ H3 a3 => ?_) fun _ H3 a3 => ?_
    · exact x_ret a3 (ed_d (P := Tk 500 2) rfl (ead_cons (d := .lst anyS) (ed_lst (ead_cons ed_str (ead_cons ed_str (ead_cons ed_str (ead_cons ed_str (ead_cons ed_str (ead_cons ed_str ea_nil)))))) (by decide)) ea_nil) ⟨_, rfl, by unfold anyS; simp, by show 6 ≤ _; decide⟩ (by rintro e ⟨ds', e1, hm⟩; cases e1; exact anyS_tk e hm)) fun v H' e he a' => hq ⟨_, rfl, up he⟩ a'
    refine y_ifb a3 (eb_test (ed_op (ed_var rfl) ed_int rd_eqI)) (fun _ H4 a4 => ?_) fun _ H4 a4 => ?_
    · exact x_ret a4 (ed_d (P := Tk 500 2) rfl (ead_cons (d := .lst anyB) (ed_lst (ead_cons ed_bl (ead_cons ed_bl (ead_cons ed_non ea_nil))) (by decide)) ea_nil) ⟨_, rfl, by unfold anyB; simp, by show 3 ≤ _; decide⟩ (by rintro e ⟨ds', e1, hm⟩; cases e1; exact anyB_tk e hm)) fun v H' e he a' => hq ⟨_, rfl, up he⟩ a'
    refine y_setV (P := fun d => ∃ ds, d = .lst ds ∧ okA ds = true ∧ wdA ds + 465 ≤ 500 * 4 ^ k.toNat ∧ depA ds ≤ 2 * k.toNat ∧ ds.length ≤ 3) a4 (ev_if (Pb := fun c => c = decide (0 < k)) (eb_test (ed_op (ed_var rfl) ed_int rd_gt)) (fun hk => ?_) fun hk => ?_) fun d σ5 H5 hd a5 => ?_
    · have hk : 0 < k := of_decide_eq_true hk.symm
      have e4 : 500 * 4 ^ k.toNat = 4 * (500 * 4 ^ (k - 1).toNat) := by
        rw [show k.toNat = (k - 1).toNat + 1 by omega, Nat.pow_succ]; omega
      have hW' : 500 ≤ 500 * 4 ^ (k - 1).toNat := Nat.le_mul_of_pos_right _ (Nat.pow_pos (by decide))
      refine ev_lcR (Pn := fun n => 0 ≤ n ∧ n < 4) (ea1P (ed_d (P := fun d => ∃ r : Int, d = .int r ∧ 0 ≤ r ∧ r < 4) rfl (ead_cons ed_int ea_nil) ⟨_, rfl, by decide, by decide⟩ (by rintro e ⟨n, r, e1, rfl, g1, g2⟩; cases e1; exact ⟨r, rfl, g1, g2⟩)) |>.imp fun ds ⟨d, e, r, e1, h⟩ => ⟨r, by rw [e, e1], h⟩) (by decide) (fun n h => ⟨h.1, by omega⟩) (Tk (500 * 4 ^ (k - 1).toNat) (2 * (k - 1).toNat + 2)) (fun i cl => ed_d rfl (ead_cons (ed_op (ed_var rfl) ed_int rd_sub) ea_nil) ⟨_, rfl, by omega, by omega⟩ (by rintro e ⟨k', e1, h⟩; cases e1; exact h)) fun n ds hn hl hd => ?_
      obtain ⟨h1, h2, h3⟩ := tkA hd
      have hl3 : ds.length ≤ 3 := by omega
      have := Nat.mul_le_mul_right (500 * 4 ^ (k - 1).toNat + 2) hl3
      exact ⟨ds, rfl, h1, by omega, by omega, hl3⟩
    · exact (ed_lst (ds := []) ea_nil (by decide)).imp fun d e => ⟨[], e, rfl, by show 0 + 465 ≤ _; omega, Nat.zero_le _, Nat.zero_le _⟩
    obtain ⟨ds, rfl, h1, h2, h3, h4⟩ := hd
    refine y_ifb a5 (eb_test (ed_op (ed_var rfl) ed_int rd_eqI)) (fun _ H6 a6 => ?_) fun _ H6 a6 => ?_
    · exact x_ret a6 (ed_var rfl) fun v H' e he a' => hq ⟨_, rfl, by rw [he]; exact ⟨h1, by show wdA ds + 3 ≤ _; omega, by show depA ds + 1 ≤ _; omega⟩⟩ a'
    · refine x_ret a6 (P := fun e => Tk (500 * 4 ^ k.toNat) (2 * k.toNat + 2) e) (ev_if (Pb := fun _ => True) ((eb_test (ed_op (ed_var rfl) ed_int rd_eqI)).imp fun _ _ => True.intro) (fun _ => ?_) fun _ => ?_) fun v H' e he a' => hq ⟨_, rfl, he⟩ a'
      · refine Ev.imp (P := fun e => e = D.dk [(.inr "key", .lst ds), (.inl 1, .int (ds.length : Nat))]) (ed_disp (kds := [(.inr "key", .lst ds), (.inl 1, .int (ds.length : Nat))]) (fun q => ?_) ?_ ?_) fun e he => ?_
        · exact ⟨rfl, ed_var rfl, rfl, ed_lenL (ed_var rfl), True.intro⟩
        · show [(Sum.inr "key" : Key), .inl 1].Nodup
          decide +kernel
        · show 2 ≤ 15; decide
        rw [he]
        refine ⟨?_, ?_, ?_⟩
        · show (okKey (.inr "key") && okA ds && (okKey (.inl 1) && decide (((ds.length : Nat) : Int).natAbs < 2 ^ 200) && true)) = true
          rw [h1, decide_eq_true (Nat.lt_of_le_of_lt (show (((ds.length : Nat) : Int)).natAbs ≤ 3 by omega) (by decide)), show okKey (.inr "key") = true by decide +kernel, show okKey (.inl 1) = true by decide +kernel]; rfl
        · show (32 + (wdA ds + 3) + 4 + (210 + 210 + 4 + 0)) + 2 ≤ _
          omega
        · show max (depA ds + 1) (max 0 0) + 1 ≤ _
          omega
      · refine (ed_tupL (ed_var rfl)).imp fun e he => ?_
        rw [he]
        exact ⟨h1, by show wdA ds + 3 ≤ _; omega, by show depA ds + 1 ≤ _; omega⟩
theorem ok__law_any (bi : ∀ x, x ∈ BNy3 → mg x = none) (F : Fun K "_law_any" "_law_any" s__law_any f fd) (hm : mg "_law_any" = some (.ref f)) (hb : Binds K fd ["deck", "deep"] []) (c__law_draw : C8.Cal P w K mg base 1 "_law_draw" (sp__law_draw K) []) (c__law_pick : C8.Cal P w K mg base 2 "_law_pick" (sp__law_pick K) []) : ∀ n, FnOk P w K mg base CX0 (3 + n) f fd ["deck", "deep"] (sp__law_any n K)
  | 0 => ⟨fun vs H Q E h => (by obtain ⟨dk, l, G, ds, h1, ⟨es, rfl, k, rfl, z1, z⟩, _⟩ := h; omega), fun A outer s H args us vs Q E hr e0 hb hv h => (by obtain ⟨dk, l, G, ds, h1, ⟨es, rfl, k, rfl, z1, z⟩, _⟩ := h; omega)⟩
  | n + 1 => any_step bi F c__law_draw c__law_pick ⟨f, fd, _, [], ok__law_any bi F hm hb c__law_draw c__law_pick n, hm, F.kp, hb, .nil⟩
end
end Cal


namespace Cal
open PySem PySem.Spec PyProof.Rows L2
abbrev s__law_instead : Stmt := topS 47
abbrev n__law_instead : List Str := ["some", "at", "item"]
theorem sc__law_instead : FnScope n__law_instead ["some", "at", "item"] (defScope s__law_instead) := ⟨rfl, rfl, rfl, by decide +kernel, rfl, by decide +kernel, by decide +kernel⟩
abbrev s__law_bent : Stmt := topS 48
abbrev n__law_bent : List Str := ["deck", "thing", "deep", "way", "at"]
theorem sc__law_bent : FnScope n__law_bent ["deck", "thing", "deep"] (defScope s__law_bent) := ⟨rfl, rfl, rfl, by decide +kernel, rfl, by decide +kernel, by decide +kernel⟩
theorem Tk.th {n k : Nat} {d : D} (h : Th n k d) : Tk n k d := ⟨h.ok, h.w, h.dp⟩
theorem pt_tk {d : D} (h : ptD d = true) {n k : Nat} (hw : wd d ≤ n) (hd : dep d ≤ k) : Tk n k d := ⟨(cl_iff.mp (pt_cl h)).1, hw, hd⟩
theorem tk_tup {n k : Nat} {ds : List D} (h : ∀ d ∈ ds, okD d = true) (hw : wdA ds + 3 ≤ n) (hd : depA ds + 1 ≤ k) : Tk n k (.tup ds) := ⟨by show okA ds = true; exact okA_all h, hw, hd⟩
theorem tk_lst {n k : Nat} {ds : List D} (h : ∀ d ∈ ds, okD d = true) (hw : wdA ds + 3 ≤ n) (hd : depA ds + 1 ≤ k) : Tk n k (.lst ds) := ⟨by show okA ds = true; exact okA_all h, hw, hd⟩
def leafN (i : Int) : List D := [.int 0, .int (-i), .int (i - 1), .int (i + 1), .bl (i != 0), .str (toString i), .tup [.int i], .lst [.int i], .non, .int (i + 4)]
theorem leafN_tk {i : Int} (h : ptD (.int i) = true) : ∀ d ∈ leafN i, Tk 300 1 d := fun d hd => by
  have hb := pt_int h
  have hi : ∀ j : Int, j.natAbs < 2000 → Tk 300 1 (.int j) := fun j hj => .th (.clean (cl_int (Nat.lt_of_lt_of_le hj (by decide))) (by show 210 ≤ 300; decide) (Nat.zero_le _))
  have hs : Tk 300 1 (.str (toString i)) := .th (intS_th (by omega) (by decide))
  have h1 : okD (.int i) = true := (hi i (by omega)).ok
  have ht : ∀ d ∈ [D.int i], okD d = true := fun d z => by rw [List.mem_singleton.mp z]; exact h1
  have t1 : Tk 300 1 (.tup [.int i]) := tk_tup ht (by show 210 + 2 + 0 + 3 ≤ 300; decide) (by show max 0 0 + 1 ≤ 1; decide)
  have t2 : Tk 300 1 (.lst [.int i]) := tk_lst ht (by show 210 + 2 + 0 + 3 ≤ 300; decide) (by show max 0 0 + 1 ≤ 1; decide)
  have tb : ∀ b : Bool, Tk 300 1 (.bl b) := fun b => ⟨rfl, by show 5 ≤ 300; decide, Nat.zero_le _⟩
  have tn : Tk 300 1 .non := ⟨rfl, by show 5 ≤ 300; decide, Nat.zero_le _⟩
  unfold leafN at hd
  simp only [List.mem_cons, List.not_mem_nil, or_false] at hd
  rcases hd with rfl | rfl | rfl | rfl | rfl | rfl | rfl | rfl | rfl | rfl
  · exact hi _ (by decide)
  · exact hi _ (by omega)
  · exact hi _ (by omega)
  · exact hi _ (by omega)
  · exact tb _
  · exact hs
  · exact t1
  · exact t2
  · exact tn
  · exact hi _ (by omega)
def odd6 : List D := [.tup [], .int 0, .int 1, .tup [.int 0], .non, .bl true]
theorem odd6_tk : ∀ d ∈ odd6, Tk 300 1 d := tk_all (by decide +kernel)
/-- one part put by another -/
theorem tk_put {ds : List D} {i m j : Nat} {e : D} {n k : Nat} (h : i < ds.length) (hc : ∀ d ∈ ds, okD d = true) (he : Tk m j e) (hw : 3 + wdA ds + m ≤ n + wd (ds.getD i .non)) (hk : max (depA ds) j + 1 ≤ k) : Tk n k (.tup (ds.set i e)) := by
  have e0 : ds.set i e = ds.take i ++ ([e] ++ ds.drop (i + 1)) := by rw [List.set_eq_take_append_cons_drop, if_pos h]; rfl
  have hs : ds = ds.take i ++ ([ds.getD i .non] ++ ds.drop (i + 1)) := by
    have e1 := List.getElem_cons_drop h
    have e2 : ds.getD i .non = ds[i] := by rw [List.getD_eq_getElem?_getD, List.getElem?_eq_getElem h]; rfl
    rw [e2, List.singleton_append, e1, List.take_append_drop]
  have h1 : wdA ds = wdA (ds.take i) + ((wd (ds.getD i .non) + 2 + 0) + wdA (ds.drop (i + 1))) := by
    conv => lhs; rw [hs]
    rw [wdA_app, wdA_app]
    rfl
  have h2 := depA_sub (as := ds.take i) (bs := ds) fun d z => (List.take_sublist i ds).subset z
  have h3 := depA_sub (as := ds.drop (i + 1)) (bs := ds) fun d z => (List.drop_sublist (i + 1) ds).subset z
  rw [e0]
  refine tk_tup (fun d z => ?_) ?_ ?_
  · rcases List.mem_append.mp z with z | z
    · exact hc d ((List.take_sublist i ds).subset z)
    · rcases List.mem_append.mp z with z | z
      · rw [List.mem_singleton.mp z]; exact he.ok
      · exact hc d ((List.drop_sublist (i + 1) ds).subset z)
  · have := he.w
    rw [wdA_app, wdA_app]
    show wdA (ds.take i) + ((wd e + 2 + 0) + wdA (ds.drop (i + 1))) + 3 ≤ n
    omega
  · have := he.dp
    rw [depA_app, depA_app]
    show max (depA (ds.take i)) (max (max (dep e) 0) (depA (ds.drop (i + 1)))) + 1 ≤ k
    omega
theorem et_drE {K : PySem.W.Frag} {dk l : Addr} {G0 H0 : Hp} {ρ : Ro} {μ : Mu} {E : XK} {j : Nat} {m c : Int} (hm : 1 ≤ m ∧ m ≤ 1000000) (hj : ρ[j]? = some (some (.raw (.ref dk)))) :
    Et (Bd K dk l 64 G0 H0) (tTest (tOp (rEqD K) (tCall (sp__law_draw K) [] E (tCons (tVar j) (tCons (tC (.int m)) tNil))) (tC (.int c)))) ρ μ (fun _ => True) :=
  et_test (P := fun d => ∃ b, d = .bl b) (ev_op (P1 := isIntD) (P2 := fun d => d = .int c) (ed_d hj (ead_cons ed_int ea_nil) ⟨_, rfl, hm.1, hm.2⟩ (by rintro e ⟨n, r, e1, rfl, _⟩; exact ⟨_, rfl⟩)) ed_int fun d1 d2 ⟨i, e1⟩ e2 => by
    subst e1; subst e2
    exact rd_eqI.imp fun d hd => ⟨_, hd⟩) fun d ⟨b, e⟩ => ⟨b, e, True.intro⟩
theorem et_drG {K : PySem.W.Frag} {dk l : Addr} {G0 H0 : Hp} {ρ : Ro} {μ : Mu} {E : XK} {j : Nat} {m : Int} (hm : 1 ≤ m ∧ m ≤ 1000000) (hj : ρ[j]? = some (some (.raw (.ref dk)))) :
    Et (Bd K dk l 64 G0 H0) (tTest (tOp (rI0 fun i j => .bl (decide (j < i))) (tCall (sp__law_draw K) [] E (tCons (tVar j) (tCons (tC (.int m)) tNil))) (tC (.int 0)))) ρ μ (fun _ => True) :=
  et_test (P := fun d => ∃ b, d = .bl b) (ev_op (P1 := isIntD) (P2 := fun d => d = .int 0) (ed_d hj (ead_cons ed_int ea_nil) ⟨_, rfl, hm.1, hm.2⟩ (by rintro e ⟨n, r, e1, rfl, _⟩; exact ⟨_, rfl⟩)) ed_int fun d1 d2 ⟨i, e1⟩ e2 => by
    subst e1; subst e2
    exact fun τ σ H x y a Q q => rd_gt τ σ H x y a Q fun v H' d hd a' => q v H' d ⟨_, hd⟩ a') fun d ⟨b, e⟩ => ⟨b, e, True.intro⟩
theorem rc_boolI {B : Bs} {ρ : Ro} {μ : Mu} {i : Int} : RC B (fun xs H Q => (∃ i, xs = [.int i] ∧ Q (.bl (i != 0)) H) ∨ ∃ k, xs = [.bl k] ∧ Q (.bl k) H) ρ μ [.int i] (fun e => e = .bl (i != 0)) := rc_flat (fun _ => rfl) fun G H xs s k Q q => by
  obtain ⟨v, rfl, hv⟩ := one_arg k
  exact .inl ⟨i, by rw [show v = V.int i from hv], q⟩
theorem szN {n : Nat} (h : n ≤ 1000000) : n ≤ sizeLine := Nat.le_trans h (by decide)
theorem pt_tup {ds : List D} (h : ptD (.tup ds) = true) : ∀ d ∈ ds, ptD d = true := ptA_mem (by simpa only [ptD] using h)
theorem pt_sm {d : D} (h : ptD d = true) (hw : wd d ≤ 100000) : Sm d := sm_of (cl_iff.mp (pt_cl h)).1 (Nat.le_trans hw (by decide))
theorem pt_isInt {d : D} (h : isInt d = true) : ∃ i, d = .int i := by cases d <;> first | exact ⟨_, rfl⟩ | cases h
section
variable {P : Program} {w : World} {K : PySem.W.Frag} {mg : Str → Option Value} {base : Heap} {f : Addr} {fd : FuncData}
abbrev BNx3 : List Str := ["bool", "isinstance", "len", "list", "str", "tuple"]
variable (bi : ∀ x, x ∈ BNx3 → mg x = none)
abbrev sp__law_instead (K : PySem.W.Frag) : Sp := psp K (fun ds => ∃ (xs : List D) (i : Nat) (d : D), ds = [.tup xs, .int i, d] ∧ i < xs.length ∧ xs.length ≤ 100000) (fun ds e => ∃ (xs : List D) (i : Nat) (d : D), ds = [.tup xs, .int i, d] ∧ e = .tup (xs.set i d))
include bi in
theorem ok__law_instead (F : Fun K "_law_instead" "_law_instead" s__law_instead f fd) : FnOk P w K mg base CX0 1 f fd ["some", "at", "item"] (sp__law_instead K) := by
  refine F.ok sc__law_instead (fun vs H Q E h => ?_) (fun cdv A outer s0 H vs Q E hr h => ?_)
  · obtain ⟨G, ds, h1, ⟨xs, i, d, rfl, _⟩, _⟩ := h
    exact h1.length
  · have hu := hu_of hr
    obtain ⟨G, ds, ⟨xs, i, d, rfl, hi, hx⟩, hlen, a, hq⟩ := fsp_start locT n__law_instead h
    refine ⟨_, (pss_one (ps_ret (pe_op (r := rAddU K) u_add (pe_op (r := rAddU K) u_add (pe_slice (r := rSlU K) u_sl (pv 0) po_none (po_some (pv 1))) (pe_tup (pa_cons (pv 2) pa_nil))) (pe_slice (r := rSlU K) u_sl (pv 0) (po_some (pe_op (r := rAddU K) u_add (pv 1) pe_int)) po_none)))), ?_⟩
    refine x_ret a (Ed.is (ed_op (d1 := .tup (xs.take i ++ [d])) (d2 := .tup (xs.drop (i + 1))) (ed_op (d1 := .tup (xs.take i)) (d2 := .tup [d]) (Ed.is (ed_slT (ed_var rfl) eo_none (eo_some (ed_var rfl))) (by rw [cutD_take xs (by omega)]; rfl)) (ed_tup (ead_cons (ed_var rfl) ea_nil) (by show 1 ≤ _; decide)) (rd_addT (szN (by rw [List.length_take]; show _ + 1 ≤ _; omega)))) (Ed.is (ed_slT (ed_var rfl) (eo_some (ed_op (ed_var rfl) ed_int rd_addI)) eo_none) (by rw [cutD_drop xs (by omega)]; rfl)) (rd_addT (szN (by rw [List.length_append, List.length_take, List.length_drop]; show _ + 1 + _ ≤ _; omega)))) (by rw [set_cutS hi])) fun v H' d' hd a' => hq ⟨xs, i, d, rfl, hd⟩ a'
abbrev sp__law_bent (n : Nat) (K : PySem.W.Frag) : Sp := dsp K (fun es => ∃ (d : D) (k : Int), es = [d, .int k] ∧ ptD d = true ∧ wd d ≤ 100000 ∧ dep d ≤ 60 ∧ 0 ≤ k ∧ k < n) (fun es e => ∃ (d : D) (k : Int), es = [d, .int k] ∧ Tk (2 * wd d + 9000) (dep d + 8) e)
include bi in
theorem bent_step {n : Nat} (F : Fun K "_law_bent" "_law_bent" s__law_bent f fd) (c__law_draw : C8.Cal P w K mg base 1 "_law_draw" (sp__law_draw K) []) (c__law_pick : C8.Cal P w K mg base 2 "_law_pick" (sp__law_pick K) []) (c__law_is_integer : C8.Cal P w K mg base 1 "_law_is_integer" (sp_is_integer K) []) (c__law_any : C8.Cal P w K mg base 6 "_law_any" (sp__law_any 3 K) []) (c__law_instead : C8.Cal P w K mg base 1 "_law_instead" (sp__law_instead K) []) (c__law_bent : C8.Cal P w K mg base (7 + n) "_law_bent" (sp__law_bent n K) []) :
    FnOk P w K mg base CX0 (7 + (n + 1)) f fd ["deck", "thing", "deep"] (sp__law_bent (n + 1) K) := by
  refine F.ok sc__law_bent (fun vs H Q E h => ?_) (fun cdv A outer s0 H vs Q E hr h => ?_)
  · obtain ⟨dk, l, G, ds, h1, ⟨es, rfl, d, k, rfl, _⟩, _⟩ := h
    exact h1.length
  · have hr : Room (7 + n) _ := hr
    have hu := hu_of hr
    obtain ⟨dk, l, G, es, ⟨d, k, rfl, hp, hw, hd6, k0, k1⟩, hlen, a, hq⟩ := dsp_start n__law_bent h
    refine ⟨_, (pss_cons (ps_if (PW.pt (pw_or (pt_not (pt_val (pe_callB (id := "isinstance") (r := rIsi K) call_isi (by rfl) (bi "isinstance" (by decide +kernel)) (by decide +kernel) (pa_cons (pv 1) (pa_cons (pe_bltn (v := .ty "tuple") (u := .type "tuple") (by rfl) (bi "tuple" (by decide +kernel)) (by decide +kernel) rfl) pa_nil))))) (pw_or (pt_cmpR (r := rEqD K) (u_eq hr.units) (pv 1) (pe_tup pa_nil) (nomark _)) (pw_or (pt_cmpR (r := rEqD K) (u_eq hr.units) (pv 2) pe_int (nomark _)) (pw_or1 (pt_cmpR (r := rEqD K) (u_eq hr.units) (C8.pe_c c__law_draw hr (by first | decide | omega) (by rfl) (pa_cons (pv 0) (pa_cons pe_int pa_nil))) pe_int (nomark _))))))) (pss_cons (ps_asg (C8.pe_c c__law_draw hr (by first | decide | omega) (by rfl) (pa_cons (pv 0) (pa_cons pe_int pa_nil))) (pg_name (i := 3) sc__law_bent.nd rfl (by first | exact (.inl rfl) | exact (.inr rfl))))
      (pss_cons (ps_if (pt_val (C8.pe_c c__law_is_integer hr (by first | decide | omega) (by rfl) (pa_cons (pv 1) pa_nil))) (pss_one (ps_ret (C8.pe_c c__law_pick hr (by first | decide | omega) (by rfl) (pa_cons (pv 0) (pa_cons (pe_lst (pa_cons pe_int (pa_cons (pe_un u_neg (pv 1)) (pa_cons (pe_op op_sub (pv 1) pe_int) (pa_cons (pe_op (r := rAddU K) u_add (pv 1) pe_int) (pa_cons (pe_callTy (T := "bool") call_bool1 (by rfl) (bi "bool" (by decide +kernel)) (by decide +kernel) (pa_cons (pv 1) pa_nil)) (pa_cons (pe_callTy (T := "str") call_str_int (by rfl) (bi "str" (by decide +kernel)) (by decide +kernel) (pa_cons (pv 1) pa_nil)) (pa_cons (pe_tup (pa_cons (pv 1) pa_nil)) (pa_cons (pe_lst (pa_cons (pv 1) pa_nil)) (pa_cons pe_non (pa_cons (pe_op (r := rAddU K) u_add (pv 1) pe_int) pa_nil))))))))))) pa_nil))))) pss_nil)
      (pss_cons (ps_if (PW.pt (pw_or (pt_cmpR (r := rEqD K) (u_eq hr.units) (pv 3) pe_int (nomark _)) (pw_or1 (pt_not (pt_val (pe_callB (id := "isinstance") (r := rIsi K) call_isi (by rfl) (bi "isinstance" (by decide +kernel)) (by decide +kernel) (pa_cons (pv 1) (pa_cons (pe_bltn (v := .ty "tuple") (u := .type "tuple") (by rfl) (bi "tuple" (by decide +kernel)) (by decide +kernel) rfl) pa_nil)))))))) (pss_one (ps_ret (C8.pe_c c__law_any hr (by first | decide | omega) (by rfl) (pa_cons (pv 0) (pa_cons pe_int pa_nil))))) pss_nil)
      (pss_cons (ps_if (pt_cmpR u_lt (pv 3) pe_int (nomark _)) (pss_one (ps_ret (pe_callTy (T := "list") (r := rLstOf K) (u_list rfl) (by rfl) (bi "list" (by decide +kernel)) (by decide +kernel) (pa_cons (pv 1) pa_nil)))) pss_nil)
      (pss_cons (ps_if (pt_cmpR u_lt (pv 3) pe_int (nomark _)) (pss_one (ps_ret (pe_op (r := rAddU K) u_add (pv 1) (pe_tup (pa_cons (C8.pe_c c__law_pick hr (by first | decide | omega) (by rfl) (pa_cons (pv 0) (pa_cons (pe_lst (pa_cons (pe_tup pa_nil) (pa_cons pe_int (pa_cons pe_int (pa_cons (pe_tup (pa_cons pe_int pa_nil)) (pa_cons pe_non (pa_cons pe_bl pa_nil))))))) pa_nil))) pa_nil))))) pss_nil)
      (pss_cons (ps_if (pt_cmpR u_lt (pv 3) pe_int (nomark _)) (pss_one (ps_ret (pe_revT (pv 1)))) pss_nil)
      (pss_cons (ps_if (pt_cmpR u_lt (pv 3) pe_int (nomark _)) (pss_one (ps_ret (pe_op (r := rAddU K) u_add (pv 1) (pe_slice (r := rSlU K) u_sl (pv 1) po_none (po_some pe_int))))) pss_nil)
      (pss_one (ps_ret (pe_ifExp (pt_cmpR u_lt (pv 3) pe_int (nomark _)) (pe_slice (r := rSlU K) u_sl (pv 1) (po_some pe_int) po_none) (pe_tup (pa_cons (pv 1) pa_nil)))))))))))) pss_nil)
      (pss_cons (ps_asg (C8.pe_c c__law_draw hr (by first | decide | omega) (by rfl) (pa_cons (pv 0) (pa_cons (pe_callB (id := "len") (r := rLenU K) u_len (by rfl) (bi "len" (by decide +kernel)) (by decide +kernel) (pa_cons (pv 1) pa_nil)) pa_nil))) (pg_name (i := 4) sc__law_bent.nd rfl (by first | exact (.inl rfl) | exact (.inr rfl))))
      (pss_one (ps_ret (C8.pe_c c__law_instead hr (by first | decide | omega) (by rfl) (pa_cons (pv 1) (pa_cons (pv 4) (pa_cons (C8.pe_c c__law_bent hr (by first | decide | omega) (by rfl) (pa_cons (pv 0) (pa_cons (pe_ix (r := rIx K) ix_seq (pv 1) (pv 4) (fun _ _ => rfl)) (pa_cons (pe_op op_sub (pv 2) pe_int) pa_nil)))) pa_nil)))))))), ?_⟩
    have hsm := pt_sm hp hw
    have up : ∀ {e : D} {n' m' : Nat}, Tk n' m' e → n' ≤ 2 * wd d + 9000 → m' ≤ dep d + 8 → ∃ (d' : D) (k' : Int), [d, D.int k] = [d', .int k'] ∧ Tk (2 * wd d' + 9000) (dep d' + 8) e := fun h h1 h2 => ⟨d, k, rfl, h.mono h1 h2⟩
    refine y_if (Pb := fun c => c = false → isT d = true ∧ eqD d (.tup []) = false ∧ k ≠ 0) a (et_or (Pa := fun c => c = !isT d) (eb_not (eb_B (ed_isiT (ed_var rfl) (pt_ty hp)))) (fun e1 => et_or (Pa := fun c => c = eqD d (.tup [])) (eb_test (ed_op (ed_var rfl) (ed_tup (ds := []) ea_nil (by decide)) (rd_eqD (pt_plain d hp) rfl (by omega) (by decide)))) (fun e2 => et_or (Pa := fun c => c = decide (k = 0)) (eb_test (ed_op (ed_var rfl) ed_int rd_eqI)) (fun e3 => (et_drE (m := 5) ⟨by decide, by decide⟩ rfl).imp fun c _ _ => ⟨by simpa using e1.symm, e2.symm, by simpa using e3.symm⟩) fun _ z => by cases z) fun _ z => by cases z) fun _ z => by cases z) (fun _ H1 a1 => ?_) fun hb H1 a1 => ?_
    · refine y_setV (P := fun d => ∃ r : Int, d = .int r) a1 (ed_d rfl (ead_cons ed_int ea_nil) ⟨_, rfl, by decide, by decide⟩ (by rintro e ⟨n, r, e1, rfl, _⟩; exact ⟨r, rfl⟩)) fun d2 σ2 H2 hd2 a2 => ?_
      obtain ⟨r, rfl⟩ := hd2
      refine y_ifb (b := isInt d) a2 (eb_B (ed_p (ead_cons (ed_var rfl) ea_nil) ⟨_, rfl, hsm⟩ (by
        rintro e ⟨d', e1, rfl⟩
        injection e1 with e1 _
        rw [e1]))) (fun hi H3 a3 => ?_) fun hi H3 a3 => ?_
      · obtain ⟨i, rfl⟩ := pt_isInt hi
        have hb := pt_int hp
        exact x_ret a3 (ed_d (P := Tk 300 1) rfl (ead_cons (d := .lst (leafN i)) (ed_lst (ead_cons ed_int (ead_cons (ed_un (ed_var rfl) ru_neg) (ead_cons (ed_op (ed_var rfl) ed_int rd_sub) (ead_cons (ed_op (ed_var rfl) ed_int rd_addI) (ead_cons (ed_cb (ead_cons (ed_var rfl) ea_nil) rc_boolI) (ead_cons (ed_cb (ead_cons (ed_var rfl) ea_nil) (rc_strI (by omega))) (ead_cons (ed_tup (ead_cons (ed_var rfl) ea_nil) (by show 1 ≤ _; decide)) (ead_cons (ed_lst (ead_cons (ed_var rfl) ea_nil) (by show 1 ≤ _; decide)) (ead_cons ed_non (ead_cons (ed_op (ed_var rfl) ed_int rd_addI) ea_nil)))))))))) (by show 10 ≤ _; decide)) ea_nil) ⟨_, rfl, by unfold leafN; simp, by show 10 ≤ _; decide⟩ (by rintro e ⟨ds', e1, hm⟩; cases e1; exact leafN_tk hp e hm)) fun v H' e he a' => hq (up he (by omega) (by omega)) a'
      refine y_ifb (b := decide (r = 0) || !isT d) a3 (eb_or (eb_test (ed_op (ed_var rfl) ed_int rd_eqI)) fun _ => eb_not (eb_B (ed_isiT (ed_var rfl) (pt_ty hp)))) (fun _ H4 a4 => ?_) fun hT H4 a4 => ?_
      · exact x_ret a4 (ed_d (P := Tk 8000 6) rfl (ead_cons ed_int ea_nil) ⟨_, rfl, by decide, by decide⟩ (by rintro e ⟨k', e1, h⟩; cases e1; exact h)) fun v H' e he a' => hq (up he (by omega) (by omega)) a'
      rw [Bool.or_eq_false_iff, Bool.not_eq_false'] at hT
      obtain ⟨ds, rfl⟩ := isT_eq hT.2
      have hc : ∀ d ∈ ds, okD d = true := fun d hd => (cl_iff.mp (pt_cl (pt_tup hp d hd))).1
      have hw' : wdA ds + 3 ≤ 100000 := hw
      have e1 : wd (.tup ds) = wdA ds + 3 := rfl
      have e2 : dep (.tup ds) = depA ds + 1 := rfl
      have hl := wdA_len ds
      have cu : ∀ lo hi, wdA (cutD ds lo hi) ≤ wdA ds ∧ depA (cutD ds lo hi) ≤ depA ds ∧ (cutD ds lo hi).length ≤ ds.length ∧ ∀ d ∈ cutD ds lo hi, okD d = true := fun lo hi => ⟨wdA_sub (cutD_sub ds lo hi), depA_sub fun d z => (cutD_sub ds lo hi).subset z, (cutD_sub ds lo hi).length_le, fun d z => hc d ((cutD_sub ds lo hi).subset z)⟩
      refine y_ifb a4 (eb_test (ed_op (ed_var rfl) ed_int rd_ltI)) (fun _ H5 a5 => ?_) fun _ H5 a5 => ?_
      · exact x_ret a5 (ed_lstT (ed_var rfl)) fun v H' e he a' => hq (up (n' := wdA ds + 3) (m' := depA ds + 1) (by rw [he]; exact tk_lst hc (Nat.le_refl _) (Nat.le_refl _)) (by omega) (by omega)) a'
      refine y_ifb a5 (eb_test (ed_op (ed_var rfl) ed_int rd_ltI)) (fun _ H6 a6 => ?_) fun _ H6 a6 => ?_
      · refine x_ret a6 (ev_op (P := fun e => ∃ b, e = .tup (ds ++ [b]) ∧ Tk 300 1 b) (P1 := fun e => e = .tup ds) (P2 := fun e => ∃ b, e = .tup [b] ∧ Tk 300 1 b) (ed_var rfl) (ev_tup (ea1P (ed_d (P := Tk 300 1) rfl (ead_cons (d := .lst odd6) (ed_lst (ead_cons (ed_tup ea_nil (by decide)) (ead_cons ed_int (ead_cons ed_int (ead_cons (ed_tup (ead_cons ed_int ea_nil) (by decide)) (ead_cons ed_non (ead_cons ed_bl ea_nil)))))) (by decide)) ea_nil) ⟨_, rfl, by unfold odd6; simp, by show 6 ≤ _; decide⟩ (by rintro e ⟨ds', e1, hm⟩; cases e1; exact odd6_tk e hm))) fun ds ⟨b, e, hb⟩ => ⟨by rw [e]; show 1 ≤ sizeLine; decide, b, by rw [e], hb⟩) fun d1 d2 f1 ⟨b, f2, hb⟩ => ?_) fun v H' e ⟨b, he, hb⟩ a' => hq (up (n' := wdA ds + 306) (m' := max (depA ds) 1 + 1) ?_ (by omega) (by omega)) a'
        · rw [f1, f2]
          exact (rd_addT (szN (by show ds.length + 1 ≤ _; omega))).imp fun e he => ⟨b, he, hb⟩
        · rw [he]
          have := hb.w
          have := hb.dp
          refine tk_tup (fun d z => (List.mem_append.mp z).elim (hc d) fun z => by rw [List.mem_singleton.mp z]; exact hb.ok) ?_ ?_
          · rw [wdA_app]; show wdA ds + (wd b + 2 + 0) + 3 ≤ _; omega
          · rw [depA_app]; show max (depA ds) (max (dep b) 0) + 1 ≤ _; omega
      refine y_ifb a6 (eb_test (ed_op (ed_var rfl) ed_int rd_ltI)) (fun _ H7 a7 => ?_) fun _ H7 a7 => ?_
      · exact x_ret a7 (ed_rev (ed_var rfl)) fun v H' e he a' => hq (up (n' := wdA ds + 3) (m' := depA ds + 1) (by rw [he]; exact tk_tup (fun d z => hc d (List.mem_reverse.mp z)) (by rw [wdA_perm (List.reverse_perm ds)]; omega) (by have := depA_sub (as := ds.reverse) (bs := ds) fun d z => List.mem_reverse.mp z; omega)) (by omega) (by omega)) a'
      refine y_ifb a7 (eb_test (ed_op (ed_var rfl) ed_int rd_ltI)) (fun _ H8 a8 => ?_) fun _ H8 a8 => ?_
      · exact x_ret a8 (ed_op (ed_var rfl) (ed_slT (ed_var rfl) eo_none (eo_some ed_int)) (rd_addT (szN (by have := (cu none (some 1)).2.2.1; omega)))) fun v H' e he a' => hq (up (n' := 2 * wdA ds + 3) (m' := depA ds + 1) (by
          rw [he]
          obtain ⟨c1, c2, _, c4⟩ := cu none (some 1)
          exact tk_tup (fun d z => (List.mem_append.mp z).elim (hc d) (c4 d)) (by rw [wdA_app]; omega) (by rw [depA_app]; omega)) (by omega) (by omega)) a'
      refine x_ret a8 (P := Tk (wdA ds + 10) (depA ds + 2)) (ev_if (Pb := fun _ => True) ((eb_test (ed_op (ed_var rfl) ed_int rd_ltI)).imp fun _ _ => True.intro) (fun _ => ?_) fun _ => ?_) fun v H' e he a' => hq (up he (by omega) (by omega)) a'
      · refine (ed_slT (ed_var rfl) (eo_some ed_int) eo_none).imp fun e he => ?_
        rw [he]
        obtain ⟨c1, c2, _, c4⟩ := cu (some 1) none
        exact tk_tup c4 (by omega) (by omega)
      · refine (ed_tup (ead_cons (ed_var rfl) ea_nil) (by show 1 ≤ _; decide)).imp fun e he => ?_
        rw [he]
        exact tk_tup (fun d z => by rw [List.mem_singleton.mp z]; exact (cl_iff.mp (pt_cl hp)).1) (by show (wdA ds + 3) + 2 + 0 + 3 ≤ _; omega) (by show max (depA ds + 1) 0 + 1 ≤ _; omega)
    · obtain ⟨h1, h2, h3⟩ := hb rfl
      obtain ⟨ds, rfl⟩ := isT_eq h1
      have hc : ∀ d ∈ ds, okD d = true := fun d hd => (cl_iff.mp (pt_cl (pt_tup hp d hd))).1
      have hw' : wdA ds + 3 ≤ 100000 := hw
      have e1 : wd (.tup ds) = wdA ds + 3 := rfl
      have e2 : dep (.tup ds) = depA ds + 1 := rfl
      have hl := wdA_len ds
      have hne : ds ≠ [] := fun e => by rw [e] at h2; revert h2; decide
      have hpos : 0 < ds.length := List.length_pos_iff.mpr hne
      refine y_setV (P := fun e => ∃ r : Nat, e = .int (r : Nat) ∧ r < ds.length) a1 (ed_d rfl (ead_cons (ed_lenT (ed_var rfl)) ea_nil) ⟨_, rfl, by omega, by omega⟩ (by rintro e ⟨n, r, e1, rfl, g1, g2⟩; cases e1; exact ⟨r.toNat, by congr 1; omega, by omega⟩)) fun d2 σ2 H2 he2 a2 => ?_
      obtain ⟨r, rfl, hr'⟩ := he2
      have hm : ds.getD r .non ∈ ds := List.mem_of_getElem? (getD_of hr')
      have hmw := wdA_mem hm
      have hmd := depA_mem hm
      have hat : atI ds (r : Nat) = some (ds.getD r .non) := atI_of2 (by omega) (by rw [show ((r : Nat) : Int).toNat = r by omega]; exact getD_of hr')
      refine x_ret a2 (P := Tk (2 * wd (.tup ds) + 9000) (dep (.tup ds) + 8)) (ev_callP (Ps := fun l => ∃ b, l = [.tup ds, .int (r : Nat), b] ∧ Tk (2 * wd (ds.getD r .non) + 9000) (dep (ds.getD r .non) + 8) b) (ea_cons (P := fun d => d = .tup ds) (ed_var rfl) fun d1 f1 => ea_cons (P := fun d => d = .int (r : Nat)) (ed_var rfl) fun d2 f2 => (ea1P (ed_d (P := Tk (2 * wd (ds.getD r .non) + 9000) (dep (ds.getD r .non) + 8)) rfl (ead_cons (ed_op (ed_var rfl) (ed_var rfl) (rd_ixT hat)) (ead_cons (ed_op (ed_var rfl) ed_int rd_sub) ea_nil)) ⟨_, _, rfl, pt_tup hp _ hm, by omega, by omega, by omega, by omega⟩ (by rintro e ⟨d', k', e1, ht⟩; cases e1; exact ht))).imp fun l ⟨b, e, hb⟩ => ⟨b, by rw [e, f1, f2], hb⟩) (fun l ⟨b, e, hb⟩ => ⟨ds, r, b, e, hr', by omega⟩) fun l e ⟨b, f1, hb⟩ ⟨xs, i, b', f2, f3⟩ => ?_) fun v H' e he a' => hq (up he (by omega) (by omega)) a'
      rw [f1] at f2
      injection f2 with f2 f4
      injection f4 with f4 f5
      injection f5 with f5 _
      have i1 : r = i := by have := D.int.inj f4; omega
      rw [f3, ← D.tup.inj f2, ← i1, ← f5]
      exact tk_put hr' hc hb (by omega) (by omega)
theorem ok__law_bent (bi : ∀ x, x ∈ BNx3 → mg x = none) (F : Fun K "_law_bent" "_law_bent" s__law_bent f fd) (hm : mg "_law_bent" = some (.ref f)) (hb : Binds K fd ["deck", "thing", "deep"] []) (c__law_draw : C8.Cal P w K mg base 1 "_law_draw" (sp__law_draw K) []) (c__law_pick : C8.Cal P w K mg base 2 "_law_pick" (sp__law_pick K) []) (c__law_is_integer : C8.Cal P w K mg base 1 "_law_is_integer" (sp_is_integer K) []) (c__law_any : C8.Cal P w K mg base 6 "_law_any" (sp__law_any 3 K) []) (c__law_instead : C8.Cal P w K mg base 1 "_law_instead" (sp__law_instead K) []) : ∀ n, FnOk P w K mg base CX0 (7 + n) f fd ["deck", "thing", "deep"] (sp__law_bent n K)
  | 0 => ⟨fun vs H Q E h => (by obtain ⟨dk, l, G, ds, h1, ⟨es, rfl, d, k, rfl, _, _, _, z1, z⟩, _⟩ := h; omega), fun A outer s0 H args us vs Q E hr e0 hb hv h => (by obtain ⟨dk, l, G, ds, h1, ⟨es, rfl, d, k, rfl, _, _, _, z1, z⟩, _⟩ := h; omega)⟩
  | n + 1 => bent_step bi F c__law_draw c__law_pick c__law_is_integer c__law_any c__law_instead ⟨f, fd, _, [], ok__law_bent bi F hm hb c__law_draw c__law_pick c__law_is_integer c__law_any c__law_instead n, hm, F.kp, hb, .nil⟩
end
end Cal


namespace Cal
open PySem PySem.Spec PyProof.Rows L2
abbrev s__law_spoilt : Stmt := topS 57
abbrev n__law_spoilt : List Str := ["deck", "thing", "at"]
theorem sc__law_spoilt : FnScope n__law_spoilt ["deck", "thing"] (defScope s__law_spoilt) := ⟨rfl, rfl, rfl, by decide +kernel, rfl, by decide +kernel, by decide +kernel⟩
def spoilS (s : Str) : List D := [.str "", .str "a", .str "b", .str "zz", .str "A", .str "abcdefghijk", .str "a b", .str "a\n", .str (s ++ "a"), .str (cutS s none (some (-1))), .str "keep", .str "join", .str "told", .str "open", .str "best"]
theorem spoilS_tk {s : Str} (h : ptD (.str s) = true) : ∀ d ∈ spoilS s, Tk 300 1 d := fun d hd => by
  obtain ⟨h1, h2⟩ := pt_str h
  have hb : ∀ c ∈ s.cps.toList, c < 1114112 := fun c hc => by have := h2 c hc; omega
  have fix : ∀ d ∈ ([.str "", .str "a", .str "b", .str "zz", .str "A", .str "abcdefghijk", .str "a b", .str "a\n", .str "keep", .str "join", .str "told", .str "open", .str "best"] : List D), Tk 300 1 d := tk_all (by decide +kernel)
  have t1 : Tk 300 1 (.str (s ++ "a")) := .th (.txt (fun c hc => (app_mem hc).elim (hb c) ((by decide +kernel : ∀ c ∈ ("a" : Str).cps.toList, c < 1114112) c)) (by rw [strLen_append]; show 10 * (s.length + 1) + 2 ≤ 300; omega))
  have t2 : Tk 300 1 (.str (cutS s none (some (-1)))) := .th (.txt (fun c hc => hb c (cutS_mem hc)) (by have := cutS_len s none (some (-1)); omega))
  unfold spoilS at hd
  simp only [List.mem_cons, List.not_mem_nil, or_false] at hd
  rcases hd with rfl | rfl | rfl | rfl | rfl | rfl | rfl | rfl | rfl | rfl | rfl | rfl | rfl | rfl | rfl
  all_goals first | exact t1 | exact t2 | exact fix _ (by simp)
section
variable {P : Program} {w : World} {K : PySem.W.Frag} {mg : Str → Option Value} {base : Heap} {f : Addr} {fd : FuncData}
abbrev BNw3 : List Str := ["isinstance", "len", "str", "tuple"]
variable (bi : ∀ x, x ∈ BNw3 → mg x = none)
abbrev sp__law_spoilt (n : Nat) (K : PySem.W.Frag) : Sp := dsp K (fun es => ∃ d : D, es = [d] ∧ ptD d = true ∧ wd d ≤ 100000 ∧ dep d ≤ 60 ∧ dep d < n) (fun es e => ∃ d : D, es = [d] ∧ Tk (2 * wd d + 9000) (dep d + 8) e)
include bi in
theorem spoilt_step {n : Nat} (F : Fun K "_law_spoilt" "_law_spoilt" s__law_spoilt f fd) (c__law_draw : C8.Cal P w K mg base 1 "_law_draw" (sp__law_draw K) []) (c__law_pick : C8.Cal P w K mg base 2 "_law_pick" (sp__law_pick K) []) (c__law_is_integer : C8.Cal P w K mg base 1 "_law_is_integer" (sp_is_integer K) []) (c__law_instead : C8.Cal P w K mg base 1 "_law_instead" (sp__law_instead K) []) (c__law_bent : C8.Cal P w K mg base 9 "_law_bent" (sp__law_bent 2 K) []) (c__law_spoilt : C8.Cal P w K mg base (10 + n) "_law_spoilt" (sp__law_spoilt n K) []) :
    FnOk P w K mg base CX0 (10 + (n + 1)) f fd ["deck", "thing"] (sp__law_spoilt (n + 1) K) := by
  refine F.ok sc__law_spoilt (fun vs H Q E h => ?_) (fun cdv A outer s0 H vs Q E hr h => ?_)
  · obtain ⟨dk, l, G, ds, h1, ⟨es, rfl, d, rfl, _⟩, _⟩ := h
    exact h1.length
  · have hr : Room (10 + n) _ := hr
    have hu := hu_of hr
    obtain ⟨dk, l, G, es, ⟨d, rfl, hp, hw, hd6, hd⟩, hlen, a, hq⟩ := dsp_start n__law_spoilt h
    refine ⟨_, (pss_cons (ps_if (PW.pt (pw_and (pt_val (pe_callB (id := "isinstance") (r := rIsi K) call_isi (by rfl) (bi "isinstance" (by decide +kernel)) (by decide +kernel) (pa_cons (pv 1) (pa_cons (pe_bltn (v := .ty "str") (u := .type "str") (by rfl) (bi "str" (by decide +kernel)) (by decide +kernel) rfl) pa_nil)))) (pw_and1 (pt_cmpR op_gt (C8.pe_c c__law_draw hr (by first | decide | omega) (by rfl) (pa_cons (pv 0) (pa_cons pe_int pa_nil))) pe_int (nomark _))))) (pss_one (ps_ret (C8.pe_c c__law_pick hr (by first | decide | omega) (by rfl) (pa_cons (pv 0) (pa_cons (pe_lst (pa_cons pe_str (pa_cons pe_str (pa_cons pe_str (pa_cons pe_str (pa_cons pe_str (pa_cons pe_str (pa_cons pe_str (pa_cons pe_str (pa_cons (pe_op (r := rAddU K) u_add (pv 1) pe_str) (pa_cons (pe_slice (r := rSlU K) u_sl (pv 1) po_none (po_some (pe_un u_neg pe_int))) (pa_cons pe_str (pa_cons pe_str (pa_cons pe_str (pa_cons pe_str (pa_cons pe_str pa_nil)))))))))))))))) pa_nil))))) pss_nil)
      (pss_cons (ps_if (PW.pt (pw_and (pt_val (pe_callB (id := "isinstance") (r := rIsi K) call_isi (by rfl) (bi "isinstance" (by decide +kernel)) (by decide +kernel) (pa_cons (pv 1) (pa_cons (pe_bltn (v := .ty "tuple") (u := .type "tuple") (by rfl) (bi "tuple" (by decide +kernel)) (by decide +kernel) rfl) pa_nil)))) (pw_and (pt_cmpR (r := rNeD K) (u_ne hr.units) (pv 1) (pe_tup pa_nil) (nomark _)) (pw_and1 (pt_cmpR (r := rEqD K) (u_eq hr.units) (C8.pe_c c__law_draw hr (by first | decide | omega) (by rfl) (pa_cons (pv 0) (pa_cons pe_int pa_nil))) pe_int (nomark _)))))) (pss_one (ps_ret (pe_slice (r := rSlU K) u_sl (pv 1) po_none (po_some (pe_un u_neg pe_int))))) pss_nil)
      (pss_cons (ps_if (PW.pt (pw_or (pt_not (pt_val (pe_callB (id := "isinstance") (r := rIsi K) call_isi (by rfl) (bi "isinstance" (by decide +kernel)) (by decide +kernel) (pa_cons (pv 1) (pa_cons (pe_bltn (v := .ty "tuple") (u := .type "tuple") (by rfl) (bi "tuple" (by decide +kernel)) (by decide +kernel) rfl) pa_nil))))) (pw_or (pt_cmpR (r := rEqD K) (u_eq hr.units) (pv 1) (pe_tup pa_nil) (nomark _)) (pw_or1 (pt_cmpR (r := rEqD K) (u_eq hr.units) (C8.pe_c c__law_draw hr (by first | decide | omega) (by rfl) (pa_cons (pv 0) (pa_cons pe_int pa_nil))) pe_int (nomark _)))))) (pss_cons (ps_if (PW.pt (pw_and (pt_val (C8.pe_c c__law_is_integer hr (by first | decide | omega) (by rfl) (pa_cons (pv 1) pa_nil))) (pw_and1 (pt_cmpR (r := rEqD K) (u_eq hr.units) (C8.pe_c c__law_draw hr (by first | decide | omega) (by rfl) (pa_cons (pv 0) (pa_cons pe_int pa_nil))) pe_int (nomark _))))) (pss_one (ps_ret (pe_op (r := rAddU K) u_add (pv 1) (C8.pe_c c__law_pick hr (by first | decide | omega) (by rfl) (pa_cons (pv 0) (pa_cons (pe_lst (pa_cons pe_int (pa_cons (pe_un u_neg pe_int) (pa_cons pe_int pa_nil)))) pa_nil)))))) pss_nil)
      (pss_one (ps_ret (C8.pe_c c__law_bent hr (by first | decide | omega) (by rfl) (pa_cons (pv 0) (pa_cons (pv 1) (pa_cons pe_int pa_nil))))))) pss_nil)
      (pss_cons (ps_asg (C8.pe_c c__law_draw hr (by first | decide | omega) (by rfl) (pa_cons (pv 0) (pa_cons (pe_callB (id := "len") (r := rLenU K) u_len (by rfl) (bi "len" (by decide +kernel)) (by decide +kernel) (pa_cons (pv 1) pa_nil)) pa_nil))) (pg_name (i := 2) sc__law_spoilt.nd rfl (by first | exact (.inl rfl) | exact (.inr rfl))))
      (pss_one (ps_ret (C8.pe_c c__law_instead hr (by first | decide | omega) (by rfl) (pa_cons (pv 1) (pa_cons (pv 2) (pa_cons (C8.pe_c c__law_spoilt hr (by first | decide | omega) (by rfl) (pa_cons (pv 0) (pa_cons (pe_ix (r := rIx K) ix_seq (pv 1) (pv 2) (fun _ _ => rfl)) pa_nil))) pa_nil)))))))))), ?_⟩
    have hsm := pt_sm hp hw
    have up : ∀ {e : D} {n' m' : Nat}, Tk n' m' e → n' ≤ 2 * wd d + 9000 → m' ≤ dep d + 8 → ∃ (d' : D), [d] = [d'] ∧ Tk (2 * wd d' + 9000) (dep d' + 8) e := fun h h1 h2 => ⟨d, rfl, h.mono h1 h2⟩
    refine y_if (Pb := fun c => c = true → isS d = true) a (et_and (Pa := fun c => c = isS d) (eb_B (ed_isiS (ed_var rfl) (pt_ty hp))) (fun e1 => (et_drG (m := 3) ⟨by decide, by decide⟩ rfl).imp fun c _ _ => e1.symm) fun _ z => by cases z) (fun hb H1 a1 => ?_) fun _ H1 a1 => ?_
    · obtain ⟨s, rfl⟩ := isS_eq (hb rfl)
      have hl := (pt_str hp).1
      exact x_ret a1 (ed_d (P := Tk 300 1) rfl (ead_cons (d := .lst (spoilS s)) (ed_lst (ead_cons ed_str (ead_cons ed_str (ead_cons ed_str (ead_cons ed_str (ead_cons ed_str (ead_cons ed_str (ead_cons ed_str (ead_cons ed_str (ead_cons (ed_op (ed_var rfl) ed_str (rd_addS (szN (by show s.length + 1 ≤ _; omega)))) (ead_cons (ed_slS (ed_var rfl) eo_none (eo_some (ed_un ed_int ru_neg)) (szN (by omega))) (ead_cons ed_str (ead_cons ed_str (ead_cons ed_str (ead_cons ed_str (ead_cons ed_str ea_nil))))))))))))))) (by show 15 ≤ _; decide)) ea_nil) ⟨_, rfl, by unfold spoilS; simp, by show 15 ≤ _; decide⟩ (by rintro e ⟨ds', e1, hm⟩; cases e1; exact spoilS_tk hp e hm)) fun v H' e he a' => hq (up he (by omega) (by omega)) a'
    have tupQ : ∀ {ds : List D}, d = .tup ds → (∀ e ∈ ds, okD e = true) ∧ wd d = wdA ds + 3 ∧ dep d = depA ds + 1 := fun e => by
      subst e
      exact ⟨fun d hd => (cl_iff.mp (pt_cl (pt_tup hp d hd))).1, rfl, rfl⟩
    have nil : ∀ {ρ : Ro} {μ : Mu}, ρ[1]? = some (some d) → Ed (Bd K dk l 64 G H) (tOp (rEqD K) (tVar 1) (tTup tNil)) ρ μ (.bl (eqD d (.tup []))) := fun h => ed_op (ed_var h) (ed_tup (ds := []) ea_nil (by decide)) (rd_eqD (pt_plain d hp) rfl (by omega) (by decide))
    refine y_if (Pb := fun c => c = true → isT d = true) a1 (et_and (Pa := fun c => c = isT d) (eb_B (ed_isiT (ed_var rfl) (pt_ty hp))) (fun e1 => et_and (Pa := fun _ => True) ((eb_test (ed_op (ed_var rfl) (ed_tup ea_nil (by decide)) (rd_neD (pt_plain d hp) rfl (by omega) (by decide)))).imp fun _ _ => True.intro) (fun _ => (et_drE (m := 8) ⟨by decide, by decide⟩ rfl).imp fun c _ _ => e1.symm) fun _ z => by cases z) fun _ z => by cases z) (fun hb H2 a2 => ?_) fun _ H2 a2 => ?_
    · obtain ⟨ds, rfl⟩ := isT_eq (hb rfl)
      obtain ⟨hc, e1, e2⟩ := tupQ rfl
      have hsub := cutD_sub ds none (some (-1))
      exact x_ret a2 (ed_slT (ed_var rfl) eo_none (eo_some (ed_un ed_int ru_neg))) fun v H' e he a' => hq (up (n' := wdA ds + 3) (m' := depA ds + 1) (by
        rw [he]
        have h1 := wdA_sub hsub
        have h2 := depA_sub fun d z => hsub.subset z
        exact tk_tup (fun d z => hc d (hsub.subset z)) (by omega) (by omega)) (by omega) (by omega)) a'
    refine y_if (Pb := fun c => c = false → isT d = true ∧ eqD d (.tup []) = false) a2 (et_or (Pa := fun c => c = !isT d) (eb_not (eb_B (ed_isiT (ed_var rfl) (pt_ty hp)))) (fun e1 => et_or (Pa := fun c => c = eqD d (.tup [])) (eb_test (nil rfl)) (fun e2 => (et_drE (m := 6) ⟨by decide, by decide⟩ rfl).imp fun c _ _ => ⟨by simpa using e1.symm, e2.symm⟩) fun _ z => by cases z) fun _ z => by cases z) (fun _ H3 a3 => ?_) fun hb H3 a3 => ?_
    · refine y_if (Pb := fun c => c = true → isInt d = true) a3 (et_and (Pa := fun c => c = isInt d) (eb_B (ed_p (ead_cons (ed_var rfl) ea_nil) ⟨_, rfl, hsm⟩ (by
        rintro e ⟨d', e1, rfl⟩
        injection e1 with e1 _
        rw [e1]))) (fun e1 => (et_drE (m := 2) ⟨by decide, by decide⟩ rfl).imp fun c _ _ => e1.symm) fun _ z => by cases z) (fun hi H4 a4 => ?_) fun _ H4 a4 => ?_
      · obtain ⟨i, rfl⟩ := pt_isInt (hi rfl)
        have hb := pt_int hp
        refine x_ret a4 (P := fun e => ∃ j : Int, e = .int (i + j) ∧ j.natAbs ≤ 2) (ev_op (P1 := fun e => e = .int i) (P2 := fun e => ∃ j : Int, e = .int j ∧ j.natAbs ≤ 2) (ed_var rfl) (ed_d rfl (ead_cons (d := .lst [.int 1, .int (-1), .int 2]) (ed_lst (ead_cons ed_int (ead_cons (ed_un ed_int ru_neg) (ead_cons ed_int ea_nil))) (by decide)) ea_nil) ⟨_, rfl, by simp, by decide⟩ (by
          rintro e ⟨ds', e1, hm⟩
          cases e1
          simp only [List.mem_cons, List.not_mem_nil, or_false] at hm
          rcases hm with rfl | rfl | rfl <;> exact ⟨_, rfl, by decide⟩)) fun d1 d2 e1 ⟨j, e2, hj⟩ => ?_) fun v H' e ⟨j, he, hj⟩ a' => hq (up (n' := 210) (m' := 0) ?_ (by omega) (by omega)) a'
        · rw [e1, e2]
          exact rd_addI.imp fun e he => ⟨j, he, hj⟩
        · rw [he]
          exact .th (.clean (cl_int (Nat.lt_of_lt_of_le (show (i + j).natAbs < 2000 by omega) (by decide))) (Nat.le_refl _) (Nat.le_refl _))
      · exact x_ret a4 (ed_d (P := Tk (2 * wd d + 9000) (dep d + 8)) rfl (ead_cons (ed_var rfl) (ead_cons ed_int ea_nil)) ⟨_, _, rfl, hp, hw, hd6, by decide, by decide⟩ (by rintro e ⟨d', k', e1, h⟩; cases e1; exact h)) fun v H' e he a' => hq (up he (by omega) (by omega)) a'
    · obtain ⟨h1, h2⟩ := hb rfl
      obtain ⟨ds, rfl⟩ := isT_eq h1
      obtain ⟨hc, e1, e2⟩ := tupQ rfl
      have hl := wdA_len ds
      have hne : ds ≠ [] := fun e => by rw [e] at h2; revert h2; decide
      have hpos : 0 < ds.length := List.length_pos_iff.mpr hne
      refine y_setV (P := fun e => ∃ r : Nat, e = .int (r : Nat) ∧ r < ds.length) a3 (ed_d rfl (ead_cons (ed_lenT (ed_var rfl)) ea_nil) ⟨_, rfl, by omega, by omega⟩ (by rintro e ⟨n, r, e1, rfl, g1, g2⟩; cases e1; exact ⟨r.toNat, by congr 1; omega, by omega⟩)) fun d2 σ2 H4 he2 a4 => ?_
      obtain ⟨r, rfl, hr'⟩ := he2
      have hm : ds.getD r .non ∈ ds := List.mem_of_getElem? (getD_of hr')
      have hmw := wdA_mem hm
      have hmd := depA_mem hm
      have hat : atI ds (r : Nat) = some (ds.getD r .non) := atI_of2 (by omega) (by rw [show ((r : Nat) : Int).toNat = r by omega]; exact getD_of hr')
      refine x_ret a4 (P := Tk (2 * wd (.tup ds) + 9000) (dep (.tup ds) + 8)) (ev_callP (Ps := fun l => ∃ b, l = [.tup ds, .int (r : Nat), b] ∧ Tk (2 * wd (ds.getD r .non) + 9000) (dep (ds.getD r .non) + 8) b) (ea_cons (P := fun d => d = .tup ds) (ed_var rfl) fun d1 f1 => ea_cons (P := fun d => d = .int (r : Nat)) (ed_var rfl) fun d2 f2 => (ea1P (ed_d (P := Tk (2 * wd (ds.getD r .non) + 9000) (dep (ds.getD r .non) + 8)) rfl (ead_cons (ed_op (ed_var rfl) (ed_var rfl) (rd_ixT hat)) ea_nil) ⟨_, rfl, pt_tup hp _ hm, by omega, by omega, by omega⟩ (by rintro e ⟨d', e1, ht⟩; cases e1; exact ht))).imp fun l ⟨b, e, hb⟩ => ⟨b, by rw [e, f1, f2], hb⟩) (fun l ⟨b, e, hb⟩ => ⟨ds, r, b, e, hr', by omega⟩) fun l e ⟨b, f1, hb⟩ ⟨xs, i, b', f2, f3⟩ => ?_) fun v H' e he a' => hq (up he (by omega) (by omega)) a'
      rw [f1] at f2
      injection f2 with f2 f4
      injection f4 with f4 f5
      injection f5 with f5 _
      have i1 : r = i := by have := D.int.inj f4; omega
      rw [f3, ← D.tup.inj f2, ← i1, ← f5]
      exact tk_put hr' hc hb (by omega) (by omega)
theorem ok__law_spoilt (bi : ∀ x, x ∈ BNw3 → mg x = none) (F : Fun K "_law_spoilt" "_law_spoilt" s__law_spoilt f fd) (hm : mg "_law_spoilt" = some (.ref f)) (hb : Binds K fd ["deck", "thing"] []) (c__law_draw : C8.Cal P w K mg base 1 "_law_draw" (sp__law_draw K) []) (c__law_pick : C8.Cal P w K mg base 2 "_law_pick" (sp__law_pick K) []) (c__law_is_integer : C8.Cal P w K mg base 1 "_law_is_integer" (sp_is_integer K) []) (c__law_instead : C8.Cal P w K mg base 1 "_law_instead" (sp__law_instead K) []) (c__law_bent : C8.Cal P w K mg base 9 "_law_bent" (sp__law_bent 2 K) []) : ∀ n, FnOk P w K mg base CX0 (10 + n) f fd ["deck", "thing"] (sp__law_spoilt n K)
  | 0 => ⟨fun vs H Q E h => (by obtain ⟨dk, l, G, ds, h1, ⟨es, rfl, d, rfl, _, _, _, z⟩, _⟩ := h; omega), fun A outer s0 H args us vs Q E hr e0 hb hv h => (by obtain ⟨dk, l, G, ds, h1, ⟨es, rfl, d, rfl, _, _, _, z⟩, _⟩ := h; omega)⟩
  | n + 1 => spoilt_step bi F c__law_draw c__law_pick c__law_is_integer c__law_instead c__law_bent ⟨f, fd, _, [], ok__law_spoilt bi F hm hb c__law_draw c__law_pick c__law_is_integer c__law_instead c__law_bent n, hm, F.kp, hb, .nil⟩
end
end Cal


namespace Cal
open PySem PySem.Spec PyProof.Rows L2
abbrev s__law_near : Stmt := topS 59
abbrev n__law_near : List Str := ["deck", "ring", "many", "at", "some", "x"]
theorem sc__law_near : FnScope n__law_near ["deck", "ring", "many"] (defScope s__law_near) := ⟨rfl, rfl, rfl, by decide +kernel, rfl, by decide +kernel, by decide +kernel⟩
/-- flat small values -/
def Fl (d : D) : Prop := okD d = true ∧ wd d ≤ 210 ∧ dep d = 0
def FlA (ds : List D) : Prop := ∀ d ∈ ds, Fl d
theorem FlA.app {as bs : List D} (h : FlA as) (k : FlA bs) : FlA (as ++ bs) := fun d hd => (List.mem_append.mp hd).elim (h d) (k d)
theorem FlA.cut {as : List D} (h : FlA as) (lo hi : Option Int) : FlA (cutD as lo hi) := fun d hd => h d ((cutD_sub as lo hi).subset hd)
theorem FlA.rev {as : List D} (h : FlA as) : FlA as.reverse := fun d hd => h d (List.mem_reverse.mp hd)
theorem FlA.one {d : D} (h : Fl d) : FlA [d] := fun e he => by rw [List.mem_singleton.mp he]; exact h
theorem fl_int {i : Int} (h : i.natAbs < 1000) : Fl (.int i) := ⟨(cl_iff.mp (cl_int (Nat.lt_of_lt_of_le h (by decide)))).1, by show 210 ≤ 210; decide, rfl⟩
theorem fl_bl (b : Bool) : Fl (.bl b) := by cases b <;> exact ⟨rfl, by decide, rfl⟩
theorem tkA_fl {ds : List D} (h : FlA ds) (hl : ds.length ≤ 60) : okA ds = true ∧ wdA ds ≤ 12720 ∧ depA ds = 0 := by
  have h1 := wdA_le (ds := ds) fun d hd => (h d hd).2.1
  have h2 : depA ds ≤ 0 := depA_le fun d hd => Nat.le_of_eq (h d hd).2.2
  exact ⟨okA_all fun d hd => (h d hd).1, by omega, by omega⟩
theorem tk_fl {ds : List D} (h : FlA ds) (hl : ds.length ≤ 60) : Tk 20000 20 (.tup ds) := by
  obtain ⟨h1, h2, h3⟩ := tkA_fl h hl
  exact ⟨h1, by show wdA ds + 3 ≤ _; omega, by show depA ds + 1 ≤ _; omega⟩
theorem tk_flL {ds : List D} (h : FlA ds) (hl : ds.length ≤ 60) : Tk 20000 20 (.lst ds) := by
  obtain ⟨h1, h2, h3⟩ := tkA_fl h hl
  exact ⟨h1, by show wdA ds + 3 ≤ _; omega, by show depA ds + 1 ≤ _; omega⟩
theorem tk_fl1 {ds : List D} (h : FlA ds) (hl : ds.length ≤ 60) : Tk 20000 20 (.tup [.tup ds]) := by
  obtain ⟨h1, h2, h3⟩ := tkA_fl h hl
  exact ⟨by show (okA ds && true) = true; rw [h1]; rfl, by show (wdA ds + 3) + 2 + 0 + 3 ≤ _; omega, by show max (depA ds + 1) 0 + 1 ≤ _; omega⟩
/-- what a ring near which values are made is -/
def RgOk (v : List Int) : Prop := v ≠ [] ∧ v.length ≤ 12 ∧ ∀ p ∈ v, 0 ≤ p ∧ p < 100
theorem RgOk.fl {v : List Int} (h : RgOk v) : FlA (v.map .int) := fun d hd => by
  obtain ⟨i, hi, rfl⟩ := List.mem_map.mp hd
  have := h.2.2 i hi
  exact fl_int (by omega)
theorem RgOk.pt {v : List Int} (h : RgOk v) : ptD (tI v) = true ∧ wd (tI v) ≤ 3000 ∧ dep (tI v) = 1 := by
  refine ⟨?_, ?_, by show depA (v.map .int) + 1 = 1; rw [depA_ints]⟩
  · show ptA (v.map .int) = true
    refine ptA_all fun d hd => ?_
    obtain ⟨i, hi, rfl⟩ := List.mem_map.mp hd
    have := h.2.2 i hi
    show (decide (0 ≤ i) && decide (i < 1000)) = true
    rw [decide_eq_true this.1, decide_eq_true (by omega)]; rfl
  · have h1 : wdA (v.map .int) ≤ (v.map D.int).length * (210 + 2) := wdA_le fun d hd => by
      obtain ⟨x, _, rfl⟩ := List.mem_map.mp hd
      show 210 ≤ 210; decide
    rw [List.length_map] at h1
    have := h.2.1
    show wdA (v.map .int) + 3 ≤ 3000
    omega
section
variable {P : Program} {w : World} {K : PySem.W.Frag} {mg : Str → Option Value} {base : Heap} {f : Addr} {fd : FuncData}
abbrev BNn70 : List Str := ["len", "list", "tuple"]
variable (bi : ∀ x, x ∈ BNn70 → mg x = none)
abbrev sp__law_near (K : PySem.W.Frag) : Sp := dsp K (fun es => ∃ (v : List Int) (m : Int), es = [tI v, .int m] ∧ RgOk v ∧ 1 ≤ m ∧ m ≤ 7) (fun es e => Tk 20000 20 e)
include bi in
theorem ok__law_near (F : Fun K "_law_near" "_law_near" s__law_near f fd) (c__law_draw : C8.Cal P w K mg base 1 "_law_draw" (sp__law_draw K) []) (c__law_pick : C8.Cal P w K mg base 2 "_law_pick" (sp__law_pick K) []) (c__law_spoilt : C8.Cal P w K mg base 13 "_law_spoilt" (sp__law_spoilt 3 K) []) : FnOk P w K mg base CX0 14 f fd ["deck", "ring", "many"] (sp__law_near K) := by
  refine F.ok sc__law_near (fun vs H Q E h => ?_) (fun cdv A outer s0 H vs Q E hr h => ?_)
  · obtain ⟨dk, l, G, ds, h1, ⟨es, rfl, v, m, rfl, _⟩, _⟩ := h
    exact h1.length
  · have hu := hu_of hr
    obtain ⟨dk, l, G, es, ⟨v, m, rfl, hv, hm1, hm7⟩, hlen, a, hq⟩ := dsp_start n__law_near h
    refine ⟨_, (pss_cons (ps_asg (C8.pe_c c__law_draw hr (by first | decide | omega) (by rfl) (pa_cons (pv 0) (pa_cons (pe_callB (id := "len") (r := rLenU K) u_len (by rfl) (bi "len" (by decide +kernel)) (by decide +kernel) (pa_cons (pv 1) pa_nil)) pa_nil))) (pg_name (i := 3) sc__law_near.nd rfl (by first | exact (.inl rfl) | exact (.inr rfl))))
      (pss_cons (ps_asg (pe_lst (pa_cons (pe_op (r := rAddU K) u_add (pe_slice (r := rSlU K) u_sl (pv 1) po_none (po_some pe_int)) (pe_revT (pe_slice (r := rSlU K) u_sl (pv 1) (po_some pe_int) po_none))) (pa_cons (pe_op (r := rAddU K) u_add (pe_slice (r := rSlU K) u_sl (pv 1) (po_some (pv 3)) po_none) (pe_slice (r := rSlU K) u_sl (pv 1) po_none (po_some (pv 3)))) (pa_cons (pe_op (r := rAddU K) u_add (pe_slice (r := rSlU K) u_sl (pv 1) po_none (po_some (pv 3))) (pe_slice (r := rSlU K) u_sl (pv 1) (po_some (pe_op (r := rAddU K) u_add (pv 3) pe_int)) po_none)) (pa_cons (pe_op (r := rAddU K) u_add (pv 1) (pe_slice (r := rSlU K) u_sl (pv 1) po_none (po_some pe_int))) (pa_cons (pe_op (r := rAddU K) u_add (pe_op (r := rAddU K) u_add (pe_slice (r := rSlU K) u_sl (pv 1) po_none (po_some (pv 3))) (pe_revT (pe_slice (r := rSlU K) u_sl (pv 1) (po_some (pv 3)) (po_some (pe_op (r := rAddU K) u_add (pv 3) pe_int))))) (pe_slice (r := rSlU K) u_sl (pv 1) (po_some (pe_op (r := rAddU K) u_add (pv 3) pe_int)) po_none)) (pa_cons (pe_callTy (T := "list") (r := rLstOf K) (u_list rfl) (by rfl) (bi "list" (by decide +kernel)) (by decide +kernel) (pa_cons (pv 1) pa_nil)) (pa_cons (pe_slice (r := rSlU K) u_sl (pv 1) po_none (po_some pe_int)) (pa_cons (pe_revT (pv 1)) pa_nil))))))))) (pg_name (i := 4) sc__law_near.nd rfl (by first | exact (.inl rfl) | exact (.inr rfl))))
      (pss_cons (ps_expr (pe_bm PySem.F.plainAttrs_list PySem.F.slot_list_extend PySem.F.type_list_extend mt_extend (pv 4) (pa_cons (pe_lst (pa_cons (pe_callTy (T := "tuple") (r := rTupOf K) u_tuple (by rfl) (bi "tuple" (by decide +kernel)) (by decide +kernel) (pa_cons (pe_lc (own := [("x", 5)]) (g := gName 5) (tt := tYes) rfl sc__law_near.nd (pi_tup (pv 1)) (blkOk_by (N := n__law_near) (sc := defScope s__law_near) (by decide +kernel)) (fun _ _ _ _ _ => (pg_name (i := 5) sc__law_near.nd rfl (by first | exact (.inl rfl) | exact (.inr rfl)))) (fun _ _ _ _ _ => pts_nil) (fun _ _ _ _ _ => (pe_ifExp (pt_cmpR u_lt (pv 5) pe_int (nomark _)) (pe_cmpR (r := rEqD K) (u_eq hr.units) (pv 5) pe_int (nomark _)) (pv 5)))) pa_nil)) (pa_cons (pe_op (r := rAddU K) u_add (pv 1) (pe_tup (pa_cons (pv 2) pa_nil))) (pa_cons (pe_op (r := rAddU K) u_add (pv 1) (pe_tup (pa_cons (pe_un u_neg pe_int) pa_nil))) (pa_cons (pe_tup (pa_cons (pv 1) pa_nil)) (pa_cons (pe_op (r := rAddU K) u_add (pe_op (r := rAddU K) u_add (pe_slice (r := rSlU K) u_sl (pv 1) po_none (po_some (pv 3))) (pe_tup (pa_cons (C8.pe_c c__law_draw hr (by first | decide | omega) (by rfl) (pa_cons (pv 0) (pa_cons (pv 2) pa_nil))) pa_nil))) (pe_slice (r := rSlU K) u_sl (pv 1) (po_some (pe_op (r := rAddU K) u_add (pv 3) pe_int)) po_none)) (pa_cons pe_non (pa_cons (pe_tup pa_nil) (pa_cons (pe_op (r := rAddU K) u_add (pv 1) (pe_slice (r := rSlU K) u_sl (pv 1) (po_some pe_int) (po_some pe_int))) pa_nil))))))))) pa_nil)))
      (pss_one (ps_ret (pe_ifExp (pt_cmpR op_gt (C8.pe_c c__law_draw hr (by first | decide | omega) (by rfl) (pa_cons (pv 0) (pa_cons pe_int pa_nil))) pe_int (nomark _)) (C8.pe_c c__law_pick hr (by first | decide | omega) (by rfl) (pa_cons (pv 0) (pa_cons (pv 4) pa_nil))) (C8.pe_c c__law_spoilt hr (by first | decide | omega) (by rfl) (pa_cons (pv 0) (pa_cons (pv 1) pa_nil))))))))), ?_⟩
    have hfl := hv.fl
    have hl := hv.2.1
    have l0 : 1 ≤ v.length := List.length_pos_iff.mpr hv.1
    obtain ⟨hpt, hwd, hdp⟩ := hv.pt
    generalize hr' : v.map D.int = r at hfl
    have rl : r.length ≤ 12 := by rw [← hr', List.length_map]; exact hl
    have cl : ∀ lo hi, (cutD r lo hi).length ≤ 12 := fun lo hi => Nat.le_trans (cutD_sub r lo hi).length_le rl
    have e0 : tI v = .tup r := by rw [← hr']
    rw [e0] at a hpt hwd hdp
    -- at
    refine y_setV (P := fun d => ∃ k : Nat, d = .int (k : Nat) ∧ k < 12) a (ed_d rfl (ead_cons (Ed.is (ed_lenT (ed_var rfl)) (by rw [← hr', List.length_map])) ea_nil) ⟨((v.length : Nat) : Int), rfl, by omega, by omega⟩ (by rintro e ⟨n, r, e1, rfl, h1, h2⟩; cases e1; exact ⟨r.toNat, by congr 1; omega, by omega⟩)) fun d σ1 H1 hd a1 => ?_
    obtain ⟨k, rfl, hk⟩ := hd
    have R : ∀ {ρ : Ro} {μ : Mu}, ρ[1]? = some (some (.tup r)) → Ed (Bd K dk l 64 G H) (tVar 1) ρ μ (.tup r) := fun h => ed_var h
    have T : ∀ {te : TE} {ρ : Ro} {μ : Mu} {ds : List D}, Ed (Bd K dk l 64 G H) te ρ μ (.tup ds) → FlA ds → ds.length ≤ 60 → Ev (Bd K dk l 64 G H) te ρ μ (Tk 20000 20) := fun h1 h2 h3 => Ed.ev h1 (tk_fl h2 h3)
    have sz : ∀ {n : Nat}, n ≤ 1000 → n ≤ sizeLine := fun h => Nat.le_trans h (by decide)
    have c1 := cl none (some 1)
    have c2 := cl (some 1) none
    have c3 := cl (some (k : Int)) none
    have c4 := cl none (some (k : Int))
    have c5 := cl (some ((k : Int) + 1)) none
    have c6 := cl (some (k : Int)) (some ((k : Int) + 2))
    have c7 := cl (some ((k : Int) + 2)) none
    have c8 := cl (some 1) (some 2)
    -- some
    refine y_asg (R := fun d μ' => ∃ p ds, d = .raw (.ref p) ∧ μ' = (p, .lst ds) :: [] ∧ (∀ d ∈ ds, Tk 20000 20 d) ∧ ds.length = 8) a1 (xl_lstP (Ps := fun ds => (∀ d ∈ ds, Tk 20000 20 d) ∧ ds.length = 8) (ea_consQ (T (ed_op (d1 := .tup (cutD r none (some 1))) (d2 := .tup (cutD r (some 1) none).reverse) (ed_slT (R rfl) eo_none (eo_some ed_int)) (ed_rev (ed_slT (R rfl) (eo_some ed_int) eo_none)) (rd_addT (sz (by rw [List.length_reverse]; omega)))) ((hfl.cut _ _).app (hfl.cut _ _).rev) (by rw [List.length_append, List.length_reverse]; omega))
      (ea_consQ (T (ed_op (d1 := .tup (cutD r (some (k : Int)) none)) (d2 := .tup (cutD r none (some (k : Int)))) (ed_slT (R rfl) (eo_some (ed_var rfl)) eo_none) (ed_slT (R rfl) eo_none (eo_some (ed_var rfl))) (rd_addT (sz (by omega)))) ((hfl.cut _ _).app (hfl.cut _ _)) (by rw [List.length_append]; omega))
      (ea_consQ (T (ed_op (d1 := .tup (cutD r none (some (k : Int)))) (d2 := .tup (cutD r (some ((k : Int) + 1)) none)) (ed_slT (R rfl) eo_none (eo_some (ed_var rfl))) (ed_slT (R rfl) (eo_some (ed_op (ed_var rfl) ed_int rd_addI)) eo_none) (rd_addT (sz (by omega)))) ((hfl.cut _ _).app (hfl.cut _ _)) (by rw [List.length_append]; omega))
      (ea_consQ (T (ed_op (d1 := .tup r) (d2 := .tup (cutD r none (some 1))) (R rfl) (ed_slT (R rfl) eo_none (eo_some ed_int)) (rd_addT (sz (by omega)))) (hfl.app (hfl.cut _ _)) (by rw [List.length_append]; omega))
      (ea_consQ (T (ed_op (d1 := .tup (cutD r none (some (k : Int)) ++ (cutD r (some (k : Int)) (some ((k : Int) + 2))).reverse)) (d2 := .tup (cutD r (some ((k : Int) + 2)) none)) (ed_op (d1 := .tup (cutD r none (some (k : Int)))) (d2 := .tup (cutD r (some (k : Int)) (some ((k : Int) + 2))).reverse) (ed_slT (R rfl) eo_none (eo_some (ed_var rfl))) (ed_rev (ed_slT (R rfl) (eo_some (ed_var rfl)) (eo_some (ed_op (ed_var rfl) ed_int rd_addI)))) (rd_addT (sz (by rw [List.length_reverse]; omega)))) (ed_slT (R rfl) (eo_some (ed_op (ed_var rfl) ed_int rd_addI)) eo_none) (rd_addT (sz (by rw [List.length_append, List.length_reverse]; omega)))) (((hfl.cut _ _).app (hfl.cut _ _).rev).app (hfl.cut _ _)) (by rw [List.length_append, List.length_append, List.length_reverse]; omega))
      (ea_consQ (Ed.ev (ed_lstT (R rfl)) (tk_flL hfl (by omega)))
      (ea_consQ (T (ed_slT (R rfl) eo_none (eo_some ed_int)) (hfl.cut _ _) (by have := cl none (some 2); omega))
      (ea_consQ (T (ed_rev (R rfl)) hfl.rev (by rw [List.length_reverse]; omega)) ea_nilQ)))))))) (fun ds h => sz (by omega)) |>.imp fun d μ' ⟨p, ds, h1, h2, h3⟩ => ⟨p, ds, h1, h2, h3⟩) fun d μ2 σ2 H2 hd a2 => ?_
    obtain ⟨p, L0, rfl, rfl, A0, l1⟩ := hd
    have dr : ∀ {ρ : Ro} {μ : Mu}, ρ[0]? = some (some (.raw (.ref dk))) → ρ[2]? = some (some (.int m)) → Ev (Bd K dk l 64 G H) (tTup (tCons (tCall (sp__law_draw K) [] C8.E0 (tCons (tVar 0) (tCons (tVar 2) tNil))) tNil)) ρ μ (fun d => ∃ i : Int, d = .tup [.int i] ∧ 0 ≤ i ∧ i < 7) := fun h0 h2 => ev_tup (ea1P (P := fun d => ∃ i : Int, d = .int i ∧ 0 ≤ i ∧ i < 7) (ed_d h0 (ead_cons (ed_var h2) ea_nil) ⟨_, rfl, hm1, by omega⟩ (by rintro e ⟨n, r, e1, rfl, h1, h2⟩; cases e1; exact ⟨r, rfl, h1, by omega⟩))) fun ds ⟨d, e1, i, e2, h⟩ => ⟨by rw [e1]; show 1 ≤ sizeLine; decide, i, by rw [e1, e2], h⟩
    refine y_extendV (k := 0) (P := fun ds => (∀ d ∈ ds, Tk 20000 20 d) ∧ ds.length = 8) a2 rfl rfl (ev_lst (Ps := fun ds => (∀ d ∈ ds, Tk 20000 20 d) ∧ ds.length = 8) (ea_consQ (T (ds := (List.range v.length).map fun n => if v.getD n 0 < 2 then D.bl (decide (v.getD n 0 = 1)) else .int (v.getD n 0)) (ed_cb (ead_cons (ed_lc0 (n := v.length) (h := fun n => if v.getD n 0 < 2 then D.bl (decide (v.getD n 0 = 1)) else .int (v.getD n 0)) (ei_tupG .int 0 (l := v) (by rw [hr']; exact R rfl)) (by decide) (by omega) fun n hn cl => ed_if (b := decide (v.getD n 0 < 2)) (eb_test (ed_op (ed_var rfl) ed_int rd_ltI)) (fun z => Ed.is (ed_op (ed_var rfl) ed_int rd_eqI) (by rw [if_pos (of_decide_eq_true z)])) fun z => Ed.is (ed_var rfl) (by rw [if_neg (of_decide_eq_false z)])) ea_nil) rc_tupL) (fun d hd => by
          obtain ⟨n, hn, rfl⟩ := List.mem_map.mp hd
          have := hv.2.2 _ (getD_memS (z := (0 : Int)) (List.mem_range.mp hn))
          split
          · exact fl_bl _
          · exact fl_int (by omega)) (by rw [List.length_map, List.length_range]; omega))
      (ea_consQ (T (ed_op (d1 := .tup r) (d2 := .tup [.int m]) (R rfl) (ed_tup (ead_cons (ed_var rfl) ea_nil) (by show 1 ≤ _; decide)) (rd_addT (sz (by show r.length + 1 ≤ _; omega)))) (hfl.app (.one (fl_int (by omega)))) (by rw [List.length_append]; show _ + 1 ≤ _; omega))
      (ea_consQ (T (ed_op (d1 := .tup r) (d2 := .tup [.int (-1)]) (R rfl) (ed_tup (ead_cons (ed_un ed_int ru_neg) ea_nil) (by show 1 ≤ _; decide)) (rd_addT (sz (by show r.length + 1 ≤ _; omega)))) (hfl.app (.one (fl_int (by decide)))) (by rw [List.length_append]; show _ + 1 ≤ _; omega))
      (ea_consQ (Ed.ev (ed_tup (ds := [.tup r]) (ead_cons (R rfl) ea_nil) (by show 1 ≤ _; decide)) (tk_fl1 hfl (by omega)))
      (ea_consQ (ev_op (P1 := fun d => ∃ i : Int, d = .tup (cutD r none (some (k : Int)) ++ [.int i]) ∧ 0 ≤ i ∧ i < 7) (P2 := fun d => d = .tup (cutD r (some ((k : Int) + 1)) none)) (ev_op (P1 := fun d => d = .tup (cutD r none (some (k : Int)))) (P2 := fun d => ∃ i : Int, d = .tup [.int i] ∧ 0 ≤ i ∧ i < 7) (ed_slT (R rfl) eo_none (eo_some (ed_var rfl))) (dr rfl rfl) fun d1 d2 e1 ⟨i, e2, h⟩ => by
          subst e1; subst e2
          exact (rd_addT (sz (by show _ + 1 ≤ _; omega))).imp fun d hd => ⟨i, hd, h⟩) (ed_slT (R rfl) (eo_some (ed_op (ed_var rfl) ed_int rd_addI)) eo_none) fun d1 d2 ⟨i, e1, h⟩ e2 => by
          subst e1; subst e2
          exact (rd_addT (sz (by rw [List.length_append]; show _ + 1 + _ ≤ _; omega))).imp fun d hd => by
            rw [hd]
            exact tk_fl (((hfl.cut _ _).app (.one (fl_int (by omega)))).app (hfl.cut _ _)) (by rw [List.length_append, List.length_append]; show _ + 1 + _ ≤ _; omega))
      (ea_consQ (Ed.ev ed_non ⟨rfl, by decide, by decide⟩)
      (ea_consQ (Ed.ev (ed_tup (ds := []) ea_nil (by decide)) ⟨rfl, by decide, by decide⟩)
      (ea_consQ (T (ed_op (d1 := .tup r) (d2 := .tup (cutD r (some 1) (some 2))) (R rfl) (ed_slT (R rfl) (eo_some ed_int) (eo_some ed_int)) (rd_addT (sz (by omega)))) (hfl.app (hfl.cut _ _)) (by rw [List.length_append]; omega)) ea_nilQ)))))))) fun ds h => ⟨sz (by omega), ds, rfl, h⟩) (fun ds h => sz (by omega)) fun es H3 hes a3 => ?_
    have a4 := At.reslot (k := 4) (At.freeze a3) rfl
    have all : ∀ d ∈ L0 ++ es, Tk 20000 20 d := fun d hd => (List.mem_append.mp hd).elim (A0 d) (hes.1 d)
    have len : (L0 ++ es).length = 16 := by rw [List.length_append, l1, hes.2]
    refine x_ret a4 (P := Tk 20000 20) (ev_if (Pb := fun _ => True) (et_drG (m := 3) ⟨by decide, by decide⟩ rfl) (fun _ => ?_) fun _ => ?_) fun v H' e he a' => hq he a'
    · exact ed_d rfl (ead_cons (ed_var rfl) ea_nil) ⟨_, rfl, (fun z => by rw [z] at len; cases len), by omega⟩ (by rintro e ⟨ds', e1, h⟩; cases e1; exact all e h)
    · exact ed_d rfl (ead_cons (ed_var rfl) ea_nil) ⟨_, rfl, hpt, by omega, by omega, by omega⟩ (by rintro e ⟨d', e1, h⟩; cases e1; exact h.mono (by omega) (by omega))
end
end Cal


namespace Cal
open PySem PySem.Spec PyProof.Rows L2
abbrev sp__law_deck (K : PySem.W.Frag) : Sp := fun vs H Q E => ∃ (a : Addr) (ns : List Int) (m0 : Int), vs = [.ref a, .int m0] ∧ SqL K H a (ns.map V.int) ∧ ns.length ≤ 63 ∧ ∀ dk l H', Same H H' → H dk = none → H l = none → dk ≠ l → DkI dk l 64 H' → Q (.ref dk) H'
/-- the tuples of a heap -/
def tupsOf (H : Hp) : Hp := fun b => match H b with | some (.tup vs) => some (.tup vs) | _ => none
theorem tupsOf_sub {H : Hp} : Same (tupsOf H) H := fun b o e => by
  unfold tupsOf at e
  split at e
  · rename_i vs h; rw [h]; exact e
  · cases e
theorem tupsOf_is {H : Hp} {b : Addr} {o : HO} (e : tupsOf H b = some o) : ∃ vs, o = .tup vs := by
  unfold tupsOf at e
  split at e
  · exact ⟨_, (Option.some.inj e).symm⟩
  · cases e
theorem tupsOf_tup {H : Hp} {b : Addr} {vs : List V} (e : H b = some (.tup vs)) : tupsOf H b = some (.tup vs) := by
  unfold tupsOf; rw [e]
abbrev Bz (K : PySem.W.Frag) (H : Hp) : Bs := ⟨K, fun _ => True, [], fun _ _ _ _ => True.intro, tupsOf H, H⟩
theorem At.zero {K : PySem.W.Frag} {H : Hp} {ρ : Ro} {σ : L2.St} (hl : ρ.length = σ.length) (h : ∀ (i : Nat) (d : D), ρ[i]? = some (some d) → ∃ v, σ[i]? = some (some v) ∧ d = .raw v) : At (Bz K H) ρ [] [] σ H :=
  ⟨tupsOf H, tupsOf_sub, True.intro, fun b hb => (nomatch hb), fun b vs e => tupsOf_tup e, fun b o e _ => e, fun b o e => .inr e, hl, fun i d e => let ⟨v, h1, h2⟩ := h i d e; ⟨v, h1, by rw [h2]; rfl⟩, fun q hq => (nomatch hq), List.nodup_nil, fun q hq => (nomatch hq)⟩
theorem At.deck {K : PySem.W.Frag} {dk l : Addr} {H : Hp} {ρ : Ro} {σ : L2.St} (hl : ρ.length = σ.length) (h : ∀ (i : Nat) (d : D), ρ[i]? = some (some d) → ∃ v, σ[i]? = some (some v) ∧ d = .raw v) (hI : DkI dk l 64 H) : At (Bd K dk l 64 (tupsOf H) H) ρ [] [] σ H :=
  ⟨tupsOf H, tupsOf_sub, hI, fun b hb => ⟨(by
    cases e : tupsOf H b with
    | none => rfl
    | some o =>
      obtain ⟨vs, rfl⟩ := tupsOf_is e
      exact absurd (tupsOf_sub b _ e) ((DkI.ent hI b hb).2 vs)), DkI.ent hI b hb⟩, fun b vs e => tupsOf_tup e, fun b o e _ => e, fun b o e => .inr e, hl, fun i d e => let ⟨v, h1, h2⟩ := h i d e; ⟨v, h1, by rw [h2]; rfl⟩, fun q hq => (nomatch hq), List.nodup_nil, fun q hq => (nomatch hq)⟩
theorem At.same {K : PySem.W.Frag} {H H' : Hp} {ρ : Ro} {μ : Mu} {τ : List (V × D)} {σ : L2.St} (a : At (Bz K H) ρ μ τ σ H') : Same H H' := by
  obtain ⟨G, g⟩ := a
  exact fun b o e => g.base b o e fun z => nomatch z
section
variable {K : PySem.W.Frag} {H0 : Hp} {ρ : Ro} {μ : Mu} {a : Addr} {ns : List Int} {te : TE} {j : Nat} {B : Bs} {ds : List D}
theorem ed_cutScript (hS : SqL K H0 a (ns.map V.int)) (hl : ns.length ≤ 63) (h : ρ[j]? = some (some (.raw (.ref a)))) : Ed (Bz K H0) (tSl (rSlU K) (tVar j) tNoPart (tPart (tC (.int 63)))) ρ μ (.lst (ns.map D.int)) := Ev.mk fun τ σ H A Q q => by
  obtain ⟨v, h1, h2⟩ := A.var h
  obtain ⟨G, g, hv⟩ := h2.top
  rw [show v = V.ref a from hv] at h1
  refine ⟨_, h1, 63, rfl, .inr (.inl ⟨a, ns.map V.int, rfl, (At.same A).seq hS, fun p hp => q _ _ _ rfl (g.newLst hp ?_)⟩)⟩
  have e : cutV (ns.map V.int) none (some 63) = ns.map V.int := by
    unfold cutV
    rw [show HT.sIx (ns.map V.int).length (ns.map V.int).length (some 63) = min 63 (ns.map V.int).length from HT.sIx_nat _ _ 63, HT.sIx_none, List.drop_zero, Nat.sub_zero, Nat.min_eq_right (by rw [List.length_map]; exact hl), List.take_length]
  rw [e]
  exact DtA.of_ints ns
theorem rc_lstL : RC B (rLstOf B.K) ρ μ [.lst ds] (fun e => e = .lst ds) := fun τ σ H xs hl a Q q => by
  obtain ⟨G, g, h⟩ := a.args hl
  obtain ⟨v, rfl, p, vs, rfl, e, k⟩ := one_arg h
  exact .inl ⟨p, vs, rfl, .inl (.inl (.inl (g.sub _ _ e))), fun l hl => q _ _ _ rfl (g.newLst hl k)⟩
theorem ed_revI (h : Ed B te ρ μ (.lst (ns.map D.int))) : Ed B (tRevL B.K te) ρ μ (.lst (ns.reverse.map D.int)) := Ev.mk fun τ σ H a Q q => h.go a fun v H1 d hd a1 => by
  subst hd
  obtain ⟨G, g, p, vs, rfl, e, k⟩ := id a1.top
  refine ⟨p, vs, rfl, .inl (.inl (g.sub _ _ e)), fun p' hp' => q _ _ _ rfl (g.newLst hp' ?_)⟩
  rw [k.ints, ← List.map_reverse]
  exact DtA.of_ints ns.reverse
end
section
variable {P : Program} {w : World} {K : PySem.W.Frag} {mg : Str → Option Value} {base : Heap} {f : Addr} {fd : FuncData}
abbrev BN7 : List Str := ["int", "list"]
variable (bi : ∀ x, x ∈ BN7 → mg x = none)
include bi in
theorem ok__law_deck (F : Fun K "_law_deck" "_law_deck" s__law_deck f fd) : FnOk P w K mg base CX0 1 f fd ["script", "seed"] (sp__law_deck K) := by
  refine F.ok sc__law_deck (fun vs H Q E h => ?_) (fun cdv A outer s H vs Q E hr h => ?_)
  · obtain ⟨a, ns, m0, rfl, _⟩ := h
    rfl
  · have hu := hu_of hr
    obtain ⟨a, ns, m0, rfl, hS, hl, hq⟩ := h
    refine ⟨_, (pss_cons (ps_asg (pv 1) (pg_name (i := 2) sc__law_deck.nd rfl (by first | exact (.inl rfl) | exact (.inr rfl))))
      (pss_cons (ps_for PassesOwn.never rfl (pi_list (pe_slice (r := rSlU K) u_sl (pv 0) po_none (po_some pe_int))) (pg_name (i := 3) sc__law_deck.nd rfl (by first | exact (.inl rfl) | exact (.inr rfl)))
        (pss_one (ps_asg (pe_op op_mod (pe_callTy (T := "int") call_int1 (by rfl) (bi "int" (by decide +kernel)) (by decide +kernel) (pa_cons (pe_op (r := rAddU K) u_add (pe_op (r := rAddU K) u_add (pe_op u_mul2 (pv 2) pe_int) (pe_op op_mod (pe_callTy (T := "int") call_int1 (by rfl) (bi "int" (by decide +kernel)) (by decide +kernel) (pa_cons (pv 3) pa_nil)) pe_int)) pe_int) pa_nil)) pe_int) (pg_name (i := 2) sc__law_deck.nd rfl (by first | exact (.inl rfl) | exact (.inr rfl))))))
      (pss_one (ps_ret (pe_disp (pps_cons pe_str (pe_revL (pe_callTy (T := "list") (r := rLstOf K) (u_list rfl) (by rfl) (bi "list" (by decide +kernel)) (by decide +kernel) (pa_cons (pe_slice (r := rSlU K) u_sl (pv 0) po_none (po_some pe_int)) pa_nil))) (pps_cons pe_str (pv 2) (pps_cons pe_str pe_int pps_nil))) (by rfl) (by rfl) (fun z => by cases z) (by decide)))))), ?_⟩
    have a0 : At (Bz K H) [some (.raw (.ref a)), some (.raw (.int m0)), none, none] [] [] (start n__law_deck [.ref a, .int m0]) H := At.zero rfl fun i d e => by
      match i, e with
      | 0, e => exact ⟨.ref a, rfl, (Option.some.inj (Option.some.inj e)).symm⟩
      | 1, e => exact ⟨.int m0, rfl, (Option.some.inj (Option.some.inj e)).symm⟩
      | 2, e => cases e
      | 3, e => cases e
    refine y_set (d := .int m0) a0 (Ev.mk fun τ σ H a Q q => ?_) fun σ1 H1 a1 => ?_
    · obtain ⟨v, h1, h2⟩ := At.var a (i := 1) rfl
      obtain ⟨G, g, hv⟩ := h2.top
      rw [show v = V.int m0 from hv] at h1
      exact ⟨_, h1, q _ _ _ rfl (At.flat a fun _ => rfl)⟩
    refine y_forN a1 (ei_lst (ed_cutScript hS hl rfl)) (fun i ρ μ => ∃ (m : Int) (c : Option D), ρ = [some (.raw (.ref a)), some (.raw (.int m0)), some (.int m), c] ∧ μ = []) ⟨_, none, rfl, rfl⟩ (fun i ρ' μ' τ1 σ2 H2 Dn hi hI a2 hnx hct hbk hrt => ?_) fun ρ' μ' σ2 H2 hI a2 => ?_
    · obtain ⟨m, c, rfl, rfl⟩ := hI
      have hi' : i < ns.length := by simpa using hi
      have ex : (ns.map D.int).getD i .non = .int ns[i] := by
        rw [List.getD_eq_getElem?_getD, List.getElem?_map, List.getElem?_eq_getElem hi']; rfl
      rw [ex] at a2
      refine x_set a2 (ed_op (ed_cb (ead_cons (ed_op (ed_op (ed_op (ed_var rfl) ed_int (rd_mulI2 (.inr ⟨by decide, by decide⟩))) (ed_op (ed_cb (ead_cons (ed_var rfl) ea_nil) rc_intI) ed_int (rd_mod (by decide))) rd_addI) ed_int rd_addI) ea_nil) rc_intI) ed_int (rd_mod (by decide))) fun σ3 H3 a3 => hnx _ _ _ _ ⟨_, _, rfl, rfl⟩ a3
    · obtain ⟨m, c, rfl, rfl⟩ := hI
      -- the object: left, mixed, draws
      intro p hp
      obtain ⟨a3, _⟩ := At.newCell (c := .dk []) (o := .dK []) a2 hp fun G _ => ⟨[], upd_same, rfl⟩
      have hpn : H p = none := by
        cases e : H p with
        | none => rfl
        | some o => rw [At.same a2 p o e] at hp; cases hp
      simp only [tPairs]
      simp only [tC]
      show tRevL K (tCB (rLstOf K) (tCons (tSl (rSlU K) (tVar 0) tNoPart (tPart (tC (.int 63)))) tNil)) σ2 (upd H2 p (HO.dK [])) _
      refine (ed_revI (B := Bz K H) (ed_cb (ead_cons (ed_cutScript (j := 0) hS hl rfl) ea_nil) rc_lstL)).go a3 fun v H3 d hd a4 => ?_
      subst hd
      obtain ⟨v2, g1, g2⟩ := At.var (i := 2) a4 rfl
      obtain ⟨G, g, hv2⟩ := id g2.top
      rw [show v2 = V.int m from hv2] at g1
      obtain ⟨G4, g4, l, vs, rfl, e4, k4⟩ := id a4.top
      have hvs := k4.ints
      subst hvs
      obtain ⟨n1, n2, n3, kvs, c1, c2⟩ := g4.cells _ (List.mem_cons_self ..)
      have hk : kvs = [] := c2
      subst hk
      have hl4 : H l = none := by
        rcases g4.ext l _ e4 with z | z
        · exact z
        · obtain ⟨vs', z'⟩ := tupsOf_is z
          cases z'
      have hne : p ≠ l := fun z => by
        have n1' : G4 p = none := n1
        rw [z, e4] at n1'; cases n1'
      show tVar 2 σ2 H3 _
      refine ⟨_, g1, ⟨c1, [(kL, .ref l), (kM, .int m), (kD, .int 0)], rfl, by show 3 ≤ 15; decide, ?_⟩⟩
      refine hq p l _ (fun b o e => ?_) hpn hl4 hne ⟨ns.reverse, m, 0, ?_, ?_, by rw [List.length_reverse]; omega⟩
      · rw [upd_ne (fun z => by rw [z, hpn] at e; cases e)]
        exact At.same a4 b o e
      · rw [upd_same, dkv_merge]
      · rw [upd_ne hne.symm]
        exact g4.sub _ _ e4
end
end Cal


namespace Cal
open PySem PySem.Spec PyProof.Rows L2
abbrev s_law : Stmt := topS 60
abbrev n_law : List Str := ["script", "deck", "turn", "placement", "graph", "many", "go", "one", "other", "p", "own", "told", "some", "cases", "again", "at", "thing", "due", "held"]
theorem sc_law : FnScope n_law ["script"] (defScope s_law) := ⟨rfl, rfl, rfl, by decide +kernel, rfl, by decide +kernel, by decide +kernel⟩
theorem rd_isN {B : Bs} {ρ : Ro} {μ : Mu} {d : D} {b : Bool} (h : ∀ G v, Dt B.K G d v → decide (v = .non) = b) : RD B (fun x y H Q => y = .non ∧ Q (.bl (decide (x = .non))) H) ρ μ d .non (fun e => e = .bl b) := rd_flat (fun _ => rfl) fun G H x y _ a c Q q => ⟨c, by rw [h G x a]; exact q⟩
theorem isN_opt {K : PySem.W.Frag} {G : Hp} (r : Option (List Int)) {v : V} (h : Dt K G (optW r) v) : decide (v = .non) = r.isNone := by
  cases r with
  | none => rw [show v = V.non from h]; rfl
  | some w =>
    obtain ⟨p, vs, rfl, _⟩ := h
    rfl
theorem rd_neB {B : Bs} {ρ : Ro} {μ : Mu} {a b : Bool} : RD B (rNeD B.K) ρ μ (.bl a) (.bl b) (fun e => e = .bl (!decide (a = b))) := by
  have := rd_neD (B := B) (ρ := ρ) (μ := μ) (d1 := .bl a) (d2 := .bl b) rfl rfl (by show 0 ≤ 64; decide) (by show 0 ≤ 64; decide)
  have e : eqD (.bl a) (.bl b) = decide (a = b) := by cases a <;> cases b <;> rfl
  rwa [e] at this
theorem ring_good {ss : List (List Str)} {cs : List (List Int)} (hP : Pl3 ss cs) {i j : Nat} {v : List Int} (g : GoodR (nearF ss cs) (ss.length + cs.length) i v) (h : hitR (nearF ss cs) i j v = true) : ringB ss cs i j (tI v) = true := by
  unfold hitR at h
  rw [Bool.and_eq_true, Bool.and_eq_true] at h
  have h1 := of_decide_eq_true h.1
  have h2 := of_decide_eq_true h.2.1
  have h3 := of_decide_eq_true h.2.2
  have bd := g.bd
  have c1 : decide ((v.length : Int) < 3) = false := decide_eq_false (by omega)
  have c2 : decide (((uniq v).length : Int) = (v.length : Int)) = true := decide_eq_true (by rw [uniq_len.mpr g.nd])
  have c3 : ((List.range v.length).all fun k => !!(decide (0 ≤ v.getD k 0) && decide (v.getD k 0 < ((ss.length + cs.length : Nat) : Int)))) = true := List.all_eq_true.mpr fun k hk => by
    have := bd _ (getD_in (z := (0 : Int)) (List.mem_range.mp hk))
    rw [decide_eq_true this.1, decide_eq_true this.2]; rfl
  have c4 : decide (v.getD 0 0 = (i : Int)) = true := decide_eq_true g.hd
  have c5 : decide ((j : Int) ∈ v) = true := decide_eq_true h2
  have c6 : ((List.range v.length).all fun k => !!decide (v.getD k 0 ∈ rowG ss cs (prevI v k).toNat)) = true := List.all_eq_true.mpr fun k hk => by
    have hk' := List.mem_range.mp hk
    obtain ⟨q, hq, e⟩ := prev_mem hk'
    have hb := bd _ (getD_in (z := (0 : Int)) hq)
    rw [← e] at hb
    rw [row_nearI hP hb.1 hb.2, Bool.not_not]
    refine decide_eq_true ?_
    unfold prevI
    by_cases z : k = 0
    · subst z
      rw [if_pos rfl, g.hd, ← getLastD_getD g.ne]; exact h3
    · have := g.st (k - 1) (by omega)
      rw [show k - 1 + 1 = k by omega] at this
      rw [if_neg z]; exact this
  show (areInts (tI v) && ringI ss cs i j (intsD (v.map .int))) = true
  rw [intsD_map, areInts_tI, Bool.true_and]
  unfold ringI
  rw [c1, c2, c3, c4, c5, c6]; rfl
theorem good_rg {ss : List (List Str)} {cs : List (List Int)} (hP : Pl3 ss cs) {i : Int} {v : List Int} (g : GoodR (nearF ss cs) (ss.length + cs.length) i v) : RgOk v := ⟨g.ne, by have := g.sz; omega, fun p hp => by have := g.bd p hp; have := hP.m7; omega⟩
section
variable {B : Bs} {ρ : Ro} {μ : Mu} {te : TE} {d : D} {n k : Nat}
theorem rp_tk (h : Tk n k d) (hn : n ≤ 1000000) (hk : k ≤ 20) (e : Ed B te ρ μ d) : Ed B (tCB (rRp B.K) (tCons te tNil)) ρ μ (.str (py d).shown) := ed_cb (ead_cons e ea_nil) fun τ σ H xs hl a Q q => by
  obtain ⟨G, g, h1⟩ := a.args hl
  obtain ⟨v, rfl, hv⟩ := one_arg h1
  exact ⟨v, d, G, rfl, g.sub, hv, h.ok, Nat.le_trans h.w hn, Nat.le_trans h.dp hk, q _ _ _ rfl (At.flat ⟨G, g⟩ fun _ => rfl)⟩
end
theorem tk_ints {n k : Nat} {d : D} (h : Tk n k d) (hn : n ≤ 100000) : ∀ v : List Int, d = tI v → v.length ≤ 1000 := fun v e => by
  have hw : wdA (v.map D.int) = v.length * 212 := by
    clear h e
    induction v with
    | nil => rfl
    | cons i r ih => show 210 + 2 + wdA (r.map D.int) = (r.length + 1) * 212; rw [ih]; omega
  have := h.w
  rw [e] at this
  have : wdA (v.map D.int) + 3 ≤ n := this
  omega
theorem tW_inj {f f' : List (List Int)} (h : D.lst (tW f) = .lst (tW f')) : f = f' := (List.map_inj_right fun a b e => tI_inj e).mp (D.lst.inj h)
theorem graphD_inj {ss ss' : List (List Str)} {cs cs' : List (List Int)} (h : graphD ss cs = graphD ss' cs') : ss.length + cs.length = ss'.length + cs'.length ∧ ∀ p, p < ss.length + cs.length → rowG ss cs p = rowG ss' cs' p := by
  have h1 := D.lst.inj h
  have hl : ss.length + cs.length = ss'.length + cs'.length := by have := congrArg List.length h1; rwa [List.length_map, List.length_map, List.length_range, List.length_range] at this
  refine ⟨hl, fun p hp => ?_⟩
  have h2 := congrArg (fun l => l[p]?) h1
  simp only [List.getElem?_map] at h2
  rw [List.getElem?_range hp, List.getElem?_range (by omega)] at h2
  have h3 := Option.some.inj h2
  exact lI_inj h3
theorem near_of_graph {ss ss' : List (List Str)} {cs cs' : List (List Int)} (hP : Pl3 ss cs) (hP' : Pl3 ss' cs') (h : graphD ss cs = graphD ss' cs') : nearF ss cs = nearF ss' cs' ∧ ss.length + cs.length = ss'.length + cs'.length := by
  obtain ⟨h1, h2⟩ := graphD_inj h
  refine ⟨funext fun x => ?_, h1⟩
  by_cases hx : x.toNat < ss.length + cs.length
  · have e : ∀ (ss : List (List Str)) (cs : List (List Int)), nearF ss cs x = nearF ss cs ((x.toNat : Nat) : Int) := fun ss cs => by unfold nearF; rw [show (((x.toNat : Nat) : Int)).toNat = x.toNat by omega]
    rw [e ss cs, e ss' cs', ← row_near hP hx, ← row_near hP' (by omega)]
    exact h2 _ hx
  · unfold nearF nearL
    rw [List.getD_eq_getElem?_getD, List.getElem?_eq_none (by rw [List.length_map, List.length_range]; omega), List.getD_eq_getElem?_getD, List.getElem?_eq_none (by rw [List.length_map, List.length_range]; omega)]
section
variable {P : Program} {w : World} {K : PySem.W.Frag} {mg : Str → Option Value} {base : Heap} {f : Addr} {fd : FuncData}
abbrev BNlaw70 : List Str := ["enumerate", "int", "len", "min", "range", "repr"]
variable (bi : ∀ x, x ∈ BNlaw70 → mg x = none)
include bi in
theorem run_law {s₁ : Shared} {H : Hp} {a : Addr} {ns : List Int} (F : Fun K "law" "law" s_law f fd) (hb : BindsTo s₁ fd ⟨[.ref a], []⟩ [("script", .ref a)]) (hl : ns.length ≤ 63) (e0 : Env0 P w K mg base callerA [] s₁ H) (hS : SqL K H a (ns.map V.int))
    (c__law_deck : C8.Cal P w K mg base 1 "_law_deck" (sp__law_deck K) []) (c__law_draw : C8.Cal P w K mg base 1 "_law_draw" (sp__law_draw K) []) (c__law_pick : C8.Cal P w K mg base 2 "_law_pick" (sp__law_pick K) []) (c__law_any : C8.Cal P w K mg base 6 "_law_any" (sp__law_any 3 K) []) (c__law_near : C8.Cal P w K mg base 14 "_law_near" (sp__law_near K) []) (c__law_drawn_placement : C8.Cal P w K mg base 3 "_law_drawn_placement" (sp__law_drawn_placement K) []) (c__law_made_placement : C8.Cal P w K mg base 3 "_law_made_placement" (sp__law_made_placement K) []) (c__law_graph : C8.Cal P w K mg base 3 "_law_graph" (sp__law_graph K) []) (c__law_rings : C8.Cal P w K mg base 1 "_law_rings" (sp__law_rings K) []) (c__law_is_ring : C8.Cal P w K mg base 3 "_law_is_ring" (sp__law_is_ring K) []) (c_ring_of : C8.Cal P w K mg base 9 "ring_of" (sp_ring_of K) []) (k_ring_of : CalW P w K mg base 9 "ring_of" ["other", "one", "placement"] (fun vs zs => vs ++ zs.reverse) (sp_ring_of K)) (c_ring_holds : C8.Cal P w K mg base 9 "ring_holds" (sp_ring_holds K) []) (k_ring_holds : CalW P w K mg base 9 "ring_holds" ["thing", "other", "one", "placement"] (fun vs zs => vs ++ zs.reverse) (sp_ring_holds K)) :
    codeAny (model P w) callerA (.call (.ref f) ⟨[.ref a], []⟩) (CR CX0 [] P w H s₁ (fun v _ => v = .bl true) fun _ _ _ => False) s₁ := by
  obtain ⟨oc, od, kV, doc, pm, an, cdv, ct, osl, rfl, lk, hcd⟩ := F.ex
  refine run_of (k := 20) (ps := ["script"]) (us := [.ref a]) (vs := [.ref a]) lk hcd sc_law rfl ⟨rfl, by decide, by decide⟩ e0 hb (.cons rfl .nil) ?_
  have hr : Room 20 (callerA.deeper (envOfC "law" (defScope s_law) s₁.heap.objs.size f cdv)) := Room.deeper (k := 20) ⟨rfl, by decide, by decide⟩ _
  have hg : (callerA.deeper (envOfC "law" (defScope s_law) s₁.heap.objs.size f cdv)).guards = some [] := rfl
  have hu := hu_of hr
  suffices hh : ∃ t, PSs (cxOf CX0 P w K mg base n_law "law" (defScope s_law) f cdv callerA [] s₁ H fun _ _ _ => False).nox (defBody s_law) t ∧ t { nx := fun _ _ => V.non = .bl true, rt := fun v _ => v = .bl true } (start n_law [.ref a]) H from let ⟨t, h1, h2⟩ := hh; ⟨t, h1.nox, h2⟩
  refine ⟨_, (pss_cons (ps_asg (C8.pe_c c__law_deck hr (by first | decide | omega) (by rfl) (pa_cons (pv 0) (pa_cons pe_int pa_nil))) (pg_name (i := 1) sc_law.nd rfl (by first | exact (.inl rfl) | exact (.inr rfl))))
      (pss_cons (ps_for PassesOwn.never rfl (pi_range1 (by rfl) (bi "range" (by decide +kernel)) (pa_cons pe_int pa_nil)) (pg_name (i := 2) sc_law.nd rfl (by first | exact (.inl rfl) | exact (.inr rfl)))
        (pss_cons (ps_asg (pe_ifExp (pt_cmpR (r := rEqD K) (u_eq hr.units) (pv 2) pe_int (nomark _)) (C8.pe_c c__law_drawn_placement hr (by first | decide | omega) (by rfl) (pa_cons (pv 1) (pa_cons pe_int (pa_cons pe_int (pa_cons pe_int pa_nil))))) (C8.pe_c c__law_made_placement hr (by first | decide | omega) (by rfl) (pa_cons (pv 1) pa_nil))) (pg_name (i := 3) sc_law.nd rfl (by first | exact (.inl rfl) | exact (.inr rfl))))
      (pss_cons (ps_asg (C8.pe_c c__law_graph hr (by first | decide | omega) (by rfl) (pa_cons (pv 3) pa_nil)) (pg_name (i := 4) sc_law.nd rfl (by first | exact (.inl rfl) | exact (.inr rfl))))
      (pss_cons (ps_asg (pe_callB (id := "len") (r := rLenU K) u_len (by rfl) (bi "len" (by decide +kernel)) (by decide +kernel) (pa_cons (pv 4) pa_nil)) (pg_name (i := 5) sc_law.nd rfl (by first | exact (.inl rfl) | exact (.inr rfl))))
      (pss_one (ps_for PassesOwn.never rfl (pi_range1 (by rfl) (bi "range" (by decide +kernel)) (pa_cons pe_int pa_nil)) (pg_name (i := 6) sc_law.nd rfl (by first | exact (.inl rfl) | exact (.inr rfl)))
        (pss_cons (ps_asg (pe_ifExp (pt_cmpR op_gt (pv 6) pe_int (nomark _)) (C8.pe_c c__law_draw hr (by first | decide | omega) (by rfl) (pa_cons (pv 1) (pa_cons (pv 5) pa_nil))) pe_int) (pg_name (i := 7) sc_law.nd rfl (by first | exact (.inl rfl) | exact (.inr rfl))))
      (pss_cons (ps_asg (pe_ifExp (pt_cmpR op_gt (pv 6) pe_int (nomark _)) (C8.pe_c c__law_pick hr (by first | decide | omega) (by rfl) (pa_cons (pv 1) (pa_cons (pe_lc (own := [("p", 9)]) (g := gName 9) rfl sc_law.nd (pi_range1 (by rfl) (bi "range" (by decide +kernel)) (pa_cons (pv 5) pa_nil)) (blkOk_by (N := n_law) (sc := defScope s_law) (by decide +kernel)) (fun _ _ _ _ _ => (pg_name (i := 9) sc_law.nd rfl (by first | exact (.inl rfl) | exact (.inr rfl)))) (fun _ _ _ _ _ => (pts_one (pt_cmpR (r := rNeD K) (u_ne hr.units) (pv 9) (pv 7) (nomark _)))) (fun _ _ _ _ _ => (pv 9))) pa_nil))) (pe_callB (id := "min") (call_min2 rfl) (by rfl) (bi "min" (by decide +kernel)) (by decide +kernel) (pa_cons pe_int (pa_cons (pe_op op_sub (pv 5) pe_int) pa_nil)))) (pg_name (i := 8) sc_law.nd rfl (by first | exact (.inl rfl) | exact (.inr rfl))))
      (pss_cons (ps_asg (C8.pe_c c__law_rings hr (by first | decide | omega) (by rfl) (pa_cons (pv 4) (pa_cons (pv 7) (pa_cons (pv 8) pa_nil)))) (pg_name (i := 10) sc_law.nd rfl (by first | exact (.inl rfl) | exact (.inr rfl))))
      (pss_cons (ps_asg (pe_ifExp (pt_cmpR u_lt (pv 6) pe_int (nomark _)) (C8.pe_c c_ring_of hr (by first | decide | omega) (by rfl) (pa_cons (pv 3) (pa_cons (pv 7) (pa_cons (pv 8) pa_nil)))) (pe_ck k_ring_of hr (by first | decide | omega) (by rfl) (pk_cons (pv 8) (pk_cons (pv 7) (pk_cons (pv 3) pk_nil))))) (pg_name (i := 11) sc_law.nd rfl (by first | exact (.inl rfl) | exact (.inr rfl))))
      (pss_cons (ps_if (PW.pt (pw_or (pt_cmpR (r := rNeD K) (u_ne hr.units) (pe_cmpR op_isN (pv 11) pe_non (nomark _)) (pe_cmpR (r := rEqE K) (op_eqE hr.units0) (pv 10) (pe_lst pa_nil) (nomark _)) (nomark _)) (pw_or1 (PW.pt (pw_and (pt_cmpR op_notN (pv 11) pe_non (nomark _)) (pw_and1 (pt_not (pt_val (C8.pe_c c__law_is_ring hr (by first | decide | omega) (by rfl) (pa_cons (pv 4) (pa_cons (pv 7) (pa_cons (pv 8) (pa_cons (pv 11) pa_nil))))))))))))) (pss_one (ps_ret pe_bl)) pss_nil)
      (pss_cons (ps_asg (pe_op (r := rAddU K) u_add (pv 10) (pe_ifExp (pt_cmpR op_notN (pv 11) pe_non (nomark _)) (pe_lst (pa_cons (pv 11) pa_nil)) (pe_lst (pa_cons (pe_tup (pa_cons (pv 7) (pa_cons (pv 8) pa_nil))) (pa_cons (pe_tup (pa_cons (pv 7) (pa_cons (pv 8) (pa_cons (pe_op op_mod (pe_callTy (T := "int") call_int1 (by rfl) (bi "int" (by decide +kernel)) (by decide +kernel) (pa_cons (pe_op (r := rAddU K) u_add (pv 7) (pv 8)) pa_nil)) (pv 5)) pa_nil)))) pa_nil))))) (pg_name (i := 12) sc_law.nd rfl (by first | exact (.inl rfl) | exact (.inr rfl))))
      (pss_cons (ps_asg (pe_op (r := rAddU K) u_add (pe_op (r := rAddU K) u_add (pe_slice (r := rSlU K) u_sl (pv 12) po_none (po_some pe_int)) (pe_lc (own := [("again", 14)]) (g := gName 14) (tt := tYes) rfl sc_law.nd (pi_range1 (by rfl) (bi "range" (by decide +kernel)) (pa_cons pe_int pa_nil)) (blkOk_by (N := n_law) (sc := defScope s_law) (by decide +kernel)) (fun _ _ _ _ _ => (pg_name (i := 14) sc_law.nd rfl (by first | exact (.inl rfl) | exact (.inr rfl)))) (fun _ _ _ _ _ => pts_nil) (fun _ _ _ _ _ => (C8.pe_c c__law_near hr (by first | decide | omega) (by rfl) (pa_cons (pv 1) (pa_cons (C8.pe_c c__law_pick hr (by first | decide | omega) (by rfl) (pa_cons (pv 1) (pa_cons (pv 12) pa_nil))) (pa_cons (pv 5) pa_nil))))))) (pe_lst (pa_cons (C8.pe_c c__law_any hr (by first | decide | omega) (by rfl) (pa_cons (pv 1) (pa_cons pe_int pa_nil))) pa_nil))) (pg_name (i := 13) sc_law.nd rfl (by first | exact (.inl rfl) | exact (.inr rfl))))
      (pss_one (ps_for PassesOwn.never rfl (pi_enum (by rfl) (bi "enumerate" (by decide +kernel)) (pa_cons (pv 13) pa_nil)) (pg_tup rfl (pgs_cons (pg_name (i := 15) sc_law.nd rfl (by first | exact (.inl rfl) | exact (.inr rfl))) (pgs_cons (pg_name (i := 16) sc_law.nd rfl (by first | exact (.inl rfl) | exact (.inr rfl))) pgs_nil)))
        (pss_cons (ps_asg (C8.pe_c c__law_is_ring hr (by first | decide | omega) (by rfl) (pa_cons (pv 4) (pa_cons (pv 7) (pa_cons (pv 8) (pa_cons (pv 16) pa_nil))))) (pg_name (i := 17) sc_law.nd rfl (by first | exact (.inl rfl) | exact (.inr rfl))))
      (C8.pss_cut (ps_if (pt_cmpR (r := rEqD K) (u_eq hr.units) (pe_op op_mod (pe_callTy (T := "int") call_int1 (by rfl) (bi "int" (by decide +kernel)) (by decide +kernel) (pa_cons (pv 15) pa_nil)) pe_int) pe_int (nomark _)) (pss_one (ps_asg (C8.pe_c c_ring_holds hr (by first | decide | omega) (by rfl) (pa_cons (pv 3) (pa_cons (pv 7) (pa_cons (pv 8) (pa_cons (pv 16) pa_nil))))) (pg_name (i := 18) sc_law.nd rfl (by first | exact (.inl rfl) | exact (.inr rfl))))) (pss_one (ps_asg (pe_ck k_ring_holds hr (by first | decide | omega) (by rfl) (pk_cons (pv 16) (pk_cons (pv 8) (pk_cons (pv 7) (pk_cons (pv 3) pk_nil))))) (pg_name (i := 18) sc_law.nd rfl (by first | exact (.inl rfl) | exact (.inr rfl))))))
      (pss_one (ps_if (pt_cmpR op_neS (pe_callB (id := "repr") (r := rRp K) (u_repr hg hr.units) (by rfl) (bi "repr" (by decide +kernel)) (by decide +kernel) (pa_cons (pv 18) pa_nil)) (pe_callB (id := "repr") (r := rRp K) (u_repr hg hr.units) (by rfl) (bi "repr" (by decide +kernel)) (by decide +kernel) (pa_cons (pv 17) pa_nil)) (nomark _)) (pss_one (ps_ret pe_bl)) pss_nil)))))))))))))))))))
      (pss_one (ps_ret pe_bl)))), ?_⟩
  -- the deck
  refine ⟨.ref a, rfl, a, ns, _, rfl, hS, hl, fun dk l H1 hs hdk hll hne hI => ?_⟩
  have a1 : At (Bd K dk l 64 (tupsOf H1) H1) [none, some (.raw (.ref dk)), none, none, none, none, none, none, none, none, none, none, none, none, none, none, none, none, none] [] [] ((start n_law [.ref a]).set 1 (some (.ref dk))) H1 := At.deck rfl (fun i d e => by
    match i, e with
    | 0, e => cases e
    | 1, e => exact ⟨.ref dk, rfl, (Option.some.inj (Option.some.inj e)).symm⟩
    | i + 2, e =>
      have : ([none, none, none, none, none, none, none, none, none, none, none, none, none, none, none, none, none] : Ro)[i]? = some (some d) := by simpa using e
      have := List.mem_of_getElem? this
      simp at this) hI
  refine y_forN a1 (ei_rng1 (ead_cons ed_int ea_nil) ⟨by decide, by decide⟩) (fun _ ρ μ => ∃ x2 x3 x4 x5 x6 x7 x8 x9 x10 x11 x12 x13 x14 x15 x16 x17 x18 : Option D, ρ = [none, some (.raw (.ref dk)), x2, x3, x4, x5, x6, x7, x8, x9, x10, x11, x12, x13, x14, x15, x16, x17, x18] ∧ μ = []) ⟨_, _, _, _, _, _, _, _, _, _, _, _, _, _, _, _, _, rfl, rfl⟩ (fun turn ρ' μ' τ1 σ2 H2 Dn hturn hI a2 hnx hct hbk hrt => ?_) fun ρ' μ' σ2 H2 hI a2 => ?_
  · obtain ⟨x2, x3, x4, x5, x6, x7, x8, x9, x10, x11, x12, x13, x14, x15, x16, x17, x18, rfl, rfl⟩ := hI
    -- placement
    refine y_setV (P := fun d => ∃ ss cs, d = plD ss cs ∧ Pl3 ss cs) a2 (ev_if (Pb := fun _ => True) ((eb_test (ed_op (ed_var rfl) ed_int rd_eqI)).imp fun _ _ => True.intro) (fun _ => ed_d rfl (ead_cons ed_int (ead_cons ed_int (ead_cons ed_int ea_nil))) ⟨6, 5, 2, rfl, ⟨by decide, by decide⟩, ⟨by decide, by decide⟩, by decide, by decide⟩ (by
      rintro e ⟨m, r, c, _, ss, cs, e1, h, _⟩
      exact ⟨ss, cs, e1, h⟩)) fun _ => ed_d rfl ea_nil rfl (by
      rintro e ⟨ss, e1, h, _⟩
      exact ⟨ss, [], e1, h⟩)) fun d σ3 H3 hd a3 => ?_
    obtain ⟨ss, cs, rfl, hP⟩ := hd
    have m7 := hP.m7
    have n1 := hP.n1
    -- graph, many
    refine y_set (d := graphD ss cs) a3 (ed_p (ead_cons (ed_var rfl) ea_nil) ⟨_, _, rfl, hP⟩ (by
      rintro e ⟨ss', cs', e1, rfl⟩
      obtain ⟨rfl, rfl⟩ := plD_zero e1
      rfl)) fun σ4 H4 a4 => ?_
    refine y_set (d := .int ((ss.length + cs.length : Nat) : Int)) a4 (Ed.is (ed_lenL (ed_var rfl)) (by rw [List.length_map, List.length_range])) fun σ5 H5 a5 => ?_
    refine x_forN a5 (ei_rng1 (ead_cons ed_int ea_nil) ⟨by decide, by decide⟩) (fun _ ρ μ => ∃ x6 x7 x8 x9 x10 x11 x12 x13 x14 x15 x16 x17 x18 : Option D, ρ = [none, some (.raw (.ref dk)), some (.int (turn : Nat)), some (plD ss cs), some (graphD ss cs), some (.int ((ss.length + cs.length : Nat) : Int)), x6, x7, x8, x9, x10, x11, x12, x13, x14, x15, x16, x17, x18] ∧ μ = []) ⟨_, _, _, _, _, _, _, _, _, _, _, _, _, rfl, rfl⟩ (fun go ρ' μ' τ2 σ6 H6 Dn2 hgo hI a6 hnx2 hct2 hbk2 hrt2 => ?_) fun ρ' μ' σ6 H6 hI a6 => ?_
    · obtain ⟨x6, x7, x8, x9, x10, x11, x12, x13, x14, x15, x16, x17, x18, rfl, rfl⟩ := hI
      have tg : ∀ {ρ : Ro} {μ : Mu}, ρ[6]? = some (some (.int (go : Nat))) → Eb (Bd K dk l 64 (tupsOf H1) H1) (tTest (tOp (rI0 fun i j => .bl (decide (j < i))) (tVar 6) (tC (.int 0)))) ρ μ (decide ((0 : Int) < (go : Int))) := fun h => eb_test (ed_op (ed_var h) ed_int rd_gt)
      -- one
      refine y_setV (P := fun d => ∃ i : Nat, d = .int (i : Nat) ∧ i < ss.length + cs.length ∧ (go = 0 → i = 0)) a6 (ev_if (Pb := fun b => b = decide ((0 : Int) < (go : Int))) (tg rfl) (fun z => ed_d rfl (ead_cons (ed_var rfl) ea_nil) ⟨_, rfl, by omega, by omega⟩ (by
        rintro e ⟨n, r, e1, rfl, h1, h2⟩
        cases e1
        have := of_decide_eq_true z.symm
        exact ⟨r.toNat, by congr 1; omega, by omega, by omega⟩)) fun _ => Ed.ev ed_int ⟨0, rfl, by omega, fun _ => rfl⟩) fun d σ7 H7 hd a7 => ?_
      obtain ⟨i, rfl, hi, hi0⟩ := hd
      -- other
      refine y_setV (P := fun d => ∃ j : Nat, d = .int (j : Nat) ∧ j < ss.length + cs.length ∧ i ≠ j) a7 (ev_if (Pb := fun b => b = decide ((0 : Int) < (go : Int))) (tg rfl) (fun z => ed_d rfl (ead_cons (d := .lst (((List.range (ss.length + cs.length)).filter fun q : Nat => !decide ((q : Int) = (i : Int))).map fun q : Nat => D.int (q : Int))) (ed_lcT (n := ss.length + cs.length) (h := fun q : Nat => D.int (q : Int)) (fun q : Nat => !decide ((q : Int) = (i : Int))) (ei_rng1 (i := ((ss.length + cs.length : Nat) : Int)) (ead_cons (ed_var rfl) ea_nil) ⟨by omega, by omega⟩) (by decide) (by omega) (fun q hq cl => eb_test (ed_op (ed_var rfl) (ed_var rfl) rd_neI)) fun q hq _ cl => ed_var rfl) ea_nil) ⟨_, rfl, fun z => ?_, by
          rw [List.length_map]
          have := List.length_filter_le (fun q : Nat => !decide ((q : Int) = (i : Int))) (List.range (ss.length + cs.length))
          rw [List.length_range] at this; omega⟩ (by
          rintro e ⟨ds', e1, hm⟩
          cases e1
          obtain ⟨q, hq, rfl⟩ := List.mem_map.mp hm
          obtain ⟨q1, q2⟩ := List.mem_filter.mp hq
          rw [Bool.not_eq_true', decide_eq_false_iff_not] at q2
          exact ⟨q, rfl, List.mem_range.mp q1, fun z => q2 (by rw [z])⟩)) fun z => ?_) fun d σ8 H8 hd a8 => ?_
      · have hmem : (if i = 0 then 1 else 0) ∈ ((List.range (ss.length + cs.length)).filter fun q : Nat => !decide ((q : Int) = (i : Int))) := by
          by_cases h : i = 0
          · rw [if_pos h]; exact List.mem_filter.mpr ⟨List.mem_range.mpr (by omega), by rw [decide_eq_false (by omega)]; rfl⟩
          · rw [if_neg h]; exact List.mem_filter.mpr ⟨List.mem_range.mpr (by omega), by rw [decide_eq_false (by omega)]; rfl⟩
        have := List.mem_map_of_mem (f := fun q : Nat => D.int (q : Int)) hmem
        rw [z] at this; cases this
      · have hz := of_decide_eq_false z.symm
        have h0 := hi0 (by omega)
        refine Ed.ev (ed_cb (ead_cons ed_int (ead_cons (ed_op (ed_var rfl) ed_int rd_sub) ea_nil)) rc_min) ⟨min 3 (ss.length + cs.length - 1), ?_, by omega, by omega⟩
        congr 1; omega
      obtain ⟨j, rfl, hj, hij⟩ := hd
      -- own
      refine y_setV (P := fun d => ∃ f : List (List Int), d = .lst (tW f) ∧ First (nearF ss cs) i j [[(i : Int)]] f.head? ∧ (∀ w ∈ f, GoodR (nearF ss cs) (ss.length + cs.length) i w ∧ hitR (nearF ss cs) i j w = true) ∧ f.length ≤ 4) a8 (ev_p (ead_cons (ed_var rfl) (ead_cons (ed_var rfl) (ead_cons (ed_var rfl) ea_nil))) ⟨_, _, _, _, rfl, hP, hi⟩ (by
        rintro e ⟨ss', cs', i', j', f, e1, h1, h2, h3, rfl, hP'⟩
        injection e1 with e1 e2
        injection e2 with e2 e3
        injection e3 with e3 _
        obtain ⟨n1, n2⟩ := near_of_graph hP hP' e1
        rw [← n1, ← Int.ofNat.inj (D.int.inj e2), ← Int.ofNat.inj (D.int.inj e3)] at h1 h2
        rw [← n2] at h2
        exact ⟨f, rfl, h1, h2, h3⟩)) fun d σ9 H9 hd a9 => ?_
      obtain ⟨f, rfl, hf1, hf2, hf3⟩ := hd
      -- told
      have toldP : ∀ e : D, (∃ (ss' : List (List Str)) (cs' : List (List Int)) (i' j' : Nat) (r : Option (List Int)), ([plD ss cs, .int (i : Nat), .int (j : Nat)] : List D) = [plD ss' cs', .int i', .int j'] ∧ First (nearF ss' cs') i' j' [[(i' : Int)]] r ∧ e = optW r) → e = optW f.head? := by
        rintro e ⟨ss', cs', i', j', r, e1, h1, rfl⟩
        obtain ⟨rfl, rfl, rfl, rfl, _⟩ := plij_inj e1
        rw [h1.det hf1]
      refine y_set (d := optW f.head?) a9 (ed_if (b := decide ((go : Int) < 2)) (eb_test (ed_op (ed_var rfl) ed_int rd_ltI)) (fun _ => ed_p (ead_cons (ed_var rfl) (ead_cons (ed_var rfl) (ead_cons (ed_var rfl) ea_nil))) ⟨_, _, _, _, rfl, hP, hi, hj, hij⟩ toldP) fun _ => ed_pwR (ds := [plD ss cs, .int (i : Nat), .int (j : Nat)]) (fun _ => rfl) (ead_cons (ed_var rfl) (ead_cons (ed_var rfl) (ead_cons (ed_var rfl) ea_nil))) rfl ⟨_, _, _, _, rfl, hP, hi, hj, hij⟩ toldP) fun σ10 H10 a10 => ?_
      -- the test
      have e0 : f.head?.isNone = (tW f).isEmpty := by cases f <;> rfl
      have ringP : ∀ {d : D} (e : D), (∃ ss' cs', ∃ (one other : Nat) (d' : D), ([graphD ss cs, .int (i : Nat), .int (j : Nat), d] : List D) = [graphD ss' cs', .int one, .int other, d'] ∧ e = .bl (ringB ss' cs' one other d')) → e = .bl (ringB ss cs i j d) := by
        rintro d e ⟨ss', cs', i', j', d', e1, rfl⟩
        injection e1 with e1 e2
        injection e2 with e2 e3
        injection e3 with e3 e4
        injection e4 with e4 _
        rw [← Int.ofNat.inj (D.int.inj e2), ← Int.ofNat.inj (D.int.inj e3), ← e4]
        exact congrArg D.bl (ringB_graph e1).symm
      refine y_ifb (b := (!decide (f.head?.isNone = (tW f).isEmpty)) || (!f.head?.isNone && !true)) a10 (eb_or (eb_test (ed_op (ed_op (ed_var rfl) ed_non (rd_isN fun G v hv => isN_opt _ hv)) (ed_op (ed_var rfl) (ed_lst ea_nil (by decide)) rd_eqE) rd_neB)) fun _ => eb_and (eb_test (ed_op (ed_var rfl) ed_non (rd_notN (b := !f.head?.isNone) fun G v hv => by rw [isN_opt _ hv]))) fun z => eb_not (eb_B ?_)) (fun z => ?_) fun _ H11 a11 => ?_
      · cases hf : f with
        | nil => rw [hf] at z; cases z
        | cons v t =>
          have hv := hf2 v (by rw [hf]; exact List.mem_cons_self ..)
          have hrg := good_rg hP hv.1
          rw [← hf]
          have hd : optW f.head? = tI v := by rw [hf]; rfl
          refine Ed.is (ed_p (d := .bl (ringB ss cs i j (tI v))) (ead_cons (ed_var rfl) (ead_cons (ed_var rfl) (ead_cons (ed_var rfl) (ead_cons (d := tI v) (Ed.is (ed_var rfl) hd) ea_nil)))) ⟨_, _, _, _, _, rfl, hP, pt_sm hrg.pt.1 (by have := hrg.pt.2.1; omega), fun v' e => by rw [← tI_inj e]; have := hrg.2.1; omega⟩ ringP) (by rw [ring_good hP hv.1 hv.2])
      · rw [e0, decide_eq_true rfl, Bool.not_true, Bool.and_false] at z; cases z
      -- some
      refine y_setV (P := fun d => ∃ S : List (List Int), d = .lst (tW S) ∧ S ≠ [] ∧ S.length ≤ 6 ∧ ∀ v ∈ S, RgOk v) a11 (ev_op (P1 := fun d => d = .lst (tW f)) (P2 := fun d => ∃ S : List (List Int), d = .lst (tW S) ∧ S ≠ [] ∧ S.length ≤ 2 ∧ ∀ v ∈ S, RgOk v) (ed_var rfl) (ev_if (Pb := fun b => b = !f.head?.isNone) (eb_test (ed_op (ed_var rfl) ed_non (rd_notN (b := !f.head?.isNone) fun G v hv => by rw [isN_opt _ hv]))) (fun z => ?_) fun z => ?_) fun d1 d2 e1 ⟨S, e2, h1, h2, h3⟩ => ?_) fun d σ12 H12 hd a12 => ?_
      · cases hf : f with
        | nil => rw [hf] at z; cases z
        | cons v t =>
          have hv := hf2 v (by rw [hf]; exact List.mem_cons_self ..)
          have hrg := good_rg hP hv.1
          rw [← hf]
          have hd : optW f.head? = tI v := by rw [hf]; rfl
          exact Ed.ev (ed_lst (ds := tW [v]) (ead_cons (Ed.is (ed_var rfl) hd) ea_nil) (by show 1 ≤ _; decide)) ⟨[v], rfl, by simp, by show 1 ≤ 2; decide, fun u hu => by rw [List.mem_singleton.mp hu]; exact hrg⟩
      · have hm : (((i : Int) + (j : Int)) % ((ss.length + cs.length : Nat) : Int)) < 7 := by have := Int.emod_lt_of_pos ((i : Int) + (j : Int)) (show (0 : Int) < ((ss.length + cs.length : Nat) : Int) by omega); omega
        have hm0 := Int.emod_nonneg ((i : Int) + (j : Int)) (show ((ss.length + cs.length : Nat) : Int) ≠ 0 by omega)
        refine Ed.ev (ed_lst (ds := tW [[(i : Int), (j : Int)], [(i : Int), (j : Int), ((i : Int) + (j : Int)) % ((ss.length + cs.length : Nat) : Int)]]) (ead_cons (ed_tup (ead_cons (ed_var rfl) (ead_cons (ed_var rfl) ea_nil)) (by show 2 ≤ sizeLine; decide)) (ead_cons (ed_tup (ead_cons (ed_var rfl) (ead_cons (ed_var rfl) (ead_cons (ed_op (ed_cb (ead_cons (ed_op (ed_var rfl) (ed_var rfl) rd_addI) ea_nil) rc_intI) (ed_var rfl) (rd_mod (by omega))) ea_nil))) (by show 3 ≤ sizeLine; decide)) ea_nil)) (by show 2 ≤ sizeLine; decide)) ⟨_, rfl, by simp, by show 2 ≤ 2; decide, fun u hu => ?_⟩
        simp only [List.mem_cons, List.not_mem_nil, or_false] at hu
        rcases hu with rfl | rfl
        · refine ⟨by simp, by show 2 ≤ 12; decide, fun p hp => ?_⟩
          simp only [List.mem_cons, List.not_mem_nil, or_false] at hp
          rcases hp with rfl | rfl <;> omega
        · refine ⟨by simp, by show 3 ≤ 12; decide, fun p hp => ?_⟩
          simp only [List.mem_cons, List.not_mem_nil, or_false] at hp
          rcases hp with rfl | rfl | rfl <;> omega
      · subst e1; subst e2
        refine (rd_addL (szS (by rw [List.length_map, List.length_map]; omega))).imp fun d hd => ⟨f ++ S, by rw [hd]; show _ = D.lst (List.map _ (f ++ S)); rw [List.map_append], fun z => h1 (List.append_eq_nil_iff.mp z).2, by rw [List.length_append]; omega, fun v hv => ?_⟩
        rcases List.mem_append.mp hv with z | z
        · exact good_rg hP (hf2 v z).1
        · exact h3 v z
      obtain ⟨S, rfl, hS1, hS2, hS3⟩ := hd
      have Stk : ∀ d ∈ tW S, Tk 20000 20 d := fun d hd => by
        obtain ⟨v, hv, rfl⟩ := List.mem_map.mp hd
        have := hS3 v hv
        exact tk_fl this.fl (by rw [List.length_map]; have := this.2.1; omega)
      -- cases
      refine y_setV (P := fun d => ∃ ds, d = .lst ds ∧ (∀ d ∈ ds, Tk 20000 20 d) ∧ ds.length ≤ 20) a12 (ev_op (P1 := fun d => ∃ ds, d = .lst ds ∧ (∀ d ∈ ds, Tk 20000 20 d) ∧ ds.length ≤ 10) (P2 := fun d => ∃ ds, d = .lst ds ∧ (∀ d ∈ ds, Tk 20000 20 d) ∧ ds.length ≤ 10) (ev_op (P1 := fun d => d = .lst (cutD (tW S) none (some 3))) (P2 := fun d => ∃ ds, d = .lst ds ∧ (∀ d ∈ ds, Tk 20000 20 d) ∧ ds.length ≤ 4) (ed_slL (ed_var rfl) eo_none (eo_some ed_int)) (ev_lc0 (n := 4) (f := fun k : Nat => D.int (k : Int)) (ei_rng1 (i := 4) (ead_cons ed_int ea_nil) ⟨by decide, by decide⟩) (by decide) (by decide) (fun _ => Tk 20000 20) (fun k hk cl => ev_dN (Ps := fun es => ∃ (v : List Int) (m : Int), es = [tI v, .int m] ∧ RgOk v ∧ 1 ≤ m ∧ m ≤ 7) rfl (ea_cons (P := fun d => ∃ v : List Int, d = tI v ∧ RgOk v) (ed_d rfl (ead_cons (ed_var rfl) ea_nil) ⟨_, rfl, (fun z => by have := congrArg List.length z; rw [List.length_map] at this; exact hS1 (List.length_eq_zero_iff.mp this)), by rw [List.length_map]; omega⟩ (by
          rintro e ⟨ds', e1, hm⟩
          cases e1
          obtain ⟨v, hv, rfl⟩ := List.mem_map.mp hm
          exact ⟨v, rfl, hS3 v hv⟩)) fun d ⟨v, e1, hv⟩ => (ead_cons (d := .int ((ss.length + cs.length : Nat) : Int)) (ed_var rfl) ea_nil).imp fun es e2 => ⟨v, ((ss.length + cs.length : Nat) : Int), by rw [e1, e2], hv, by omega, by omega⟩) (fun es h => h) fun es e h hp => hp) fun ds hl hp => ⟨ds, rfl, fun d hd => ?_, by omega⟩) fun d1 d2 e1 ⟨ds, e2, h1, h2⟩ => ?_) (ev_lst (Ps := fun ds => ∃ d, ds = [d] ∧ Tk 20000 20 d) (ea1P (ed_d rfl (ead_cons ed_int ea_nil) ⟨_, rfl, by decide, by decide⟩ (by rintro e ⟨k', e1, h⟩; cases e1; exact h.mono (by decide) (by decide)))) fun ds ⟨d, e1, h⟩ => ⟨by rw [e1]; show 1 ≤ sizeLine; decide, ds, rfl, fun z hz => by rw [e1] at hz; rw [List.mem_singleton.mp hz]; exact h, by rw [e1]; show 1 ≤ 10; decide⟩) fun d1 d2 ⟨as, e1, h1, h2⟩ ⟨bs, e2, h3, h4⟩ => ?_) fun d σ13 H13 hd a13 => ?_
      · obtain ⟨q, hq, e⟩ := List.getElem_of_mem hd
        exact hp q d (by rw [List.getElem?_eq_getElem hq, e])
      · subst e1; subst e2
        have c1 := (cutD_sub (tW S) none (some 3)).length_le
        rw [List.length_map] at c1
        refine (rd_addL (szS (by omega))).imp fun d hd => ⟨_, hd, fun z hz => ?_, by rw [List.length_append]; omega⟩
        rcases List.mem_append.mp hz with y | y
        · exact Stk z ((cutD_sub _ _ _).subset y)
        · exact h1 z y
      · subst e1; subst e2
        refine (rd_addL (szS (by omega))).imp fun d hd => ⟨_, hd, fun z hz => (List.mem_append.mp hz).elim (h1 z) (h3 z), by rw [List.length_append]; omega⟩
      obtain ⟨ds, rfl, hds, hdl⟩ := hd
      refine x_forG (js := [15, 16]) (ρf := fun t ρ => (ρ.set 15 (some (.int (t : Nat)))).set 16 (some (ds.getD t .non))) a13 (ei_enumL (ead_cons (ed_var rfl) ea_nil)) (fun t ρ μ => ∃ x14 x15 x16 x17 x18 : Option D, ρ = [none, some (.raw (.ref dk)), some (.int (turn : Nat)), some (plD ss cs), some (graphD ss cs), some (.int ((ss.length + cs.length : Nat) : Int)), some (.int (go : Nat)), some (.int (i : Nat)), some (.int (j : Nat)), x9, some (.lst (tW f)), some (optW f.head?), some (.lst (tW S)), some (.lst ds), x14, x15, x16, x17, x18] ∧ μ = []) ⟨_, _, _, _, _, rfl, rfl⟩ (fun t ρ' μ' ht hI => gd_tup2) (fun t ρ' μ' τ3 σ14 H14 Dn3 ht hI a14 hnx3 => ?_) fun ρ' μ' σ14 H14 hI a14 => ?_
      · obtain ⟨x14, x15, x16, x17, x18, rfl, rfl⟩ := hI
        have htk := hds _ (getD_memS (z := D.non) ht)
        generalize hth : ds.getD t .non = thing at a14 htk
        have hsm : Sm thing := sm_of htk.ok (Nat.le_trans htk.w (by decide))
        have hil := tk_ints htk (by decide)
        have holdP : ∀ e : D, (∃ (ss' : List (List Str)) (cs' : List (List Int)) (i' j' : Nat) (d' : D), ([plD ss cs, .int (i : Nat), .int (j : Nat), thing] : List D) = [plD ss' cs', .int i', .int j', d'] ∧ e = .bl (ringB ss' cs' i' j' d')) → e = .bl (ringB ss cs i j thing) := by
          rintro e ⟨ss', cs', i', j', d', e1, rfl⟩
          obtain ⟨rfl, rfl, rfl, rfl, e2⟩ := plij_inj e1
          injection e2 with e2 _
          rw [e2]
        -- due
        refine y_set (d := .bl (ringB ss cs i j thing)) a14 (ed_p (ead_cons (ed_var rfl) (ead_cons (ed_var rfl) (ead_cons (ed_var rfl) (ead_cons (ed_var rfl) ea_nil)))) ⟨_, _, _, _, _, rfl, hP, hsm, hil⟩ ringP) fun σ15 H15 a15 => ?_
        -- held
        refine y_cut (M := fun σ' H' => At (Bd K dk l 64 (tupsOf H1) H1) [none, some (.raw (.ref dk)), some (.int (turn : Nat)), some (plD ss cs), some (graphD ss cs), some (.int ((ss.length + cs.length : Nat) : Int)), some (.int (go : Nat)), some (.int (i : Nat)), some (.int (j : Nat)), x9, some (.lst (tW f)), some (optW f.head?), some (.lst (tW S)), some (.lst ds), x14, some (.int (t : Nat)), some thing, some (.bl (ringB ss cs i j thing)), some (.bl (ringB ss cs i j thing))] [] τ3 σ' H') (x_if (Pb := fun _ => True) a15 ((eb_test (ed_op (ed_op (ed_cb (ead_cons (ed_var rfl) ea_nil) rc_intI) ed_int (rd_mod (by decide))) ed_int rd_eqI)).imp fun _ _ => True.intro) (fun _ H16 a16 => x_set a16 (ed_p (ead_cons (ed_var rfl) (ead_cons (ed_var rfl) (ead_cons (ed_var rfl) (ead_cons (ed_var rfl) ea_nil)))) ⟨_, _, _, _, _, rfl, ⟨hP, hi, hj, hij⟩, hsm, hil⟩ holdP) fun σ17 H17 a17 => a17) fun _ H16 a16 => x_set a16 (ed_pwR (ds := [plD ss cs, .int (i : Nat), .int (j : Nat), thing]) (fun _ => rfl) (ead_cons (ed_var rfl) (ead_cons (ed_var rfl) (ead_cons (ed_var rfl) (ead_cons (ed_var rfl) ea_nil)))) rfl ⟨_, _, _, _, _, rfl, ⟨hP, hi, hj, hij⟩, hsm, hil⟩ holdP) fun σ17 H17 a17 => a17) fun σ16 H16 a16 => ?_
        have btk : ∀ b : Bool, Tk 20000 20 (.bl b) := fun b => by cases b <;> exact ⟨rfl, by decide, by decide⟩
        have same : ∀ {s : Str}, (s != s) = false := fun {s} => by rw [bne_self_eq_false]
        exact x_ifb (b := false) a16 (eb_test (Ed.is (ed_op (rp_tk (btk _) (by decide) (by decide) (ed_var rfl)) (rp_tk (btk _) (by decide) (by decide) (ed_var rfl)) rd_neS) (congrArg D.bl same))) (fun z => by cases z) fun _ H17 a17 => x_next (hnx3 _ _ _ _ ⟨_, _, _, _, _, rfl, rfl⟩ a17)
      · obtain ⟨x14, x15, x16, x17, x18, rfl, rfl⟩ := hI
        exact hnx2 _ _ _ _ ⟨_, _, _, _, _, _, _, _, _, _, _, _, _, rfl, rfl⟩ a14
    · obtain ⟨x6, x7, x8, x9, x10, x11, x12, x13, x14, x15, x16, x17, x18, rfl, rfl⟩ := hI
      exact hnx _ _ _ _ ⟨_, _, _, _, _, _, _, _, _, _, _, _, _, _, _, _, _, rfl, rfl⟩ a6
  · obtain ⟨x2, x3, x4, x5, x6, x7, x8, x9, x10, x11, x12, x13, x14, x15, x16, x17, x18, rfl, rfl⟩ := hI
    exact x_ret a2 ed_bl fun v H3 d hd a3 => by
      subst hd
      obtain ⟨G, g, hv⟩ := a3.top
      exact hv
end
end Cal


namespace Cal
open PySem PySem.Spec PyProof.Rows L2
section
abbrev BA : List Str := ["all", "bool", "enumerate", "int", "isinstance", "len", "list", "max", "min", "range", "repr", "set", "sorted", "str", "sum", "tuple", "zip"]
theorem all_mk {P : Program} {w : World} {K : PySem.W.Frag} {h : Heap} {mg : Str → Option Value} {fa : Addr} (X : K.In h) (G : h.Ns mainGlobals mg) (hfa : mg "law" = some (.ref fa))
    {C_Net : Addr} (aC_Net : PySem.W.nsIn K mainGlobals "Net" = some (some (.ref C_Net))) (pg_Net : PySem.W.plainGet K C_Net Str.empty = true) (hd_Net : PySem.W.hasDictIn K C_Net = true) (po_Net : PySem.W.plainOver K C_Net = true) (sa_Net : PySem.W.findIn K (.ref C_Net) "__setattr__" = some (some (.builtin "object.__setattr__"))) (mk_Net : PySem.W.makesIn K C_Net = true) (kc_Net : PySem.W.keepIn K (.ref C_Net) = true)
    (n_Net_sites : PySem.W.findIn K (.ref C_Net) "sites" = some none) (n_Net_near : PySem.W.findIn K (.ref C_Net) "near" = some none) (n_Net_bits : PySem.W.findIn K (.ref C_Net) "bits" = some none)
    {f0 : Addr} {od0 an0 : Option Addr} {sl0 : Array (Option Value)} {oc0 kV0 dc0 pm0 cd0 ct0 : Value}
    (a0 : PySem.W.nsIn K mainGlobals "_law_deck" = some (some (.ref f0))) (l0 : K.lookup f0 = some ⟨oc0, od0, .func (PySem.W.fnOf "_law_deck" "_law_deck" (defArgs s__law_deck) (defBody s__law_deck) (defScope s__law_deck) .none kV0 dc0 pm0 an0 cd0 ct0), sl0⟩) (c0 : PySem.W.codeIn K cd0 "_law_deck" = true) (k0 : PySem.W.keepIn K (.ref f0) = true)
    {f1 : Addr} {od1 an1 : Option Addr} {sl1 : Array (Option Value)} {oc1 kV1 dc1 pm1 cd1 ct1 : Value}
    (a1 : PySem.W.nsIn K mainGlobals "_law_draw" = some (some (.ref f1))) (l1 : K.lookup f1 = some ⟨oc1, od1, .func (PySem.W.fnOf "_law_draw" "_law_draw" (defArgs s__law_draw) (defBody s__law_draw) (defScope s__law_draw) .none kV1 dc1 pm1 an1 cd1 ct1), sl1⟩) (c1 : PySem.W.codeIn K cd1 "_law_draw" = true) (k1 : PySem.W.keepIn K (.ref f1) = true)
    {f2 : Addr} {od2 an2 : Option Addr} {sl2 : Array (Option Value)} {oc2 kV2 dc2 pm2 cd2 ct2 : Value}
    (a2 : PySem.W.nsIn K mainGlobals "_law_pick" = some (some (.ref f2))) (l2 : K.lookup f2 = some ⟨oc2, od2, .func (PySem.W.fnOf "_law_pick" "_law_pick" (defArgs s__law_pick) (defBody s__law_pick) (defScope s__law_pick) .none kV2 dc2 pm2 an2 cd2 ct2), sl2⟩) (c2 : PySem.W.codeIn K cd2 "_law_pick" = true) (k2 : PySem.W.keepIn K (.ref f2) = true)
    {f3 : Addr} {od3 an3 : Option Addr} {sl3 : Array (Option Value)} {oc3 kV3 dc3 pm3 cd3 ct3 : Value}
    (a3 : PySem.W.nsIn K mainGlobals "_law_any" = some (some (.ref f3))) (l3 : K.lookup f3 = some ⟨oc3, od3, .func (PySem.W.fnOf "_law_any" "_law_any" (defArgs s__law_any) (defBody s__law_any) (defScope s__law_any) .none kV3 dc3 pm3 an3 cd3 ct3), sl3⟩) (c3 : PySem.W.codeIn K cd3 "_law_any" = true) (k3 : PySem.W.keepIn K (.ref f3) = true)
    {f4 : Addr} {od4 an4 : Option Addr} {sl4 : Array (Option Value)} {oc4 kV4 dc4 pm4 cd4 ct4 : Value}
    (a4 : PySem.W.nsIn K mainGlobals "_law_is_integer" = some (some (.ref f4))) (l4 : K.lookup f4 = some ⟨oc4, od4, .func (PySem.W.fnOf "_law_is_integer" "_law_is_integer" (defArgs s__law_is_integer) (defBody s__law_is_integer) (defScope s__law_is_integer) .none kV4 dc4 pm4 an4 cd4 ct4), sl4⟩) (c4 : PySem.W.codeIn K cd4 "_law_is_integer" = true) (k4 : PySem.W.keepIn K (.ref f4) = true)
    {f5 : Addr} {od5 an5 : Option Addr} {sl5 : Array (Option Value)} {oc5 kV5 dc5 pm5 cd5 ct5 : Value}
    (a5 : PySem.W.nsIn K mainGlobals "_law_instead" = some (some (.ref f5))) (l5 : K.lookup f5 = some ⟨oc5, od5, .func (PySem.W.fnOf "_law_instead" "_law_instead" (defArgs s__law_instead) (defBody s__law_instead) (defScope s__law_instead) .none kV5 dc5 pm5 an5 cd5 ct5), sl5⟩) (c5 : PySem.W.codeIn K cd5 "_law_instead" = true) (k5 : PySem.W.keepIn K (.ref f5) = true)
    {f6 : Addr} {od6 an6 : Option Addr} {sl6 : Array (Option Value)} {oc6 kV6 dc6 pm6 cd6 ct6 : Value}
    (a6 : PySem.W.nsIn K mainGlobals "_law_bent" = some (some (.ref f6))) (l6 : K.lookup f6 = some ⟨oc6, od6, .func (PySem.W.fnOf "_law_bent" "_law_bent" (defArgs s__law_bent) (defBody s__law_bent) (defScope s__law_bent) .none kV6 dc6 pm6 an6 cd6 ct6), sl6⟩) (c6 : PySem.W.codeIn K cd6 "_law_bent" = true) (k6 : PySem.W.keepIn K (.ref f6) = true)
    {f7 : Addr} {od7 an7 : Option Addr} {sl7 : Array (Option Value)} {oc7 kV7 dc7 pm7 cd7 ct7 : Value}
    (a7 : PySem.W.nsIn K mainGlobals "_law_spoilt" = some (some (.ref f7))) (l7 : K.lookup f7 = some ⟨oc7, od7, .func (PySem.W.fnOf "_law_spoilt" "_law_spoilt" (defArgs s__law_spoilt) (defBody s__law_spoilt) (defScope s__law_spoilt) .none kV7 dc7 pm7 an7 cd7 ct7), sl7⟩) (c7 : PySem.W.codeIn K cd7 "_law_spoilt" = true) (k7 : PySem.W.keepIn K (.ref f7) = true)
    {f8 : Addr} {od8 an8 : Option Addr} {sl8 : Array (Option Value)} {oc8 kV8 dc8 pm8 cd8 ct8 : Value}
    (a8 : PySem.W.nsIn K mainGlobals "_law_near" = some (some (.ref f8))) (l8 : K.lookup f8 = some ⟨oc8, od8, .func (PySem.W.fnOf "_law_near" "_law_near" (defArgs s__law_near) (defBody s__law_near) (defScope s__law_near) .none kV8 dc8 pm8 an8 cd8 ct8), sl8⟩) (c8 : PySem.W.codeIn K cd8 "_law_near" = true) (k8 : PySem.W.keepIn K (.ref f8) = true)
    {f9 : Addr} {od9 an9 : Option Addr} {sl9 : Array (Option Value)} {oc9 kV9 dc9 pm9 cd9 ct9 : Value}
    (a9 : PySem.W.nsIn K mainGlobals "_law_drawn_placement" = some (some (.ref f9))) (l9 : K.lookup f9 = some ⟨oc9, od9, .func (PySem.W.fnOf "_law_drawn_placement" "_law_drawn_placement" (defArgs s__law_drawn_placement) (defBody s__law_drawn_placement) (defScope s__law_drawn_placement) .none kV9 dc9 pm9 an9 cd9 ct9), sl9⟩) (c9 : PySem.W.codeIn K cd9 "_law_drawn_placement" = true) (k9 : PySem.W.keepIn K (.ref f9) = true)
    {f10 : Addr} {od10 an10 : Option Addr} {sl10 : Array (Option Value)} {oc10 kV10 dc10 pm10 cd10 ct10 : Value}
    (a10 : PySem.W.nsIn K mainGlobals "_law_made_placement" = some (some (.ref f10))) (l10 : K.lookup f10 = some ⟨oc10, od10, .func (PySem.W.fnOf "_law_made_placement" "_law_made_placement" (defArgs s__law_made_placement) (defBody s__law_made_placement) (defScope s__law_made_placement) .none kV10 dc10 pm10 an10 cd10 ct10), sl10⟩) (c10 : PySem.W.codeIn K cd10 "_law_made_placement" = true) (k10 : PySem.W.keepIn K (.ref f10) = true)
    {f11 : Addr} {od11 an11 : Option Addr} {sl11 : Array (Option Value)} {oc11 kV11 dc11 pm11 cd11 ct11 : Value}
    (a11 : PySem.W.nsIn K mainGlobals "_law_places" = some (some (.ref f11))) (l11 : K.lookup f11 = some ⟨oc11, od11, .func (PySem.W.fnOf "_law_places" "_law_places" (defArgs s__law_places) (defBody s__law_places) (defScope s__law_places) .none kV11 dc11 pm11 an11 cd11 ct11), sl11⟩) (c11 : PySem.W.codeIn K cd11 "_law_places" = true) (k11 : PySem.W.keepIn K (.ref f11) = true)
    {f12 : Addr} {od12 an12 : Option Addr} {sl12 : Array (Option Value)} {oc12 kV12 dc12 pm12 cd12 ct12 : Value}
    (a12 : PySem.W.nsIn K mainGlobals "_law_shared" = some (some (.ref f12))) (l12 : K.lookup f12 = some ⟨oc12, od12, .func (PySem.W.fnOf "_law_shared" "_law_shared" (defArgs s__law_shared) (defBody s__law_shared) (defScope s__law_shared) .none kV12 dc12 pm12 an12 cd12 ct12), sl12⟩) (c12 : PySem.W.codeIn K cd12 "_law_shared" = true) (k12 : PySem.W.keepIn K (.ref f12) = true)
    {f13 : Addr} {od13 an13 : Option Addr} {sl13 : Array (Option Value)} {oc13 kV13 dc13 pm13 cd13 ct13 : Value}
    (a13 : PySem.W.nsIn K mainGlobals "_law_has_step" = some (some (.ref f13))) (l13 : K.lookup f13 = some ⟨oc13, od13, .func (PySem.W.fnOf "_law_has_step" "_law_has_step" (defArgs s__law_has_step) (defBody s__law_has_step) (defScope s__law_has_step) .none kV13 dc13 pm13 an13 cd13 ct13), sl13⟩) (c13 : PySem.W.codeIn K cd13 "_law_has_step" = true) (k13 : PySem.W.keepIn K (.ref f13) = true)
    {f14 : Addr} {od14 an14 : Option Addr} {sl14 : Array (Option Value)} {oc14 kV14 dc14 pm14 cd14 ct14 : Value}
    (a14 : PySem.W.nsIn K mainGlobals "_law_graph" = some (some (.ref f14))) (l14 : K.lookup f14 = some ⟨oc14, od14, .func (PySem.W.fnOf "_law_graph" "_law_graph" (defArgs s__law_graph) (defBody s__law_graph) (defScope s__law_graph) .none kV14 dc14 pm14 an14 cd14 ct14), sl14⟩) (c14 : PySem.W.codeIn K cd14 "_law_graph" = true) (k14 : PySem.W.keepIn K (.ref f14) = true)
    {f15 : Addr} {od15 an15 : Option Addr} {sl15 : Array (Option Value)} {oc15 kV15 dc15 pm15 cd15 ct15 : Value}
    (a15 : PySem.W.nsIn K mainGlobals "_law_rings" = some (some (.ref f15))) (l15 : K.lookup f15 = some ⟨oc15, od15, .func (PySem.W.fnOf "_law_rings" "_law_rings" (defArgs s__law_rings) (defBody s__law_rings) (defScope s__law_rings) .none kV15 dc15 pm15 an15 cd15 ct15), sl15⟩) (c15 : PySem.W.codeIn K cd15 "_law_rings" = true) (k15 : PySem.W.keepIn K (.ref f15) = true)
    {f16 : Addr} {od16 an16 : Option Addr} {sl16 : Array (Option Value)} {oc16 kV16 dc16 pm16 cd16 ct16 : Value}
    (a16 : PySem.W.nsIn K mainGlobals "_law_are_integers" = some (some (.ref f16))) (l16 : K.lookup f16 = some ⟨oc16, od16, .func (PySem.W.fnOf "_law_are_integers" "_law_are_integers" (defArgs s__law_are_integers) (defBody s__law_are_integers) (defScope s__law_are_integers) .none kV16 dc16 pm16 an16 cd16 ct16), sl16⟩) (c16 : PySem.W.codeIn K cd16 "_law_are_integers" = true) (k16 : PySem.W.keepIn K (.ref f16) = true)
    {f17 : Addr} {od17 an17 : Option Addr} {sl17 : Array (Option Value)} {oc17 kV17 dc17 pm17 cd17 ct17 : Value}
    (a17 : PySem.W.nsIn K mainGlobals "_law_is_ring" = some (some (.ref f17))) (l17 : K.lookup f17 = some ⟨oc17, od17, .func (PySem.W.fnOf "_law_is_ring" "_law_is_ring" (defArgs s__law_is_ring) (defBody s__law_is_ring) (defScope s__law_is_ring) .none kV17 dc17 pm17 an17 cd17 ct17), sl17⟩) (c17 : PySem.W.codeIn K cd17 "_law_is_ring" = true) (k17 : PySem.W.keepIn K (.ref f17) = true)
    {f18 : Addr} {od18 an18 : Option Addr} {sl18 : Array (Option Value)} {oc18 kV18 dc18 pm18 cd18 ct18 : Value}
    (a18 : PySem.W.nsIn K mainGlobals "is_tuple_of" = some (some (.ref f18))) (l18 : K.lookup f18 = some ⟨oc18, od18, .func (PySem.W.fnOf "is_tuple_of" "is_tuple_of" (defArgs s_is_tuple_of) (defBody s_is_tuple_of) (defScope s_is_tuple_of) .none kV18 dc18 pm18 an18 cd18 ct18), sl18⟩) (c18 : PySem.W.codeIn K cd18 "is_tuple_of" = true) (k18 : PySem.W.keepIn K (.ref f18) = true)
    {f19 : Addr} {od19 an19 : Option Addr} {sl19 : Array (Option Value)} {oc19 kV19 dc19 pm19 cd19 ct19 : Value}
    (a19 : PySem.W.nsIn K mainGlobals "is_name" = some (some (.ref f19))) (l19 : K.lookup f19 = some ⟨oc19, od19, .func (PySem.W.fnOf "is_name" "is_name" (defArgs s_is_name) (defBody s_is_name) (defScope s_is_name) .none kV19 dc19 pm19 an19 cd19 ct19), sl19⟩) (c19 : PySem.W.codeIn K cd19 "is_name" = true) (k19 : PySem.W.keepIn K (.ref f19) = true)
    {f20 : Addr} {od20 an20 : Option Addr} {sl20 : Array (Option Value)} {oc20 kV20 dc20 pm20 cd20 ct20 : Value}
    (a20 : PySem.W.nsIn K mainGlobals "is_ascending" = some (some (.ref f20))) (l20 : K.lookup f20 = some ⟨oc20, od20, .func (PySem.W.fnOf "is_ascending" "is_ascending" (defArgs s_is_ascending) (defBody s_is_ascending) (defScope s_is_ascending) .none kV20 dc20 pm20 an20 cd20 ct20), sl20⟩) (c20 : PySem.W.codeIn K cd20 "is_ascending" = true) (k20 : PySem.W.keepIn K (.ref f20) = true)
    {f21 : Addr} {od21 an21 : Option Addr} {sl21 : Array (Option Value)} {oc21 kV21 dc21 pm21 cd21 ct21 : Value}
    (a21 : PySem.W.nsIn K mainGlobals "are_names_ascending" = some (some (.ref f21))) (l21 : K.lookup f21 = some ⟨oc21, od21, .func (PySem.W.fnOf "are_names_ascending" "are_names_ascending" (defArgs s_are_names_ascending) (defBody s_are_names_ascending) (defScope s_are_names_ascending) .none kV21 dc21 pm21 an21 cd21 ct21), sl21⟩) (c21 : PySem.W.codeIn K cd21 "are_names_ascending" = true) (k21 : PySem.W.keepIn K (.ref f21) = true)
    {f22 : Addr} {od22 an22 : Option Addr} {sl22 : Array (Option Value)} {oc22 kV22 dc22 pm22 cd22 ct22 : Value}
    (a22 : PySem.W.nsIn K mainGlobals "is_integer" = some (some (.ref f22))) (l22 : K.lookup f22 = some ⟨oc22, od22, .func (PySem.W.fnOf "is_integer" "is_integer" (defArgs s_is_integer) (defBody s_is_integer) (defScope s_is_integer) .none kV22 dc22 pm22 an22 cd22 ct22), sl22⟩) (c22 : PySem.W.codeIn K cd22 "is_integer" = true) (k22 : PySem.W.keepIn K (.ref f22) = true)
    {f23 : Addr} {od23 an23 : Option Addr} {sl23 : Array (Option Value)} {oc23 kV23 dc23 pm23 cd23 ct23 : Value}
    (a23 : PySem.W.nsIn K mainGlobals "is_below" = some (some (.ref f23))) (l23 : K.lookup f23 = some ⟨oc23, od23, .func (PySem.W.fnOf "is_below" "is_below" (defArgs s_is_below) (defBody s_is_below) (defScope s_is_below) .none kV23 dc23 pm23 an23 cd23 ct23), sl23⟩) (c23 : PySem.W.codeIn K cd23 "is_below" = true) (k23 : PySem.W.keepIn K (.ref f23) = true)
    {f24 : Addr} {od24 an24 : Option Addr} {sl24 : Array (Option Value)} {oc24 kV24 dc24 pm24 cd24 ct24 : Value}
    (a24 : PySem.W.nsIn K mainGlobals "are_below" = some (some (.ref f24))) (l24 : K.lookup f24 = some ⟨oc24, od24, .func (PySem.W.fnOf "are_below" "are_below" (defArgs s_are_below) (defBody s_are_below) (defScope s_are_below) .none kV24 dc24 pm24 an24 cd24 ct24), sl24⟩) (c24 : PySem.W.codeIn K cd24 "are_below" = true) (k24 : PySem.W.keepIn K (.ref f24) = true)
    {f25 : Addr} {od25 an25 : Option Addr} {sl25 : Array (Option Value)} {oc25 kV25 dc25 pm25 cd25 ct25 : Value}
    (a25 : PySem.W.nsIn K mainGlobals "are_below_ascending" = some (some (.ref f25))) (l25 : K.lookup f25 = some ⟨oc25, od25, .func (PySem.W.fnOf "are_below_ascending" "are_below_ascending" (defArgs s_are_below_ascending) (defBody s_are_below_ascending) (defScope s_are_below_ascending) .none kV25 dc25 pm25 an25 cd25 ct25), sl25⟩) (c25 : PySem.W.codeIn K cd25 "are_below_ascending" = true) (k25 : PySem.W.keepIn K (.ref f25) = true)
    {f26 : Addr} {od26 an26 : Option Addr} {sl26 : Array (Option Value)} {oc26 kV26 dc26 pm26 cd26 ct26 : Value}
    (a26 : PySem.W.nsIn K mainGlobals "are_clients" = some (some (.ref f26))) (l26 : K.lookup f26 = some ⟨oc26, od26, .func (PySem.W.fnOf "are_clients" "are_clients" (defArgs s_are_clients) (defBody s_are_clients) (defScope s_are_clients) .none kV26 dc26 pm26 an26 cd26 ct26), sl26⟩) (c26 : PySem.W.codeIn K cd26 "are_clients" = true) (k26 : PySem.W.keepIn K (.ref f26) = true)
    {f27 : Addr} {od27 an27 : Option Addr} {sl27 : Array (Option Value)} {oc27 kV27 dc27 pm27 cd27 ct27 : Value}
    (a27 : PySem.W.nsIn K mainGlobals "is_placement" = some (some (.ref f27))) (l27 : K.lookup f27 = some ⟨oc27, od27, .func (PySem.W.fnOf "is_placement" "is_placement" (defArgs s_is_placement) (defBody s_is_placement) (defScope s_is_placement) .none kV27 dc27 pm27 an27 cd27 ct27), sl27⟩) (c27 : PySem.W.codeIn K cd27 "is_placement" = true) (k27 : PySem.W.keepIn K (.ref f27) = true)
    {f28 : Addr} {od28 an28 : Option Addr} {sl28 : Array (Option Value)} {oc28 kV28 dc28 pm28 cd28 ct28 : Value}
    (a28 : PySem.W.nsIn K mainGlobals "check_placement" = some (some (.ref f28))) (l28 : K.lookup f28 = some ⟨oc28, od28, .func (PySem.W.fnOf "check_placement" "check_placement" (defArgs s_check_placement) (defBody s_check_placement) (defScope s_check_placement) .none kV28 dc28 pm28 an28 cd28 ct28), sl28⟩) (c28 : PySem.W.codeIn K cd28 "check_placement" = true) (k28 : PySem.W.keepIn K (.ref f28) = true)
    {f29 : Addr} {od29 an29 : Option Addr} {sl29 : Array (Option Value)} {oc29 kV29 dc29 pm29 cd29 ct29 : Value}
    (a29 : PySem.W.nsIn K mainGlobals "count_places" = some (some (.ref f29))) (l29 : K.lookup f29 = some ⟨oc29, od29, .func (PySem.W.fnOf "count_places" "count_places" (defArgs s_count_places) (defBody s_count_places) (defScope s_count_places) .none kV29 dc29 pm29 an29 cd29 ct29), sl29⟩) (c29 : PySem.W.codeIn K cd29 "count_places" = true) (k29 : PySem.W.keepIn K (.ref f29) = true)
    {f30 : Addr} {od30 an30 : Option Addr} {sl30 : Array (Option Value)} {oc30 kV30 dc30 pm30 cd30 ct30 : Value}
    (a30 : PySem.W.nsIn K mainGlobals "is_place" = some (some (.ref f30))) (l30 : K.lookup f30 = some ⟨oc30, od30, .func (PySem.W.fnOf "is_place" "is_place" (defArgs s_is_place) (defBody s_is_place) (defScope s_is_place) .none kV30 dc30 pm30 an30 cd30 ct30), sl30⟩) (c30 : PySem.W.codeIn K cd30 "is_place" = true) (k30 : PySem.W.keepIn K (.ref f30) = true)
    {f31 : Addr} {od31 an31 : Option Addr} {sl31 : Array (Option Value)} {oc31 kV31 dc31 pm31 cd31 ct31 : Value}
    (a31 : PySem.W.nsIn K mainGlobals "check_place" = some (some (.ref f31))) (l31 : K.lookup f31 = some ⟨oc31, od31, .func (PySem.W.fnOf "check_place" "check_place" (defArgs s_check_place) (defBody s_check_place) (defScope s_check_place) .none kV31 dc31 pm31 an31 cd31 ct31), sl31⟩) (c31 : PySem.W.codeIn K cd31 "check_place" = true) (k31 : PySem.W.keepIn K (.ref f31) = true)
    {f32 : Addr} {od32 an32 : Option Addr} {sl32 : Array (Option Value)} {oc32 kV32 dc32 pm32 cd32 ct32 : Value}
    (a32 : PySem.W.nsIn K mainGlobals "check_pair" = some (some (.ref f32))) (l32 : K.lookup f32 = some ⟨oc32, od32, .func (PySem.W.fnOf "check_pair" "check_pair" (defArgs s_check_pair) (defBody s_check_pair) (defScope s_check_pair) .none kV32 dc32 pm32 an32 cd32 ct32), sl32⟩) (c32 : PySem.W.codeIn K cd32 "check_pair" = true) (k32 : PySem.W.keepIn K (.ref f32) = true)
    {f33 : Addr} {od33 an33 : Option Addr} {sl33 : Array (Option Value)} {oc33 kV33 dc33 pm33 cd33 ct33 : Value}
    (a33 : PySem.W.nsIn K mainGlobals "kept_at" = some (some (.ref f33))) (l33 : K.lookup f33 = some ⟨oc33, od33, .func (PySem.W.fnOf "kept_at" "kept_at" (defArgs s_kept_at) (defBody s_kept_at) (defScope s_kept_at) .none kV33 dc33 pm33 an33 cd33 ct33), sl33⟩) (c33 : PySem.W.codeIn K cd33 "kept_at" = true) (k33 : PySem.W.keepIn K (.ref f33) = true)
    {f34 : Addr} {od34 an34 : Option Addr} {sl34 : Array (Option Value)} {oc34 kV34 dc34 pm34 cd34 ct34 : Value}
    (a34 : PySem.W.nsIn K mainGlobals "shared_by" = some (some (.ref f34))) (l34 : K.lookup f34 = some ⟨oc34, od34, .func (PySem.W.fnOf "shared_by" "shared_by" (defArgs s_shared_by) (defBody s_shared_by) (defScope s_shared_by) .none kV34 dc34 pm34 an34 cd34 ct34), sl34⟩) (c34 : PySem.W.codeIn K cd34 "shared_by" = true) (k34 : PySem.W.keepIn K (.ref f34) = true)
    {f35 : Addr} {od35 an35 : Option Addr} {sl35 : Array (Option Value)} {oc35 kV35 dc35 pm35 cd35 ct35 : Value}
    (a35 : PySem.W.nsIn K mainGlobals "is_client" = some (some (.ref f35))) (l35 : K.lookup f35 = some ⟨oc35, od35, .func (PySem.W.fnOf "is_client" "is_client" (defArgs s_is_client) (defBody s_is_client) (defScope s_is_client) .none kV35 dc35 pm35 an35 cd35 ct35), sl35⟩) (c35 : PySem.W.codeIn K cd35 "is_client" = true) (k35 : PySem.W.keepIn K (.ref f35) = true)
    {f36 : Addr} {od36 an36 : Option Addr} {sl36 : Array (Option Value)} {oc36 kV36 dc36 pm36 cd36 ct36 : Value}
    (a36 : PySem.W.nsIn K mainGlobals "does_visit" = some (some (.ref f36))) (l36 : K.lookup f36 = some ⟨oc36, od36, .func (PySem.W.fnOf "does_visit" "does_visit" (defArgs s_does_visit) (defBody s_does_visit) (defScope s_does_visit) .none kV36 dc36 pm36 an36 cd36 ct36), sl36⟩) (c36 : PySem.W.codeIn K cd36 "does_visit" = true) (k36 : PySem.W.keepIn K (.ref f36) = true)
    {f37 : Addr} {od37 an37 : Option Addr} {sl37 : Array (Option Value)} {oc37 kV37 dc37 pm37 cd37 ct37 : Value}
    (a37 : PySem.W.nsIn K mainGlobals "is_step" = some (some (.ref f37))) (l37 : K.lookup f37 = some ⟨oc37, od37, .func (PySem.W.fnOf "is_step" "is_step" (defArgs s_is_step) (defBody s_is_step) (defScope s_is_step) .none kV37 dc37 pm37 an37 cd37 ct37), sl37⟩) (c37 : PySem.W.codeIn K cd37 "is_step" = true) (k37 : PySem.W.keepIn K (.ref f37) = true)
    {f38 : Addr} {od38 an38 : Option Addr} {sl38 : Array (Option Value)} {oc38 kV38 dc38 pm38 cd38 ct38 : Value}
    (a38 : PySem.W.nsIn K mainGlobals "kept_bits" = some (some (.ref f38))) (l38 : K.lookup f38 = some ⟨oc38, od38, .func (PySem.W.fnOf "kept_bits" "kept_bits" (defArgs s_kept_bits) (defBody s_kept_bits) (defScope s_kept_bits) .none kV38 dc38 pm38 an38 cd38 ct38), sl38⟩) (c38 : PySem.W.codeIn K cd38 "kept_bits" = true) (k38 : PySem.W.keepIn K (.ref f38) = true)
    {f39 : Addr} {od39 an39 : Option Addr} {sl39 : Array (Option Value)} {oc39 kV39 dc39 pm39 cd39 ct39 : Value}
    (a39 : PySem.W.findIn K (.ref C_Net) "__init__" = some (some (.ref f39))) (j39 : PySem.W.isFn K (.ref f39) = true) (l39 : K.lookup f39 = some ⟨oc39, od39, .func (PySem.W.fnOf "__init__" "Net.__init__" (defArgs s_Net___init__) (defBody s_Net___init__) (defScope s_Net___init__) .none kV39 dc39 pm39 an39 cd39 ct39), sl39⟩) (c39 : PySem.W.codeIn K cd39 "Net.__init__" = true) (k39 : PySem.W.keepIn K (.ref f39) = true)
    {f40 : Addr} {od40 an40 : Option Addr} {sl40 : Array (Option Value)} {oc40 kV40 dc40 pm40 cd40 ct40 : Value}
    (a40 : PySem.W.nsIn K mainGlobals "find_ring" = some (some (.ref f40))) (l40 : K.lookup f40 = some ⟨oc40, od40, .func (PySem.W.fnOf "find_ring" "find_ring" (defArgs s_find_ring) (defBody s_find_ring) (defScope s_find_ring) .none kV40 dc40 pm40 an40 cd40 ct40), sl40⟩) (c40 : PySem.W.codeIn K cd40 "find_ring" = true) (k40 : PySem.W.keepIn K (.ref f40) = true)
    {f41 : Addr} {od41 an41 : Option Addr} {sl41 : Array (Option Value)} {oc41 kV41 dc41 pm41 cd41 ct41 : Value}
    (a41 : PySem.W.nsIn K mainGlobals "ring_of" = some (some (.ref f41))) (l41 : K.lookup f41 = some ⟨oc41, od41, .func (PySem.W.fnOf "ring_of" "ring_of" (defArgs s_ring_of) (defBody s_ring_of) (defScope s_ring_of) .none kV41 dc41 pm41 an41 cd41 ct41), sl41⟩) (c41 : PySem.W.codeIn K cd41 "ring_of" = true) (k41 : PySem.W.keepIn K (.ref f41) = true)
    {f42 : Addr} {od42 an42 : Option Addr} {sl42 : Array (Option Value)} {oc42 kV42 dc42 pm42 cd42 ct42 : Value}
    (a42 : PySem.W.nsIn K mainGlobals "has_steps" = some (some (.ref f42))) (l42 : K.lookup f42 = some ⟨oc42, od42, .func (PySem.W.fnOf "has_steps" "has_steps" (defArgs s_has_steps) (defBody s_has_steps) (defScope s_has_steps) .none kV42 dc42 pm42 an42 cd42 ct42), sl42⟩) (c42 : PySem.W.codeIn K cd42 "has_steps" = true) (k42 : PySem.W.keepIn K (.ref f42) = true)
    {f43 : Addr} {od43 an43 : Option Addr} {sl43 : Array (Option Value)} {oc43 kV43 dc43 pm43 cd43 ct43 : Value}
    (a43 : PySem.W.nsIn K mainGlobals "ring_holds" = some (some (.ref f43))) (l43 : K.lookup f43 = some ⟨oc43, od43, .func (PySem.W.fnOf "ring_holds" "ring_holds" (defArgs s_ring_holds) (defBody s_ring_holds) (defScope s_ring_holds) .none kV43 dc43 pm43 an43 cd43 ct43), sl43⟩) (c43 : PySem.W.codeIn K cd43 "ring_holds" = true) (k43 : PySem.W.keepIn K (.ref f43) = true)
    {f44 : Addr} {od44 an44 : Option Addr} {sl44 : Array (Option Value)} {oc44 kV44 dc44 pm44 cd44 ct44 : Value}
    (a44 : PySem.W.nsIn K mainGlobals "law" = some (some (.ref f44))) (l44 : K.lookup f44 = some ⟨oc44, od44, .func (PySem.W.fnOf "law" "law" (defArgs s_law) (defBody s_law) (defScope s_law) .none kV44 dc44 pm44 an44 cd44 ct44), sl44⟩) (c44 : PySem.W.codeIn K cd44 "law" = true) (k44 : PySem.W.keepIn K (.ref f44) = true)
    (z0 : PySem.W.nsIn K mainGlobals "all" = some none)
    (z1 : PySem.W.nsIn K mainGlobals "bool" = some none)
    (z2 : PySem.W.nsIn K mainGlobals "enumerate" = some none)
    (z3 : PySem.W.nsIn K mainGlobals "int" = some none)
    (z4 : PySem.W.nsIn K mainGlobals "isinstance" = some none)
    (z5 : PySem.W.nsIn K mainGlobals "len" = some none)
    (z6 : PySem.W.nsIn K mainGlobals "list" = some none)
    (z7 : PySem.W.nsIn K mainGlobals "max" = some none)
    (z8 : PySem.W.nsIn K mainGlobals "min" = some none)
    (z9 : PySem.W.nsIn K mainGlobals "range" = some none)
    (z10 : PySem.W.nsIn K mainGlobals "repr" = some none)
    (z11 : PySem.W.nsIn K mainGlobals "set" = some none)
    (z12 : PySem.W.nsIn K mainGlobals "sorted" = some none)
    (z13 : PySem.W.nsIn K mainGlobals "str" = some none)
    (z14 : PySem.W.nsIn K mainGlobals "sum" = some none)
    (z15 : PySem.W.nsIn K mainGlobals "tuple" = some none)
    (z16 : PySem.W.nsIn K mainGlobals "zip" = some none)
    {t_FEWEST_IN_RING : Tok} (gFEWEST_IN_RING : PySem.W.nsIn K mainGlobals "FEWEST_IN_RING" = some (some (.int 3 t_FEWEST_IN_RING)))
    {t_FEWEST_VISITED : Tok} (gFEWEST_VISITED : PySem.W.nsIn K mainGlobals "FEWEST_VISITED" = some (some (.int 2 t_FEWEST_VISITED)))
    {t_LONGEST_NAME : Tok} (gLONGEST_NAME : PySem.W.nsIn K mainGlobals "LONGEST_NAME" = some (some (.int 10 t_LONGEST_NAME)))
    {base : Heap} {s₁ : Shared} {H : Hp} {a : Addr} {ns : List Int} (hl : ns.length ≤ 63) (e0 : Env0 P w K mg base callerA [] s₁ H) (hS : SqL K H a (ns.map V.int)) :
    codeAny (model P w) callerA (.call (.ref fa) ⟨[.ref a], []⟩) (CR CX0 [] P w H s₁ (fun v _ => v = .bl true) fun _ _ _ => False) s₁ := by
  have e := hfa.symm.trans (PySem.W.mg_of X G a44)
  cases e
  have bA : ∀ x, x ∈ BA → mg x = none := fun x hx => by
    simp only [BA, List.mem_cons, List.mem_nil_iff, or_false] at hx
    rcases hx with rfl | rfl | rfl | rfl | rfl | rfl | rfl | rfl | rfl | rfl | rfl | rfl | rfl | rfl | rfl | rfl | rfl
    · exact PySem.W.mg_none_of X G z0
    · exact PySem.W.mg_none_of X G z1
    · exact PySem.W.mg_none_of X G z2
    · exact PySem.W.mg_none_of X G z3
    · exact PySem.W.mg_none_of X G z4
    · exact PySem.W.mg_none_of X G z5
    · exact PySem.W.mg_none_of X G z6
    · exact PySem.W.mg_none_of X G z7
    · exact PySem.W.mg_none_of X G z8
    · exact PySem.W.mg_none_of X G z9
    · exact PySem.W.mg_none_of X G z10
    · exact PySem.W.mg_none_of X G z11
    · exact PySem.W.mg_none_of X G z12
    · exact PySem.W.mg_none_of X G z13
    · exact PySem.W.mg_none_of X G z14
    · exact PySem.W.mg_none_of X G z15
    · exact PySem.W.mg_none_of X G z16
  have bBN7 : ∀ x, x ∈ BN7 → mg x = none := fun x hx => bA x ((by decide +kernel : ∀ y ∈ BN7, y ∈ BA) x hx)
  have bBN : ∀ x, x ∈ BN → mg x = none := fun x hx => bA x ((by decide +kernel : ∀ y ∈ BN, y ∈ BA) x hx)
  have bBNy3 : ∀ x, x ∈ BNy3 → mg x = none := fun x hx => bA x ((by decide +kernel : ∀ y ∈ BNy3, y ∈ BA) x hx)
  have bBNj3 : ∀ x, x ∈ BNj3 → mg x = none := fun x hx => bA x ((by decide +kernel : ∀ y ∈ BNj3, y ∈ BA) x hx)
  have bBNx3 : ∀ x, x ∈ BNx3 → mg x = none := fun x hx => bA x ((by decide +kernel : ∀ y ∈ BNx3, y ∈ BA) x hx)
  have bBNw3 : ∀ x, x ∈ BNw3 → mg x = none := fun x hx => bA x ((by decide +kernel : ∀ y ∈ BNw3, y ∈ BA) x hx)
  have bBNn70 : ∀ x, x ∈ BNn70 → mg x = none := fun x hx => bA x ((by decide +kernel : ∀ y ∈ BNn70, y ∈ BA) x hx)
  have bBNl3 : ∀ x, x ∈ BNl3 → mg x = none := fun x hx => bA x ((by decide +kernel : ∀ y ∈ BNl3, y ∈ BA) x hx)
  have bBNM3 : ∀ x, x ∈ BNM3 → mg x = none := fun x hx => bA x ((by decide +kernel : ∀ y ∈ BNM3, y ∈ BA) x hx)
  have bBNk3 : ∀ x, x ∈ BNk3 → mg x = none := fun x hx => bA x ((by decide +kernel : ∀ y ∈ BNk3, y ∈ BA) x hx)
  have bBNF : ∀ x, x ∈ BNF → mg x = none := fun x hx => bA x ((by decide +kernel : ∀ y ∈ BNF, y ∈ BA) x hx)
  have bBNm3 : ∀ x, x ∈ BNm3 → mg x = none := fun x hx => bA x ((by decide +kernel : ∀ y ∈ BNm3, y ∈ BA) x hx)
  have bBN1 : ∀ x, x ∈ BN1 → mg x = none := fun x hx => bA x ((by decide +kernel : ∀ y ∈ BN1, y ∈ BA) x hx)
  have bBNq : ∀ x, x ∈ BNq → mg x = none := fun x hx => bA x ((by decide +kernel : ∀ y ∈ BNq, y ∈ BA) x hx)
  have bBNP : ∀ x, x ∈ BNP → mg x = none := fun x hx => bA x ((by decide +kernel : ∀ y ∈ BNP, y ∈ BA) x hx)
  have bBNbits : ∀ x, x ∈ BNbits → mg x = none := fun x hx => bA x ((by decide +kernel : ∀ y ∈ BNbits, y ∈ BA) x hx)
  have bBNnet : ∀ x, x ∈ BNnet → mg x = none := fun x hx => bA x ((by decide +kernel : ∀ y ∈ BNnet, y ∈ BA) x hx)
  have bBNlaw70 : ∀ x, x ∈ BNlaw70 → mg x = none := fun x hx => bA x ((by decide +kernel : ∀ y ∈ BNlaw70, y ∈ BA) x hx)
  have F0 := fun_mk (st := s__law_deck) l0 c0 k0
  have m0 := PySem.W.mg_of X G a0
  have B0 := F0.binds (ps := ["script", "seed"]) fun _ _ _ _ _ _ us hl => match us, hl with | [_, _], _ => rfl
  have F1 := fun_mk (st := s__law_draw) l1 c1 k1
  have m1 := PySem.W.mg_of X G a1
  have B1 := F1.binds (ps := ["deck", "many"]) fun _ _ _ _ _ _ us hl => match us, hl with | [_, _], _ => rfl
  have F2 := fun_mk (st := s__law_pick) l2 c2 k2
  have m2 := PySem.W.mg_of X G a2
  have B2 := F2.binds (ps := ["deck", "some"]) fun _ _ _ _ _ _ us hl => match us, hl with | [_, _], _ => rfl
  have F3 := fun_mk (st := s__law_any) l3 c3 k3
  have m3 := PySem.W.mg_of X G a3
  have B3 := F3.binds (ps := ["deck", "deep"]) fun _ _ _ _ _ _ us hl => match us, hl with | [_, _], _ => rfl
  have F4 := fun_mk (st := s__law_is_integer) l4 c4 k4
  have m4 := PySem.W.mg_of X G a4
  have B4 := F4.binds (ps := ["thing"]) fun _ _ _ _ _ _ us hl => match us, hl with | [_], _ => rfl
  have F5 := fun_mk (st := s__law_instead) l5 c5 k5
  have m5 := PySem.W.mg_of X G a5
  have B5 := F5.binds (ps := ["some", "at", "item"]) fun _ _ _ _ _ _ us hl => match us, hl with | [_, _, _], _ => rfl
  have F6 := fun_mk (st := s__law_bent) l6 c6 k6
  have m6 := PySem.W.mg_of X G a6
  have B6 := F6.binds (ps := ["deck", "thing", "deep"]) fun _ _ _ _ _ _ us hl => match us, hl with | [_, _, _], _ => rfl
  have F7 := fun_mk (st := s__law_spoilt) l7 c7 k7
  have m7 := PySem.W.mg_of X G a7
  have B7 := F7.binds (ps := ["deck", "thing"]) fun _ _ _ _ _ _ us hl => match us, hl with | [_, _], _ => rfl
  have F8 := fun_mk (st := s__law_near) l8 c8 k8
  have m8 := PySem.W.mg_of X G a8
  have B8 := F8.binds (ps := ["deck", "ring", "many"]) fun _ _ _ _ _ _ us hl => match us, hl with | [_, _, _], _ => rfl
  have F9 := fun_mk (st := s__law_drawn_placement) l9 c9 k9
  have m9 := PySem.W.mg_of X G a9
  have B9 := F9.binds (ps := ["deck", "most", "regs", "clients"]) fun _ _ _ _ _ _ us hl => match us, hl with | [_, _, _, _], _ => rfl
  have F10 := fun_mk (st := s__law_made_placement) l10 c10 k10
  have m10 := PySem.W.mg_of X G a10
  have B10 := F10.binds (ps := ["deck"]) fun _ _ _ _ _ _ us hl => match us, hl with | [_], _ => rfl
  have F11 := fun_mk (st := s__law_places) l11 c11 k11
  have m11 := PySem.W.mg_of X G a11
  have B11 := F11.binds (ps := ["placement"]) fun _ _ _ _ _ _ us hl => match us, hl with | [_], _ => rfl
  have F12 := fun_mk (st := s__law_shared) l12 c12 k12
  have m12 := PySem.W.mg_of X G a12
  have B12 := F12.binds (ps := ["placement", "one", "other"]) fun _ _ _ _ _ _ us hl => match us, hl with | [_, _, _], _ => rfl
  have F13 := fun_mk (st := s__law_has_step) l13 c13 k13
  have m13 := PySem.W.mg_of X G a13
  have B13 := F13.binds (ps := ["placement", "one", "other"]) fun _ _ _ _ _ _ us hl => match us, hl with | [_, _, _], _ => rfl
  have F14 := fun_mk (st := s__law_graph) l14 c14 k14
  have m14 := PySem.W.mg_of X G a14
  have B14 := F14.binds (ps := ["placement"]) fun _ _ _ _ _ _ us hl => match us, hl with | [_], _ => rfl
  have F15 := fun_mk (st := s__law_rings) l15 c15 k15
  have m15 := PySem.W.mg_of X G a15
  have B15 := F15.binds (ps := ["graph", "one", "other"]) fun _ _ _ _ _ _ us hl => match us, hl with | [_, _, _], _ => rfl
  have F16 := fun_mk (st := s__law_are_integers) l16 c16 k16
  have m16 := PySem.W.mg_of X G a16
  have B16 := F16.binds (ps := ["thing"]) fun _ _ _ _ _ _ us hl => match us, hl with | [_], _ => rfl
  have F17 := fun_mk (st := s__law_is_ring) l17 c17 k17
  have m17 := PySem.W.mg_of X G a17
  have B17 := F17.binds (ps := ["graph", "one", "other", "thing"]) fun _ _ _ _ _ _ us hl => match us, hl with | [_, _, _, _], _ => rfl
  have F18 := fun_mk (st := s_is_tuple_of) l18 c18 k18
  have m18 := PySem.W.mg_of X G a18
  have B18 := F18.binds (ps := ["thing", "length"]) fun _ _ _ _ _ _ us hl => match us, hl with | [_, _], _ => rfl
  have F19 := fun_mk (st := s_is_name) l19 c19 k19
  have m19 := PySem.W.mg_of X G a19
  have B19 := F19.binds (ps := ["thing"]) fun _ _ _ _ _ _ us hl => match us, hl with | [_], _ => rfl
  have F20 := fun_mk (st := s_is_ascending) l20 c20 k20
  have m20 := PySem.W.mg_of X G a20
  have B20 := F20.binds (ps := ["items"]) fun _ _ _ _ _ _ us hl => match us, hl with | [_], _ => rfl
  have F21 := fun_mk (st := s_are_names_ascending) l21 c21 k21
  have m21 := PySem.W.mg_of X G a21
  have B21 := F21.binds (ps := ["thing"]) fun _ _ _ _ _ _ us hl => match us, hl with | [_], _ => rfl
  have F22 := fun_mk (st := s_is_integer) l22 c22 k22
  have m22 := PySem.W.mg_of X G a22
  have B22 := F22.binds (ps := ["thing"]) fun _ _ _ _ _ _ us hl => match us, hl with | [_], _ => rfl
  have F23 := fun_mk (st := s_is_below) l23 c23 k23
  have m23 := PySem.W.mg_of X G a23
  have B23 := F23.binds (ps := ["thing", "limit"]) fun _ _ _ _ _ _ us hl => match us, hl with | [_, _], _ => rfl
  have F24 := fun_mk (st := s_are_below) l24 c24 k24
  have m24 := PySem.W.mg_of X G a24
  have B24 := F24.binds (ps := ["thing", "limit"]) fun _ _ _ _ _ _ us hl => match us, hl with | [_, _], _ => rfl
  have F25 := fun_mk (st := s_are_below_ascending) l25 c25 k25
  have m25 := PySem.W.mg_of X G a25
  have B25 := F25.binds (ps := ["thing", "limit"]) fun _ _ _ _ _ _ us hl => match us, hl with | [_, _], _ => rfl
  have F26 := fun_mk (st := s_are_clients) l26 c26 k26
  have m26 := PySem.W.mg_of X G a26
  have B26 := F26.binds (ps := ["clients", "count"]) fun _ _ _ _ _ _ us hl => match us, hl with | [_, _], _ => rfl
  have F27 := fun_mk (st := s_is_placement) l27 c27 k27
  have m27 := PySem.W.mg_of X G a27
  have B27 := F27.binds (ps := ["thing"]) fun _ _ _ _ _ _ us hl => match us, hl with | [_], _ => rfl
  have F28 := fun_mk (st := s_check_placement) l28 c28 k28
  have m28 := PySem.W.mg_of X G a28
  have B28 := F28.binds (ps := ["placement"]) fun _ _ _ _ _ _ us hl => match us, hl with | [_], _ => rfl
  have F29 := fun_mk (st := s_count_places) l29 c29 k29
  have m29 := PySem.W.mg_of X G a29
  have B29 := F29.binds (ps := ["placement"]) fun _ _ _ _ _ _ us hl => match us, hl with | [_], _ => rfl
  have F30 := fun_mk (st := s_is_place) l30 c30 k30
  have m30 := PySem.W.mg_of X G a30
  have B30 := F30.binds (ps := ["placement", "thing"]) fun _ _ _ _ _ _ us hl => match us, hl with | [_, _], _ => rfl
  have F31 := fun_mk (st := s_check_place) l31 c31 k31
  have m31 := PySem.W.mg_of X G a31
  have B31 := F31.binds (ps := ["placement", "place"]) fun _ _ _ _ _ _ us hl => match us, hl with | [_, _], _ => rfl
  have F32 := fun_mk (st := s_check_pair) l32 c32 k32
  have m32 := PySem.W.mg_of X G a32
  have B32 := F32.binds (ps := ["placement", "one", "other"]) fun _ _ _ _ _ _ us hl => match us, hl with | [_, _, _], _ => rfl
  have F33 := fun_mk (st := s_kept_at) l33 c33 k33
  have m33 := PySem.W.mg_of X G a33
  have B33 := F33.binds (ps := ["placement", "place"]) fun _ _ _ _ _ _ us hl => match us, hl with | [_, _], _ => rfl
  have F34 := fun_mk (st := s_shared_by) l34 c34 k34
  have m34 := PySem.W.mg_of X G a34
  have B34 := F34.binds (ps := ["placement", "one", "other"]) fun _ _ _ _ _ _ us hl => match us, hl with | [_, _, _], _ => rfl
  have F35 := fun_mk (st := s_is_client) l35 c35 k35
  have m35 := PySem.W.mg_of X G a35
  have B35 := F35.binds (ps := ["placement", "place"]) fun _ _ _ _ _ _ us hl => match us, hl with | [_, _], _ => rfl
  have F36 := fun_mk (st := s_does_visit) l36 c36 k36
  have m36 := PySem.W.mg_of X G a36
  have B36 := F36.binds (ps := ["placement", "one", "other"]) fun _ _ _ _ _ _ us hl => match us, hl with | [_, _, _], _ => rfl
  have F37 := fun_mk (st := s_is_step) l37 c37 k37
  have m37 := PySem.W.mg_of X G a37
  have B37 := F37.binds (ps := ["placement", "one", "other"]) fun _ _ _ _ _ _ us hl => match us, hl with | [_, _, _], _ => rfl
  have F38 := fun_mk (st := s_kept_bits) l38 c38 k38
  have m38 := PySem.W.mg_of X G a38
  have B38 := F38.binds (ps := ["placement"]) fun _ _ _ _ _ _ us hl => match us, hl with | [_], _ => rfl
  have F39 := fun_mk (st := s_Net___init__) l39 c39 k39
  have B39 := F39.binds (ps := ["self", "placement"]) fun _ _ _ _ _ _ us hl => match us, hl with | [_, _], _ => rfl
  have F40 := fun_mk (st := s_find_ring) l40 c40 k40
  have m40 := PySem.W.mg_of X G a40
  have B40 := F40.binds (ps := ["net", "one", "other"]) fun _ _ _ _ _ _ us hl => match us, hl with | [_, _, _], _ => rfl
  have F41 := fun_mk (st := s_ring_of) l41 c41 k41
  have m41 := PySem.W.mg_of X G a41
  have B41 := F41.binds (ps := ["placement", "one", "other"]) fun _ _ _ _ _ _ us hl => match us, hl with | [_, _, _], _ => rfl
  have F42 := fun_mk (st := s_has_steps) l42 c42 k42
  have m42 := PySem.W.mg_of X G a42
  have B42 := F42.binds (ps := ["net", "way"]) fun _ _ _ _ _ _ us hl => match us, hl with | [_, _], _ => rfl
  have F43 := fun_mk (st := s_ring_holds) l43 c43 k43
  have m43 := PySem.W.mg_of X G a43
  have B43 := F43.binds (ps := ["placement", "one", "other", "thing"]) fun _ _ _ _ _ _ us hl => match us, hl with | [_, _, _, _], _ => rfl
  have F44 := fun_mk (st := s_law) l44 c44 k44
  have m44 := PySem.W.mg_of X G a44
  have g_FEWEST_IN_RING : ∃ u, mg "FEWEST_IN_RING" = some u ∧ L2.RelV (V.int 3) u := ⟨_, PySem.W.mg_of X G gFEWEST_IN_RING, t_FEWEST_IN_RING, rfl⟩
  have g_FEWEST_VISITED : ∃ u, mg "FEWEST_VISITED" = some u ∧ L2.RelV (V.int 2) u := ⟨_, PySem.W.mg_of X G gFEWEST_VISITED, t_FEWEST_VISITED, rfl⟩
  have g_LONGEST_NAME : ∃ u, mg "LONGEST_NAME" = some u ∧ L2.RelV (V.int 10) u := ⟨_, PySem.W.mg_of X G gLONGEST_NAME, t_LONGEST_NAME, rfl⟩
  have nc_Net : NetC K C_Net := ⟨⟨pg_Net, hd_Net, po_Net, sa_Net⟩, n_Net_sites, n_Net_near, n_Net_bits⟩
  have o__law_deck := ok__law_deck (P := P) (w := w) (base := base)  (F := F0) bBN7 
  have c__law_deck : C8.Cal P w K mg base _ "_law_deck" _ [] := ⟨f0, _, _, [], o__law_deck, m0, F0.kp, B0, .nil⟩
  have o__law_draw := ok__law_draw (P := P) (w := w) (base := base)  (F := F1) bBN 
  have c__law_draw : C8.Cal P w K mg base _ "_law_draw" _ [] := ⟨f1, _, _, [], o__law_draw, m1, F1.kp, B1, .nil⟩
  have o__law_pick := ok__law_pick (P := P) (w := w) (base := base)  (F := F2) bBN c__law_draw
  have c__law_pick : C8.Cal P w K mg base _ "_law_pick" _ [] := ⟨f2, _, _, [], o__law_pick, m2, F2.kp, B2, .nil⟩
  have c__law_any : C8.Cal P w K mg base 6 "_law_any" (sp__law_any 3 K) [] := ⟨f3, _, _, [], ok__law_any bBNy3 F3 m3 B3 c__law_draw c__law_pick 3, m3, F3.kp, B3, .nil⟩
  have o__law_is_integer := ok__law_is_integer (P := P) (w := w) (base := base)  (F := F4) bBNj3 
  have c__law_is_integer : C8.Cal P w K mg base _ "_law_is_integer" _ [] := ⟨f4, _, _, [], o__law_is_integer, m4, F4.kp, B4, .nil⟩
  have o__law_instead := ok__law_instead (P := P) (w := w) (base := base)  (F := F5) bBNx3 
  have c__law_instead : C8.Cal P w K mg base _ "_law_instead" _ [] := ⟨f5, _, _, [], o__law_instead, m5, F5.kp, B5, .nil⟩
  have c__law_bent : C8.Cal P w K mg base 9 "_law_bent" (sp__law_bent 2 K) [] := ⟨f6, _, _, [], ok__law_bent bBNx3 F6 m6 B6 c__law_draw c__law_pick c__law_is_integer c__law_any c__law_instead 2, m6, F6.kp, B6, .nil⟩
  have c__law_spoilt : C8.Cal P w K mg base 13 "_law_spoilt" (sp__law_spoilt 3 K) [] := ⟨f7, _, _, [], ok__law_spoilt bBNw3 F7 m7 B7 c__law_draw c__law_pick c__law_is_integer c__law_instead c__law_bent 3, m7, F7.kp, B7, .nil⟩
  have o__law_near := ok__law_near (P := P) (w := w) (base := base)  (F := F8) bBNn70 c__law_draw c__law_pick c__law_spoilt
  have c__law_near : C8.Cal P w K mg base _ "_law_near" _ [] := ⟨f8, _, _, [], o__law_near, m8, F8.kp, B8, .nil⟩
  have o__law_drawn_placement := ok__law_drawn_placement (P := P) (w := w) (base := base)  (F := F9) bBNl3 c__law_draw c__law_pick
  have c__law_drawn_placement : C8.Cal P w K mg base _ "_law_drawn_placement" _ [] := ⟨f9, _, _, [], o__law_drawn_placement, m9, F9.kp, B9, .nil⟩
  have o__law_made_placement := ok__law_made_placement (P := P) (w := w) (base := base)  (F := F10) bBNM3 c__law_draw c__law_pick
  have c__law_made_placement : C8.Cal P w K mg base _ "_law_made_placement" _ [] := ⟨f10, _, _, [], o__law_made_placement, m10, F10.kp, B10, .nil⟩
  have o__law_places := ok__law_places (P := P) (w := w) (base := base)  (F := F11) bBNj3 
  have c__law_places : C8.Cal P w K mg base _ "_law_places" _ [] := ⟨f11, _, _, [], o__law_places, m11, F11.kp, B11, .nil⟩
  have o__law_shared := ok__law_shared (P := P) (w := w) (base := base)  (F := F12) bBNk3 
  have c__law_shared : C8.Cal P w K mg base _ "_law_shared" _ [] := ⟨f12, _, _, [], o__law_shared, m12, F12.kp, B12, .nil⟩
  have o__law_has_step := ok__law_has_step (P := P) (w := w) (base := base)  (F := F13) bBNk3 c__law_shared
  have c__law_has_step : C8.Cal P w K mg base _ "_law_has_step" _ [] := ⟨f13, _, _, [], o__law_has_step, m13, F13.kp, B13, .nil⟩
  have o__law_graph := ok__law_graph (P := P) (w := w) (base := base)  (F := F14) bBNk3 c__law_places c__law_has_step
  have c__law_graph : C8.Cal P w K mg base _ "_law_graph" _ [] := ⟨f14, _, _, [], o__law_graph, m14, F14.kp, B14, .nil⟩
  have o__law_rings := ok__law_rings (P := P) (w := w) (base := base)  (F := F15) bBNF 
  have c__law_rings : C8.Cal P w K mg base _ "_law_rings" _ [] := ⟨f15, _, _, [], o__law_rings, m15, F15.kp, B15, .nil⟩
  have o__law_are_integers := ok__law_are_integers (P := P) (w := w) (base := base)  (F := F16) bBNj3 c__law_is_integer
  have c__law_are_integers : C8.Cal P w K mg base _ "_law_are_integers" _ [] := ⟨f16, _, _, [], o__law_are_integers, m16, F16.kp, B16, .nil⟩
  have o__law_is_ring := ok__law_is_ring (P := P) (w := w) (base := base)  (F := F17) bBNm3 c__law_are_integers
  have c__law_is_ring : C8.Cal P w K mg base _ "_law_is_ring" _ [] := ⟨f17, _, _, [], o__law_is_ring, m17, F17.kp, B17, .nil⟩
  have o_is_tuple_of := ok_is_tuple_of (P := P) (w := w) (base := base)  (F := F18) bBN1 
  have c_is_tuple_of : C8.Cal P w K mg base _ "is_tuple_of" _ [] := ⟨f18, _, _, [], o_is_tuple_of, m18, F18.kp, B18, .nil⟩
  have o_is_name := ok_is_name (P := P) (w := w) (base := base)  (F := F19) bBN1 g_LONGEST_NAME 
  have c_is_name : C8.Cal P w K mg base _ "is_name" _ [] := ⟨f19, _, _, [], o_is_name, m19, F19.kp, B19, .nil⟩
  have o_is_ascending := ok_is_ascending (P := P) (w := w) (base := base)  (F := F20) bBN1 
  have c_is_ascending : C8.Cal P w K mg base _ "is_ascending" _ [] := ⟨f20, _, _, [], o_is_ascending, m20, F20.kp, B20, .nil⟩
  have o_are_names_ascending := ok_are_names_ascending (P := P) (w := w) (base := base)  (F := F21) bBN1 c_is_name c_is_ascending
  have c_are_names_ascending : C8.Cal P w K mg base _ "are_names_ascending" _ [] := ⟨f21, _, _, [], o_are_names_ascending, m21, F21.kp, B21, .nil⟩
  have o_is_integer := ok_is_integer (P := P) (w := w) (base := base)  (F := F22) bBN1 
  have c_is_integer : C8.Cal P w K mg base _ "is_integer" _ [] := ⟨f22, _, _, [], o_is_integer, m22, F22.kp, B22, .nil⟩
  have o_is_below := ok_is_below (P := P) (w := w) (base := base)  (F := F23) bBN1 c_is_integer
  have c_is_below : C8.Cal P w K mg base _ "is_below" _ [] := ⟨f23, _, _, [], o_is_below, m23, F23.kp, B23, .nil⟩
  have o_are_below := ok_are_below (P := P) (w := w) (base := base)  (F := F24) bBN1 c_is_below
  have c_are_below : C8.Cal P w K mg base _ "are_below" _ [] := ⟨f24, _, _, [], o_are_below, m24, F24.kp, B24, .nil⟩
  have o_are_below_ascending := ok_are_below_ascending (P := P) (w := w) (base := base)  (F := F25)  c_are_below c_is_ascending
  have c_are_below_ascending : C8.Cal P w K mg base _ "are_below_ascending" _ [] := ⟨f25, _, _, [], o_are_below_ascending, m25, F25.kp, B25, .nil⟩
  have o_are_clients := ok_are_clients (P := P) (w := w) (base := base)  (F := F26) bBN1 g_FEWEST_VISITED c_are_below_ascending
  have c_are_clients : C8.Cal P w K mg base _ "are_clients" _ [] := ⟨f26, _, _, [], o_are_clients, m26, F26.kp, B26, .nil⟩
  have o_is_placement := ok_is_placement (P := P) (w := w) (base := base)  (F := F27) bBN1 c_is_tuple_of c_are_names_ascending c_are_clients
  have c_is_placement : C8.Cal P w K mg base _ "is_placement" _ [] := ⟨f27, _, _, [], o_is_placement, m27, F27.kp, B27, .nil⟩
  have o_check_placement := ok_check_placement (P := P) (w := w) (base := base)  (F := F28) bBNq c_is_placement
  have c_check_placement : C8.Cal P w K mg base _ "check_placement" _ [] := ⟨f28, _, _, [], o_check_placement, m28, F28.kp, B28, .nil⟩
  have o_count_places := ok_count_places (P := P) (w := w) (base := base)  (F := F29) bBNq 
  have c_count_places : C8.Cal P w K mg base _ "count_places" _ [] := ⟨f29, _, _, [], o_count_places, m29, F29.kp, B29, .nil⟩
  have o_is_place := ok_is_place (P := P) (w := w) (base := base)  (F := F30) bBNq c_is_below c_count_places
  have c_is_place : C8.Cal P w K mg base _ "is_place" _ [] := ⟨f30, _, _, [], o_is_place, m30, F30.kp, B30, .nil⟩
  have o_check_place := ok_check_place (P := P) (w := w) (base := base)  (F := F31) bBNq c_is_place
  have c_check_place : C8.Cal P w K mg base _ "check_place" _ [] := ⟨f31, _, _, [], o_check_place, m31, F31.kp, B31, .nil⟩
  have o_check_pair := ok_check_pair (P := P) (w := w) (base := base)  (F := F32) bBNP c_check_placement c_check_place
  have c_check_pair : C8.Cal P w K mg base _ "check_pair" _ [] := ⟨f32, _, _, [], o_check_pair, m32, F32.kp, B32, .nil⟩
  have o_kept_at := ok_kept_at (P := P) (w := w) (base := base)  (F := F33) bBNq 
  have c_kept_at : C8.Cal P w K mg base _ "kept_at" _ [] := ⟨f33, _, _, [], o_kept_at, m33, F33.kp, B33, .nil⟩
  have o_shared_by := ok_shared_by (P := P) (w := w) (base := base)  (F := F34) bBNq c_kept_at
  have c_shared_by : C8.Cal P w K mg base _ "shared_by" _ [] := ⟨f34, _, _, [], o_shared_by, m34, F34.kp, B34, .nil⟩
  have o_is_client := ok_is_client (P := P) (w := w) (base := base)  (F := F35) bBNq 
  have c_is_client : C8.Cal P w K mg base _ "is_client" _ [] := ⟨f35, _, _, [], o_is_client, m35, F35.kp, B35, .nil⟩
  have o_does_visit := ok_does_visit (P := P) (w := w) (base := base)  (F := F36) bBNq c_is_client
  have c_does_visit : C8.Cal P w K mg base _ "does_visit" _ [] := ⟨f36, _, _, [], o_does_visit, m36, F36.kp, B36, .nil⟩
  have o_is_step := ok_is_step (P := P) (w := w) (base := base)  (F := F37) bBNq c_shared_by c_does_visit
  have c_is_step : C8.Cal P w K mg base _ "is_step" _ [] := ⟨f37, _, _, [], o_is_step, m37, F37.kp, B37, .nil⟩
  have o_kept_bits := ok_kept_bits (P := P) (w := w) (base := base)  (F := F38) bBNbits 
  have c_kept_bits : C8.Cal P w K mg base _ "kept_bits" _ [] := ⟨f38, _, _, [], o_kept_bits, m38, F38.kp, B38, .nil⟩
  have o_Net___init__ := ok_Net___init__ (P := P) (w := w) (base := base) (nc := nc_Net) (F := F39) bBNnet c_count_places c_is_step c_kept_bits
  have m_Net : C8.Mak P w K mg base _ "Net" C_Net _ [] := ⟨f39, _, _, [], ⟨mk_Net, a39, j39, kc_Net⟩, o_Net___init__, PySem.W.mg_of X G aC_Net, B39, .nil⟩
  have o_find_ring := ok_find_ring (P := P) (w := w) (base := base) (nc := nc_Net) (F := F40) bBNF g_FEWEST_IN_RING 
  have c_find_ring : C8.Cal P w K mg base _ "find_ring" _ [] := ⟨f40, _, _, [], o_find_ring, m40, F40.kp, B40, .nil⟩
  have o_ring_of := ok_ring_of (P := P) (w := w) (base := base) (nc := nc_Net) (F := F41) bBNP c_check_pair m_Net c_find_ring
  have c_ring_of : C8.Cal P w K mg base _ "ring_of" _ [] := ⟨f41, _, _, [], o_ring_of, m41, F41.kp, B41, .nil⟩
  have k_ring_of : CalW P w K mg base _ "ring_of" ["other", "one", "placement"] (fun vs zs => vs ++ zs.reverse) (sp_ring_of K) := ⟨f41, _, ["placement", "one", "other"], fun us ws => us ++ ws.reverse, o_ring_of, m41, F41.kp, KB3 (fun _ _ _ _ => .of_eq rfl) (fun _ _ _ _ => .of_eq rfl) (fun _ _ _ _ => .of_eq rfl) (fun _ _ _ _ => .of_eq rfl)⟩
  have o_has_steps := ok_has_steps (P := P) (w := w) (base := base) (nc := nc_Net) (F := F42) bBNP 
  have c_has_steps : C8.Cal P w K mg base _ "has_steps" _ [] := ⟨f42, _, _, [], o_has_steps, m42, F42.kp, B42, .nil⟩
  have o_ring_holds := ok_ring_holds (P := P) (w := w) (base := base) (nc := nc_Net) (F := F43) bBNP g_FEWEST_IN_RING c_check_pair c_count_places c_are_below m_Net c_has_steps
  have c_ring_holds : C8.Cal P w K mg base _ "ring_holds" _ [] := ⟨f43, _, _, [], o_ring_holds, m43, F43.kp, B43, .nil⟩
  have k_ring_holds : CalW P w K mg base _ "ring_holds" ["thing", "other", "one", "placement"] (fun vs zs => vs ++ zs.reverse) (sp_ring_holds K) := ⟨f43, _, ["placement", "one", "other", "thing"], fun us ws => us ++ ws.reverse, o_ring_holds, m43, F43.kp, KB4 (fun _ _ _ _ _ => .of_eq rfl) (fun _ _ _ _ _ => .of_eq rfl) (fun _ _ _ _ _ => .of_eq rfl) (fun _ _ _ _ _ => .of_eq rfl) (fun _ _ _ _ _ => .of_eq rfl)⟩
  exact run_law bBNlaw70 F44 (.of_eq rfl) hl e0 hS c__law_deck c__law_draw c__law_pick c__law_any c__law_near c__law_drawn_placement c__law_made_placement c__law_graph c__law_rings c__law_is_ring c_ring_of k_ring_of c_ring_holds k_ring_holds
end
end Cal
open PySem PySem.W PyProof.Rows
set_option maxHeartbeats 0 in
theorem PySem.Challenge.cw_causeloops_k70_whole_rings_by_an_own_jud_holds : PySem.Challenge.rw_causeloops_k70_whole_rings_by_an_own_jud.Holds := by
  w_on; o_law; k_head; (case hw => w_witness2)
  k_fill
  refine Cal.walk_at (l := PySem.Challenge.rw_causeloops_k70_whole_rings_by_an_own_jud) (n := 63) rfl (by decide) rfl (fun w h Y => PySem.W.kIn_of Y) ?F
  case F =>
    intro w mg fa s₁ KX G hmg base H a ns hl e0 hS
    refine' Cal.all_mk KX G hmg ?aC_Net ?pg_Net ?hd_Net ?po_Net ?sa_Net ?mk_Net ?kc_Net ?n_Net_sites ?n_Net_near ?n_Net_bits ?a0 ?l0 ?c0 ?k0 ?a1 ?l1 ?c1 ?k1 ?a2 ?l2 ?c2 ?k2 ?a3 ?l3 ?c3 ?k3 ?a4 ?l4 ?c4 ?k4 ?a5 ?l5 ?c5 ?k5 ?a6 ?l6 ?c6 ?k6 ?a7 ?l7 ?c7 ?k7 ?a8 ?l8 ?c8 ?k8 ?a9 ?l9 ?c9 ?k9 ?a10 ?l10 ?c10 ?k10 ?a11 ?l11 ?c11 ?k11 ?a12 ?l12 ?c12 ?k12 ?a13 ?l13 ?c13 ?k13 ?a14 ?l14 ?c14 ?k14 ?a15 ?l15 ?c15 ?k15 ?a16 ?l16 ?c16 ?k16 ?a17 ?l17 ?c17 ?k17 ?a18 ?l18 ?c18 ?k18 ?a19 ?l19 ?c19 ?k19 ?a20 ?l20 ?c20 ?k20 ?a21 ?l21 ?c21 ?k21 ?a22 ?l22 ?c22 ?k22 ?a23 ?l23 ?c23 ?k23 ?a24 ?l24 ?c24 ?k24 ?a25 ?l25 ?c25 ?k25 ?a26 ?l26 ?c26 ?k26 ?a27 ?l27 ?c27 ?k27 ?a28 ?l28 ?c28 ?k28 ?a29 ?l29 ?c29 ?k29 ?a30 ?l30 ?c30 ?k30 ?a31 ?l31 ?c31 ?k31 ?a32 ?l32 ?c32 ?k32 ?a33 ?l33 ?c33 ?k33 ?a34 ?l34 ?c34 ?k34 ?a35 ?l35 ?c35 ?k35 ?a36 ?l36 ?c36 ?k36 ?a37 ?l37 ?c37 ?k37 ?a38 ?l38 ?c38 ?k38 ?a39 ?j39 ?l39 ?c39 ?k39 ?a40 ?l40 ?c40 ?k40 ?a41 ?l41 ?c41 ?k41 ?a42 ?l42 ?c42 ?k42 ?a43 ?l43 ?c43 ?k43 ?a44 ?l44 ?c44 ?k44 ?z0 ?z1 ?z2 ?z3 ?z4 ?z5 ?z6 ?z7 ?z8 ?z9 ?z10 ?z11 ?z12 ?z13 ?z14 ?z15 ?z16 ?gFEWEST_IN_RING ?gFEWEST_VISITED ?gLONGEST_NAME hl e0 hS
    (case aC_Net => k_is); (case pg_Net => k_is); (case hd_Net => k_is); (case po_Net => k_is); (case sa_Net => k_is); (case mk_Net => k_is); (case kc_Net => k_is); (case n_Net_sites => k_is)
    (case n_Net_near => k_is); (case n_Net_bits => k_is); (case a0 => k_is); (case l0 => k_is); (case c0 => k_is); (case k0 => k_is); (case a1 => k_is); (case l1 => k_is)
    (case c1 => k_is); (case k1 => k_is); (case a2 => k_is); (case l2 => k_is); (case c2 => k_is); (case k2 => k_is); (case a3 => k_is); (case l3 => k_is)
    (case c3 => k_is); (case k3 => k_is); (case a4 => k_is); (case l4 => k_is); (case c4 => k_is); (case k4 => k_is); (case a5 => k_is); (case l5 => k_is)
    (case c5 => k_is); (case k5 => k_is); (case a6 => k_is); (case l6 => k_is); (case c6 => k_is); (case k6 => k_is); (case a7 => k_is); (case l7 => k_is)
    (case c7 => k_is); (case k7 => k_is); (case a8 => k_is); (case l8 => k_is); (case c8 => k_is); (case k8 => k_is); (case a9 => k_is); (case l9 => k_is)
    (case c9 => k_is); (case k9 => k_is); (case a10 => k_is); (case l10 => k_is); (case c10 => k_is); (case k10 => k_is); (case a11 => k_is); (case l11 => k_is)
    (case c11 => k_is); (case k11 => k_is); (case a12 => k_is); (case l12 => k_is); (case c12 => k_is); (case k12 => k_is); (case a13 => k_is); (case l13 => k_is)
    (case c13 => k_is); (case k13 => k_is); (case a14 => k_is); (case l14 => k_is); (case c14 => k_is); (case k14 => k_is); (case a15 => k_is); (case l15 => k_is)
    (case c15 => k_is); (case k15 => k_is); (case a16 => k_is); (case l16 => k_is); (case c16 => k_is); (case k16 => k_is); (case a17 => k_is); (case l17 => k_is)
    (case c17 => k_is); (case k17 => k_is); (case a18 => k_is); (case l18 => k_is); (case c18 => k_is); (case k18 => k_is); (case a19 => k_is); (case l19 => k_is)
    (case c19 => k_is); (case k19 => k_is); (case a20 => k_is); (case l20 => k_is); (case c20 => k_is); (case k20 => k_is); (case a21 => k_is); (case l21 => k_is)
    (case c21 => k_is); (case k21 => k_is); (case a22 => k_is); (case l22 => k_is); (case c22 => k_is); (case k22 => k_is); (case a23 => k_is); (case l23 => k_is)
    (case c23 => k_is); (case k23 => k_is); (case a24 => k_is); (case l24 => k_is); (case c24 => k_is); (case k24 => k_is); (case a25 => k_is); (case l25 => k_is)
    (case c25 => k_is); (case k25 => k_is); (case a26 => k_is); (case l26 => k_is); (case c26 => k_is); (case k26 => k_is); (case a27 => k_is); (case l27 => k_is)
    (case c27 => k_is); (case k27 => k_is); (case a28 => k_is); (case l28 => k_is); (case c28 => k_is); (case k28 => k_is); (case a29 => k_is); (case l29 => k_is)
    (case c29 => k_is); (case k29 => k_is); (case a30 => k_is); (case l30 => k_is); (case c30 => k_is); (case k30 => k_is); (case a31 => k_is); (case l31 => k_is)
    (case c31 => k_is); (case k31 => k_is); (case a32 => k_is); (case l32 => k_is); (case c32 => k_is); (case k32 => k_is); (case a33 => k_is); (case l33 => k_is)
    (case c33 => k_is); (case k33 => k_is); (case a34 => k_is); (case l34 => k_is); (case c34 => k_is); (case k34 => k_is); (case a35 => k_is); (case l35 => k_is)
    (case c35 => k_is); (case k35 => k_is); (case a36 => k_is); (case l36 => k_is); (case c36 => k_is); (case k36 => k_is); (case a37 => k_is); (case l37 => k_is)
    (case c37 => k_is); (case k37 => k_is); (case a38 => k_is); (case l38 => k_is); (case c38 => k_is); (case k38 => k_is); (case a39 => k_is); (case j39 => k_is)
    (case l39 => k_is); (case c39 => k_is); (case k39 => k_is); (case a40 => k_is); (case l40 => k_is); (case c40 => k_is); (case k40 => k_is); (case a41 => k_is)
    (case l41 => k_is); (case c41 => k_is); (case k41 => k_is); (case a42 => k_is); (case l42 => k_is); (case c42 => k_is); (case k42 => k_is); (case a43 => k_is)
    (case l43 => k_is); (case c43 => k_is); (case k43 => k_is); (case a44 => k_is); (case l44 => k_is); (case c44 => k_is); (case k44 => k_is); (case z0 => k_is)
    (case z1 => k_is); (case z2 => k_is); (case z3 => k_is); (case z4 => k_is); (case z5 => k_is); (case z6 => k_is); (case z7 => k_is); (case z8 => k_is)
    (case z9 => k_is); (case z10 => k_is); (case z11 => k_is); (case z12 => k_is); (case z13 => k_is); (case z14 => k_is); (case z15 => k_is); (case z16 => k_is)
    (case gFEWEST_IN_RING => k_is); (case gFEWEST_VISITED => k_is); (case gLONGEST_NAME => k_is)


