import PyProof.Rows.All
import Wide.All
import OpenK.AllK
import Wide.FinOn
import HandS.ForMost
import HandS.IsInst
import HandS.ForExc
import HandS.Walk
import HandS.Style
import HandS.Wide
import HandS.Steps
import PySem.Challenge.RW_vectorwidths_k01_names_and_refs
set_option Elab.async false
set_option linter.all false
set_option maxRecDepth 100000
set_option maxHeartbeats 1000000
/-! data: what the values are worth, and the states of a body by data -/
namespace DL
open PySem L2

inductive D where
  | non | bl (b : Bool) | int (i : Int) | str (s : Str)
  | lst (xs : List D) | tup (xs : List D) | obj (c : Nat) (fs : List (Str × D)) | tok
  | ety

def Ex (H H' : Hp) : Prop := ∀ a o, H a = some o → H' a = some o
theorem Ex.refl (H : Hp) : Ex H H := fun _ _ h => h
theorem Ex.trans {H H1 H2 : Hp} (a : Ex H H1) (b : Ex H1 H2) : Ex H H2 := fun x o h => b x o (a x o h)
theorem Ex.new {H : Hp} {p : Addr} {o : HO} (h : H p = none) : Ex H (upd H p o) := fun a u e => by
  rw [upd_ne (ne_of_none e h)]
  exact e
theorem Ex.rd {H H' : Hp} {a : Addr} {u : HO} (e : Ex H H') (h : Rd H a u) : Rd H' a u := by
  rcases h with h | ⟨o, h⟩
  · exact Or.inl (e a _ h)
  · exact Or.inr ⟨o, e a _ h⟩
theorem Ex.l {K : PySem.W.Frag} {H H' : Hp} {a : Addr} {xs : List V} (e : Ex H H') (h : SqL K H a xs) : SqL K H' a xs := by
  rcases h with h | h
  · exact Or.inl (e.rd h)
  · exact Or.inr h
theorem Ex.t {K : PySem.W.Frag} {H H' : Hp} {a : Addr} {xs : List V} (e : Ex H H') (h : SqT K H a xs) : SqT K H' a xs := by
  rcases h with h | h
  · exact Or.inl (e.rd h)
  · exact Or.inr h

/-- the law's surroundings: the classes by number, what stands at the hidden address -/
structure Wc where
  M : Nat → Option Addr
  Sr : Hp → HO → Prop
  mono : ∀ S S' o, Ex S S' → Sr S o → Sr S' o

section
variable (K : PySem.W.Frag) (W : Wc) (p : Addr) (S : Hp)
mutual
def R : V → D → Prop
  | v, .non => v = .non
  | v, .bl b => v = .bl b
  | v, .int i => v = .int i
  | v, .str x => v = .str x
  | v, .lst ds => ∃ a xs, v = .ref a ∧ S a = some (.lst xs) ∧ RA xs ds
  | v, .tup ds => ∃ a xs, v = .ref a ∧ SqT K S a xs ∧ RA xs ds
  | v, .obj c fs => ∃ a C dx gs, v = .ref a ∧ S a = some (.ins C dx gs) ∧ W.M c = some C ∧ RF gs fs
  | v, .tok => v = .ref p
  | v, .ety => ∃ a, v = .ref a ∧ S a = some (.dK [])
def RA : List V → List D → Prop
  | xs, [] => xs = []
  | xs, d :: ds => ∃ y ys, xs = y :: ys ∧ R y d ∧ RA ys ds
def RF : List (Str × V) → List (Str × D) → Prop
  | gs, [] => gs = []
  | gs, (n, d) :: fs => ∃ y ys, gs = (n, y) :: ys ∧ R y d ∧ RF ys fs
end
end
section
variable {K : PySem.W.Frag} {W : Wc} {p : Addr} {S S' : Hp}
mutual
theorem R.mono (e : Ex S S') : ∀ (d : D) (v : V), R K W p S v d → R K W p S' v d
  | .non, _, h => h
  | .bl _, _, h => h
  | .int _, _, h => h
  | .str _, _, h => h
  | .lst ds, v, h => by
    unfold R at h ⊢
    obtain ⟨a, xs, rfl, h1, h2⟩ := h
    exact ⟨a, xs, rfl, e _ _ h1, RA.mono e ds xs h2⟩
  | .tup ds, v, h => by
    unfold R at h ⊢
    obtain ⟨a, xs, rfl, h1, h2⟩ := h
    exact ⟨a, xs, rfl, e.t h1, RA.mono e ds xs h2⟩
  | .obj c fs, v, h => by
    unfold R at h ⊢
    obtain ⟨a, C, dx, gs, rfl, h1, h2, h3⟩ := h
    exact ⟨a, C, dx, gs, rfl, e _ _ h1, h2, RF.mono e fs gs h3⟩
  | .tok, _, h => h
  | .ety, v, h => by
    unfold R at h ⊢
    obtain ⟨a, rfl, h1⟩ := h
    exact ⟨a, rfl, e _ _ h1⟩
theorem RA.mono (e : Ex S S') : ∀ (ds : List D) (xs : List V), RA K W p S xs ds → RA K W p S' xs ds
  | [], _, h => h
  | d :: ds, xs, h => by
    unfold RA at h ⊢
    obtain ⟨y, ys, rfl, h1, h2⟩ := h
    exact ⟨y, ys, rfl, R.mono e d y h1, RA.mono e ds ys h2⟩
theorem RF.mono (e : Ex S S') : ∀ (ds : List (Str × D)) (xs : List (Str × V)), RF K W p S xs ds → RF K W p S' xs ds
  | [], _, h => h
  | (n, d) :: ds, xs, h => by
    unfold RF at h ⊢
    obtain ⟨y, ys, rfl, h1, h2⟩ := h
    exact ⟨y, ys, rfl, R.mono e d y h1, RF.mono e ds ys h2⟩
end
theorem RA.length : ∀ {ds : List D} {xs : List V}, RA K W p S xs ds → xs.length = ds.length
  | [], xs, h => by unfold RA at h; subst h; rfl
  | d :: ds, xs, h => by
    unfold RA at h
    obtain ⟨y, ys, rfl, _, h2⟩ := h
    simp [RA.length h2]
theorem RA.nil : RA K W p S [] [] := by unfold RA; rfl
theorem RA.cons {v : V} {d : D} {vs : List V} {ds : List D} (h : R K W p S v d) (t : RA K W p S vs ds) : RA K W p S (v :: vs) (d :: ds) := by unfold RA; exact ⟨v, vs, rfl, h, t⟩
theorem RA.append : ∀ {ds : List D} {xs : List V} {es : List D} {ys : List V}, RA K W p S xs ds → RA K W p S ys es → RA K W p S (xs ++ ys) (ds ++ es)
  | [], xs, es, ys, h, k => by unfold RA at h; subst h; exact k
  | d :: ds, xs, es, ys, h, k => by
    unfold RA at h
    obtain ⟨y, zs, rfl, h1, h2⟩ := h
    exact RA.cons h1 (RA.append h2 k)
theorem RA.get : ∀ {ds : List D} {xs : List V} {i : Nat} {v : V}, RA K W p S xs ds → xs[i]? = some v → ∃ d, ds[i]? = some d ∧ R K W p S v d
  | [], xs, i, v, h, e => by unfold RA at h; subst h; simp at e
  | d :: ds, xs, i, v, h, e => by
    unfold RA at h
    obtain ⟨y, ys, rfl, h1, h2⟩ := h
    cases i with
    | zero => simp at e; subst e; exact ⟨d, by simp, h1⟩
    | succ i =>
      obtain ⟨d', q1, q2⟩ := RA.get (i := i) (v := v) h2 (by simpa using e)
      exact ⟨d', by simpa using q1, q2⟩
theorem RA.at : ∀ {ds : List D} {xs : List V} {i : Nat} {d : D}, RA K W p S xs ds → ds[i]? = some d → ∃ v, xs[i]? = some v ∧ R K W p S v d
  | [], xs, i, v, h, e => by simp at e
  | d0 :: ds, xs, i, d, h, e => by
    unfold RA at h
    obtain ⟨y, ys, rfl, h1, h2⟩ := h
    cases i with
    | zero => simp at e; subst e; exact ⟨y, by simp, h1⟩
    | succ i =>
      obtain ⟨d', q1, q2⟩ := RA.at (i := i) (d := d) h2 (by simpa using e)
      exact ⟨d', by simpa using q1, q2⟩
theorem RA.take : ∀ (n : Nat) {ds : List D} {xs : List V}, RA K W p S xs ds → RA K W p S (xs.take n) (ds.take n)
  | 0, _, _, _ => by simp; exact RA.nil
  | n + 1, [], xs, h => by unfold RA at h; subst h; simp; exact RA.nil
  | n + 1, d :: ds, xs, h => by
    unfold RA at h
    obtain ⟨y, ys, rfl, h1, h2⟩ := h
    exact RA.cons h1 (RA.take n h2)
theorem RA.drop : ∀ (n : Nat) {ds : List D} {xs : List V}, RA K W p S xs ds → RA K W p S (xs.drop n) (ds.drop n)
  | 0, _, _, h => h
  | n + 1, [], xs, h => by unfold RA at h; subst h; simp; exact RA.nil
  | n + 1, d :: ds, xs, h => by
    unfold RA at h
    obtain ⟨y, ys, rfl, h1, h2⟩ := h
    exact RA.drop n h2
end

/-! ### states -/
structure Stt (W : Wc) (p : Addr) (S H : Hp) : Prop where
  ex : Ex S H
  hid : S p = none
  src : ∃ o, H p = some o ∧ W.Sr S o
structure Grow (W : Wc) (p : Addr) (S H S' H' : Hp) : Prop where
  ex : Ex S S'
  st : Stt W p S' H'
  keep : ∀ b o, b ≠ p → H b = some o → H' b = some o
  fr : ∀ b, H b ≠ none → S b = none → S' b = none
section
variable {W : Wc} {p : Addr} {S H S1 H1 S2 H2 : Hp}
theorem Grow.refl (s : Stt W p S H) : Grow W p S H S H := ⟨Ex.refl S, s, fun _ _ _ h => h, fun _ _ h => h⟩
theorem Grow.trans (a : Grow W p S H S1 H1) (b : Grow W p S1 H1 S2 H2) : Grow W p S H S2 H2 where
  ex := a.ex.trans b.ex
  st := b.st
  keep := fun c o n h => b.keep c o n (a.keep c o n h)
  fr := fun c h n => b.fr c (by
    by_cases hc : c = p
    · subst hc
      obtain ⟨o, e, _⟩ := a.st.src
      rw [e]
      simp
    · cases e : H c with
      | none => exact absurd e h
      | some o =>
        rw [a.keep c o hc e]
        simp) (a.fr c h n)
/-- a new object, known from now on -/
theorem Grow.new {q : Addr} {o : HO} (s : Stt W p S H) (h : H q = none) : Grow W p S H (upd S q o) (upd H q o) := by
  have hp : p ≠ q := by
    obtain ⟨o', e, _⟩ := s.src
    exact ne_of_none e h
  have hS : S q = none := by
    cases e : S q with
    | none => rfl
    | some u =>
      rw [s.ex q u e] at h
      cases h
  refine ⟨Ex.new hS, ⟨fun a u e => ?_, by rw [upd_ne hp]; exact s.hid, ?_⟩, fun b u _ e => by rw [upd_ne (ne_of_none e h)]; exact e, fun b n e => ?_⟩
  · by_cases ha : a = q
    · subst ha
      rw [upd_same] at e ⊢
      exact e
    · rw [upd_ne ha] at e ⊢
      exact s.ex a u e
  · obtain ⟨o', e, r⟩ := s.src
    exact ⟨o', by rw [upd_ne hp]; exact e, W.mono _ _ _ (Ex.new hS) r⟩
  · have : b ≠ q := fun z => by rw [z] at n; exact n h
    rw [upd_ne this]
    exact e
end

/-! ### slots -/
inductive Sl where
  | un | sh (d : D) | ow (xs : List D)
abbrev SEnv := List Sl
abbrev XP := Nat → List (Str × D) → Prop
section
variable (K : PySem.W.Frag) (W : Wc) (p : Addr) (S H : Hp)
def RSl (o : Option V) : Sl → Prop
  | .un => True
  | .sh d => ∃ v, o = some v ∧ R K W p S v d
  | .ow ds => ∃ a vs, o = some (.ref a) ∧ S a = none ∧ a ≠ p ∧ H a = some (.lst vs) ∧ RA K W p S vs ds
structure Ev (σ : L2.St) (env : SEnv) : Prop where
  at_ : ∀ (i : Nat) (s : Sl), env[i]? = some s → ∃ o, σ[i]? = some o ∧ RSl K W p S H o s
  dis : ∀ (i j : Nat) (ds es : List D), i ≠ j → env[i]? = some (.ow ds) → env[j]? = some (.ow es) → σ[i]? ≠ σ[j]?
end
section
variable {K : PySem.W.Frag} {W : Wc} {p : Addr} {S H S' H' : Hp} {σ : L2.St} {env : SEnv}
theorem RSl.mono {o : Option V} {s : Sl} (g : Grow W p S H S' H') (h : RSl K W p S H o s) : RSl K W p S' H' o s := by
  cases s with
  | un => trivial
  | sh d =>
    obtain ⟨v, e, r⟩ := h
    exact ⟨v, e, R.mono g.ex _ _ r⟩
  | ow ds =>
    obtain ⟨a, vs, e, h1, h2, h3, h4⟩ := h
    exact ⟨a, vs, e, g.fr a (by rw [h3]; simp) h1, h2, g.keep a _ h2 h3, RA.mono g.ex _ _ h4⟩
theorem Ev.mono (g : Grow W p S H S' H') (h : Ev K W p S H σ env) : Ev K W p S' H' σ env :=
  ⟨fun i s e => let ⟨o, h1, h2⟩ := h.at_ i s e; ⟨o, h1, h2.mono g⟩, h.dis⟩
theorem Ev.set {i : Nat} {v : V} {d : D} (h : Ev K W p S H σ env) (r : R K W p S v d) : Ev K W p S H (σ.set i (some v)) (env.set i (.sh d)) := by
  refine ⟨fun j s e => ?_, fun j k ds es n e1 e2 => ?_⟩
  · by_cases hj : i = j
    · subst hj
      have hl : i < env.length := by
        by_cases hl : i < env.length
        · exact hl
        · rw [List.getElem?_eq_none (by simpa using hl)] at e; cases e
      rw [List.getElem?_set_self hl] at e
      cases e
      have hs : i < σ.length := by
        obtain ⟨o, h1, _⟩ := h.at_ i env[i] (by simp [hl])
        exact (List.getElem?_eq_some_iff.mp h1).1
      exact ⟨_, List.getElem?_set_self hs, v, rfl, r⟩
    · rw [List.getElem?_set_ne hj] at e ⊢
      exact h.at_ j s e
  · have nj : i ≠ j := fun z => by
      subst z
      by_cases hl : i < env.length
      · rw [List.getElem?_set_self hl] at e1; cases e1
      · rw [List.getElem?_eq_none (by simpa using hl)] at e1; cases e1
    have nk : i ≠ k := fun z => by
      subst z
      by_cases hl : i < env.length
      · rw [List.getElem?_set_self hl] at e2; cases e2
      · rw [List.getElem?_eq_none (by simpa using hl)] at e2; cases e2
    rw [List.getElem?_set_ne nj] at e1 ⊢
    rw [List.getElem?_set_ne nk] at e2 ⊢
    exact h.dis j k ds es n e1 e2
end
end DL

set_option Elab.async false
set_option linter.all false
set_option maxRecDepth 100000
set_option maxHeartbeats 1000000
/-! judgements over data -/
namespace DL
open PySem L2

abbrev DE := SEnv → XP → (D → Prop) → Prop
abbrev DT := SEnv → XP → (Bool → Prop) → Prop
abbrev DA := SEnv → XP → (List D → Prop) → Prop
structure DEnds where
  nx : SEnv → Prop
  rt : D → Prop
  bk : SEnv → Prop := fun _ => False
  ct : SEnv → Prop := fun _ => False
abbrev DS := DEnds → XP → SEnv → Prop
/-- a def by data: arguments, what is wanted of an error, of a value -/
abbrev DF := List D → XP → (D → Prop) → Prop
abbrev noX : XP := fun _ _ => False

section
variable (K : PySem.W.Frag) (W : Wc)
def XOk (p : Addr) (S H : Hp) (xp : XP) (E : XK) : Prop :=
  ∀ c dfs C x fs S' H', xp c dfs → W.M c = some C → Grow W p S H S' H' → H' x = some (.xd fs) → RF K W p S' fs dfs → E (.ref C) (some x) H'
def SE (E : XK) (te : TE) (de : DE) : Prop :=
  ∀ p S H σ env xp, Stt W p S H → Ev K W p S H σ env → XOk K W p S H xp E → ∀ (Q : VK) (post : D → Prop), de env xp post →
    (∀ v d S' H', post d → Grow W p S H S' H' → R K W p S' v d → Q v H') → te σ H Q
def STt (E : XK) (tt : TT) (dt : DT) : Prop :=
  ∀ p S H σ env xp, Stt W p S H → Ev K W p S H σ env → XOk K W p S H xp E → ∀ (Q : Bool → Hp → Prop) (post : Bool → Prop), dt env xp post →
    (∀ b S' H', post b → Grow W p S H S' H' → Q b H') → tt σ H Q
def SA (E : XK) (ta : TA) (da : DA) : Prop :=
  ∀ p S H σ env xp, Stt W p S H → Ev K W p S H σ env → XOk K W p S H xp E → ∀ (Q : List V → Hp → Prop) (post : List D → Prop), da env xp post →
    (∀ vs ds S' H', post ds → Grow W p S H S' H' → RA K W p S' vs ds → Q vs H') → ta σ H Q
/-- a new list, known to nobody yet -/
def SN (E : XK) (te : TE) (dn : DA) : Prop :=
  ∀ p S H σ env xp, Stt W p S H → Ev K W p S H σ env → XOk K W p S H xp E → ∀ (Q : VK) (post : List D → Prop), dn env xp post →
    (∀ q vs ds S' H', post ds → Grow W p S H S' H' → H q = none → S' q = none → H' q = some (.lst vs) → RA K W p S' vs ds → Q (.ref q) H') → te σ H Q
structure Sv (p : Addr) (S0 H0 S H : Hp) (σ : L2.St) (env : SEnv) : Prop where
  g : Grow W p S0 H0 S H
  ev : Ev K W p S H σ env
  own : ∀ (i : Nat) (ds : List D) (a : Addr), env[i]? = some (.ow ds) → σ[i]? = some (some (.ref a)) → H0 a = none
structure EOk (p : Addr) (S0 H0 S : Hp) (D : Ends) (DD : DEnds) : Prop where
  nx : ∀ S' H' σ' env', Ex S S' → Sv K W p S0 H0 S' H' σ' env' → DD.nx env' → D.nx σ' H'
  rt : ∀ S' H' v d, Ex S S' → Grow W p S0 H0 S' H' → R K W p S' v d → DD.rt d → D.rt v H'
  bk : ∀ S' H' σ' env', Ex S S' → Sv K W p S0 H0 S' H' σ' env' → DD.bk env' → D.bk σ' H'
  ct : ∀ S' H' σ' env', Ex S S' → Sv K W p S0 H0 S' H' σ' env' → DD.ct env' → D.ct σ' H'
def SS (E : XK) (ts : TS) (ds : DS) : Prop :=
  ∀ p S0 H0 S H σ env xp, Sv K W p S0 H0 S H σ env → XOk K W p S0 H0 xp E → ∀ (D : Ends) (DD : DEnds), ds DD xp env → EOk K W p S0 H0 S D DD → ts D σ H
/-- the promise of a def by data -/
def spD (f : DF) : Sp := fun vs H Q E => ∃ p S ds post xp, Stt W p S H ∧ RA K W p S vs ds ∧ f ds xp post ∧
  (∀ v d S' H', post d → Grow W p S H S' H' → R K W p S' v d → Q v H') ∧ XOk K W p S H xp E
end
theorem XOk.mono {K : PySem.W.Frag} {W : Wc} {p : Addr} {S H S1 H1 : Hp} {xp : XP} {E : XK} (g : Grow W p S H S1 H1) (h : XOk K W p S H xp E) : XOk K W p S1 H1 xp E :=
  fun c dfs C x fs S' H' a b g' e r => h c dfs C x fs S' H' a b (g.trans g') e r
theorem XOk.no {K : PySem.W.Frag} {W : Wc} {p : Addr} {S H : Hp} {E : XK} : XOk K W p S H noX E := fun _ _ _ _ _ _ _ h => h.elim

section
variable (X : Cx) (W : Wc) (E : XK)
structure PD (e : Expr) (te : TE) (de : DE) : Prop where
  pe : PE X e te
  se : SE X.K W E te de
structure PDT (e : Expr) (tt : TT) (dt : DT) : Prop where
  pe : PT X e tt
  se : STt X.K W E tt dt
structure PDW (e : Expr) (tt : TT) (dt : DT) : Prop where
  pe : PW X e tt
  se : STt X.K W E tt dt
structure PDA (es : List Expr) (ta : TA) (da : DA) : Prop where
  pe : PA X es ta
  se : SA X.K W E ta da
structure PDN (e : Expr) (te : TE) (dn : DA) : Prop where
  pe : PE X e te
  se : SN X.K W E te dn
structure PDS (st : Stmt) (ts : TS) (ds : DS) : Prop where
  pe : PS X st ts
  se : SS X.K W E ts ds
structure PDSs (sts : List Stmt) (ts : TS) (ds : DS) : Prop where
  pe : PSs X sts ts
  se : SS X.K W E ts ds
end

section
variable {X : Cx} {W : Wc} {E : XK} {a b c e : Expr} {es : List Expr} {pos : Pos} {da db dc de : DE} {dt du : DT} {ta tb tc te : TE} {t u : TT} {tr : TA}

/-! ### names, constants -/
def dVar (i : Nat) : DE := fun env _ post => match env[i]? with
  | some (.sh d) => post d
  | _ => False
def dC (d : D) : DE := fun _ _ post => post d
theorem pd_var (i : Nat) {x : Str} (hN : X.N[i]? = some x := by rfl) (hv : Vis X.env.scope x := by first | exact Or.inl rfl | exact Or.inr (Or.inl rfl) | exact Or.inr (Or.inr rfl)) (hd : (x == ("__debug__" : Str)) = false := by decide)
    (hcd : (x == ("__classdict__" : Str)) = false := by decide) : PD X W E (.Name x pos) (tVar i) (dVar i) := by
  refine ⟨pe_var hN hv hd hcd, fun p S H σ env xp st ev _ Q post h k => ?_⟩
  unfold dVar at h
  split at h
  · rename_i d e
    obtain ⟨o, e1, v, rfl, r⟩ := ev.at_ i _ e
    exact ⟨v, e1, k v d S H h (Grow.refl st) r⟩
  · exact h.elim
theorem se_c {K : PySem.W.Frag} {v : V} {d : D} (r : ∀ p S, R K W p S v d) : SE K W E (tC v) (dC d) := fun p S H σ env xp st ev _ Q post h k => k v d S H h (Grow.refl st) (r p S)
theorem pd_int {i : Int} {j : Nat} : PD X W E (.Constant (.int i) j pos) (tC (.int i)) (dC (.int i)) := ⟨pe_int, se_c fun _ _ => rfl⟩
theorem pd_bl {i : Bool} {j : Nat} : PD X W E (.Constant (.bool i) j pos) (tC (.bl i)) (dC (.bl i)) := ⟨pe_bl, se_c fun _ _ => rfl⟩
theorem pd_non {j : Nat} : PD X W E (.Constant .none j pos) (tC .non) (dC .non) := ⟨pe_non, se_c fun _ _ => rfl⟩
theorem pd_str {x : Str} {j : Nat} : PD X W E (.Constant (.str x) j pos) (tC (.str x)) (dC (.str x)) := ⟨pe_str, se_c fun _ _ => rfl⟩
theorem pd_glob {x : Str} {v : V} {u : Value} {d : D} (hg : Gl X x) (hm : X.mg x = some u) (r : RelV v u) (q : ∀ p S, R X.K W p S v d) (hd : (x == ("__debug__" : Str)) = false := by decide) : PD X W E (.Name x pos) (tC v) (dC d) :=
  ⟨pe_glob hg hm r hd, se_c q⟩

/-! ### operations on two values -/
def RB (K : PySem.W.Frag) (W : Wc) (r : R2) (b : D → D → (D → Prop) → Prop) : Prop :=
  ∀ p S H x y d e (Q : VK) (post : D → Prop), Stt W p S H → R K W p S x d → R K W p S y e → b d e post →
    (∀ v d' S' H', post d' → Grow W p S H S' H' → R K W p S' v d' → Q v H') → r x y H Q
def dOp (o : D → D → (D → Prop) → Prop) (da db : DE) : DE := fun env xp post => da env xp fun x => db env xp fun y => o x y post
theorem se_op {K : PySem.W.Frag} {r : R2} {o : D → D → (D → Prop) → Prop} {ta tb : TE} (hr : RB K W r o) (ha : SE K W E ta da) (hb : SE K W E tb db) : SE K W E (tOp r ta tb) (dOp o da db) :=
  fun p S H σ env xp st ev xo Q post h k => ha p S H σ env xp st ev xo _ _ h fun v d S1 H1 h1 g1 r1 =>
    hb p S1 H1 σ env xp g1.st (ev.mono g1) (xo.mono g1) _ _ h1 fun w d2 S2 H2 h2 g2 r2 =>
      hr p S2 H2 v w d d2 Q post g2.st (R.mono g2.ex _ _ r1) r2 h2 fun u d3 S3 H3 h3 g3 r3 => k u d3 S3 H3 h3 ((g1.trans g2).trans g3) r3
theorem pd_op {op : Operator} {r : R2} {o : D → D → (D → Prop) → Prop} (ho : OpR X (binaryOp op) r) (hr : RB X.K W r o) (ha : PD X W E a ta da) (hb : PD X W E b tb db) : PD X W E (.BinOp a op b pos) (tOp r ta tb) (dOp o da db) := by
  obtain ⟨pa, sa⟩ := ha
  obtain ⟨pb, sb⟩ := hb
  exact ⟨pe_op ho pa pb, se_op hr sa sb⟩
theorem pd_cmp {op : CmpOp} {r : R2} {o : D → D → (D → Prop) → Prop} (ho : OpR X (compareOp op) r) (hr : RB X.K W r o) (ha : PD X W E a ta da) (hb : PD X W E b tb db) (hm : behindInMarks op b = false) : PD X W E (.Compare a [op] [b] pos) (tOp r ta tb) (dOp o da db) := by
  obtain ⟨pa, sa⟩ := ha
  obtain ⟨pb, sb⟩ := hb
  exact ⟨pe_cmpR ho pa pb hm, se_op hr sa sb⟩
def dTest (de : DE) : DT := fun env xp post => de env xp fun d => match d with
  | .bl b => post b
  | _ => False
theorem st_test {K : PySem.W.Frag} {te : TE} (h : SE K W E te de) : STt K W E (tTest te) (dTest de) := fun p S H σ env xp st ev xo Q post q k =>
  h p S H σ env xp st ev xo _ _ q fun v d S1 H1 h1 g1 r1 => by
    cases d with
    | bl b =>
      have r1' : v = .bl b := r1
      exact ⟨b, r1', k b S1 H1 h1 g1⟩
    | _ => exact (show False from h1).elim
theorem pdt_cmp {op : CmpOp} {r : R2} {o : D → D → (D → Prop) → Prop} (ho : OpR X (compareOp op) r) (hr : RB X.K W r o) (ha : PD X W E a ta da) (hb : PD X W E b tb db) (hm : behindInMarks op b = false) : PDT X W E (.Compare a [op] [b] pos) (tTest (tOp r ta tb)) (dTest (dOp o da db)) := by
  obtain ⟨pa, sa⟩ := ha
  obtain ⟨pb, sb⟩ := hb
  exact ⟨pt_cmpR ho pa pb hm, st_test (se_op hr sa sb)⟩
theorem pdt_val (h : PD X W E e te de) (he : ∀ whole, isTrue e X.env whole = (do let v ← whole; standAt e.pos; holding [v] (truthy v)) := by intro _; rfl) : PDT X W E e (tB te) (dTest de) := by
  obtain ⟨pe, se⟩ := h
  exact ⟨pt_val pe he, st_test se⟩
/-- a op b op' c -/
def dChain (o o' : D → D → (D → Prop) → Prop) (da db dc : DE) : DE := fun env xp post => da env xp fun x => db env xp fun y => o x y fun z => match z with
  | .bl true => dc env xp fun w => o' y w post
  | .bl false => post (.bl false)
  | _ => False
theorem se_chain {K : PySem.W.Frag} {r r' : R2} {o o' : D → D → (D → Prop) → Prop} {ta tb tc : TE} (hr : RB K W r o) (hr' : RB K W r' o') (ha : SE K W E ta da) (hb : SE K W E tb db) (hc : SE K W E tc dc) : SE K W E (tChain r r' ta tb tc) (dChain o o' da db dc) :=
  fun p S H σ env xp st ev xo Q post h k => ha p S H σ env xp st ev xo _ _ h fun v d S1 H1 h1 g1 r1 =>
    hb p S1 H1 σ env xp g1.st (ev.mono g1) (xo.mono g1) _ _ h1 fun w d2 S2 H2 h2 g2 r2 =>
      hr p S2 H2 v w d d2 _ _ g2.st (R.mono g2.ex _ _ r1) r2 h2 fun u d3 S3 H3 h3 g3 r3 => by
        have g := (g1.trans g2).trans g3
        cases d3 with
        | bl b =>
          have r3' : u = .bl b := r3
          refine ⟨b, r3', ?_⟩
          cases b with
          | true =>
            rw [if_pos rfl]
            exact hc p S3 H3 σ env xp g3.st (ev.mono g) (xo.mono g) _ _ h3 fun u4 d4 S4 H4 h4 g4 r4 =>
              hr' p S4 H4 w u4 d2 d4 Q post g4.st (R.mono (g3.ex.trans g4.ex) _ _ r2) r4 h4 fun u5 d5 S5 H5 h5 g5 r5 => k u5 d5 S5 H5 h5 ((g.trans g4).trans g5) r5
          | false =>
            rw [if_neg Bool.false_ne_true]
            exact k _ _ S3 H3 h3 g rfl
        | _ => exact (show False from h3).elim
theorem pd_chain {op op' : CmpOp} {r r' : R2} {o o' : D → D → (D → Prop) → Prop} (ho : OpR X (compareOp op) r) (ho' : OpR X (compareOp op') r') (hr : RB X.K W r o) (hr' : RB X.K W r' o') (ha : PD X W E a ta da) (hb : PD X W E b tb db) (hc : PD X W E c tc dc)
    (hm : lastMarks [op, op'] [b, c] = false := by with_unfolding_all rfl) : PD X W E (.Compare a [op, op'] [b, c] pos) (tChain r r' ta tb tc) (dChain o o' da db dc) := by
  obtain ⟨pa, sa⟩ := ha
  obtain ⟨pb, sb⟩ := hb
  obtain ⟨pc, sc⟩ := hc
  exact ⟨pe_chain ho ho' pa pb pc hm, se_chain hr hr' sa sb sc⟩
theorem pdt_chain {op op' : CmpOp} {r r' : R2} {o o' : D → D → (D → Prop) → Prop} (ho : OpR X (compareOp op) r) (ho' : OpR X (compareOp op') r') (hr : RB X.K W r o) (hr' : RB X.K W r' o') (ha : PD X W E a ta da) (hb : PD X W E b tb db) (hc : PD X W E c tc dc)
    (hm : lastMarks [op, op'] [b, c] = false := by with_unfolding_all rfl) : PDT X W E (.Compare a [op, op'] [b, c] pos) (tTest (tChain r r' ta tb tc)) (dTest (dChain o o' da db dc)) := by
  obtain ⟨pa, sa⟩ := ha
  obtain ⟨pb, sb⟩ := hb
  obtain ⟨pc, sc⟩ := hc
  exact ⟨pt_chain ho ho' pa pb pc hm, st_test (se_chain hr hr' sa sb sc)⟩

/-! ### and, or, not, choices -/
def dAnd (dt du : DT) : DT := fun env xp post => dt env xp fun b => if b = true then du env xp post else post false
def dOr (dt du : DT) : DT := fun env xp post => dt env xp fun b => if b = true then post true else du env xp post
def dNot (dt : DT) : DT := fun env xp post => dt env xp fun b => post (!b)
theorem st_and {K : PySem.W.Frag} {t u : TT} (h1 : STt K W E t dt) (h2 : STt K W E u du) : STt K W E (tAnd t u) (dAnd dt du) := fun p S H σ env xp st ev xo Q post q k =>
  h1 p S H σ env xp st ev xo _ _ q fun b S1 H1 q1 g1 => by
    cases b with
    | true =>
      rw [if_pos rfl] at q1 ⊢
      exact h2 p S1 H1 σ env xp g1.st (ev.mono g1) (xo.mono g1) _ _ q1 fun b S2 H2 q2 g2 => k b S2 H2 q2 (g1.trans g2)
    | false =>
      rw [if_neg Bool.false_ne_true] at q1 ⊢
      exact k _ S1 H1 q1 g1
theorem st_or {K : PySem.W.Frag} {t u : TT} (h1 : STt K W E t dt) (h2 : STt K W E u du) : STt K W E (tOr t u) (dOr dt du) := fun p S H σ env xp st ev xo Q post q k =>
  h1 p S H σ env xp st ev xo _ _ q fun b S1 H1 q1 g1 => by
    cases b with
    | true =>
      rw [if_pos rfl] at q1 ⊢
      exact k _ S1 H1 q1 g1
    | false =>
      rw [if_neg Bool.false_ne_true] at q1 ⊢
      exact h2 p S1 H1 σ env xp g1.st (ev.mono g1) (xo.mono g1) _ _ q1 fun b S2 H2 q2 g2 => k b S2 H2 q2 (g1.trans g2)
theorem st_not {K : PySem.W.Frag} {t : TT} (h1 : STt K W E t dt) : STt K W E (tNot t) (dNot dt) := fun p S H σ env xp st ev xo Q post q k =>
  h1 p S H σ env xp st ev xo _ _ q fun b S1 H1 q1 g1 => k (!b) S1 H1 q1 g1
theorem PDW.pt (h : PDW X W E e t dt) : PDT X W E e t dt := let ⟨p, s⟩ := h; ⟨p.pt, s⟩
theorem pdw_and1 (ha : PDT X W E a t dt) : PDW X W E (.BoolOp .And [a] pos) t dt := let ⟨p, s⟩ := ha; ⟨pw_and1 p, s⟩
theorem pdw_or1 (ha : PDT X W E a t dt) : PDW X W E (.BoolOp .Or [a] pos) t dt := let ⟨p, s⟩ := ha; ⟨pw_or1 p, s⟩
theorem pdw_and (ha : PDT X W E a t dt) (hb : PDW X W E (.BoolOp .And (b :: es) pos) u du) : PDW X W E (.BoolOp .And (a :: b :: es) pos) (tAnd t u) (dAnd dt du) := let ⟨p, s⟩ := ha; let ⟨p', s'⟩ := hb; ⟨pw_and p p', st_and s s'⟩
theorem pdw_or (ha : PDT X W E a t dt) (hb : PDW X W E (.BoolOp .Or (b :: es) pos) u du) : PDW X W E (.BoolOp .Or (a :: b :: es) pos) (tOr t u) (dOr dt du) := let ⟨p, s⟩ := ha; let ⟨p', s'⟩ := hb; ⟨pw_or p p', st_or s s'⟩
theorem pdt_not (ha : PDT X W E a t dt) : PDT X W E (.UnaryOp .Not a pos) (tNot t) (dNot dt) := let ⟨p, s⟩ := ha; ⟨pt_not p, st_not s⟩
def dAndV (da db : DE) : DE := fun env xp post => da env xp fun d => match d with
  | .bl true => db env xp post
  | .bl false => post (.bl false)
  | _ => False
def dOrV (da db : DE) : DE := fun env xp post => da env xp fun d => match d with
  | .bl true => post (.bl true)
  | .bl false => db env xp post
  | _ => False
def dNotV (da : DE) : DE := fun env xp post => da env xp fun d => match d with
  | .bl b => post (.bl (!b))
  | _ => False
theorem pd_one {op} (h : PD X W E a ta da) : PD X W E (.BoolOp op [a] pos) ta da := let ⟨p, s⟩ := h; ⟨pe_one p, s⟩
theorem pd_and (ha : PD X W E a ta da) (hb : PD X W E (.BoolOp .And (b :: es) pos) tb db) : PD X W E (.BoolOp .And (a :: b :: es) pos) (tAndV ta tb) (dAndV da db) := by
  obtain ⟨pa, sa⟩ := ha
  obtain ⟨pb, sb⟩ := hb
  refine ⟨pe_and pa pb, fun p S H σ env xp st ev xo Q post h k => sa p S H σ env xp st ev xo _ _ h fun v d S1 H1 h1 g1 r1 => ?_⟩
  cases d with
  | bl c =>
    have r1' : v = .bl c := r1
    refine ⟨c, r1', ?_⟩
    cases c with
    | true =>
      rw [if_pos rfl]
      exact sb p S1 H1 σ env xp g1.st (ev.mono g1) (xo.mono g1) _ _ h1 fun w d2 S2 H2 h2 g2 r2 => k w d2 S2 H2 h2 (g1.trans g2) r2
    | false =>
      rw [if_neg Bool.false_ne_true]
      exact k _ _ S1 H1 h1 g1 rfl
  | _ => exact (show False from h1).elim
theorem pd_or (ha : PD X W E a ta da) (hb : PD X W E (.BoolOp .Or (b :: es) pos) tb db) : PD X W E (.BoolOp .Or (a :: b :: es) pos) (tOrV ta tb) (dOrV da db) := by
  obtain ⟨pa, sa⟩ := ha
  obtain ⟨pb, sb⟩ := hb
  refine ⟨pe_or pa pb, fun p S H σ env xp st ev xo Q post h k => sa p S H σ env xp st ev xo _ _ h fun v d S1 H1 h1 g1 r1 => ?_⟩
  cases d with
  | bl c =>
    have r1' : v = .bl c := r1
    refine ⟨c, r1', ?_⟩
    cases c with
    | true =>
      rw [if_pos rfl]
      exact k _ _ S1 H1 h1 g1 rfl
    | false =>
      rw [if_neg Bool.false_ne_true]
      exact sb p S1 H1 σ env xp g1.st (ev.mono g1) (xo.mono g1) _ _ h1 fun w d2 S2 H2 h2 g2 r2 => k w d2 S2 H2 h2 (g1.trans g2) r2
  | _ => exact (show False from h1).elim
theorem pd_not (ha : PD X W E a ta da) : PD X W E (.UnaryOp .Not a pos) (tNotV ta) (dNotV da) := by
  obtain ⟨pa, sa⟩ := ha
  refine ⟨pe_not pa, fun p S H σ env xp st ev xo Q post h k => sa p S H σ env xp st ev xo _ _ h fun v d S1 H1 h1 g1 r1 => ?_⟩
  cases d with
  | bl c =>
    have r1' : v = .bl c := r1
    exact ⟨c, r1', k _ _ S1 H1 h1 g1 rfl⟩
  | _ => exact (show False from h1).elim
def dIf (dt : DT) (da db : DE) : DE := fun env xp post => dt env xp fun b => if b = true then da env xp post else db env xp post
theorem pd_ifExp (hc : PDT X W E c t dt) (ha : PD X W E a ta da) (hb : PD X W E b tb db) : PD X W E (.IfExp c a b pos) (tIf t ta tb) (dIf dt da db) := by
  obtain ⟨pc, sc⟩ := hc
  obtain ⟨pa, sa⟩ := ha
  obtain ⟨pb, sb⟩ := hb
  refine ⟨pe_ifExp pc pa pb, fun p S H σ env xp st ev xo Q post h k => sc p S H σ env xp st ev xo _ _ h fun z S1 H1 h1 g1 => ?_⟩
  cases z with
  | true =>
    rw [if_pos rfl] at h1 ⊢
    exact sa p S1 H1 σ env xp g1.st (ev.mono g1) (xo.mono g1) _ _ h1 fun w d2 S2 H2 h2 g2 r2 => k w d2 S2 H2 h2 (g1.trans g2) r2
  | false =>
    rw [if_neg Bool.false_ne_true] at h1 ⊢
    exact sb p S1 H1 σ env xp g1.st (ev.mono g1) (xo.mono g1) _ _ h1 fun w d2 S2 H2 h2 g2 r2 => k w d2 S2 H2 h2 (g1.trans g2) r2

/-! ### arguments, displays -/
def dNil : DA := fun _ _ post => post []
def dCons (da : DE) (dr : DA) : DA := fun env xp post => da env xp fun d => dr env xp fun ds => post (d :: ds)
theorem sa_nil {K : PySem.W.Frag} : SA K W E tNil dNil := fun p S H σ env xp st ev _ Q post h k => k [] [] S H h (Grow.refl st) RA.nil
theorem sa_cons {K : PySem.W.Frag} {ta : TE} {tr : TA} {dr : DA} (ha : SE K W E ta da) (hr : SA K W E tr dr) : SA K W E (tCons ta tr) (dCons da dr) :=
  fun p S H σ env xp st ev xo Q post h k => ha p S H σ env xp st ev xo _ _ h fun v d S1 H1 h1 g1 r1 =>
    hr p S1 H1 σ env xp g1.st (ev.mono g1) (xo.mono g1) _ _ h1 fun vs ds S2 H2 h2 g2 r2 => k (v :: vs) (d :: ds) S2 H2 h2 (g1.trans g2) (RA.cons (R.mono g2.ex _ _ r1) r2)
theorem pda_nil : PDA X W E [] tNil dNil := ⟨pa_nil, sa_nil⟩
theorem pda_cons {dr : DA} (ha : PD X W E a ta da) (hr : PDA X W E es tr dr) (hs : starEach (a :: es) X.env = (false, eval a X.env) :: starEach es X.env := by rfl) : PDA X W E (a :: es) (tCons ta tr) (dCons da dr) := by
  obtain ⟨pa, sa⟩ := ha
  obtain ⟨pr, sr⟩ := hr
  exact ⟨pa_cons pa pr hs, sa_cons sa sr⟩
end
end DL

set_option Elab.async false
set_option linter.all false
set_option maxRecDepth 100000
set_option maxHeartbeats 1000000
/-! displays, calls, walks, comprehensions -/
namespace DL
open PySem L2

section
variable {K : PySem.W.Frag} {W : Wc} {p : Addr} {S H S1 H1 : Hp}
/-- a new object that is not told -/
theorem Grow.hid {q : Addr} {o : HO} (s : Stt W p S H) (h : H q = none) : Grow W p S H S (upd H q o) := by
  have hp : p ≠ q := by
    obtain ⟨o', e, _⟩ := s.src
    exact ne_of_none e h
  refine ⟨Ex.refl S, ⟨fun a u e => ?_, s.hid, ?_⟩, fun b u _ e => by rw [upd_ne (ne_of_none e h)]; exact e, fun b n e => e⟩
  · rw [upd_ne (ne_of_none (s.ex a u e) h)]
    exact s.ex a u e
  · obtain ⟨o', e, r⟩ := s.src
    exact ⟨o', by rw [upd_ne hp]; exact e, r⟩
theorem Stt.none (s : Stt W p S H) {q : Addr} (h : H q = none) : S q = none := by
  cases e : S q with
  | none => rfl
  | some u =>
    rw [s.ex q u e] at h
    cases h
/-- an object of ours that is not told is told from now on -/
theorem Grow.tell {q : Addr} {o : HO} (s : Stt W p S H) (h : H q = some o) (hq : q ≠ p) (hS : S q = none) (g : Grow W p S1 H1 S H) (f : H1 q = none) : Grow W p S1 H1 (upd S q o) H := by
  refine ⟨g.ex.trans (Ex.new hS), ⟨fun a u e => ?_, by rw [upd_ne hq.symm]; exact s.hid, ?_⟩, g.keep, fun b n e => ?_⟩
  · by_cases ha : a = q
    · subst ha
      rw [upd_same] at e
      cases e
      exact h
    · rw [upd_ne ha] at e
      exact s.ex a u e
  · obtain ⟨o', e, r⟩ := s.src
    exact ⟨o', e, W.mono _ _ _ (Ex.new hS) r⟩
  · have : b ≠ q := fun z => by rw [z] at n; exact n f
    rw [upd_ne this]
    exact g.fr b n e
end

section
variable {X : Cx} {W : Wc} {E : XK} {a b c e : Expr} {es : List Expr} {pos : Pos} {da db dc de : DE} {dt du : DT} {ta tb tc te : TE} {t u : TT} {tr : TA} {dr dn : DA}
/-- displays -/
def dFit (dr : DA) : DA := fun env xp post => dr env xp fun ds => ds.length ≤ 100000 ∧ post ds
theorem sz_of {n : Nat} (h : n ≤ 100000) : n ≤ sizeLine := Nat.le_trans h (by decide)
theorem sz_lt {n : Nat} (h : n < 100000) : n < sizeLine := Nat.lt_of_lt_of_le h (by decide)
theorem pdn_lst (h : PDA X W E es tr dr) : PDN X W E (.List es pos) (tLst tr) (dFit dr) :=
  ⟨pe_lst h.pe, fun p S H σ env xp st ev xo Q post q k => h.se p S H σ env xp st ev xo _ _ q fun vs ds S1 H1 ⟨hz, q1⟩ g1 r1 =>
    ⟨by rw [RA.length r1]; exact sz_of hz, fun l hl => k l vs ds S1 _ q1 (g1.trans (Grow.hid g1.st hl)) (by
      cases e : H l with
      | none => rfl
      | some o =>
        have hp : l ≠ p := fun z => by
          obtain ⟨o', e', _⟩ := g1.st.src
          rw [z, e'] at hl
          cases hl
        rw [g1.keep l o hp e] at hl
        cases hl) (g1.st.none hl) upd_same r1⟩⟩
/-- a list display's data as a value -/
def dLst (dn : DA) : DE := fun env xp post => dn env xp fun ds => post (.lst ds)
theorem PDN.pd (h : PDN X W E e te dn) : PD X W E e te (dLst dn) := ⟨h.pe, fun p S H σ env xp st ev xo Q post q k => h.se p S H σ env xp st ev xo _ _ q fun l vs ds S1 H1 q1 g1 hl hS hH r1 => by
  have hp : l ≠ p := fun z => by
    obtain ⟨o', e', _⟩ := st.src
    rw [z, e'] at hl
    cases hl
  have g := Grow.tell g1.st hH hp hS g1 hl
  refine k _ _ _ _ q1 g ?_
  unfold R
  exact ⟨l, vs, rfl, upd_same, RA.mono (Ex.new hS) _ _ r1⟩⟩
def dTup (dr : DA) : DE := fun env xp post => dr env xp fun ds => ds.length ≤ 100000 ∧ post (.tup ds)
theorem pd_tup {x1} (h : PDA X W E es tr dr) : PD X W E (.Tuple es x1 pos) (tTup tr) (dTup dr) :=
  ⟨pe_tup h.pe, fun p S H σ env xp st ev xo Q post q k => h.se p S H σ env xp st ev xo _ _ q fun vs ds S1 H1 ⟨hz, q1⟩ g1 r1 =>
    ⟨by rw [RA.length r1]; exact sz_of hz, fun l hl => by
      have hS := g1.st.none hl
      refine k _ _ _ _ q1 (g1.trans (Grow.new g1.st hl)) ?_
      unfold R
      exact ⟨l, vs, rfl, SqT.of upd_same, RA.mono (Ex.new hS) _ _ r1⟩⟩⟩

/-! ### built-in functions -/
def RCb (K : PySem.W.Frag) (W : Wc) (r : List V → Hp → VK → Prop) (o : List D → (D → Prop) → Prop) : Prop :=
  ∀ p S H vs ds (Q : VK) (post : D → Prop), Stt W p S H → RA K W p S vs ds → o ds post → (∀ v d' S' H', post d' → Grow W p S H S' H' → R K W p S' v d' → Q v H') → r vs H Q
def dCB (o : List D → (D → Prop) → Prop) (dr : DA) : DE := fun env xp post => dr env xp fun ds => o ds post
theorem se_cb {K : PySem.W.Frag} {r : List V → Hp → VK → Prop} {o : List D → (D → Prop) → Prop} (hr : RCb K W r o) (h : SA K W E tr dr) : SE K W E (tCB r tr) (dCB o dr) :=
  fun p S H σ env xp st ev xo Q post q k => h p S H σ env xp st ev xo _ _ q fun vs ds S1 H1 q1 g1 r1 => hr p S1 H1 vs ds Q post g1.st r1 q1 fun v d S2 H2 q2 g2 r2 => k v d S2 H2 q2 (g1.trans g2) r2
theorem pd_callB {id : String} {x : Str} {p : Pos} {r : List V → Hp → VK → Prop} {o : List D → (D → Prop) → Prop} (hc : CallR X (.builtin id) r) (hr : RCb X.K W r o) (hg : Gl X x) (hm : X.mg x = none) (hv : bootBuiltins x = some (.builtin id)) (ha : PDA X W E (e :: es) tr dr)
    (hn : x ≠ "__name__" := by decide) (hdb : (x == ("__debug__" : Str)) = false := by decide)
    (he : starEach (e :: es) X.env = (false, eval e X.env) :: starEach es X.env := by rfl) (hpl : (backTo pos (starEach es X.env)).any (·.1) = false := by rfl) : PD X W E (.Call (.Name x p) (e :: es) [] pos) (tCB r tr) (dCB o dr) :=
  ⟨pe_callB hc hg hm hv ha.pe hn hdb he hpl, se_cb hr ha.se⟩
theorem pd_callTy {T : String} {x : Str} {p : Pos} {r : List V → Hp → VK → Prop} {o : List D → (D → Prop) → Prop} (hc : CallR X (.type T) r) (hr : RCb X.K W r o) (hg : Gl X x) (hm : X.mg x = none) (hv : bootBuiltins x = some (.type T)) (ha : PDA X W E (e :: es) tr dr)
    (hn : x ≠ "__name__" := by decide) (hdb : (x == ("__debug__" : Str)) = false := by decide)
    (he : starEach (e :: es) X.env = (false, eval e X.env) :: starEach es X.env := by rfl) (hpl : (backTo pos (starEach es X.env)).any (·.1) = false := by rfl) : PD X W E (.Call (.Name x p) (e :: es) [] pos) (tCB r tr) (dCB o dr) :=
  ⟨pe_callTy hc hg hm hv ha.pe hn hdb he hpl, se_cb hr ha.se⟩

/-! ### a subscript -/
def bIx : D → D → (D → Prop) → Prop
  | .lst ds, .int i, post => ∃ d, atI ds i = some d ∧ post d
  | .tup ds, .int i, post => ∃ d, atI ds i = some d ∧ post d
  | .str z, .int i, post => z.length ≤ 100000 ∧ ∃ c, atI z.cps.toList i = some c ∧ post (.str ⟨#[c]⟩)
  | _, _, _ => False
theorem RA.atI {K : PySem.W.Frag} {p : Addr} {S : Hp} {xs : List V} {ds : List D} {i : Int} {d : D} (r : RA K W p S xs ds) (h : atI ds i = some d) : ∃ v, L2.atI xs i = some v ∧ R K W p S v d := by
  unfold L2.atI at h ⊢
  rw [← RA.length r] at h
  cases e : ixN xs.length i with
  | none => rw [e] at h; cases h
  | some j =>
    rw [e] at h
    obtain ⟨v, h1, h2⟩ := r.at (i := j) (d := d) h
    exact ⟨v, h1, h2⟩
theorem rb_ix {K : PySem.W.Frag} : RB K W (rIx K) bIx := fun p S H x y d e Q post st r1 r2 h k => by
  cases d with
  | lst ds =>
    cases e with
    | int i =>
      obtain ⟨d, ha, q⟩ := h
      unfold R at r1
      obtain ⟨a, xs, rfl, hS, ra⟩ := r1
      obtain ⟨v, hv, rv⟩ := ra.atI ha
      have r2' : y = .int i := r2
      exact .inl ⟨a, xs, i, v, rfl, r2', SqL.of (st.ex _ _ hS), hv, k v d S H q (Grow.refl st) rv⟩
    | _ => exact (show False from h).elim
  | tup ds =>
    cases e with
    | int i =>
      obtain ⟨d, ha, q⟩ := h
      unfold R at r1
      obtain ⟨a, xs, rfl, hS, ra⟩ := r1
      obtain ⟨v, hv, rv⟩ := ra.atI ha
      have r2' : y = .int i := r2
      exact .inr (.inl ⟨a, xs, i, v, rfl, r2', Ex.t st.ex hS, hv, k v d S H q (Grow.refl st) rv⟩)
    | _ => exact (show False from h).elim
  | str z =>
    cases e with
    | int i =>
      obtain ⟨hz, c, ha, q⟩ := h
      have r1' : x = .str z := r1
      have r2' : y = .int i := r2
      exact .inr (.inr ⟨z, i, c, r1', r2', sz_of hz, ha, k _ _ S H q (Grow.refl st) rfl⟩)
    | _ => exact (show False from h).elim
  | _ => exact (show False from h).elim
theorem pd_ix (K : PySem.W.Frag) (ha : PD X W E a ta da) (hb : PD X W E b tb db) (hs : PlainIx b := by exact fun _ _ => rfl) (hK : X.K = K := by rfl) : PD X W E (.Subscript a b pos) (tOp (rIx K) ta tb) (dOp bIx da db) := by
  subst hK
  exact ⟨pe_ix ix_seq ha.pe hb.pe hs, se_op rb_ix ha.se hb.se⟩

/-! ### a def called -/
def dCall (f : DF) (dds : List D) (dr : DA) : DE := fun env xp post => dr env xp fun ds => f (ds ++ dds) xp post
theorem se_call {K : PySem.W.Frag} {f : DF} {dvs : List V} {dds : List D} (hd : ∀ p S, RA K W p S dvs dds) (h : SA K W E tr dr) : SE K W E (tCall (spD K W f) dvs E tr) (dCall f dds dr) :=
  fun p S H σ env xp st ev xo Q post q k => h p S H σ env xp st ev xo _ _ q fun vs ds S1 H1 q1 g1 r1 =>
    ⟨p, S1, ds ++ dds, post, xp, g1.st, r1.append (hd p S1), q1, fun v d S2 H2 q2 g2 r2 => k v d S2 H2 q2 (g1.trans g2) r2, xo.mono g1⟩
theorem pd_call {CX : CXT} {k : Nat} {f : Addr} {fd : FuncData} {ps : List Str} {df : DF} {dvs : List V} {dds : List D} {ds : List Value} {x : Str} {p : Pos} (F : FnOk X.prog X.w X.K X.mg X.base CX k f fd ps (spD X.K W df)) (hr : Room k X.A) (hg : Gl X x) (hm : X.mg x = some (.ref f)) (hk : PySem.W.keepIn X.K (.ref f) = true)
    (hb : Binds X.K fd ps ds) (hd : Vals dvs ds) (hdd : ∀ p S, RA X.K W p S dvs dds) (hx : Passes CX X E) (ha : PDA X W E (e :: es) tr dr) (hdb : (x == ("__debug__" : Str)) = false := by decide) (he : starEach (e :: es) X.env = (false, eval e X.env) :: starEach es X.env := by rfl)
    (hpl : (backTo pos (starEach es X.env)).any (·.1) = false := by rfl) : PD X W E (.Call (.Name x p) (e :: es) [] pos) (tCall (spD X.K W df) dvs E tr) (dCall df dds dr) :=
  ⟨pe_call F hr hg hm hk hb hd hx ha.pe hdb he hpl, se_call hdd ha.se⟩

/-! ### what is walked -/
def SI (K : PySem.W.Frag) (W : Wc) (E : XK) (wi : TI) (di : DA) : Prop :=
  ∀ p S H σ env xp, Stt W p S H → Ev K W p S H σ env → XOk K W p S H xp E → ∀ (Rr : It → Hp → Prop) (post : List D → Prop), di env xp post →
    (∀ (J : It) (G : Hp → Prop) (Y : Nat → Hp → V → Hp → Prop) (ds : List D) S' H', post ds → Grow W p S H S' H' → Walk J ds.length G Y → (∀ H2, Ex S' H2 → G H2) →
      (∀ i S2 H2 x H3, Ex S' S2 → Stt W p S2 H2 → i < ds.length → Y i H2 x H3 → ∃ d S3, ds[i]? = some d ∧ Grow W p S2 H2 S3 H3 ∧ R K W p S3 x d) → Rr J H') → wi σ H Rr
structure PDI (X : Cx) (W : Wc) (E : XK) (tg it : Expr) (wi : TI) (di : DA) : Prop where
  pe : PI X tg it wi
  se : SI X.K W E wi di
/-- a list | a tuple as a value, walked -/
def dSeqL (de : DE) : DA := fun env xp post => de env xp fun d => match d with
  | .lst ds => post ds
  | _ => False
def dSeqT (de : DE) : DA := fun env xp post => de env xp fun d => match d with
  | .tup ds => post ds
  | _ => False
def dSeqS (de : DE) : DA := fun env xp post => de env xp fun d => match d with
  | .str z => post (z.cps.toList.map fun c => .str ⟨#[c]⟩)
  | _ => False
theorem pdi_list (K : PySem.W.Frag) {tg : Expr} (h : PD X W E e te de) (hK : X.K = K := by rfl) : PDI X W E tg e (iList K te) (dSeqL de) := by
  subst hK
  exact ⟨pi_list h.pe, fun p S H σ env xp st ev xo Rr post q k => h.se p S H σ env xp st ev xo _ _ q fun v d S1 H1 q1 g1 r1 => by
    cases d with
    | lst ds =>
      unfold R at r1
      obtain ⟨l, xs, rfl, hS, ra⟩ := r1
      refine ⟨l, rfl, ⟨xs, SqL.of (g1.st.ex _ _ hS)⟩, k (Itl X.K l) (fun H => SqL X.K H l xs) (YAt xs) ds S1 H1 q1 g1 (by rw [← RA.length ra]; exact walk_list) (fun H2 x => SqL.of (x _ _ hS)) fun i S2 H2 x H3 e2 st2 hi y => ?_⟩
      obtain ⟨rfl, hx⟩ := y
      obtain ⟨d, h1, h2⟩ := ra.get hx
      exact ⟨d, S2, h1, Grow.refl st2, R.mono e2 _ _ h2⟩
    | _ => exact (show False from q1).elim⟩
theorem pdi_tup (K : PySem.W.Frag) {tg : Expr} (h : PD X W E e te de) (hK : X.K = K := by rfl) : PDI X W E tg e (iTup K te) (dSeqT de) := by
  subst hK
  exact ⟨pi_tup h.pe, fun p S H σ env xp st ev xo Rr post q k => h.se p S H σ env xp st ev xo _ _ q fun v d S1 H1 q1 g1 r1 => by
    cases d with
    | tup ds =>
      unfold R at r1
      obtain ⟨l, xs, rfl, hS, ra⟩ := r1
      refine ⟨l, rfl, ⟨xs, Ex.t g1.st.ex hS⟩, k (Itt X.K l) (fun H => SqT X.K H l xs) (YAt xs) ds S1 H1 q1 g1 (by rw [← RA.length ra]; exact walk_tup) (fun H2 x => Ex.t x hS) fun i S2 H2 x H3 e2 st2 hi y => ?_⟩
      obtain ⟨rfl, hx⟩ := y
      obtain ⟨d, h1, h2⟩ := ra.get hx
      exact ⟨d, S2, h1, Grow.refl st2, R.mono e2 _ _ h2⟩
    | _ => exact (show False from q1).elim⟩
theorem pdi_str {tg : Expr} (h : PD X W E e te de) : PDI X W E tg e (iStr te) (dSeqS de) :=
  ⟨pi_str h.pe, fun p S H σ env xp st ev xo Rr post q k => h.se p S H σ env xp st ev xo _ _ q fun v d S1 H1 q1 g1 r1 => by
    cases d with
    | str z =>
      have r1' : v = .str z := r1
      refine ⟨z, r1', k (Its z) (fun _ => True) _ (z.cps.toList.map fun c => .str ⟨#[c]⟩) S1 H1 q1 g1 (by rw [List.length_map, Array.length_toList]; exact walk_str) (fun H2 x => trivial) fun i S2 H2 x H3 e2 st2 hi y => ?_⟩
      obtain ⟨rfl, c, hc, rfl⟩ := y
      exact ⟨.str ⟨#[c]⟩, S2, by rw [List.getElem?_map, Array.getElem?_toList, hc]; rfl, Grow.refl st2, rfl⟩
    | _ => exact (show False from q1).elim⟩
/-- range(n) -/
def rangeD (lo : Int) (n : Nat) : List D := (List.range n).map fun i => .int (lo + (i : Nat))
def dRng1 (dr : DA) : DA := fun env xp post => dr env xp fun ds => match ds with
  | [.int n] => -(2 ^ 62) ≤ n ∧ n < 2 ^ 62 ∧ post (rangeD 0 n.toNat)
  | _ => False
def dRng2 (dr : DA) : DA := fun env xp post => dr env xp fun ds => match ds with
  | [.int m, .int n] => (-(2 ^ 62) ≤ m ∧ m < 2 ^ 62 ∧ -(2 ^ 62) ≤ n ∧ n < 2 ^ 62) ∧ post (rangeD m (n - m).toNat)
  | _ => False
theorem rangeD_len {lo : Int} {n : Nat} : (rangeD lo n).length = n := by simp [rangeD]
theorem rangeD_get {lo : Int} {n i : Nat} (h : i < n) : (rangeD lo n)[i]? = some (.int (lo + (i : Nat))) := by simp [rangeD, h]
theorem RA.one {K : PySem.W.Frag} {p : Addr} {S : Hp} {vs : List V} {d : D} (h : RA K W p S vs [d]) : ∃ v, vs = [v] ∧ R K W p S v d := by
  unfold RA at h
  obtain ⟨y, ys, rfl, h1, h2⟩ := h
  unfold RA at h2
  subst h2
  exact ⟨y, rfl, h1⟩
theorem RA.two {K : PySem.W.Frag} {p : Addr} {S : Hp} {vs : List V} {d e : D} (h : RA K W p S vs [d, e]) : ∃ v w, vs = [v, w] ∧ R K W p S v d ∧ R K W p S w e := by
  unfold RA at h
  obtain ⟨y, ys, rfl, h1, h2⟩ := h
  obtain ⟨z, rfl, h3⟩ := h2.one
  exact ⟨y, z, rfl, h1, h3⟩
theorem pdi_range1 {tg : Expr} {p' : Pos} (hg : Gl X "range") (hm : X.mg "range" = none) (ha : PDA X W E [a] tr dr) (hs : starEach [a] X.env = [(false, eval a X.env)] := by rfl) : PDI X W E tg (.Call (.Name "range" p') [a] [] pos) (iRng1 tr) (dRng1 dr) :=
  ⟨pi_range1 hg hm ha.pe hs, fun p S H σ env xp st ev xo Rr post q k => ha.se p S H σ env xp st ev xo _ _ q fun vs ds S1 H1 q1 g1 r1 => by
    match ds, q1, r1 with
    | [.int n], q1, r1 =>
      obtain ⟨v, rfl, rv⟩ := r1.one
      have rv' : v = .int n := rv
      subst rv'
      obtain ⟨h1, h2, q1⟩ := q1
      refine ⟨n, rfl, h1, h2, k (Itr 0 n.toNat) (fun _ => True) _ (rangeD 0 n.toNat) S1 H1 q1 g1 (by rw [rangeD_len]; exact walk_range) (fun H2 x => trivial) fun i S2 H2 x H3 e2 st2 hi y => ?_⟩
      obtain ⟨rfl, rfl⟩ := y
      rw [rangeD_len] at hi
      exact ⟨_, S2, rangeD_get hi, Grow.refl st2, rfl⟩⟩
theorem pdi_range2 {tg : Expr} {p' : Pos} (hg : Gl X "range") (hm : X.mg "range" = none) (ha : PDA X W E [a, b] tr dr) (hs : starEach [a, b] X.env = [(false, eval a X.env), (false, eval b X.env)] := by rfl) (hs2 : starEach [b] X.env = [(false, eval b X.env)] := by rfl) : PDI X W E tg (.Call (.Name "range" p') [a, b] [] pos) (iRng2 tr) (dRng2 dr) :=
  ⟨pi_range2 hg hm ha.pe hs hs2, fun p S H σ env xp st ev xo Rr post q k => ha.se p S H σ env xp st ev xo _ _ q fun vs ds S1 H1 q1 g1 r1 => by
    match ds, q1, r1 with
    | [.int m, .int n], q1, r1 =>
      obtain ⟨v, w, rfl, rv, rw'⟩ := r1.two
      have rv' : v = .int m := rv
      have rw'' : w = .int n := rw'
      subst rv' rw''
      obtain ⟨hb, q1⟩ := q1
      refine ⟨m, n, rfl, hb, k (Itr m (n - m).toNat) (fun _ => True) _ (rangeD m (n - m).toNat) S1 H1 q1 g1 (by rw [rangeD_len]; exact walk_range) (fun H2 x => trivial) fun i S2 H2 x H3 e2 st2 hi y => ?_⟩
      obtain ⟨rfl, rfl⟩ := y
      rw [rangeD_len] at hi
      exact ⟨_, S2, rangeD_get hi, Grow.refl st2, rfl⟩⟩

/-! ### targets -/
abbrev DG := D → SEnv → (SEnv → Prop) → Prop
/-- vs: the slots that it may store to -/
def SG (K : PySem.W.Frag) (W : Wc) (g : TG) (dg : DG) (vs : List Nat) : Prop :=
  ∀ p S H σ env v d, Stt W p S H → Ev K W p S H σ env → R K W p S v d → ∀ (Q : L2.St → Hp → Prop) (post : SEnv → Prop), dg d env post →
    (∀ σ' env', Ev K W p S H σ' env' → post env' → (∀ (i : Nat), i ∉ vs → σ'[i]? = σ[i]? ∧ env'[i]? = env[i]?) → (∀ (i : Nat) ds, env'[i]? = some (Sl.ow ds) → env[i]? = some (Sl.ow ds) ∧ σ'[i]? = σ[i]?) → σ'.length = σ.length → env'.length = env.length → Q σ' H) → g v σ H Q
def dgName (i : Nat) : DG := fun d env post => post (env.set i (.sh d))
theorem sg_name {K : PySem.W.Frag} (i : Nat) : SG K W (gName i) (dgName i) [i] := fun p S H σ env v d st ev r Q post q k =>
  k _ _ (ev.set r) q (fun j hj => by
    have : i ≠ j := fun z => hj (by simp [z])
    exact ⟨List.getElem?_set_ne this, List.getElem?_set_ne this⟩) (fun j ds e => by
    have : i ≠ j := fun z => by
      subst z
      by_cases hl : i < env.length
      · rw [List.getElem?_set_self hl] at e; cases e
      · rw [List.getElem?_eq_none (by simpa using hl)] at e; cases e
    rw [List.getElem?_set_ne this] at e
    exact ⟨e, List.getElem?_set_ne this⟩) (by simp) (by simp)
structure PDG (X : Cx) (W : Wc) (tg : Expr) (g : TG) (dg : DG) (vs : List Nat) : Prop where
  pe : PG X tg g
  se : SG X.K W g dg vs
theorem pdg_name (i : Nat) {x : Str} (hN : X.N.Nodup) (hi : X.N[i]? = some x := by rfl) (hx : Loc X.env.scope x := by first | exact Or.inl rfl | exact Or.inr rfl) (hf : X.fn x = true ∨ X.env.scope.names.lookup x = some .local := by first | exact .inl rfl | exact .inr rfl | assumption) : PDG X W (.Name x pos) (gName i) (dgName i) [i] :=
  ⟨pg_name hN hi hx hf, sg_name i⟩
end
end DL

set_option Elab.async false
set_option linter.all false
set_option maxRecDepth 100000
set_option maxHeartbeats 1000000
/-! comprehensions, statements, defs -/
namespace DL
open PySem L2
theorem EOk.mono {K : PySem.W.Frag} {W : Wc} {p : Addr} {S0 H0 S S1 : Hp} {D : Ends} {DD : DEnds} (h : EOk K W p S0 H0 S D DD) (e : Ex S S1) : EOk K W p S0 H0 S1 D DD :=
  ⟨fun S' H' σ' env' x => h.nx S' H' σ' env' (e.trans x), fun S' H' v d x => h.rt S' H' v d (e.trans x), fun S' H' σ' env' x => h.bk S' H' σ' env' (e.trans x), fun S' H' σ' env' x => h.ct S' H' σ' env' (e.trans x)⟩

/-! ### targets that are tuples -/
abbrev DGs := List D → SEnv → (SEnv → Prop) → Prop
def SGs (K : PySem.W.Frag) (W : Wc) (g : TGs) (dg : DGs) (vs : List Nat) : Prop :=
  ∀ p S H σ env us ds, Stt W p S H → Ev K W p S H σ env → RA K W p S us ds → ∀ (Q : L2.St → Hp → Prop) (post : SEnv → Prop), dg ds env post →
    (∀ σ' env', Ev K W p S H σ' env' → post env' → (∀ (i : Nat), i ∉ vs → σ'[i]? = σ[i]? ∧ env'[i]? = env[i]?) → (∀ (i : Nat) ds, env'[i]? = some (Sl.ow ds) → env[i]? = some (Sl.ow ds) ∧ σ'[i]? = σ[i]?) → σ'.length = σ.length → env'.length = env.length → Q σ' H) → g us σ H Q
structure PDGs (X : Cx) (W : Wc) (tgs : List Expr) (g : TGs) (dg : DGs) (vs : List Nat) : Prop where
  pe : PGs X tgs g
  se : SGs X.K W g dg vs
def dgNil : DGs := fun ds env post => match ds with
  | [] => post env
  | _ => False
def dgCons (dg : DG) (dr : DGs) : DGs := fun ds env post => match ds with
  | d :: ds => dg d env fun env' => dr ds env' post
  | [] => False
def dgTup (n : Nat) (dr : DGs) : DG := fun d env post => match d with
  | .tup ds => ds.length = n ∧ dr ds env post
  | _ => False
section
variable {X : Cx} {W : Wc} {E : XK} {pos : Pos}
theorem pdgs_nil : PDGs X W [] gNil dgNil [] := ⟨pgs_nil, fun p S H σ env us ds st ev r Q post q k => by
  cases ds with
  | nil =>
    unfold RA at r
    exact ⟨r, k σ env ev q (fun i _ => ⟨rfl, rfl⟩) (fun i ds e => ⟨e, rfl⟩) rfl rfl⟩
  | cons d ds => exact (show False from q).elim⟩
theorem pdgs_cons {e : Expr} {es : List Expr} {g : TG} {gs : TGs} {dg : DG} {dr : DGs} {vs us : List Nat} (h1 : PDG X W e g dg vs) (h2 : PDGs X W es gs dr us) (hs : (assignEach (e :: es) X.env).map (·.2) = assign e X.env :: (assignEach es X.env).map (·.2) := by rfl) :
    PDGs X W (e :: es) (gCons g gs) (dgCons dg dr) (vs ++ us) := ⟨pgs_cons h1.pe h2.pe hs, fun p S H σ env ws ds st ev r Q post q k => by
  cases ds with
  | nil => exact (show False from q).elim
  | cons d ds =>
    unfold RA at r
    obtain ⟨y, ys, rfl, r1, r2⟩ := r
    refine ⟨y, ys, rfl, h1.se p S H σ env y d st ev r1 _ _ q fun σ1 env1 ev1 q1 a1 b1 l1 m1 => h2.se p S H σ1 env1 ys ds st ev1 r2 _ _ q1 fun σ2 env2 ev2 q2 a2 b2 l2 m2 => k σ2 env2 ev2 q2 (fun i hi => ?_) (fun i ds e => ?_) (l2.trans l1) (m2.trans m1)⟩
    · have hv : i ∉ vs := fun z => hi (List.mem_append_left _ z)
      have hu : i ∉ us := fun z => hi (List.mem_append_right _ z)
      exact ⟨(a2 i hu).1.trans (a1 i hv).1, (a2 i hu).2.trans (a1 i hv).2⟩
    · obtain ⟨x1, x2⟩ := b2 i ds e
      obtain ⟨y1, y2⟩ := b1 i ds x1
      exact ⟨y1, x2.trans y2⟩⟩
theorem pdg_tup (K : PySem.W.Frag) {es : List Expr} {k : Nat} {gs : TGs} {dr : DGs} {vs : List Nat} {n : Nat} (hc : X.calm = true) (h : PDGs X W es gs dr vs) (hn : (assignEach es X.env).length = n := by rfl) (hst : (assignEach es X.env).findIdx? (·.1) = none := by rfl) (hK : X.K = K := by rfl) :
    PDG X W (.Tuple es k pos) (gTup K n gs) (dgTup n dr) vs := by
  subst hK
  exact ⟨pg_tup hc h.pe hn hst, fun p S H σ env v d st ev r Q post q k => by
  cases d with
  | tup ds =>
    unfold R at r
    obtain ⟨a, xs, rfl, hS, ra⟩ := r
    exact ⟨a, xs, rfl, Ex.t st.ex hS, by rw [RA.length ra]; exact q.1, h.se p S H σ env xs ds st ev ra Q post q.2 k⟩
  | _ => exact (show False from q).elim⟩
end

/-! ### comprehensions -/
def wipeE (env : SEnv) : List Nat → SEnv
  | [] => env
  | v :: vs => (wipeE env vs).set v .un
section
variable {K : PySem.W.Frag} {W : Wc} {p : Addr} {S H : Hp} {σ : L2.St} {env : SEnv}
theorem Ev.drop1 (ev : Ev K W p S H σ env) (i : Nat) (o : Option V) : Ev K W p S H (σ.set i o) (env.set i .un) := by
  refine ⟨fun j s e => ?_, fun j k ds es n e1 e2 => ?_⟩
  · by_cases hj : i = j
    · subst hj
      have hl : i < env.length := by
        by_cases hl : i < env.length
        · exact hl
        · rw [List.getElem?_eq_none (by simpa using hl)] at e; cases e
      rw [List.getElem?_set_self hl] at e
      cases e
      have hs : i < σ.length := by
        obtain ⟨o, h1, _⟩ := ev.at_ i env[i] (by simp [hl])
        exact (List.getElem?_eq_some_iff.mp h1).1
      exact ⟨_, List.getElem?_set_self hs, trivial⟩
    · rw [List.getElem?_set_ne hj] at e ⊢
      exact ev.at_ j s e
  · have nj : ∀ j ds, (env.set i .un)[j]? = some (Sl.ow ds) → i ≠ j := fun j ds e z => by
      subst z
      by_cases hl : i < env.length
      · rw [List.getElem?_set_self hl] at e; cases e
      · rw [List.getElem?_eq_none (by simpa using hl)] at e; cases e
    have n1 := nj j ds e1
    have n2 := nj k es e2
    rw [List.getElem?_set_ne n1] at e1 ⊢
    rw [List.getElem?_set_ne n2] at e2 ⊢
    exact ev.dis j k ds es n e1 e2
theorem Ev.wipe (ev : Ev K W p S H σ env) : ∀ vs : List Nat, Ev K W p S H (L2.wipe σ vs) (wipeE env vs)
  | [] => ev
  | v :: vs => (Ev.wipe ev vs).drop1 v none
theorem wipe_out {i : Nat} : ∀ {vs : List Nat}, i ∉ vs → (L2.wipe σ vs)[i]? = σ[i]?
  | [], _ => rfl
  | v :: vs, h => by
    have h1 : v ≠ i := fun z => h (by simp [z])
    unfold L2.wipe
    rw [List.getElem?_set_ne h1]
    exact wipe_out fun z => h (List.mem_cons_of_mem _ z)
theorem wipe_in {i : Nat} (hl : i < σ.length) : ∀ {vs : List Nat}, i ∈ vs → (L2.wipe σ vs)[i]? = some none
  | v :: vs, h => by
    unfold L2.wipe
    by_cases e : v = i
    · subst e
      rw [List.getElem?_set_self (by rw [wipe_length]; exact hl)]
    · rw [List.getElem?_set_ne e]
      exact wipe_in hl ((List.mem_cons.mp h).resolve_left fun z => e z.symm)
theorem wipe_same {σ2 : L2.St} {vs : List Nat} (hl : σ2.length = (L2.wipe σ vs).length) (h : ∀ (i : Nat), i ∉ vs → σ2[i]? = (L2.wipe σ vs)[i]?) : L2.wipe σ2 vs = L2.wipe σ vs := by
  refine List.ext_getElem? fun i => ?_
  by_cases hi : i ∈ vs
  · by_cases hh : i < σ.length
    · rw [wipe_in hh hi, wipe_in (by rw [hl, wipe_length]; exact hh) hi]
    · rw [List.getElem?_eq_none (by rw [wipe_length, hl, wipe_length]; omega), List.getElem?_eq_none (by rw [wipe_length]; omega)]
  · rw [wipe_out hi]
    exact h i hi
end
def dcomp (one : D → (Option D → Prop) → Prop) : List D → (List D → Prop) → Prop
  | [], k => k []
  | d :: ds, k => one d fun o => dcomp one ds fun r => k (match o with | some e => e :: r | none => r)
def dOne (dg : DG) (dt : DT) (de : DE) (env : SEnv) : D → (Option D → Prop) → Prop := fun d k => dg d env fun env2 => dt env2 noX fun b => if b = true then de env2 noX fun e => k (some e) else k none
def dLc (di : DA) (dg : DG) (dt : DT) (de : DE) (own : List Nat) : DA := fun env xp post => di env xp fun ds => ds.length < 100000 ∧ dcomp (dOne dg dt de (wipeE env own)) ds post
abbrev dYes : DT := fun _ _ post => post true
theorem stt_yes {K : PySem.W.Frag} {W : Wc} {E : XK} : STt K W E tYes dYes := fun p S H σ env xp st ev _ Q post q k => k true S H q (Grow.refl st)
theorem sn_lc {K : PySem.W.Frag} {W : Wc} {E : XK} {wi : TI} {g : TG} {tt : TT} {te : TE} {di : DA} {dg : DG} {dt : DT} {de : DE} {own vs : List Nat} (hv : ∀ i ∈ vs, i ∈ own) (hi : SI K W E wi di) (hg : SG K W g dg vs) (ht : STt K W E0 tt dt) (he : SE K W E0 te de) :
    SN K W E (tLc wi g tt te own) (dLc di dg dt de own) := fun p S H σ env xp st ev xo Q post q k =>
  hi p S H σ env xp st ev xo _ _ q fun J G Y ds S1 H1 ⟨hz, q1⟩ g1 wk hG hY Dl hD => by
    have nDp : Dl ≠ p := fun z => by
      obtain ⟨o', e', _⟩ := g1.st.src
      rw [z, e'] at hD
      cases hD
    have nH : H Dl = none := by
      cases e : H Dl with
      | none => rfl
      | some o =>
        rw [g1.keep Dl o nDp e] at hD
        cases hD
    refine lc_it wk (fun i Hx => ∃ Sx acc eds, Grow W p S1 H1 Sx Hx ∧ Hx Dl = some (.lst acc) ∧ Sx Dl = none ∧ RA K W p Sx acc eds ∧ eds.length ≤ i ∧ dcomp (dOne dg dt de (wipeE env own)) (ds.drop i) (fun r => post (eds ++ r)))
      ⟨S1, [], [], Grow.hid g1.st hD, upd_same, g1.st.none hD, RA.nil, Nat.le_refl _, q1⟩ (fun i Hx _ ⟨Sx, _, _, gx, _⟩ => hG Hx (gx.ex.trans gx.st.ex)) ?_ ?_
    · rintro i x Hx H' hlt ⟨Sx, acc, eds, gx, hL, hN, ra, hle, hq⟩ y
      obtain ⟨d, S3, hd, g3, r3⟩ := hY i Sx Hx x H' gx.ex gx.st hlt y
      have hdrop : ds.drop i = d :: ds.drop (i + 1) := by
        obtain ⟨h1, h2⟩ := List.getElem?_eq_some_iff.mp hd
        rw [← h2]
        exact List.drop_eq_getElem_cons h1
      rw [hdrop] at hq
      have gx3 := gx.trans g3
      have ev3 : Ev K W p S3 H' σ env := ev.mono (g1.trans gx3)
      refine hg p S3 H' (L2.wipe σ own) (wipeE env own) x d gx3.st (ev3.wipe own) r3 _ _ hq fun σ2 env2 ev2 q2 out _ len _ => ⟨wipe_same len fun i hi => (out i fun z => hi (hv i z)).1, ?_⟩
      refine ht p S3 H' σ2 env2 noX gx3.st ev2 XOk.no _ _ q2 fun b S4 H4 q4 g4 => ?_
      have gx4 := gx3.trans g4
      cases b with
      | true =>
        rw [if_pos rfl] at q4 ⊢
        refine he p S4 H4 σ2 env2 noX g4.st (ev2.mono g4) XOk.no _ _ q4 fun v e S5 H5 q5 g5 r5 => ?_
        have gx5 := (g3.trans g4).trans g5
        have hL5 : H5 Dl = some (.lst acc) := gx5.keep Dl _ nDp hL
        have hN5 : S5 Dl = none := gx5.fr Dl (by rw [hL]; simp) hN
        refine ⟨acc, hL5, ?_, S5, acc ++ [v], eds ++ [e], ?_, upd_same, hN5, (RA.mono gx5.ex _ _ ra).append (RA.cons r5 RA.nil), by simp; omega, ?_⟩
        · rw [RA.length ra]
          exact sz_lt (by omega)
        · have gg := gx.trans gx5
          refine ⟨gg.ex, ⟨fun b u e => ?_, gg.st.hid, ?_⟩, fun b u n e => ?_, gg.fr⟩
          · have : b ≠ Dl := fun z => by rw [z, hN5] at e; cases e
            rw [upd_ne this]
            exact gg.st.ex b u e
          · obtain ⟨o', e', r⟩ := gg.st.src
            exact ⟨o', by rw [upd_ne nDp.symm]; exact e', r⟩
          · have : b ≠ Dl := fun z => by rw [z, hD] at e; cases e
            rw [upd_ne this]
            exact gg.keep b u n e
        · simpa [List.append_assoc] using q5
      | false =>
        rw [if_neg Bool.false_ne_true] at q4 ⊢
        have gx5 := g3.trans g4
        exact ⟨S4, acc, eds, gx.trans gx5, gx5.keep Dl _ nDp hL, gx5.fr Dl (by rw [hL]; simp) hN, RA.mono gx5.ex _ _ ra, by omega, q4⟩
    · rintro Hx ⟨Sx, acc, eds, gx, hL, hN, ra, hle, hq⟩
      rw [List.drop_eq_nil_of_le (Nat.le_refl _)] at hq
      have hq' : post (eds ++ []) := hq
      rw [List.append_nil] at hq'
      exact k Dl acc eds Sx Hx hq' (g1.trans gx) nH hN hL ra
structure PDTs (X : Cx) (W : Wc) (E : XK) (ifs : List Expr) (tt : TT) (dt : DT) : Prop where
  pe : PTs X ifs tt
  se : STt X.K W E tt dt
section
variable {X : Cx} {W : Wc} {E : XK} {pos : Pos}
theorem pdts_nil : PDTs X W E [] tYes dYes := ⟨pts_nil, stt_yes⟩
theorem pdts_one {c : Expr} {t : TT} {dt : DT} (h : PDT X W E c t dt) : PDTs X W E [c] t dt := ⟨pts_one h.pe, h.se⟩
theorem pdn_lc {elt tg iter : Expr} {ifs : List Expr} {scope : Scope} {own : List (Str × Nat)} {wi : TI} {g : TG} {tt : TT} {te : TE} {di : DA} {dg : DG} {dt : DT} {de : DE} {vs : List Nat} (hc : X.calm = true) (hN : X.N.Nodup) (hi : PDI X W E tg iter wi di) (ok : BlkOk X.N X.env.scope scope own)
    (hg : ∀ (s : Shared) (H : Hp) (C : Addr) (cl : List (Str × Addr)) (fp : List Addr), PDG (X.blk s H scope (compEnvC scope cl C X.env) fp) W tg g dg vs) (ht : ∀ (s : Shared) (H : Hp) (C : Addr) (cl : List (Str × Addr)) (fp : List Addr), PDTs (X.blk s H scope (compEnvC scope cl C X.env) fp) W E0 ifs tt dt)
    (he : ∀ (s : Shared) (H : Hp) (C : Addr) (cl : List (Str × Addr)) (fp : List Addr), PD (X.blk s H scope (compEnvC scope cl C X.env) fp) W E0 elt te de) (hv : ∀ i ∈ vs, i ∈ own.map (·.2) := by decide) (hs : ∀ x, foldedSetIterable iter X.env x = pure x := by intro _; rfl) (s0 : Shared) :
    PDN X W E (.ListComp elt [⟨tg, iter, ifs, 0⟩] scope pos) (tLc wi g tt te (own.map (·.2))) (dLc di dg dt de (own.map (·.2))) :=
  ⟨pe_lc hc hN hi.pe ok (fun s H C cl fp => (hg s H C cl fp).pe) (fun s H C cl fp => (ht s H C cl fp).pe) (fun s H C cl fp => (he s H C cl fp).pe) hs,
    sn_lc hv hi.se (hg s0 (fun _ => none) 0 [] []).se (ht s0 (fun _ => none) 0 [] []).se (he s0 (fun _ => none) 0 [] []).se⟩
end

theorem ow_set {l : SEnv} {i j : Nat} {d : D} {ds : List D} (e : (l.set i (.sh d))[j]? = some (Sl.ow ds)) : i ≠ j ∧ l[j]? = some (Sl.ow ds) := by
  have : i ≠ j := fun z => by
    subst z
    by_cases hl : i < l.length
    · rw [List.getElem?_set_self hl] at e; cases e
    · rw [List.getElem?_eq_none (by simpa using hl)] at e; cases e
  rw [List.getElem?_set_ne this] at e
  exact ⟨this, e⟩
/-! ### statements -/
section
variable {K : PySem.W.Frag} {W : Wc} {p : Addr} {S0 H0 S H S1 H1 : Hp} {σ : L2.St} {env : SEnv}
theorem Sv.mono (h : Sv K W p S0 H0 S H σ env) (g : Grow W p S H S1 H1) : Sv K W p S0 H0 S1 H1 σ env := ⟨h.g.trans g, h.ev.mono g, h.own⟩
theorem Sv.xo {xp : XP} {E : XK} (h : Sv K W p S0 H0 S H σ env) (x : XOk K W p S0 H0 xp E) : XOk K W p S H xp E := x.mono h.g
theorem Sv.st (h : Sv K W p S0 H0 S H σ env) : Stt W p S H := h.g.st
end
section
variable {X : Cx} {W : Wc} {E : XK} {pos : Pos} {st : Stmt} {rest : List Stmt} {ts us : TS} {ds du : DS} {e : Expr} {te : TE} {de : DE}
def dNext : DS := fun DD _ env => DD.nx env
def dSeq (ds du : DS) : DS := fun DD xp env => ds { DD with nx := fun env' => du DD xp env' } xp env
theorem ss_next {K : PySem.W.Frag} : SS K W E tNext dNext := fun p S0 H0 S H σ env xp sv _ D DD q k => k.nx S H σ env (Ex.refl S) sv q
theorem ss_seq {K : PySem.W.Frag} (h1 : SS K W E ts ds) (h2 : SS K W E us du) : SS K W E (tSeq ts us) (dSeq ds du) := fun p S0 H0 S H σ env xp sv xo D DD q k =>
  h1 p S0 H0 S H σ env xp sv xo _ _ q ⟨fun S' H' σ' env' x sv' q' => h2 p S0 H0 S' H' σ' env' xp sv' xo D DD q' (k.mono x), k.rt, k.bk, k.ct⟩
theorem pdss_nil : PDSs X W E [] tNext dNext := ⟨pss_nil, ss_next⟩
theorem pdss_cons (h1 : PDS X W E st ts ds) (h2 : PDSs X W E rest us du) : PDSs X W E (st :: rest) (tSeq ts us) (dSeq ds du) := ⟨pss_cons h1.pe h2.pe, ss_seq h1.se h2.se⟩
theorem pdss_one (h1 : PDS X W E st ts ds) : PDSs X W E [st] ts ds := ⟨pss_one h1.pe, h1.se⟩
theorem pds_pass : PDS X W E (.Pass pos) tNext dNext := ⟨ps_pass, ss_next⟩
theorem pds_doc {x : Str} {j : Nat} {pos' : Pos} : PDS X W E (.Expr (.Constant (.str x) j pos) pos') tNext dNext := ⟨ps_doc, ss_next⟩
def dBreak : DS := fun DD _ env => DD.bk env
def dCont : DS := fun DD _ env => DD.ct env
theorem pds_break : PDS X W E (.Break pos) tBreak dBreak := ⟨ps_break, fun p S0 H0 S H σ env xp sv _ D DD q k => k.bk S H σ env (Ex.refl S) sv q⟩
theorem pds_continue : PDS X W E (.Continue pos) tCont dCont := ⟨ps_continue, fun p S0 H0 S H σ env xp sv _ D DD q k => k.ct S H σ env (Ex.refl S) sv q⟩
def dRet (de : DE) : DS := fun DD xp env => de env xp DD.rt
theorem pds_ret (h : PD X W E e te de) : PDS X W E (.Return (some e) pos) (tRet te) (dRet de) := ⟨ps_ret h.pe, fun p S0 H0 S H σ env xp sv xo D DD q k =>
  h.se p S H σ env xp sv.st sv.ev (sv.xo xo) _ _ q fun v d S1 H1 q1 g1 r1 => k.rt S1 H1 v d g1.ex (sv.g.trans g1) r1 q1⟩
def dRetN : DS := fun DD _ _ => DD.rt .non
theorem pds_retN : PDS X W E (.Return none pos) tRetN dRetN := ⟨ps_retN, fun p S0 H0 S H σ env xp sv xo D DD q k => k.rt S H .non .non (Ex.refl S) sv.g rfl q⟩
def dDrop (de : DE) : DS := fun DD xp env => de env xp fun _ => DD.nx env
theorem pds_expr (h : PD X W E e te de) (hs : swapsWith e none pos.line X.env = pure false := by rfl) : PDS X W E (.Expr e pos) (tDrop te) (dDrop de) := ⟨ps_expr h.pe hs, fun p S0 H0 S H σ env xp sv xo D DD q k =>
  h.se p S H σ env xp sv.st sv.ev (sv.xo xo) _ _ q fun v d S1 H1 q1 g1 r1 => k.nx S1 H1 σ env g1.ex (sv.mono g1) q1⟩
def dIfS (dt : DT) (ds du : DS) : DS := fun DD xp env => dt env xp fun b => if b = true then ds DD xp env else du DD xp env
theorem pds_if {c : Expr} {a b : List Stmt} {tc : TT} {dc : DT} (hc : PDT X W E c tc dc) (ha : PDSs X W E a ts ds) (hb : PDSs X W E b us du) : PDS X W E (.If c a b pos) (tIfS tc ts us) (dIfS dc ds du) := ⟨ps_if hc.pe ha.pe hb.pe, fun p S0 H0 S H σ env xp sv xo D DD q k =>
  hc.se p S H σ env xp sv.st sv.ev (sv.xo xo) _ _ q fun b S1 H1 q1 g1 => by
    cases b with
    | true =>
      rw [if_pos rfl] at q1 ⊢
      exact ha.se p S0 H0 S1 H1 σ env xp (sv.mono g1) xo D DD q1 (k.mono g1.ex)
    | false =>
      rw [if_neg Bool.false_ne_true] at q1 ⊢
      exact hb.se p S0 H0 S1 H1 σ env xp (sv.mono g1) xo D DD q1 (k.mono g1.ex)⟩
/-- a target stored to -/
def dAsg (de : DE) (dg : DG) : DS := fun DD xp env => de env xp fun d => dg d env DD.nx
theorem ss_asg {K : PySem.W.Frag} {g : TG} {dg : DG} {vs : List Nat} (h : SE K W E te de) (hg : SG K W g dg vs) : SS K W E (tAsg te g) (dAsg de dg) := fun p S0 H0 S H σ env xp sv xo D DD q k =>
  h p S H σ env xp sv.st sv.ev (sv.xo xo) _ _ q fun v d S1 H1 q1 g1 r1 => hg p S1 H1 σ env v d g1.st (sv.ev.mono g1) r1 _ _ q1 fun σ2 env2 ev2 q2 _ b2 _ _ =>
    k.nx S1 H1 σ2 env2 g1.ex ⟨sv.g.trans g1, ev2, fun i ds a e1 e2 => sv.own i ds a (b2 i ds e1).1 ((b2 i ds e1).2.symm.trans e2)⟩ q2
theorem pds_asg {tg : Expr} {g : TG} {dg : DG} {vs : List Nat} (he : PD X W E e te de) (hg : PDG X W tg g dg vs) (hs : swapsWithSole [tg] e pos.line X.env = pure false := by rfl) (hw : swappedStores [tg] e X.env = pure none := by rfl)
    (h1 : (assignEach [tg] X.env).map (·.2) = [assign tg X.env] := by rfl) : PDS X W E (.Assign [tg] e pos) (tAsg te g) (dAsg de dg) := ⟨ps_asg he.pe hg.pe hs hw h1, ss_asg he.se hg.se⟩
theorem pds_set (i : Nat) {x : Str} {pos' : Pos} (hN : X.N.Nodup) (he : PD X W E e te de) (hi : X.N[i]? = some x := by rfl) (hx : Loc X.env.scope x := by first | exact Or.inl rfl | exact Or.inr rfl) (hs : swapsWith e (some (.Name x pos')) pos.line X.env = pure false := by rfl)
    (hf : X.fn x = true ∨ X.env.scope.names.lookup x = some .local := by first | exact .inl rfl | exact .inr rfl | assumption) : PDS X W E (.Assign [.Name x pos'] e pos) (tAsg te (gName i)) (dAsg de (dgName i)) :=
  ⟨ps_set hN hi hx he.pe hs hf, ss_asg he.se (sg_name i)⟩
/-- a, b = x, y -/
def dPar (i j : Nat) (dr : DA) : DS := fun DD xp env => dr env xp fun ds => match ds with
  | [d, e] => DD.nx ((env.set i (.sh d)).set j (.sh e))
  | _ => False
theorem ss_par {K : PySem.W.Frag} {ta : TA} {da : DA} {i j : Nat} (h : SA K W E ta da) : SS K W E (tPar i j ta) (dPar i j da) := fun p S0 H0 S H σ env xp sv xo D DD q k =>
  h p S H σ env xp sv.st sv.ev (sv.xo xo) _ _ q fun vs ds S1 H1 q1 g1 r1 => by
    match ds, q1, r1 with
    | [d, e], q1, r1 =>
      obtain ⟨v, w, rfl, rv, rw'⟩ := r1.two
      refine ⟨v, w, rfl, k.nx S1 H1 _ _ g1.ex ⟨sv.g.trans g1, ((sv.ev.mono g1).set rv).set rw', fun n ds a e1 e2 => ?_⟩ q1⟩
      obtain ⟨n1, e1⟩ := ow_set e1
      obtain ⟨n2, e1⟩ := ow_set e1
      rw [List.getElem?_set_ne n1, List.getElem?_set_ne n2] at e2
      exact sv.own n ds a e1 e2
theorem pds_par (i j : Nat) {x y : Str} {a b : Expr} {ta : TA} {da : DA} {px py pt : Pos} {kt k2 pt2} (hc : X.calm = true) (hN : X.N.Nodup) (ha : PDA X W E [a, b] ta da) (hij : i ≠ j := by decide) (hi : X.N[i]? = some x := by rfl) (hj : X.N[j]? = some y := by rfl)
    (hx : X.env.scope.names.lookup x = some .local := by rfl) (hy : X.env.scope.names.lookup y = some .local := by rfl)
    (hw : swappedStores [.Tuple [.Name x px, .Name y py] kt pt] (.Tuple [a, b] k2 pt2) X.env = pure (some [x, y]) := by rfl)
    (hs : swapsWithSole [.Tuple [.Name x px, .Name y py] kt pt] (.Tuple [a, b] k2 pt2) pos.line X.env = pure false := by rfl) :
    PDS X W E (.Assign [.Tuple [.Name x px, .Name y py] kt pt] (.Tuple [a, b] k2 pt2) pos) (tPar i j ta) (dPar i j da) := ⟨ps_par hc hN hi hj hij hx hy ha.pe hw hs, ss_par ha.se⟩

/-! ### for -/
def dforL (dg : DG) (db : DS) : List D → DS
  | [], DD, _, env => DD.nx env
  | d :: ds, DD, xp, env => dg d env fun env1 => db { DD with nx := fun env2 => dforL dg db ds DD xp env2, ct := fun env2 => dforL dg db ds DD xp env2, bk := DD.nx } xp env1
def dFor (di : DA) (dg : DG) (db : DS) : DS := fun DD xp env => di env xp fun ds => dforL dg db ds DD xp env
theorem ss_for {K : PySem.W.Frag} {wi : TI} {g : TG} {di : DA} {dg : DG} {vs : List Nat} (hi : SI K W E wi di) (hg : SG K W g dg vs) (hb : SS K W E ts ds) : SS K W E (tFor wi g ts) (dFor di dg ds) := fun p S0 H0 S H σ env xp sv xo D DD q k =>
  hi p S H σ env xp sv.st sv.ev (sv.xo xo) _ _ q fun J G Y xs S1 H1 q1 g1 wk hG hY => by
    refine for_it wk (fun i σ' H' => ∃ S' env', Sv K W p S0 H0 S' H' σ' env' ∧ Ex S1 S' ∧ dforL dg ds (xs.drop i) DD xp env') ⟨S1, env, sv.mono g1, Ex.refl _, q1⟩ (fun i σ' H' _ ⟨S', env', sv', x, _⟩ => hG H' (x.trans sv'.st.ex)) ?_ ?_
    · rintro i x σ' H' H2 hlt ⟨S', env', sv', ex, hq⟩ y
      obtain ⟨d, S3, hd, g3, r3⟩ := hY i S' H' x H2 ex sv'.st hlt y
      have hdrop : xs.drop i = d :: xs.drop (i + 1) := by
        obtain ⟨h1, h2⟩ := List.getElem?_eq_some_iff.mp hd
        rw [← h2]
        exact List.drop_eq_getElem_cons h1
      rw [hdrop] at hq
      have sv3 := sv'.mono g3
      refine hg p S3 H2 σ' env' x d g3.st sv3.ev r3 _ _ hq fun σ2 env2 ev2 q2 _ b2 _ _ => ?_
      have sv4 : Sv K W p S0 H0 S3 H2 σ2 env2 := ⟨sv3.g, ev2, fun i ds a e1 e2 => sv3.own i ds a (b2 i ds e1).1 ((b2 i ds e1).2.symm.trans e2)⟩
      have e13 : Ex S1 S3 := ex.trans g3.ex
      exact hb p S0 H0 S3 H2 σ2 env2 xp sv4 xo _ _ q2 ⟨fun S4 H4 σ4 env4 x4 sv4 q4 => ⟨S4, env4, sv4, e13.trans x4, q4⟩, fun S4 H4 v d x4 g4 r4 q4 => k.rt S4 H4 v d ((g1.ex.trans e13).trans x4) g4 r4 q4,
        fun S4 H4 σ4 env4 x4 sv4 q4 => k.nx S4 H4 σ4 env4 ((g1.ex.trans e13).trans x4) sv4 q4, fun S4 H4 σ4 env4 x4 sv4 q4 => ⟨S4, env4, sv4, e13.trans x4, q4⟩⟩
    · rintro σ' H' ⟨S', env', sv', ex, hq⟩
      rw [List.drop_eq_nil_of_le (Nat.le_refl _)] at hq
      exact k.nx S' H' σ' env' (g1.ex.trans ex) sv' hq
theorem pds_for {tg iter : Expr} {body : List Stmt} {wi : TI} {g : TG} {di : DA} {dg : DG} {vs : List Nat} (hp : PassesOwn (model X.prog X.w) X.A X.env X.xe) (hc : X.calm = true) (hi : PDI X W E tg iter wi di) (hg : PDG X W tg g dg vs) (hb : PDSs X W E body ts ds)
    (hs : ∀ x, foldedSetIterable iter X.env x = pure x := by intro _; rfl) : PDS X W E (.For tg iter body [] pos) (tFor wi g ts) (dFor di dg ds) := ⟨ps_for hp hc hi.pe hg.pe hb.pe hs, ss_for hi.se hg.se hb.se⟩
/-- while: some number of turns is enough -/
def dwh (dt : DT) (db : DS) : Nat → DS
  | 0, _, _, _ => False
  | n + 1, DD, xp, env => dt env xp fun b => if b = true then db { DD with nx := fun env2 => dwh dt db n DD xp env2, ct := fun env2 => dwh dt db n DD xp env2, bk := DD.nx } xp env else DD.nx env
def dWhile (dt : DT) (db : DS) : DS := fun DD xp env => ∃ n, dwh dt db n DD xp env
theorem ss_while {K : PySem.W.Frag} {t : TT} {dt : DT} (ht : STt K W E t dt) (hb : SS K W E ts ds) : SS K W E (tWhile t ts) (dWhile dt ds) := fun p S0 H0 S H σ env xp sv xo D DD q k => by
  obtain ⟨n0, q⟩ := q
  refine ⟨fun m σ' H' => ∃ S' env', Sv K W p S0 H0 S' H' σ' env' ∧ Ex S S' ∧ dwh dt ds m DD xp env', ⟨n0, S, env, sv, Ex.refl S, q⟩, ?_⟩
  rintro m σ' H' ⟨S', env', sv', ex, hq⟩
  cases m with
  | zero => exact hq.elim
  | succ m =>
    refine ht p S' H' σ' env' xp sv'.st sv'.ev (sv'.xo xo) _ _ hq fun b S1 H1 q1 g1 => ?_
    have ex1 : Ex S S1 := ex.trans g1.ex
    cases b with
    | true =>
      rw [if_pos rfl] at q1 ⊢
      refine ⟨fun σ2 H2 => ∃ S2 env2, Sv K W p S0 H0 S2 H2 σ2 env2 ∧ Ex S S2 ∧ dwh dt ds m DD xp env2, fun σ2 H2 z => ⟨m, Nat.lt_succ_self m, z⟩, ?_⟩
      exact hb p S0 H0 S1 H1 σ' env' xp (sv'.mono g1) xo _ _ q1 ⟨fun S4 H4 σ4 env4 x4 sv4 q4 => ⟨S4, env4, sv4, ex1.trans x4, q4⟩, fun S4 H4 v d x4 g4 r4 q4 => k.rt S4 H4 v d (ex1.trans x4) g4 r4 q4,
        fun S4 H4 σ4 env4 x4 sv4 q4 => k.nx S4 H4 σ4 env4 (ex1.trans x4) sv4 q4, fun S4 H4 σ4 env4 x4 sv4 q4 => ⟨S4, env4, sv4, ex1.trans x4, q4⟩⟩
    | false =>
      rw [if_neg Bool.false_ne_true] at q1 ⊢
      exact k.nx S1 H1 σ' env' ex1 (sv'.mono g1) q1
theorem pds_while {c : Expr} {body : List Stmt} {t : TT} {dt : DT} (hp : PassesOwn (model X.prog X.w) X.A X.env X.xe) (hc : PDT X W E c t dt) (hb : PDSs X W E body ts ds) : PDS X W E (.While c body [] pos) (tWhile t ts) (dWhile dt ds) := ⟨ps_while hp hc.pe hb.pe, ss_while hc.se hb.se⟩
end

/-! ### a def -/
/-- n slots, m of them parameters -/
def runF (n m : Nat) (body : DS) : DF := fun ds xp post => ds.length = m ∧ body { nx := fun _ => post .non, rt := post } xp (ds.map .sh ++ List.replicate (n - m) .un)
section
variable {P : Program} {w : World} {K : PySem.W.Frag} {W : Wc} {mg : Str → Option Value} {base : Heap}
theorem RA.begins {p : Addr} {S H : Hp} {N : List Str} {vs : List V} {ds : List D} (r : RA K W p S vs ds) : Ev K W p S H (L2.start N vs) (ds.map Sl.sh ++ List.replicate (N.length - vs.length) .un) := by
  have hl := RA.length r
  refine ⟨fun i s e => ?_, fun i j as bs n e1 e2 => ?_⟩
  · unfold L2.start
    by_cases hi : i < ds.length
    · rw [List.getElem?_append_left (by simpa using hi)] at e
      rw [List.getElem?_append_left (by simpa [hl] using hi)]
      rw [List.getElem?_map] at e
      cases hd : ds[i]? with
      | none => rw [hd] at e; cases e
      | some d =>
        rw [hd] at e
        cases e
        obtain ⟨v, h1, h2⟩ := r.at hd
        exact ⟨some v, by rw [List.getElem?_map, h1]; rfl, v, rfl, h2⟩
    · rw [List.getElem?_append_right (by simpa using hi), List.getElem?_replicate] at e
      rw [List.getElem?_append_right (by simp [hl]; omega), List.getElem?_replicate]
      split at e
      · cases e
        rename_i hlt
        exact ⟨none, by rw [if_pos (by simp [hl] at hlt ⊢; omega)], trivial⟩
      · cases e
  · exfalso
    by_cases hi : i < ds.length
    · rw [List.getElem?_append_left (by simpa using hi), List.getElem?_map] at e1
      cases hd : ds[i]? with
      | none => rw [hd] at e1; cases e1
      | some d => rw [hd] at e1; cases e1
    · rw [List.getElem?_append_right (by simpa using hi), List.getElem?_replicate] at e1
      split at e1 <;> cases e1
/-- THE RULE: a def by its body's data -/
theorem okD {x qual : Str} {st : Stmt} {f : Addr} {fd : FuncData} {N ps : List Str} {k : Nat} {body : DS} (F : Fun K x qual st f fd) (Sc : FnScope N ps (defScope st))
    (hb : ∀ (cdv : Value) (A : Around) (outer : List PySem.Env) (s : Shared) (H : Hp) (E : XK), Room k (A.deeper (PyProof.Rows.envOfC qual (defScope st) s.heap.objs.size f cdv)) →
      ∃ ts, PDSs (cxOf (L2.CX P w) P w K mg base N qual (defScope st) f cdv A outer s H E) W E (defBody st) ts body) : FnOk P w K mg base (L2.CX P w) (k + 1) f fd ps (spD K W (runF N.length ps.length body)) := by
  refine F.okX Sc (fun vs H Q E h => ?_) (fun cdv A outer s H vs Q E hr h => ?_)
  · obtain ⟨p, S, ds, post, xp, _, r, ⟨h1, _⟩, _⟩ := h
    rw [RA.length r, h1]
  · obtain ⟨p, S, ds, post, xp, stt, r, ⟨h1, q⟩, k1, xo⟩ := h
    obtain ⟨ts, pe, se⟩ := hb cdv A outer s H E hr
    refine ⟨ts, pe, se p S H S H (L2.start N vs) _ xp ⟨Grow.refl stt, ?_, fun i ds' a e1 e2 => ?_⟩ xo _ _ q ⟨fun S' H' σ' env' _ sv q => k1 .non .non S' H' q sv.g rfl, fun S' H' v d _ g r q => k1 v d S' H' q g r, fun _ _ _ _ _ _ q => q.elim, fun _ _ _ _ _ _ q => q.elim⟩⟩
    · have := r.begins (H := H) (N := N)
      rw [RA.length r, h1] at this
      exact this
    · exfalso
      by_cases hi : i < ds.length
      · rw [List.getElem?_append_left (by simpa using hi), List.getElem?_map] at e1
        cases hd : ds[i]? with
        | none => rw [hd] at e1; cases e1
        | some d => rw [hd] at e1; cases e1
      · rw [List.getElem?_append_right (by simpa using hi), List.getElem?_replicate] at e1
        split at e1 <;> cases e1
end
end DL

set_option Elab.async false
set_option linter.all false
set_option maxRecDepth 100000
set_option maxHeartbeats 1000000
/-! operations by data -/
namespace DL
open PySem L2

/-! ### numbers, texts -/
def bAdd : D → D → (D → Prop) → Prop
  | .int i, .int j, k => k (.int (i + j))
  | .str i, .str j, k => i.length + j.length ≤ 100000 ∧ k (.str (i ++ j))
  | .lst i, .lst j, k => i.length + j.length ≤ 100000 ∧ k (.lst (i ++ j))
  | _, _, _ => False
def bSub : D → D → (D → Prop) → Prop
  | .int i, .int j, k => k (.int (i - j))
  | _, _, _ => False
def bMod : D → D → (D → Prop) → Prop
  | .int i, .int j, k => 0 < j ∧ k (.int (i % j))
  | _, _, _ => False
def bDiv : D → D → (D → Prop) → Prop
  | .int i, .int j, k => (0 < j ∧ j < 1073741824) ∧ k (.int (i / j))
  | _, _, _ => False
def bMulI : D → D → (D → Prop) → Prop
  | .int i, .int j, k => ((-(2 ^ 64) < i ∧ i < 2 ^ 64) ∨ (-(2 ^ 64) < j ∧ j < 2 ^ 64)) ∧ k (.int (i * j))
  | _, _, _ => False
def bPow : D → D → (D → Prop) → Prop
  | .int i, .int j, k => (0 ≤ j ∧ j ≤ 1000000 ∧ i.natAbs < 2 ^ 64) ∧ k (.int (i ^ j.toNat))
  | _, _, _ => False
def bLt : D → D → (D → Prop) → Prop
  | .int i, .int j, k => k (.bl (decide (i < j)))
  | .str i, .str j, k => k (.bl (decide (i.cps.toList < j.cps.toList)))
  | _, _, _ => False
def bLe : D → D → (D → Prop) → Prop
  | .int i, .int j, k => k (.bl (decide (i ≤ j)))
  | .str i, .str j, k => k (.bl (!decide (j.cps.toList < i.cps.toList)))
  | _, _, _ => False
def bGt : D → D → (D → Prop) → Prop
  | .int i, .int j, k => k (.bl (decide (j < i)))
  | _, _, _ => False
def bGe : D → D → (D → Prop) → Prop
  | .int i, .int j, k => k (.bl (decide (j ≤ i)))
  | _, _, _ => False
section
variable {K : PySem.W.Frag} {W : Wc}
theorem rb_I0 {g : Int → Int → V} {o : D → D → (D → Prop) → Prop} (h : ∀ p S x y k, o x y k → ∃ i j d, x = .int i ∧ y = .int j ∧ R K W p S (g i j) d ∧ k d) : RB K W (rI0 g) o := fun p S H x y d e Q post st r1 r2 q k => by
  obtain ⟨i, j, z, rfl, rfl, rz, q⟩ := h p S d e post q
  exact ⟨i, j, r1, r2, k _ z S H q (Grow.refl st) rz⟩
theorem rb_I {C : Int → Int → Prop} {g : Int → Int → V} {o : D → D → (D → Prop) → Prop} (h : ∀ p S x y k, o x y k → ∃ i j d, x = .int i ∧ y = .int j ∧ C i j ∧ R K W p S (g i j) d ∧ k d) : RB K W (rI C g) o := fun p S H x y d e Q post st r1 r2 q k => by
  obtain ⟨i, j, z, rfl, rfl, hc, rz, q⟩ := h p S d e post q
  exact ⟨i, j, r1, r2, hc, k _ z S H q (Grow.refl st) rz⟩
theorem rb_sub : RB K W (rI0 fun i j => .int (i - j)) bSub := rb_I0 fun p S x y k h => by
  cases x <;> cases y <;> first | exact h.elim | exact ⟨_, _, .int _, rfl, rfl, rfl, h⟩
theorem rb_mod : RB K W (rI (fun _ j => 0 < j) fun i j => .int (i % j)) bMod := rb_I fun p S x y k h => by
  cases x <;> cases y <;> first | exact h.elim | exact ⟨_, _, .int _, rfl, rfl, h.1, rfl, h.2⟩
theorem rb_div : RB K W (rI CDiv fun i j => .int (i / j)) bDiv := rb_I fun p S x y k h => by
  cases x <;> cases y <;> first | exact h.elim | exact ⟨_, _, .int _, rfl, rfl, h.1, rfl, h.2⟩
theorem rb_mulI : RB K W (rI CMul fun i j => .int (i * j)) bMulI := rb_I fun p S x y k h => by
  cases x <;> cases y <;> first | exact h.elim | exact ⟨_, _, .int _, rfl, rfl, h.1, rfl, h.2⟩
theorem rb_pow : RB K W (rI CPow fun i j => .int (i ^ j.toNat)) bPow := rb_I fun p S x y k h => by
  cases x <;> cases y <;> first | exact h.elim | exact ⟨_, _, .int _, rfl, rfl, h.1, rfl, h.2⟩
theorem rb_gt : RB K W (rI0 fun i j => .bl (decide (j < i))) bGt := rb_I0 fun p S x y k h => by
  cases x <;> cases y <;> first | exact h.elim | exact ⟨_, _, .bl _, rfl, rfl, rfl, h⟩
theorem rb_ge : RB K W (rI0 fun i j => .bl (decide (j ≤ i))) bGe := rb_I0 fun p S x y k h => by
  cases x <;> cases y <;> first | exact h.elim | exact ⟨_, _, .bl _, rfl, rfl, rfl, h⟩
abbrev rLtA : R2 := fun x y H Q => rI0 (fun i j => .bl (decide (i < j))) x y H Q ∨ ∃ i j, x = .str i ∧ y = .str j ∧ Q (.bl (decide (i.cps.toList < j.cps.toList))) H
abbrev rLeA : R2 := fun x y H Q => rI0 (fun i j => .bl (decide (i ≤ j))) x y H Q ∨ ∃ i j, x = .str i ∧ y = .str j ∧ Q (.bl (!decide (j.cps.toList < i.cps.toList))) H
theorem op_ltA {X : Cx} : OpR X (compareOp .Lt) rLtA := op_lt.or op_lt_str
theorem op_leA {X : Cx} : OpR X (compareOp .LtE) rLeA := op_le.or op_le_str
theorem rb_lt : RB K W rLtA bLt := fun p S H x y d e Q post st r1 r2 q k => by
  cases d <;> cases e <;> first
    | exact q.elim
    | exact .inl ⟨_, _, r1, r2, k _ _ S H q (Grow.refl st) rfl⟩
    | exact .inr ⟨_, _, r1, r2, k _ _ S H q (Grow.refl st) rfl⟩
theorem rb_le : RB K W rLeA bLe := fun p S H x y d e Q post st r1 r2 q k => by
  cases d <;> cases e <;> first
    | exact q.elim
    | exact .inl ⟨_, _, r1, r2, k _ _ S H q (Grow.refl st) rfl⟩
    | exact .inr ⟨_, _, r1, r2, k _ _ S H q (Grow.refl st) rfl⟩
abbrev rAddA : R2 := fun x y H Q => rI0 (fun i j => .int (i + j)) x y H Q ∨ ((∃ i j, x = .str i ∧ y = .str j ∧ i.length + j.length ≤ sizeLine ∧ Q (.str (i ++ j)) H) ∨ rCat x y H Q)
theorem op_addA {X : Cx} : OpR X (binaryOp .Add) rAddA := op_add.or (op_add_str.or op_cat)
theorem rb_add : RB K W rAddA bAdd := fun p S H x y d e Q post st r1 r2 q k => by
  cases d with
  | int i =>
    cases e with
    | int j => exact .inl ⟨_, _, r1, r2, k _ _ S H q (Grow.refl st) rfl⟩
    | _ => exact (show False from q).elim
  | str i =>
    cases e with
    | str j => exact .inr (.inl ⟨_, _, r1, r2, sz_of q.1, k _ _ S H q.2 (Grow.refl st) rfl⟩)
    | _ => exact (show False from q).elim
  | lst i =>
    cases e with
    | lst j =>
      unfold R at r1 r2
      obtain ⟨a, xs, rfl, h1, a1⟩ := r1
      obtain ⟨b, ys, rfl, h2, a2⟩ := r2
      refine .inr (.inr ⟨a, b, xs, ys, rfl, rfl, st.ex _ _ h1, st.ex _ _ h2, by rw [RA.length a1, RA.length a2]; exact sz_of q.1, fun l hl => ?_⟩)
      have hS := st.none hl
      refine k _ _ _ _ q.2 (Grow.new st hl) ?_
      unfold R
      exact ⟨l, _, rfl, upd_same, (RA.mono (Ex.new hS) _ _ a1).append (RA.mono (Ex.new hS) _ _ a2)⟩
    | _ => exact (show False from q).elim
  | _ => exact (show False from q).elim
/-! ### == of data -/
mutual
def toPy : D → PyData
  | .non => .none
  | .bl b => .bool b
  | .int i => .int i
  | .str x => .str x
  | .lst ds => .list (toPyA ds)
  | .tup ds => .tuple (toPyA ds)
  | _ => .none
def toPyA : List D → List PyData
  | [] => []
  | d :: ds => toPy d :: toPyA ds
end
mutual
def isPy : D → Bool
  | .lst ds => isPyA ds
  | .tup ds => isPyA ds
  | .obj _ _ => false
  | .tok => false
  | .ety => false
  | _ => true
def isPyA : List D → Bool
  | [] => true
  | d :: ds => isPy d && isPyA ds
end
section
variable {p : Addr} {S H : Hp}
mutual
theorem R.dp (ex : Ex S H) : ∀ (d : D) (v : V), isPy d = true → R K W p S v d → Dp K H v (toPy d)
  | .non, _, _, h => by cases (show _ = V.non from h); exact .non
  | .bl b, _, _, h => by cases (show _ = V.bl b from h); exact .bl b
  | .int i, _, _, h => by cases (show _ = V.int i from h); exact .int i
  | .str x, _, _, h => by cases (show _ = V.str x from h); exact .str x
  | .lst ds, v, i, h => by
    unfold R at h
    obtain ⟨a, xs, rfl, h1, h2⟩ := h
    exact Dp.lst (SqL.of (ex _ _ h1)) (RA.dp ex ds xs (by simpa [isPy] using i) h2)
  | .tup ds, v, i, h => by
    unfold R at h
    obtain ⟨a, xs, rfl, h1, h2⟩ := h
    exact Dp.tup (ex.t h1) (RA.dp ex ds xs (by simpa [isPy] using i) h2)
  | .obj _ _, _, i, _ => by simp [isPy] at i
  | .tok, _, i, _ => by simp [isPy] at i
  | .ety, _, i, _ => by simp [isPy] at i
theorem RA.dp (ex : Ex S H) : ∀ (ds : List D) (xs : List V), isPyA ds = true → RA K W p S xs ds → DpAll K H xs (toPyA ds)
  | [], xs, _, h => by unfold RA at h; subst h; exact .nil
  | d :: ds, xs, i, h => by
    unfold RA at h
    obtain ⟨y, ys, rfl, h1, h2⟩ := h
    simp only [isPyA, Bool.and_eq_true] at i
    exact .cons (R.dp ex d y i.1 h1) (RA.dp ex ds ys i.2 h2)
end
end
def pyOk (d : D) : Prop := isPy d = true ∧ SeqAt.shaped (toPy d) = true
def eqD (d e : D) : Bool := PyData.eqv (toPy d) (toPy e)
def bEq : D → D → (D → Prop) → Prop := fun d e k => pyOk d ∧ pyOk e ∧ k (.bl (eqD d e))
def bNe : D → D → (D → Prop) → Prop := fun d e k => pyOk d ∧ pyOk e ∧ k (.bl (!eqD d e))
theorem rb_eq : RB K W (rEqD K) bEq := fun p S H x y d e Q post st r1 r2 q k =>
  ⟨toPy d, toPy e, R.dp st.ex d x q.1.1 r1, R.dp st.ex e y q.2.1.1 r2, q.1.2, q.2.1.2, k _ _ S H q.2.2 (Grow.refl st) rfl⟩
theorem rb_ne : RB K W (rNeD K) bNe := fun p S H x y d e Q post st r1 r2 q k =>
  ⟨toPy d, toPy e, R.dp st.ex d x q.1.1 r1, R.dp st.ex e y q.2.1.1 r2, q.1.2, q.2.1.2, k _ _ S H q.2.2 (Grow.refl st) rfl⟩
/-! ### one sign in a text; is of bools -/
def sign1 (x : Str) : Option Nat := match x.cps.toList with
  | [c] => some c
  | _ => none
theorem sign1_eq {x : Str} {c : Nat} (h : sign1 x = some c) : x = ⟨#[c]⟩ := by
  unfold sign1 at h
  split at h
  · rename_i d e
    cases h
    obtain ⟨⟨l⟩⟩ := x
    simp at e
    rw [e]
  · cases h
def bInS : D → D → (D → Prop) → Prop
  | .str x, .str z, k => ∃ c, sign1 x = some c ∧ k (.bl (decide (c ∈ z.cps.toList)))
  | _, _, _ => False
def bNotInS : D → D → (D → Prop) → Prop
  | .str x, .str z, k => ∃ c, sign1 x = some c ∧ k (.bl (!decide (c ∈ z.cps.toList)))
  | _, _, _ => False
theorem rb_inS : RB K W (fun x y H Q => ∃ (c : Nat) (z : Str), x = .str ⟨#[c]⟩ ∧ y = .str z ∧ Q (.bl (decide (c ∈ z.cps.toList))) H) bInS := fun p S H x y d e Q post st r1 r2 q k => by
  cases d <;> cases e <;> first
    | exact (show False from q).elim
    | (obtain ⟨c, e, q⟩ := q
       exact ⟨c, _, by rw [show x = _ from r1, sign1_eq e], r2, k _ _ S H q (Grow.refl st) rfl⟩)
theorem rb_notInS : RB K W (fun x y H Q => ∃ (c : Nat) (z : Str), x = .str ⟨#[c]⟩ ∧ y = .str z ∧ Q (.bl (!decide (c ∈ z.cps.toList))) H) bNotInS := fun p S H x y d e Q post st r1 r2 q k => by
  cases d <;> cases e <;> first
    | exact (show False from q).elim
    | (obtain ⟨c, e, q⟩ := q
       exact ⟨c, _, by rw [show x = _ from r1, sign1_eq e], r2, k _ _ S H q (Grow.refl st) rfl⟩)
def bIsB : D → D → (D → Prop) → Prop
  | .bl a, .bl b, k => k (.bl (decide (a = b)))
  | _, _, _ => False
def bNotB : D → D → (D → Prop) → Prop
  | .bl a, .bl b, k => k (.bl (!decide (a = b)))
  | _, _, _ => False
theorem rb_isB : RB K W rIsB bIsB := fun p S H x y d e Q post st r1 r2 q k => by
  cases d <;> cases e <;> first | exact q.elim | exact ⟨_, _, r1, r2, k _ _ S H q (Grow.refl st) rfl⟩
theorem rb_notB : RB K W rNotB bNotB := fun p S H x y d e Q post st r1 r2 q k => by
  cases d <;> cases e <;> first | exact q.elim | exact ⟨_, _, r1, r2, k _ _ S H q (Grow.refl st) rfl⟩
/-! ### -n -/
def dNeg (da : DE) : DE := fun env xp post => da env xp fun d => match d with
  | .int i => post (.int (-i))
  | _ => False
end
theorem pd_neg {X : Cx} {W : Wc} {E : XK} {a : Expr} {ta : TE} {da : DE} {pos : Pos} (ha : PD X W E a ta da) : PD X W E (.UnaryOp .USub a pos) (tUn (rU fun i => .int (-i)) ta) (dNeg da) :=
  ⟨pe_un un_neg ha.pe, fun p S H σ env xp st ev xo Q post q k => ha.se p S H σ env xp st ev xo _ _ q fun v d S1 H1 q1 g1 r1 => by
    cases d with
    | int i => exact ⟨i, r1, k _ _ S1 H1 q1 g1 rfl⟩
    | _ => exact (show False from q1).elim⟩

/-! ### built-ins -/
section
variable {K : PySem.W.Frag} {W : Wc}
/-- len -/
def bLen : List D → (D → Prop) → Prop
  | [.lst ds], k => k (.int ds.length)
  | [.tup ds], k => k (.int ds.length)
  | [.str z], k => z.length ≤ 100000 ∧ k (.int z.length)
  | _, _ => False
abbrev rLenA (K : PySem.W.Frag) : List V → Hp → VK → Prop := fun xs H Q => (∃ p ys, xs = [.ref p] ∧ (SqL K H p ys ∨ SqT K H p ys) ∧ Q (.int ys.length) H) ∨ ∃ z, xs = [.str z] ∧ z.length ≤ sizeLine ∧ Q (.int z.length) H
theorem CallR.or {X : Cx} {f : Value} {r r' : List V → Hp → VK → Prop} (h : CallR X f r) (h' : CallR X f r') : CallR X f (fun xs H Q => r xs H Q ∨ r' xs H Q) := by
  intro pins s σ H xs us Q I rv q
  rcases q with q | q
  · exact h pins s σ H xs us Q I rv q
  · exact h' pins s σ H xs us Q I rv q
theorem cr_len (K : PySem.W.Frag) {X : Cx} (hK : X.K = K := by rfl) : CallR X (.builtin "len") (rLenA K) := by
  subst hK
  exact CallR.or call_len_seq call_len_str
theorem rc_len : RCb K W (rLenA K) bLen := fun p S H vs ds Q post st ra q k => by
  unfold bLen at q
  split at q
  · obtain ⟨v, rfl, r⟩ := ra.one
    unfold R at r
    obtain ⟨a, xs, rfl, h1, h2⟩ := r
    exact .inl ⟨a, xs, rfl, .inl (SqL.of (st.ex _ _ h1)), k _ _ S H q (Grow.refl st) (by rw [RA.length h2]; rfl)⟩
  · obtain ⟨v, rfl, r⟩ := ra.one
    unfold R at r
    obtain ⟨a, xs, rfl, h1, h2⟩ := r
    exact .inl ⟨a, xs, rfl, .inr (Ex.t st.ex h1), k _ _ S H q (Grow.refl st) (by rw [RA.length h2]; rfl)⟩
  · obtain ⟨v, rfl, r⟩ := ra.one
    exact .inr ⟨_, by rw [show v = _ from r], sz_of q.1, k _ _ S H q.2 (Grow.refl st) rfl⟩
  · exact q.elim
/-- all(a list of bools) -/
def isBls : List D → Option (List Bool)
  | [] => some []
  | .bl b :: ds => (isBls ds).map (b :: ·)
  | _ :: _ => none
def bAll : List D → (D → Prop) → Prop
  | [.lst ds], k => ∃ bs, isBls ds = some bs ∧ k (.bl (bs.all id))
  | _, _ => False
def bAny : List D → (D → Prop) → Prop
  | [.lst ds], k => ∃ bs, isBls ds = some bs ∧ k (.bl (bs.any id))
  | _, _ => False
theorem RA.bls {p : Addr} {S : Hp} : ∀ {ds : List D} {xs : List V} {bs : List Bool}, RA K W p S xs ds → isBls ds = some bs → xs = bs.map V.bl
  | [], xs, bs, h, e => by unfold RA at h; cases e; exact h
  | .bl b :: ds, xs, bs, h, e => by
    unfold RA at h
    obtain ⟨y, ys, rfl, h1, h2⟩ := h
    simp only [isBls, Option.map_eq_some_iff] at e
    obtain ⟨cs, e1, rfl⟩ := e
    rw [RA.bls h2 e1, show y = V.bl b from h1]
    rfl
  | .non :: _, _, _, _, e => by simp [isBls] at e
  | .int _ :: _, _, _, _, e => by simp [isBls] at e
  | .str _ :: _, _, _, _, e => by simp [isBls] at e
  | .lst _ :: _, _, _, _, e => by simp [isBls] at e
  | .tup _ :: _, _, _, _, e => by simp [isBls] at e
  | .obj _ _ :: _, _, _, _, e => by simp [isBls] at e
  | .tok :: _, _, _, _, e => by simp [isBls] at e
  | .ety :: _, _, _, _, e => by simp [isBls] at e
theorem rc_all : RCb K W (rAll K) bAll := fun p S H vs ds Q post st ra q k => by
  unfold bAll at q
  split at q
  · obtain ⟨v, rfl, r⟩ := ra.one
    unfold R at r
    obtain ⟨a, xs, rfl, h1, h2⟩ := r
    obtain ⟨bs, e, q⟩ := q
    have hb := h2.bls e
    subst hb
    exact ⟨a, bs, rfl, SqL.of (st.ex _ _ h1), k _ _ S H q (Grow.refl st) rfl⟩
  · exact q.elim
theorem rc_any : RCb K W (rAny K) bAny := fun p S H vs ds Q post st ra q k => by
  unfold bAny at q
  split at q
  · obtain ⟨v, rfl, r⟩ := ra.one
    unfold R at r
    obtain ⟨a, xs, rfl, h1, h2⟩ := r
    obtain ⟨bs, e, q⟩ := q
    have hb := h2.bls e
    subst hb
    exact ⟨a, bs, rfl, SqL.of (st.ex _ _ h1), k _ _ S H q (Grow.refl st) rfl⟩
  · exact q.elim
/-- int(n), int(flag) -/
def bIntOf : List D → (D → Prop) → Prop
  | [.int i], k => k (.int i)
  | [.bl b], k => k (.int (if b then 1 else 0))
  | _, _ => False
theorem rc_int : RCb K W (fun xs H Q => (∃ i, xs = [.int i] ∧ Q (.int i) H) ∨ ∃ k, xs = [.bl k] ∧ Q (.int (if k then 1 else 0)) H) bIntOf := fun p S H vs ds Q post st ra q k => by
  unfold bIntOf at q
  split at q
  · obtain ⟨v, rfl, r⟩ := ra.one
    exact .inl ⟨_, by rw [show v = _ from r], k _ _ S H q (Grow.refl st) rfl⟩
  · obtain ⟨v, rfl, r⟩ := ra.one
    exact .inr ⟨_, by rw [show v = _ from r], k _ _ S H q (Grow.refl st) rfl⟩
  · exact q.elim
/-- isinstance(x, a built-in class) -/
inductive Ty where | int | bool | str | list | tuple | dict
def Ty.nm : Ty → String
  | .int => "int" | .bool => "bool" | .str => "str" | .list => "list" | .tuple => "tuple" | .dict => "dict"
def tyN : D → Option String
  | .non => some "NoneType" | .bl _ => some "bool" | .int _ => some "int" | .str _ => some "str" | .lst _ => some "list" | .tup _ => some "tuple" | .ety => some "dict"
  | _ => none
def isTy : Ty → D → Bool
  | .int, .int _ => true | .int, .bl _ => true | .bool, .bl _ => true | .str, .str _ => true | .list, .lst _ => true | .tuple, .tup _ => true | .dict, .ety => true
  | _, _ => false
theorem isTy_ok (T : Ty) (d : D) (n : String) (h : tyN d = some n) : kitB n T.nm = some (isTy T d) := by
  cases d <;> simp only [tyN, Option.some.injEq, reduceCtorEq] at h <;> subst h <;> cases T <;> simp only [isTy, Ty.nm] <;> decide +kernel
theorem R.ty {p : Addr} {S H : Hp} {v : V} {d : D} {n : String} (ex : Ex S H) (r : R K W p S v d) (h : tyN d = some n) : TyX K H v (.type n) := by
  cases d <;> simp only [tyN, Option.some.injEq, reduceCtorEq] at h <;> subst h
  · cases (show v = V.non from r); exact .base .non
  · cases (show v = V.bl _ from r); exact .base (.bl _)
  · cases (show v = V.int _ from r); exact .base (.int _)
  · cases (show v = V.str _ from r); exact .base (.str _)
  · unfold R at r
    obtain ⟨a, xs, rfl, h1, _⟩ := r
    exact .base (.lst (ex _ _ h1))
  · unfold R at r
    obtain ⟨a, xs, rfl, h1, _⟩ := r
    rcases ex.t h1 with (h | ⟨o, h⟩) | ⟨o, its, n, h, c, _⟩
    · exact .base (.tup h)
    · exact .fTuple h
    · exact .kTuple h c
  · unfold R at r
    obtain ⟨a, rfl, h1⟩ := r
    exact .base (.dK (ex _ _ h1))
def dIsi (T : Ty) (da : DE) : DE := fun env xp post => da env xp fun d => (∃ n, tyN d = some n) ∧ post (.bl (isTy T d))
end
theorem pd_isi (K : PySem.W.Frag) {X : Cx} {W : Wc} {E : XK} {a : Expr} {ta : TE} {da : DE} {x : Str} {p p' pos : Pos} (T : Ty) (hg : Gl X "isinstance") (hm : X.mg "isinstance" = none) (hT : PE X (.Name x p') (tC (.ty T.nm))) (ha : PD X W E a ta da)
    (h1 : starEach [a, .Name x p'] X.env = (false, eval a X.env) :: starEach [.Name x p'] X.env := by rfl) (h2 : starEach [.Name x p'] X.env = (false, eval (.Name x p') X.env) :: starEach [] X.env := by rfl)
    (hpl : (backTo pos (starEach [.Name x p'] X.env)).any (·.1) = false := by rfl) (hK : X.K = K := by rfl) :
    PD X W E (.Call (.Name "isinstance" p) [a, .Name x p'] [] pos) (tCB (rIsi K) (tCons ta (tCons (tC (.ty T.nm)) tNil))) (dIsi T da) := by
  subst hK
  exact ⟨pe_callB call_isi hg hm (by decide +kernel) (pa_cons ha.pe (pa_cons hT pa_nil h2) h1) (by decide) (by decide) h1 hpl, fun p S H σ env xp st ev xo Q post q k => ha.se p S H σ env xp st ev xo _ _ q fun v d S1 H1 ⟨⟨n, hn⟩, q1⟩ g1 r1 =>
    ⟨v, .ty T.nm, .type n, .type T.nm, isTy T d, rfl, .ty _, r1.ty g1.st.ex hn, kit_ty (isTy_ok T d n hn), k _ _ S1 H1 q1 g1 rfl⟩⟩
theorem op_eqK (K : PySem.W.Frag) {X : Cx} (hu : X.A.units + 64 < cLine) (hK : X.K = K := by rfl) : OpR X (compareOp .Eq) (rEqD K) := by
  subst hK
  exact op_eqD hu
theorem op_neK (K : PySem.W.Frag) {X : Cx} (hu : X.A.units + 64 < cLine) (hK : X.K = K := by rfl) : OpR X (compareOp .NotEq) (rNeD K) := by
  subst hK
  exact op_neD hu
theorem cr_allK (K : PySem.W.Frag) {X : Cx} (hc : X.calm = true := by rfl) (hK : X.K = K := by rfl) : CallR X (.builtin "all") (rAll K) := by
  subst hK
  exact cr_all hc
theorem cr_anyK (K : PySem.W.Frag) {X : Cx} (hc : X.calm = true := by rfl) (hK : X.K = K := by rfl) : CallR X (.builtin "any") (rAny K) := by
  subst hK
  exact cr_any hc
end DL

set_option Elab.async false
set_option linter.all false
set_option maxRecDepth 100000
set_option maxHeartbeats 1000000
/-! defs by name, methods of built-ins, the source of draws -/
namespace DL
open PySem L2

structure DefOk (P : Program) (w : World) (K : PySem.W.Frag) (W : Wc) (mg : Str → Option Value) (base : Heap) (k : Nat) (nm : Str) (ps : List Str) (df : DF) (dds : List D) : Prop where
  ex : ∃ (f : Addr) (fd : FuncData) (ds : List Value) (dvs : List V), FnOk P w K mg base (L2.CX P w) k f fd ps (spD K W df) ∧ mg nm = some (.ref f) ∧ PySem.W.keepIn K (.ref f) = true ∧ Binds K fd ps ds ∧ Vals dvs ds ∧ ∀ p S, RA K W p S dvs dds
/-- a call by the def's name: the values of the defaults are chosen by its place in the text -/
def tCallN (K : PySem.W.Frag) (W : Wc) (df : DF) (dds : List D) (E : XK) (tr : TA) : TE := fun σ H Q => ∃ dvs, (∀ p S, RA K W p S dvs dds) ∧ tCall (spD K W df) dvs E tr σ H Q
section
variable {X : Cx} {W : Wc} {E : XK} {a b c e : Expr} {es : List Expr} {pos : Pos} {da db dc de : DE} {ta tb tc te : TE} {tr : TA} {dr : DA}
theorem RA.fix {K : PySem.W.Frag} {W : Wc} {ds : List D} {vs us : List V} (h : ∀ p S, RA K W p S vs ds) : vs = vs := rfl
def simpleD : D → Bool
  | .non => true | .bl _ => true | .int _ => true | .str _ => true
  | .tup [] => false
  | _ => false
def valD : D → V
  | .bl b => .bl b | .int i => .int i | .str x => .str x | _ => .non
theorem pd_gint {x : Str} {i : Int} (hm : ∃ t, X.mg x = some (.int i t)) (hg : Gl X x := by rfl) (hd : (x == ("__debug__" : Str)) = false := by decide) : PD X W E (.Name x pos) (tC (.int i)) (dC (.int i)) := by
  obtain ⟨t, hm⟩ := hm
  exact pd_glob hg hm ⟨t, rfl⟩ (fun _ _ => rfl) hd
/-- a call of a def with no defaults left -/
theorem pd_callD {P : Program} {w : World} {K : PySem.W.Frag} {mg : Str → Option Value} {base : Heap} {j k : Nat} {x : Str} {ps : List Str} {df : DF} {p : Pos} (F : DefOk P w K W mg base j x ps df []) (hx : Passes (L2.CX X.prog X.w) X E) (ha : PDA X W E (e :: es) tr dr)
    (hX : X.prog = P ∧ X.w = w ∧ X.K = K ∧ X.mg = mg ∧ X.base = base := by exact ⟨rfl, rfl, rfl, rfl, rfl⟩) (hr : Room k X.A := by assumption) (hj : j ≤ k := by decide) (hg : Gl X x := by rfl)
    (hdb : (x == ("__debug__" : Str)) = false := by decide) (he : starEach (e :: es) X.env = (false, eval e X.env) :: starEach es X.env := by rfl) (hpl : (backTo pos (starEach es X.env)).any (·.1) = false := by rfl) :
    PD X W E (.Call (.Name x p) (e :: es) [] pos) (tCall (spD K W df) [] E tr) (dCall df [] dr) := by
  obtain ⟨rfl, rfl, rfl, rfl, rfl⟩ := hX
  obtain ⟨f, fd, ds, dvs, F, hm, hk, hb, hd, hdd⟩ := F.ex
  have e0 : dvs = [] := by
    have := hdd 0 (fun _ => none)
    unfold RA at this
    exact this
  subst e0
  exact pd_call F (hr.mono hj) hg hm hk hb hd hdd hx ha hdb he hpl
theorem se_call0 {K : PySem.W.Frag} {f : DF} : SE K W E (tCall (spD K W f) [] E tNil) (dCall f [] dNil) := se_call (fun _ _ => RA.nil) sa_nil
theorem pd_callD0 {P : Program} {w : World} {K : PySem.W.Frag} {mg : Str → Option Value} {base : Heap} {j k : Nat} {x : Str} {ps : List Str} {df : DF} {p : Pos} (F : DefOk P w K W mg base j x ps df []) (hx : Passes (L2.CX X.prog X.w) X E)
    (hX : X.prog = P ∧ X.w = w ∧ X.K = K ∧ X.mg = mg ∧ X.base = base := by exact ⟨rfl, rfl, rfl, rfl, rfl⟩) (hr : Room k X.A := by assumption) (hj : j ≤ k := by decide) (hg : Gl X x := by rfl)
    (hdb : (x == ("__debug__" : Str)) = false := by decide) : PD X W E (.Call (.Name x p) [] [] pos) (tCall (spD K W df) [] E tNil) (dCall df [] dNil) := by
  obtain ⟨rfl, rfl, rfl, rfl, rfl⟩ := hX
  obtain ⟨f, fd, ds, dvs, F, hm, hk, hb, hd, hdd⟩ := F.ex
  have e0 : dvs = [] := by
    have := hdd 0 (fun _ => none)
    unfold RA at this
    exact this
  subst e0
  exact ⟨pe_call0 F (hr.mono hj) hg hm hk hb hd hx hdb, se_call0⟩

/-! ### methods of built-in classes -/
def RMt (K : PySem.W.Frag) (W : Wc) (T : String) (r : V → List V → Hp → VK → Prop) (o : D → List D → (D → Prop) → Prop) : Prop :=
  ∀ p S H x d vs ds (Q : VK) (post : D → Prop), Stt W p S H → R K W p S x d → RA K W p S vs ds → o d ds post → (∀ v d' S' H', post d' → Grow W p S H S' H' → R K W p S' v d' → Q v H') → r x vs H Q
def tyD (T : String) : D → Prop
  | .str _ => T = "str"
  | .lst _ => T = "list"
  | _ => False
theorem R.tyV {K : PySem.W.Frag} {p : Addr} {S H : Hp} {v : V} {d : D} {T : String} (ex : Ex S H) (r : R K W p S v d) (h : tyD T d) : L2.tyV K T v H := by
  cases d with
  | str x => cases (show v = V.str x from r); exact h
  | lst ds =>
    unfold R at r
    obtain ⟨a, xs, rfl, h1, _⟩ := r
    exact .inl ⟨h, xs, SqL.of (ex _ _ h1)⟩
  | _ => exact (show False from h).elim
def dBM (T : String) (o : D → List D → (D → Prop) → Prop) (da : DE) (dr : DA) : DE := fun env xp post => da env xp fun x => tyD T x ∧ dr env xp fun ds => o x ds post
theorem pd_bm {name : Str} {apos cpos : Pos} {T id : String} {r : V → List V → Hp → VK → Prop} {o : D → List D → (D → Prop) → Prop} (pa : PlainAttrs T) (slot : Slot T name id) (hty : typeOf (.builtin id) = pure (.type "method_descriptor")) (hm : MtR X id r) (hr : RMt X.K W T r o) (ho : PD X W E a ta da) (ha : PDA X W E (e :: es) tr dr)
    (hbase : attributeBase a name X.env (eval a X.env) = eval a X.env := by rfl)
    (hfew : ((backTo cpos (starEach (e :: es) X.env)).all (fun x => !x.1) && (backToKw cpos (keywordEach [] X.env)).all (fun x => x.1.isSome)
      && decide ((e :: es).length + ([] : List Keyword).length + (if ([] : List Keyword).isEmpty then 0 else 1) < 30)) = true := by rfl)
    (hline : (apos.endLine == cpos.line) = true := by rfl) (hs : starEach (e :: es) X.env = (false, eval e X.env) :: starEach es X.env := by rfl) (hplain : (backTo cpos (starEach es X.env)).any (·.1) = false := by rfl) :
    PD X W E (.Call (.Attribute a name apos) (e :: es) [] cpos) (tBM X.K T r ta tr) (dBM T o da dr) :=
  ⟨pe_bm pa slot hty hm ho.pe ha.pe hbase hfew hline hs hplain, fun p S H σ env xp st ev xo Q post q k => ho.se p S H σ env xp st ev xo _ _ q fun v d S1 H1 ⟨h1, q1⟩ g1 r1 =>
    ⟨r1.tyV g1.st.ex h1, ha.se p S1 H1 σ env xp g1.st (ev.mono g1) (xo.mono g1) _ _ q1 fun vs ds S2 H2 q2 g2 r2 => hr p S2 H2 v d vs ds Q post g2.st (R.mono g2.ex _ _ r1) r2 q2 fun u d3 S3 H3 q3 g3 r3 => k u d3 S3 H3 q3 ((g1.trans g2).trans g3) r3⟩⟩
/-- sep.join(list of texts) -/
def isStrs : List D → Option (List Str)
  | [] => some []
  | .str b :: ds => (isStrs ds).map (b :: ·)
  | _ :: _ => none
theorem RA.strs {K : PySem.W.Frag} {p : Addr} {S : Hp} : ∀ {ds : List D} {xs : List V} {bs : List Str}, RA K W p S xs ds → isStrs ds = some bs → xs = bs.map V.str
  | [], xs, bs, h, e => by unfold RA at h; cases e; exact h
  | .str b :: ds, xs, bs, h, e => by
    unfold RA at h
    obtain ⟨y, ys, rfl, h1, h2⟩ := h
    simp only [isStrs, Option.map_eq_some_iff] at e
    obtain ⟨cs, e1, rfl⟩ := e
    rw [RA.strs h2 e1, show y = V.str b from h1]
    rfl
  | .non :: _, _, _, _, e => by simp [isStrs] at e
  | .int _ :: _, _, _, _, e => by simp [isStrs] at e
  | .bl _ :: _, _, _, _, e => by simp [isStrs] at e
  | .lst _ :: _, _, _, _, e => by simp [isStrs] at e
  | .tup _ :: _, _, _, _, e => by simp [isStrs] at e
  | .obj _ _ :: _, _, _, _, e => by simp [isStrs] at e
  | .tok :: _, _, _, _, e => by simp [isStrs] at e
  | .ety :: _, _, _, _, e => by simp [isStrs] at e
def oJoin : D → List D → (D → Prop) → Prop
  | .str a, [.lst ds], k => ∃ ys, isStrs ds = some ys ∧ (ys.map fun x => x.length).sum + ys.length * a.length ≤ 100000 ∧ k (.str (Txt.join a ys))
  | _, _, _ => False
abbrev rJoin (K : PySem.W.Frag) : V → List V → Hp → VK → Prop := fun x xs H Q => ∃ a p, ∃ ys : List Str, x = .str a ∧ xs = [.ref p] ∧ (SqL K H p (ys.map V.str) ∨ SqT K H p (ys.map V.str)) ∧ (ys.map fun x => x.length).sum + ys.length * a.length ≤ 16777216 ∧ Q (.str (Txt.join a ys)) H
theorem rm_join {K : PySem.W.Frag} : RMt K W "str" (rJoin K) oJoin :=
  fun p S H x d vs ds Q post st r ra q k => by
    unfold oJoin at q
    split at q
    · obtain ⟨v, rfl, r2⟩ := ra.one
      unfold R at r2
      obtain ⟨l, xs, rfl, h1, h2⟩ := r2
      obtain ⟨ys, e, hz, q⟩ := q
      have hb := h2.strs e
      subst hb
      exact ⟨_, l, ys, r, rfl, .inl (SqL.of (st.ex _ _ h1)), by omega, k _ _ S H q (Grow.refl st) rfl⟩
    · exact q.elim
theorem pd_join (K : PySem.W.Frag) {apos cpos : Pos} (ho : PD X W E a ta da) (ha : PDA X W E (e :: es) tr dr) (hbase : attributeBase a "join" X.env (eval a X.env) = eval a X.env := by rfl)
    (hfew : ((backTo cpos (starEach (e :: es) X.env)).all (fun x => !x.1) && (backToKw cpos (keywordEach [] X.env)).all (fun x => x.1.isSome)
      && decide ((e :: es).length + ([] : List Keyword).length + (if ([] : List Keyword).isEmpty then 0 else 1) < 30)) = true := by rfl)
    (hline : (apos.endLine == cpos.line) = true := by rfl) (hs : starEach (e :: es) X.env = (false, eval e X.env) :: starEach es X.env := by rfl) (hplain : (backTo cpos (starEach es X.env)).any (·.1) = false := by rfl) (hK : X.K = K := by rfl) :
    PD X W E (.Call (.Attribute a "join" apos) (e :: es) [] cpos) (tBM K "str" (rJoin K) ta tr) (dBM "str" oJoin da dr) := by
  subst hK
  exact pd_bm PySem.F.plainAttrs_str PySem.F.slot_str_join PySem.F.type_str_join mt_join rm_join ho ha hbase hfew hline hs hplain
/-! ### repr of a bool -/
def bReprB : List D → (D → Prop) → Prop
  | [.bl b], k => k (.str (if b then "True" else "False"))
  | _, _ => False
theorem cr_reprB : CallR X (.builtin "repr") (fun xs H Q => ∃ b, xs = [.bl b] ∧ Q (.str (if b then "True" else "False")) H) := by
  intro pins s σ H xs us Q I rv h
  obtain ⟨b, rfl, q⟩ := h
  obtain ⟨u, rfl, r⟩ := vals1 rv
  cases (show u = Value.bool b from r)
  exact PySem.P.repr_of_bool ⟨.str _, H, I.tok _, ⟨_, rfl⟩, q⟩
theorem rc_reprB {K : PySem.W.Frag} : RCb K W (fun xs H Q => ∃ b, xs = [.bl b] ∧ Q (.str (if b then "True" else "False")) H) bReprB := fun p S H vs ds Q post st ra q k => by
  unfold bReprB at q
  split at q
  · obtain ⟨v, rfl, r⟩ := ra.one
    exact ⟨_, by rw [show v = _ from r], k _ _ S H q (Grow.refl st) rfl⟩
  · exact q.elim
/-- {} -/
theorem pd_ety {pos : Pos} : PD X W E (.Dict [] [] pos) (fun _ H Q => ∀ d, H d = none → Q (.ref d) (upd H d (.dK []))) (dC .ety) :=
  ⟨pe_dnewK, fun p S H σ env xp st ev _ Q post q k d hd => by
    refine k _ _ _ _ q (Grow.new st hd) ?_
    unfold R
    exact ⟨d, rfl, upd_same⟩⟩
end

/-! ### the source of draws -/
/-- at the hidden address: the script's numbers, the place, what is left of a great one, the seed -/
def SrcO (S : Hp) (o : HO) : Prop := ∃ (c : Addr) (ns : List Int) (i b s : Int), o = .lst [.ref c, .int i, .int b, .int s] ∧ S c = some (.lst (ns.map V.int)) ∧ 0 ≤ i ∧ 0 ≤ b ∧ 0 ≤ s ∧ s < 2147483647
theorem SrcO.mono (S S' : Hp) (o : HO) (e : Ex S S') : SrcO S o → SrcO S' o := fun ⟨c, ns, i, b, s, h, h1, h2⟩ => ⟨c, ns, i, b, s, h, e _ _ h1, h2⟩
abbrev WcOf (M : Nat → Option Addr) : Wc := ⟨M, SrcO, SrcO.mono⟩
/-- a draw below n: any of them -/
def fDraw : DF := fun ds _ post => ∃ n : Int, ds = [.tok, .int n] ∧ 0 < n ∧ n.natAbs.log2 < 9000 ∧ ∀ r, 0 ≤ r → r < n → post (.int r)
def spDraw (K : PySem.W.Frag) (M : Nat → Option Addr) : Sp := fun vs H Q _ => ∃ (p : Addr) (S : Hp) (n : Int), vs = [.ref p, .int n] ∧ Stt (WcOf M) p S H ∧ 0 < n ∧ n.natAbs.log2 < 9000 ∧
  ∀ r H', 0 ≤ r → r < n → Grow (WcOf M) p S H S H' → Q (.int r) H'
theorem spDraw_of {K : PySem.W.Frag} {M : Nat → Option Addr} (vs : List V) (H : Hp) (Q : VK) (E : XK) (h : spD K (WcOf M) fDraw vs H Q E) : spDraw K M vs H Q E := by
  obtain ⟨p, S, ds, post, xp, st, ra, ⟨n, rfl, h1, h2, h3⟩, k, _⟩ := h
  obtain ⟨v, w, rfl, r1, r2⟩ := ra.two
  exact ⟨p, S, n, by rw [show v = V.ref p from r1, show w = V.int n from r2], st, h1, h2, fun r H' a b g => k _ _ S H' (h3 r a b) g rfl⟩
/-- the source is written anew -/
theorem src_put {M : Nat → Option Addr} {p : Addr} {S H : Hp} {o : HO} (st : Stt (WcOf M) p S H) (h : SrcO S o) : Grow (WcOf M) p S H S (upd H p o) :=
  ⟨Ex.refl S, ⟨fun a u e => by
    have : a ≠ p := fun z => by rw [z, st.hid] at e; cases e
    rw [upd_ne this]
    exact st.ex a u e, st.hid, o, upd_same, h⟩, fun b u n e => by rw [upd_ne n]; exact e, fun _ _ h => h⟩
end DL

set_option Elab.async false
set_option linter.all false
set_option maxRecDepth 100000
set_option maxHeartbeats 4000000
/-! the law's own helpers: begin, draw; the law's end -/
namespace DL
open PySem L2

section
variable {P : Program} {w : World} {K : PySem.W.Frag} {W : Wc} {mg : Str → Option Value} {base : Heap}
theorem passX {N : List Str} {qual : Str} {scope : Scope} {f : Addr} {cd : Value} {A : Around} {outer : List PySem.Env} {s : Shared} {H : Hp} {E : XK} : Passes (L2.CX P w) (cxOf (L2.CX P w) P w K mg base N qual scope f cd A outer s H E) E :=
  passes_call (takes_of rfl rfl rfl rfl) fun _ _ _ _ h => h
theorem defOk {k : Nat} {nm : Str} {ps : List Str} {df : DF} {f : Addr} {fd : FuncData} (F : FnOk P w K mg base (L2.CX P w) k f fd ps (spD K W df)) (m : mg nm = some (.ref f)) (kp : PySem.W.keepIn K (.ref f) = true) (b : Binds K fd ps []) : DefOk P w K W mg base k nm ps df [] :=
  ⟨f, fd, [], [], F, m, kp, b, .nil, fun _ _ => RA.nil⟩

/-! ### begin -/
def spBegin (K : PySem.W.Frag) : Sp := fun vs H Q _ => ∃ (a : Addr) (ns : List Int), vs = [.ref a] ∧ SqL K H a (ns.map V.int) ∧ ∀ (p c : Addr) (ms : List Int) H', p ≠ c → H' c = some (.lst (ms.map V.int)) → H' p = some (.lst [.ref c, .int 0, .int 0, .int 7]) → Q (.ref p) H'
abbrev tBegin (K : PySem.W.Frag) : TS := tRet (tLst (tCons (tCB (fun xs H Q => ∃ p ys, xs = [.ref p] ∧ (SqL K H p ys ∨ SqT K H p ys) ∧ ∀ l, H l = none → Q (.ref l) (upd H l (.lst ys))) (tCons (tSl (rSlL K) (tVar 0) tNoPart (tPart (tC (.int 63)))) tNil)) (tCons (tC (.int 0)) (tCons (tC (.int 0)) (tCons (tC (.int 7)) tNil)))))
theorem okBegin {x qual : Str} {st : Stmt} {f : Addr} {fd : FuncData} {k : Nat} (F : Fun K x qual st f fd) (Sc : FnScope ["script"] ["script"] (defScope st))
    (hb : ∀ (cdv : Value) (A : Around) (outer : List PySem.Env) (s : Shared) (H : Hp) (E : XK), PSs (cxOf (L2.CX P w) P w K mg base ["script"] qual (defScope st) f cdv A outer s H E) (defBody st) (tBegin K)) : FnOk P w K mg base (L2.CX P w) (k + 1) f fd ["script"] (spBegin K) := by
  refine F.okX Sc (fun vs H Q E h => ?_) (fun cdv A outer s H vs Q E hr h => ?_)
  · obtain ⟨a, ns, rfl, _⟩ := h
    rfl
  · obtain ⟨a, ns, rfl, hs, k⟩ := h
    refine ⟨_, hb cdv A outer s H E, ?_⟩
    refine ⟨_, rfl, ?_⟩
    refine ⟨63, rfl, a, ns.map V.int, rfl, hs, fun t ht => ?_⟩
    refine ⟨t, _, rfl, .inl (SqL.of upd_same), fun c hc => ?_⟩
    refine ⟨by show 4 ≤ sizeLine; decide, fun p hp => ?_⟩
    have e : cutV (ns.map V.int) none (some 63) = ((ns.drop (HT.sIx (ns.map V.int).length 0 none)).take (HT.sIx (ns.map V.int).length (ns.map V.int).length (some 63) - HT.sIx (ns.map V.int).length 0 none)).map V.int := by
      unfold cutV
      rw [← List.map_drop, ← List.map_take]
    have npc : p ≠ c := fun z => by
      rw [z, upd_same] at hp
      cases hp
    exact k p c _ _ npc (by rw [upd_ne npc.symm, upd_same, e]) upd_same

/-! ### draw -/
abbrev rListOf (K : PySem.W.Frag) : R2 := rIxL K
def tAt (K : PySem.W.Frag) (k : Int) : TE := tOp (rIxL K) (tVar 0) (tC (.int k))
def tPw : TE := tOp (rI CPow fun i j => .int (i ^ j.toNat)) (tC (.int 10)) (tC (.int 18))
def tInt (te : TE) : TE := tCB (fun xs H Q => (∃ i, xs = [.int i] ∧ Q (.int i) H) ∨ ∃ k, xs = [.bl k] ∧ Q (.int (if k then 1 else 0)) H) (tCons te tNil)
abbrev rM : R2 := rI (fun _ j => 0 < j) fun i j => .int (i % j)
abbrev rA : R2 := rI0 fun i j => .int (i + j)
abbrev rX : R2 := rI CMul fun i j => .int (i * j)
def tDraw (K : PySem.W.Frag) : TS :=
  tSeq (tIfS (tAnd (tTest (tOp (rI0 fun i j => .bl (decide (i < j))) (tAt K 2) tPw)) (tTest (tOp (rI0 fun i j => .bl (decide (i < j))) (tAt K 1) (tCB (fun xs H Q => ∃ p ys, xs = [.ref p] ∧ (SqL K H p ys ∨ SqT K H p ys) ∧ Q (.int ys.length) H) (tCons (tAt K 0) tNil)))))
    (tSeq (tAsg (tInt (tOp (rIxL K) (tAt K 0) (tAt K 1))) (gName 2))
    (tSeq (tAsg (tOp rA (tAt K 1) (tC (.int 1))) (gSub (tVar 0) (tC (.int 1)) rSetL))
    (tSeq (tAsg (tC (.int 0)) (gSub (tVar 0) (tC (.int 2)) rSetL))
    (tSeq (tIfS (tTest (tOp (rI0 fun i j => .bl (decide (j ≤ i))) (tVar 2) tPw)) (tAsg (tVar 2) (gSub (tVar 0) (tC (.int 2)) rSetL)) tNext)
      (tAsg (tOp rM (tInt (tOp rA (tOp rA (tOp rX (tAt K 3) (tC (.int 48271))) (tOp rM (tVar 2) (tC (.int 2147483629)))) (tC (.int 11)))) (tC (.int 2147483647))) (gSub (tVar 0) (tC (.int 3)) rSetL)))))) tNext)
  (tSeq (tIfS (tTest (tOp (rI0 fun i j => .bl (decide (j ≤ i))) (tAt K 2) tPw))
    (tSeq (tAsg (tOp rM (tInt (tAt K 2)) (tVar 1)) (gName 3))
    (tSeq (tAsg (tOp (rI CDivW fun i j => .int (i / j)) (tAt K 2) (tVar 1)) (gSub (tVar 0) (tC (.int 2)) rSetL))
      (tRet (tVar 3)))) tNext)
  (tSeq (tAsg (tOp rM (tInt (tOp rA (tOp rX (tAt K 3) (tC (.int 39373))) (tC (.int 12820163)))) (tC (.int 2147483647))) (gSub (tVar 0) (tC (.int 3)) rSetL))
    (tRet (tOp rM (tInt (tOp (rI CDiv fun i j => .int (i / j)) (tAt K 3) (tC (.int 16)))) (tVar 1)))))
section
variable {σ : L2.St} {H : Hp} {p : Addr} {xs : List V} {v : V} {i j : Int} {ta tb te : TE} {D : Ends}
theorem val_at {k : Int} (h0 : σ[0]? = some (some (.ref p))) (h : H p = some (.lst xs)) (hk : atI xs k = some v) : Val (tAt K k) σ H v := val_op (val_var h0) val_c fun Q q => ⟨p, xs, k, v, rfl, rfl, SqL.of h, hk, q⟩
theorem val_pw : Val tPw σ H (.int 1000000000000000000) := val_op val_c val_c fun Q q => ⟨10, 18, rfl, rfl, ⟨by decide, by decide, by decide⟩, q⟩
theorem val_I {C : Int → Int → Prop} {g : Int → Int → V} (ha : Val ta σ H (.int i)) (hb : Val tb σ H (.int j)) (hc : C i j) : Val (tOp (rI C g) ta tb) σ H (g i j) := val_op ha hb fun Q q => ⟨i, j, rfl, rfl, hc, q⟩
theorem val_I0 {g : Int → Int → V} (ha : Val ta σ H (.int i)) (hb : Val tb σ H (.int j)) : Val (tOp (rI0 g) ta tb) σ H (g i j) := val_op ha hb fun Q q => ⟨i, j, rfl, rfl, q⟩
theorem val_add (ha : Val ta σ H (.int i)) (hb : Val tb σ H (.int j)) : Val (tOp rA ta tb) σ H (.int (i + j)) := val_I0 ha hb
theorem val_mul (ha : Val ta σ H (.int i)) (hb : Val tb σ H (.int j)) (hc : CMul i j) : Val (tOp rX ta tb) σ H (.int (i * j)) := val_I ha hb hc
theorem val_rem (ha : Val ta σ H (.int i)) (hb : Val tb σ H (.int j)) (hc : 0 < j) : Val (tOp rM ta tb) σ H (.int (i % j)) := val_I (C := fun _ j => 0 < j) ha hb hc
theorem val_quo (ha : Val ta σ H (.int i)) (hb : Val tb σ H (.int j)) (hc : CDiv i j) : Val (tOp (rI CDiv fun i j => .int (i / j)) ta tb) σ H (.int (i / j)) := val_I ha hb hc
theorem val_quoW (ha : Val ta σ H (.int i)) (hb : Val tb σ H (.int j)) (hc : CDivW i j) : Val (tOp (rI CDivW fun i j => .int (i / j)) ta tb) σ H (.int (i / j)) := val_I ha hb hc
theorem val_int (h : Val te σ H (.int i)) : Val (tInt te) σ H (.int i) := fun Q q => h _ (.inl ⟨i, rfl, q⟩)
theorem ans_I0 {g : Int → Int → Bool} (ha : Val ta σ H (.int i)) (hb : Val tb σ H (.int j)) : Ans (tTest (tOp (rI0 fun i j => .bl (g i j)) ta tb)) σ H (g i j) := ans_cmp ha hb fun Q q => ⟨i, j, rfl, rfl, q⟩
theorem st_put {k : Int} {n : Nat} (h0 : σ[0]? = some (some (.ref p))) (hv : Val te σ H v) (h : H p = some (.lst xs)) (hk : ixN xs.length k = some n) (q : D.nx σ (upd H p (.lst (xs.set n v)))) : tAsg te (gSub (tVar 0) (tC (.int k)) rSetL) D σ H :=
  hv _ ⟨.ref p, h0, p, xs, k, n, rfl, rfl, h, hk, q⟩
end
theorem mod_lt {i : Int} {m : Int} (h : 0 < m) : 0 ≤ i % m ∧ i % m < m := ⟨Int.emod_nonneg _ (by omega), Int.emod_lt_of_pos _ h⟩
theorem okDraw {x qual : Str} {st : Stmt} {f : Addr} {fd : FuncData} {k : Nat} {M : Nat → Option Addr} (F : Fun K x qual st f fd) (Sc : FnScope ["source", "limit", "cell", "digit"] ["source", "limit"] (defScope st))
    (hb : ∀ (cdv : Value) (A : Around) (outer : List PySem.Env) (s : Shared) (H : Hp) (E : XK), PSs (cxOf (L2.CX P w) P w K mg base ["source", "limit", "cell", "digit"] qual (defScope st) f cdv A outer s H E) (defBody st) (tDraw K)) :
    FnOk P w K mg base (L2.CX P w) (k + 1) f fd ["source", "limit"] (spD K (WcOf M) fDraw) := by
  refine FnOk.imp (sp := spDraw K M) ?_ spDraw_of
  refine F.okX Sc (fun vs H Q E h => ?_) (fun cdv A outer s H vs Q E hr h => ?_)
  · obtain ⟨p, S, n, rfl, _⟩ := h
    rfl
  · obtain ⟨p, S, n, rfl, st0, hn, hlog, k⟩ := h
    refine ⟨_, hb cdv A outer s H E, ?_⟩
    show tDraw K { nx := fun _ H' => Q .non H', rt := Q } [some (.ref p), some (.int n), none, none] H
    obtain ⟨o, ho, c, ns, i, b, sd, rfl, hc, hi, hb0, hs0, hs1⟩ := st0.src
    -- what holds ahead of the second test
    have rest : ∀ (o : Option V) (H : Hp) (i b sd : Int), Grow (WcOf M) p S H S H → (∀ r H', 0 ≤ r → r < n → Grow (WcOf M) p S H S H' → Q (.int r) H') → H p = some (.lst [.ref c, .int i, .int b, .int sd]) → 0 ≤ i → 0 ≤ b → 0 ≤ sd → sd < 2147483647 →
        (tSeq (tIfS (tTest (tOp (rI0 fun i j => .bl (decide (j ≤ i))) (tAt K 2) tPw))
          (tSeq (tAsg (tOp rM (tInt (tAt K 2)) (tVar 1)) (gName 3))
          (tSeq (tAsg (tOp (rI CDivW fun i j => .int (i / j)) (tAt K 2) (tVar 1)) (gSub (tVar 0) (tC (.int 2)) rSetL))
            (tRet (tVar 3)))) tNext)
          (tSeq (tAsg (tOp rM (tInt (tOp rA (tOp rX (tAt K 3) (tC (.int 39373))) (tC (.int 12820163)))) (tC (.int 2147483647))) (gSub (tVar 0) (tC (.int 3)) rSetL))
            (tRet (tOp rM (tInt (tOp (rI CDiv fun i j => .int (i / j)) (tAt K 3) (tC (.int 16)))) (tVar 1))))) { nx := fun _ H' => Q .non H', rt := Q } [some (.ref p), some (.int n), o, none] H := by
      intro o H i b sd g0 k ho hi hb0 hs0 hs1
      have stt := g0.st
      refine st_seq ?_
      have a2 : Ans (tTest (tOp (rI0 fun i j => .bl (decide (j ≤ i))) (tAt K 2) tPw)) [some (.ref p), some (.int n), o, none] H (decide ((1000000000000000000 : Int) ≤ b)) := ans_I0 (g := fun i j => decide (j ≤ i)) (val_at rfl ho rfl) val_pw
      by_cases h2 : (1000000000000000000 : Int) ≤ b
      · rw [decide_eq_true h2] at a2
        refine st_yes a2 ?_
        refine st_seq ?_
        refine st_set (val_rem (val_int (val_at rfl ho rfl)) (val_var rfl) hn) ?_
        refine st_seq ?_
        refine st_put (k := 2) (n := 2) rfl (val_quoW (val_at rfl ho rfl) (val_var rfl) ⟨hn, hlog⟩) ho rfl ?_
        refine st_ret (val_var rfl) ?_
        have m := mod_lt (i := b) hn
        exact k (b % n) _ m.1 m.2 (src_put stt ⟨c, ns, i, b / n, sd, rfl, hc, hi, Int.ediv_nonneg hb0 (by omega), hs0, hs1⟩)
      · rw [decide_eq_false h2] at a2
        have m1 := mod_lt (i := sd * 39373 + 12820163) (m := 2147483647) (by decide)
        have hx : CMul sd 39373 := .inr ⟨by decide, by decide⟩
        have H1 : upd H p (.lst [.ref c, .int i, .int b, .int ((sd * 39373 + 12820163) % 2147483647)]) p = some (.lst [.ref c, .int i, .int b, .int ((sd * 39373 + 12820163) % 2147483647)]) := upd_same
        refine st_no a2 ?_
        refine st_next ?_
        refine st_seq ?_
        refine st_put (k := 3) (n := 3) rfl (val_rem (val_int (val_add (val_mul (val_at rfl ho rfl) val_c hx) val_c)) val_c (by decide)) ho rfl ?_
        refine st_ret (val_rem (val_int (val_quo (val_at rfl H1 rfl) val_c ⟨by decide, by decide⟩)) (val_var rfl) hn) ?_
        have m := mod_lt (i := (sd * 39373 + 12820163) % 2147483647 / 16) hn
        exact k _ _ m.1 m.2 (src_put stt ⟨c, ns, i, b, _, rfl, hc, hi, hb0, m1.1, m1.2⟩)
    have hcH : H c = some (.lst (ns.map V.int)) := st0.ex _ _ hc
    refine st_seq ?_
    have g0 := Grow.refl st0
    have t1 : Ans (tTest (tOp (rI0 fun i j => .bl (decide (i < j))) (tAt K 2) tPw)) [some (.ref p), some (.int n), none, none] H (decide (b < (1000000000000000000 : Int))) := ans_I0 (g := fun i j => decide (i < j)) (val_at rfl ho rfl) val_pw
    have t2 : Ans (tTest (tOp (rI0 fun i j => .bl (decide (i < j))) (tAt K 1) (tCB (fun xs H Q => ∃ p ys, xs = [.ref p] ∧ (SqL K H p ys ∨ SqT K H p ys) ∧ Q (.int ys.length) H) (tCons (tAt K 0) tNil)))) [some (.ref p), some (.int n), none, none] H (decide (i < ((ns.map V.int).length : Int))) :=
      ans_I0 (g := fun i j => decide (i < j)) (val_at rfl ho rfl) (fun Q q => val_at (k := 0) rfl ho rfl _ ⟨c, _, rfl, .inl (SqL.of hcH), q⟩)
    have t := ans_and2 t1 t2
    by_cases hh : (decide (b < (1000000000000000000 : Int)) && decide (i < ((ns.map V.int).length : Int))) = true
    · rw [hh] at t
      simp only [Bool.and_eq_true, decide_eq_true_eq, List.length_map] at hh
      have hj : i.toNat < ns.length := by omega
      have hcell : atI (ns.map V.int) i = some (.int (ns[i.toNat]'hj)) := at_of (j := i.toNat) (by omega) (by simp [hj])
      generalize ns[i.toNat]'hj = cell at hcell
      have npc : c ≠ p := fun z => by rw [z, st0.hid] at hc; cases hc
      have vc : Val (tInt (tOp (rIxL K) (tAt K 0) (tAt K 1))) [some (.ref p), some (.int n), none, none] H (.int cell) := val_int (val_op (val_at rfl ho rfl) (val_at rfl ho rfl) fun Q q => ⟨c, _, i, _, rfl, rfl, SqL.of hcH, hcell, q⟩)
      refine st_yes t ?_
      refine st_seq ?_
      refine st_set vc ?_
      refine st_seq ?_
      refine st_put (k := 1) (n := 1) rfl (val_add (val_at rfl ho rfl) val_c) ho rfl ?_
      refine st_seq ?_
      refine st_put (k := 2) (n := 2) rfl val_c upd_same rfl ?_
      refine st_seq ?_
      have fin : ∀ (b' : Int), 0 ≤ b' → (tAsg (tOp rM (tInt (tOp rA (tOp rA (tOp rX (tAt K 3) (tC (.int 48271))) (tOp rM (tVar 2) (tC (.int 2147483629)))) (tC (.int 11)))) (tC (.int 2147483647))) (gSub (tVar 0) (tC (.int 3)) rSetL))
          { nx := fun σ' H' => (tSeq (tIfS (tTest (tOp (rI0 fun i j => .bl (decide (j ≤ i))) (tAt K 2) tPw))
          (tSeq (tAsg (tOp rM (tInt (tAt K 2)) (tVar 1)) (gName 3))
          (tSeq (tAsg (tOp (rI CDivW fun i j => .int (i / j)) (tAt K 2) (tVar 1)) (gSub (tVar 0) (tC (.int 2)) rSetL))
            (tRet (tVar 3)))) tNext)
          (tSeq (tAsg (tOp rM (tInt (tOp rA (tOp rX (tAt K 3) (tC (.int 39373))) (tC (.int 12820163)))) (tC (.int 2147483647))) (gSub (tVar 0) (tC (.int 3)) rSetL))
            (tRet (tOp rM (tInt (tOp (rI CDiv fun i j => .int (i / j)) (tAt K 3) (tC (.int 16)))) (tVar 1))))) { nx := fun _ H' => Q .non H', rt := Q } σ' H', rt := Q } [some (.ref p), some (.int n), some (.int cell), none] (upd H p (.lst [.ref c, .int (i + 1), .int b', .int sd])) := by
        intro b' hb'
        have hx : CMul sd 48271 := .inr ⟨by decide, by decide⟩
        refine st_put (k := 3) (n := 3) rfl (val_rem (val_int (val_add (val_add (val_mul (val_at rfl upd_same rfl) val_c hx) (val_rem (val_var rfl) val_c (by decide))) val_c)) val_c (by decide)) upd_same rfl ?_
        have m1 := mod_lt (i := sd * 48271 + cell % 2147483629 + 11) (m := 2147483647) (by decide)
        rw [upd_upd]
        have g1 := src_put (M := M) (o := .lst [.ref c, .int (i + 1), .int b', .int ((sd * 48271 + cell % 2147483629 + 11) % 2147483647)]) st0 ⟨c, ns, i + 1, b', _, rfl, hc, by omega, hb', m1.1, m1.2⟩
        exact rest _ _ (i + 1) b' _ (Grow.refl g1.st) (fun r H' h1 h2 g => k r H' h1 h2 (g1.trans g)) upd_same (by omega) hb' m1.1 m1.2
      have e0 : upd (upd H p (.lst [.ref c, .int (i + 1), .int b, .int sd])) p (.lst [.ref c, .int (i + 1), .int 0, .int sd]) = upd H p (.lst [.ref c, .int (i + 1), .int 0, .int sd]) := upd_upd
      show (tIfS (tTest (tOp (rI0 fun i j => .bl (decide (j ≤ i))) (tVar 2) tPw)) (tAsg (tVar 2) (gSub (tVar 0) (tC (.int 2)) rSetL)) tNext) _ [some (.ref p), some (.int n), some (.int cell), none] (upd (upd H p (.lst [.ref c, .int (i + 1), .int b, .int sd])) p (.lst [.ref c, .int (i + 1), .int 0, .int sd]))
      rw [e0]
      have a3 : Ans (tTest (tOp (rI0 fun i j => .bl (decide (j ≤ i))) (tVar 2) tPw)) [some (.ref p), some (.int n), some (.int cell), none] (upd H p (.lst [.ref c, .int (i + 1), .int 0, .int sd])) (decide ((1000000000000000000 : Int) ≤ cell)) := ans_I0 (g := fun i j => decide (j ≤ i)) (val_var rfl) val_pw
      by_cases h3 : (1000000000000000000 : Int) ≤ cell
      · rw [decide_eq_true h3] at a3
        refine st_yes a3 (st_put (k := 2) (n := 2) rfl (val_var rfl) upd_same rfl ?_)
        rw [upd_upd]
        exact fin cell (by omega)
      · rw [decide_eq_false h3] at a3
        exact st_no a3 (fin 0 (Int.le_refl 0))
    · rw [Bool.not_eq_true] at hh
      rw [hh] at t
      exact st_no t (rest none H i b sd g0 k ho hi hb0 hs0 hs1)

/-! ### the law -/
def spLaw (K : PySem.W.Frag) : Sp := fun vs H Q _ => ∃ (a : Addr) (ns : List Int), vs = [.ref a] ∧ SqL K H a (ns.map V.int) ∧ ns.length ≤ 63 ∧ ∀ H', Q (.bl true) H'
theorem okLaw {x qual : Str} {st : Stmt} {f : Addr} {fd : FuncData} {N : List Str} {k : Nat} {M : Nat → Option Addr} {ds : DS} (F : Fun K x qual st f fd) (Sc : FnScope N ["script"] (defScope st)) (hN : 2 ≤ N.length)
    (hb : ∀ (cdv : Value) (A : Around) (outer : List PySem.Env) (s : Shared) (H : Hp) (E : XK), Room k (A.deeper (PyProof.Rows.envOfC qual (defScope st) s.heap.objs.size f cdv)) →
      ∃ ts, PSs (cxOf (L2.CX P w) P w K mg base N qual (defScope st) f cdv A outer s H E) (defBody st) (tSeq (tAsg (tCall (spBegin K) [] E0 (tCons (tVar 0) tNil)) (gName 1)) ts) ∧ SS K (WcOf M) E ts ds)
    (hd : ds { nx := fun _ => False, rt := fun d => d = .bl true } noX (.un :: .sh .tok :: List.replicate (N.length - 2) .un)) : FnOk P w K mg base (L2.CX P w) (k + 1) f fd ["script"] (spLaw K) := by
  refine F.okX Sc (fun vs H Q E h => ?_) (fun cdv A outer s H vs Q E hr h => ?_)
  · obtain ⟨a, ns, rfl, _⟩ := h
    rfl
  · obtain ⟨a, ns, rfl, hs, _, k⟩ := h
    obtain ⟨ts, pe, se⟩ := hb cdv A outer s H E hr
    refine ⟨_, pe, ?_⟩
    obtain ⟨m, hm⟩ : ∃ m, N.length = m + 2 := ⟨N.length - 2, by omega⟩
    have e1 : L2.start N [.ref a] = some (.ref a) :: none :: List.replicate m none := by
      unfold L2.start
      rw [hm]
      show [some (V.ref a)] ++ List.replicate (m + 2 - 1) none = _
      rw [show m + 2 - 1 = m + 1 by omega, List.replicate_succ]
      rfl
    rw [e1]
    refine ⟨.ref a, rfl, a, ns, rfl, hs, fun p c ms H' npc hc hp => ?_⟩
    show ts _ (some (V.ref a) :: some (V.ref p) :: List.replicate m none) H'
    have st : Stt (WcOf M) p (upd (fun _ => none) c (.lst (ms.map V.int))) H' := by
      refine ⟨fun b o e => ?_, by rw [upd_ne npc], _, hp, c, ms, 0, 0, 7, rfl, upd_same, by decide, by decide, by decide, by decide⟩
      by_cases hb : b = c
      · subst hb
        rw [upd_same] at e
        cases e
        exact hc
      · rw [upd_ne hb] at e
        cases e
    rw [hm] at hd
    have hd' : ds { nx := fun _ => False, rt := fun d => d = .bl true } noX (.un :: .sh .tok :: List.replicate m .un) := hd
    refine se p (upd (fun _ => none) c (.lst (ms.map V.int))) H' _ H' _ _ noX ⟨Grow.refl st, ⟨fun i s e => ?_, fun i j as bs n e1 e2 => ?_⟩, fun i as b e1 e2 => ?_⟩ XOk.no _ _ hd' ⟨fun _ _ _ _ _ _ q => q.elim, fun S2 H2 v d _ _ r q => ?_, fun _ _ _ _ _ _ q => q.elim, fun _ _ _ _ _ _ q => q.elim⟩
    · match i, e with
      | 0, e =>
        have e' : Sl.un = s := Option.some.inj e
        subst e'
        exact ⟨_, rfl, trivial⟩
      | 1, e =>
        have e' : Sl.sh .tok = s := Option.some.inj e
        subst e'
        exact ⟨_, rfl, .ref p, rfl, rfl⟩
      | i + 2, e =>
        have e' : (List.replicate m Sl.un)[i]? = some s := e
        rw [List.getElem?_replicate] at e'
        split at e'
        · rename_i hi
          cases e'
          refine ⟨none, ?_, trivial⟩
          show (List.replicate m (none : Option V))[i]? = some none
          rw [List.getElem?_replicate, if_pos hi]
        · cases e'
    · exfalso
      match i, e1 with
      | 0, e => cases e
      | 1, e => cases e
      | i + 2, e =>
        have e' : (List.replicate m Sl.un)[i]? = some (.ow as) := e
        rw [List.getElem?_replicate] at e'
        split at e' <;> cases e'
    · exfalso
      match i, e1 with
      | 0, e => cases e
      | 1, e => cases e
      | i + 2, e =>
        have e' : (List.replicate m Sl.un)[i]? = some (.ow as) := e
        rw [List.getElem?_replicate] at e'
        split at e' <;> cases e'
    · have q' : d = .bl true := q
      subst q'
      rw [show v = V.bl true from r]
      exact k H2
end
end DL

set_option Elab.async false
set_option linter.all false
set_option maxRecDepth 100000
set_option maxHeartbeats 1000000
/-! mathematics of readings by data -/
namespace DL
open PySem L2
theorem dcomp_map {one : D → (Option D → Prop) → Prop} {g : D → D} : ∀ {ds : List D} {k : List D → Prop}, (∀ d ∈ ds, ∀ k, k (some (g d)) → one d k) → k (ds.map g) → dcomp one ds k
  | [], k, _, h => h
  | d :: ds, k, h1, h => h1 d (by simp) _ (dcomp_map (fun e he => h1 e (by simp [he])) h)
theorem dcomp_filter {one : D → (Option D → Prop) → Prop} {f : D → Bool} {g : D → D} : ∀ {ds : List D} {k : List D → Prop}, (∀ d ∈ ds, ∀ k, k (if f d then some (g d) else none) → one d k) → k ((ds.filter f).map g) → dcomp one ds k
  | [], k, _, h => h
  | d :: ds, k, h1, h => h1 d (by simp) _ (dcomp_filter (fun e he => h1 e (by simp [he])) (by
      cases hf : f d with
      | true => simpa [hf] using h
      | false => simpa [hf] using h))
theorem dcomp_any {one : D → (Option D → Prop) → Prop} {P : D → Prop} : ∀ {ds : List D} {k : List D → Prop}, (∀ d ∈ ds, ∀ k : Option D → Prop, (∀ e, P e → k (some e)) → one d k) → (∀ es, es.length = ds.length → (∀ e ∈ es, P e) → k es) → dcomp one ds k
  | [], k, _, h => h [] rfl (by simp)
  | d :: ds, k, h1, h => h1 d (by simp) _ fun e pe => dcomp_any (fun e he => h1 e (by simp [he])) fun es hl hp => h (e :: es) (by simp [hl]) (by
      intro x hx
      rcases List.mem_cons.mp hx with rfl | hx
      · exact pe
      · exact hp x hx)
theorem isBls_map {α : Type} (f : α → Bool) : ∀ xs : List α, isBls (xs.map fun x => D.bl (f x)) = some (xs.map f)
  | [] => rfl
  | x :: xs => by simp [isBls, isBls_map f xs]
theorem fDraw_of {n : Int} {xp : XP} {post : D → Prop} (h1 : 0 < n) (h2 : n.natAbs.log2 < 9000) (h : ∀ r, 0 ≤ r → r < n → post (.int r)) : fDraw [.tok, .int n] xp post := ⟨n, rfl, h1, h2, h⟩
theorem one_yes {i : Nat} {de : DE} {env : SEnv} {d : D} {k : Option D → Prop} (h : de (env.set i (.sh d)) noX fun e => k (some e)) : dOne (dgName i) dYes de env d k := by
  show (if true = true then de (env.set i (.sh d)) noX (fun e => k (some e)) else k none)
  exact iteT h
theorem one_if {i : Nat} {dt : DT} {de : DE} {env : SEnv} {d : D} {b : Bool} {k : Option D → Prop} (ht : ∀ q : Bool → Prop, q b → dt (env.set i (.sh d)) noX q) (h : b = true → de (env.set i (.sh d)) noX fun e => k (some e)) (h0 : b = false → k none) : dOne (dgName i) dt de env d k := by
  refine ht _ ?_
  cases b with
  | true => exact iteT (h rfl)
  | false => exact iteF (h0 rfl)
end DL

set_option Elab.async false
set_option linter.all false
set_option maxRecDepth 100000
set_option maxHeartbeats 4000000
namespace DLlaw
open PySem L2 DL
abbrev Wl : Wc := WcOf (fun _ => none)
abbrev b_is_integer : DS := (dRet (dAndV (dIsi .int (dVar 0)) (dNotV (dIsi .bool (dVar 0)))))
def f_is_integer : DF := runF 1 1 b_is_integer
abbrev b_is_between : DS := (dRet (dAndV (dCall f_is_integer [] (dCons (dVar 0) dNil)) (dChain bLe bLe (dVar 1) (dVar 0) (dVar 2))))
def f_is_between : DF := runF 3 3 b_is_between
abbrev b_is_name : DS := (dSeq (dIfS (dOr (dNot (dTest (dIsi .str (dVar 0)))) (dNot (dTest (dChain bLe bLe (dC (.int 1)) (dCB bLen (dCons (dVar 0) dNil)) (dC (.int 8)))))) (dRet (dC (.bl false))) dNext)
  (dRet (dCB bAll (dCons (dLst (dLc (dSeqS (dVar 0)) (dgName 1) dYes (dChain bLe bLe (dC (.str "a")) (dVar 1) (dC (.str "z"))) [1])) dNil))))
def f_is_name : DF := runF 2 1 b_is_name
abbrev b_is_offset : DS := (dRet (dCall f_is_between [] (dCons (dVar 0) (dCons (dNeg (dC (.int 9))) (dCons (dC (.int 9)) dNil)))))
def f_is_offset : DF := runF 1 1 b_is_offset
abbrev b_is_ref : DS := (dRet (dAndV (dIsi .tuple (dVar 0)) (dAndV (dOp bEq (dCB bLen (dCons (dVar 0) dNil)) (dC (.int 2))) (dAndV (dCall f_is_name [] (dCons (dOp bIx (dVar 0) (dC (.int 0))) dNil)) (dCall f_is_offset [] (dCons (dOp bIx (dVar 0) (dC (.int 1))) dNil))))))
def f_is_ref : DF := runF 1 1 b_is_ref
abbrev f_law_draw : DF := fDraw
abbrev b_law_pick : DS := (dRet (dOp bIx (dVar 1) (dCall f_law_draw [] (dCons (dVar 0) (dCons (dCB bLen (dCons (dVar 1) dNil)) dNil)))))
def f_law_pick : DF := runF 2 2 b_law_pick
abbrev b_law_word : DS := (dSeq (dAsg (dOp bAdd (dC (.str "abcxyz")) (dCall f_law_pick [] (dCons (dVar 0) (dCons (dLst (dFit (dCons (dC (.str "")) (dCons (dC (.str "A")) (dCons (dC (.str "1")) (dCons (dC (.str " ")) (dCons (dC (.str "_")) (dCons (dC (.str "-")) (dCons (dC (.str "@")) dNil))))))))) dNil)))) (dgName 1))
  (dRet (dBM "str" oJoin (dC (.str "")) (dCons (dLst (dLc (dRng1 (dCons (dCall f_law_draw [] (dCons (dVar 0) (dCons (dC (.int 11)) dNil))) dNil)) (dgName 2) dYes (dCall f_law_pick [] (dCons (dVar 0) (dCons (dVar 1) dNil))) [2])) dNil))))
def f_law_word : DF := runF 3 1 b_law_word
abbrev b_law_right : DS := (dSeq (dAsg (dC (.str "abcdefghijklmnopqrstuvwxyz")) (dgName 1))
  (dRet (dAndV (dChain bLe bLe (dC (.int 1)) (dCB bLen (dCons (dVar 0) dNil)) (dC (.int 8))) (dOp bEq (dLst (dLc (dSeqS (dVar 0)) (dgName 2) (dTest (dOp bNotInS (dVar 2) (dVar 1))) (dVar 2) [2])) (dLst (dFit dNil))))))
def f_law_right : DF := runF 3 1 b_law_right
abbrev b_law : DS := (dSeq (dFor (dRng1 (dCons (dC (.int 8)) dNil)) (dgName 2) (dSeq (dPar 4 5 (dCons (dCall f_law_word [] (dCons (dVar 1) dNil)) (dCons (dOp bSub (dCall f_law_draw [] (dCons (dVar 1) (dCons (dC (.int 29)) dNil))) (dC (.int 14))) dNil)))
  (dSeq (dIfS (dTest (dOp bNe (dCB bReprB (dCons (dCall f_is_name [] (dCons (dVar 4) dNil)) dNil)) (dCB bReprB (dCons (dCall f_law_right [] (dCons (dVar 4) dNil)) dNil)))) (dRet (dC (.bl false))) dNext)
  (dSeq (dIfS (dTest (dOp bNe (dCB bReprB (dCons (dCall f_is_ref [] (dCons (dTup (dCons (dVar 4) (dCons (dVar 5) dNil))) dNil)) dNil)) (dCB bReprB (dCons (dAndV (dCall f_law_right [] (dCons (dVar 4) dNil)) (dChain bLe bLe (dNeg (dC (.int 9))) (dVar 5) (dC (.int 9)))) dNil)))) (dRet (dC (.bl false))) dNext)
  (dIfS (dOr (dTest (dCall f_is_ref [] (dCons (dLst (dFit (dCons (dVar 4) (dCons (dVar 5) dNil)))) dNil))) (dOr (dTest (dCall f_is_ref [] (dCons (dTup (dCons (dVar 4) (dCons (dVar 5) (dCons (dVar 5) dNil)))) dNil))) (dOr (dTest (dCall f_is_ref [] (dCons (dTup (dCons (dVar 4) dNil)) dNil))) (dTest (dCall f_is_ref [] (dCons (dTup (dCons (dVar 5) (dCons (dVar 4) dNil))) dNil)))))) (dRet (dC (.bl false))) dNext)))))
  (dSeq (dFor (dSeqL (dLst (dFit (dCons (dC .non) (dCons (dC (.int 3)) (dCons (dC (.bl true)) (dCons (dLst (dFit dNil)) (dCons (dLst (dFit (dCons (dC (.str "a")) dNil))) (dCons (dTup (dCons (dC (.str "a")) dNil)) (dCons (dC .ety) (dCons (dTup (dCons (dC (.str "a")) (dCons (dC (.bl true)) dNil))) (dCons (dTup (dCons (dC (.str "a")) (dCons (dC (.str "1")) dNil))) (dCons (dTup (dCons (dC (.str "a")) (dCons (dC .non) dNil))) (dCons (dTup (dCons (dC (.bl true)) (dCons (dC (.int 1)) dNil))) (dCons (dTup (dCons (dTup dNil) (dCons (dC (.int 0)) dNil))) (dCons (dC (.str "")) dNil)))))))))))))))) (dgName 3) (dIfS (dOr (dTest (dOp bNotB (dCall f_is_name [] (dCons (dVar 3) dNil)) (dC (.bl false)))) (dTest (dOp bNotB (dCall f_is_ref [] (dCons (dVar 3) dNil)) (dC (.bl false))))) (dRet (dC (.bl false))) dNext))
  (dRet (dAndV (dCall f_is_name [] (dCons (dC (.str "abcdefgh")) dNil)) (dAndV (dNotV (dCall f_is_name [] (dCons (dC (.str "abcdefghi")) dNil))) (dAndV (dCall f_is_ref [] (dCons (dTup (dCons (dC (.str "a")) (dCons (dNeg (dC (.int 9))) dNil))) dNil)) (dNotV (dCall f_is_ref [] (dCons (dTup (dCons (dC (.str "a")) (dCons (dC (.int 10)) dNil))) dNil)))))))))
def isInt : D → Bool
  | .int _ => true
  | _ => false
def isIn (lo hi : Int) : D → Bool
  | .int i => decide (lo ≤ i) && decide (i ≤ hi)
  | _ => false
/-- the values that a caller may hand in -/
def fine : D → Prop
  | .str z => z.length ≤ 100000
  | .obj _ _ => False
  | .tok => False
  | _ => True
theorem fine_ty {d : D} (h : fine d) : ∃ n, tyN d = some n := by
  cases d <;> first | exact h.elim | exact ⟨_, rfl⟩
theorem isi_D {T : Ty} {da : DE} {env : SEnv} {xp : XP} {post : D → Prop} {d : D} (h : fine d) (hd : ∀ q : D → Prop, q d → da env xp q) (k : post (.bl (isTy T d))) : dIsi T da env xp post := hd _ ⟨fine_ty h, k⟩
theorem is_integer_D {d : D} {xp : XP} {post : D → Prop} (h : fine d) (k : post (.bl (isInt d))) : f_is_integer [d] xp post := by
  obtain ⟨n, hn⟩ := fine_ty h
  refine ⟨rfl, ?_⟩
  cases d <;> first | exact h.elim | (simp [dVar, dC, dOp, dTest, dChain, dAnd, dOr, dNot, dAndV, dOrV, dNotV, dIf, dNil, dCons, dFit, dLst, dTup, dCB, dCall, dSeqL, dSeqT, dSeqS, dRng1, dRng2, dgName, dgNil, dgCons, dgTup, wipeE, dOne, dLc, dYes, dNext, dSeq, dBreak, dCont, dRet, dRetN, dDrop, dIfS, dAsg, dPar, dFor, dforL, dNeg, dIsi, isTy, tyN, bAdd, bSub, bMod, bDiv, bMulI, bPow, bLt, bLe, bGt, bGe, bLen, bAll, bAny, bIntOf, bReprB, bIsB, bNotB, bInS, bNotInS, bIx, dBM, tyD, oJoin, runF, isInt] at k ⊢; exact k)
theorem chainI {da db dc : DE} {env : SEnv} {xp : XP} {lo i hi : Int} {post : D → Prop} (ha : ∀ q : D → Prop, q (.int lo) → da env xp q) (hb : ∀ q : D → Prop, q (.int i) → db env xp q) (hc : ∀ q : D → Prop, q (.int hi) → dc env xp q) (k : post (.bl (decide (lo ≤ i) && decide (i ≤ hi)))) : dChain bLe bLe da db dc env xp post := by
  refine ha _ (hb _ ?_)
  show (fun z => match z with | D.bl true => _ | D.bl false => _ | _ => _ : D → Prop) (.bl (decide (lo ≤ i)))
  cases h : decide (lo ≤ i) with
  | true => rw [h, Bool.true_and] at k; exact hc _ k
  | false => rw [h, Bool.false_and] at k; exact k
theorem chainB {o o' : D → D → (D → Prop) → Prop} {da db dc : DE} {env : SEnv} {xp : XP} {x y z : D} {b1 b2 : Bool} {post : D → Prop} (ha : ∀ q : D → Prop, q x → da env xp q) (hb : ∀ q : D → Prop, q y → db env xp q) (hc : ∀ q : D → Prop, q z → dc env xp q)
    (h1 : ∀ q : D → Prop, q (.bl b1) → o x y q) (h2 : ∀ q : D → Prop, q (.bl b2) → o' y z q) (k : post (.bl (b1 && b2))) : dChain o o' da db dc env xp post := by
  refine ha _ (hb _ (h1 _ ?_))
  cases b1 with
  | true => exact hc _ (h2 _ k)
  | false => exact k
theorem andV {da db : DE} {env : SEnv} {xp : XP} {b1 : Bool} {post : D → Prop} (ha : ∀ q : D → Prop, q (.bl b1) → da env xp q) (h1 : b1 = true → db env xp post) (h0 : b1 = false → post (.bl false)) : dAndV da db env xp post := by
  refine ha _ ?_
  cases b1 with
  | true => exact h1 rfl
  | false => exact h0 rfl
theorem idq {d : D} : ∀ q : D → Prop, q d → q d := fun _ h => h
theorem is_between_D {d : D} {lo hi : Int} {xp : XP} {post : D → Prop} (h : fine d) (k : post (.bl (isIn lo hi d))) : f_is_between [d, .int lo, .int hi] xp post := by
  refine ⟨rfl, is_integer_D h ?_⟩
  cases d with
  | int i => exact chainI idq idq idq k
  | _ => first | exact h.elim | exact k
theorem is_offset_D {d : D} {xp : XP} {post : D → Prop} (h : fine d) (k : post (.bl (isIn (-9) 9 d))) : f_is_offset [d] xp post := ⟨rfl, is_between_D h k⟩
/-- a letter from a to z -/
def isLet (c : Nat) : Bool := decide (97 ≤ c) && decide (c ≤ 122)
def isNm : D → Bool
  | .str z => decide (1 ≤ z.length) && decide (z.length ≤ 8) && z.cps.toList.all isLet
  | _ => false
theorem lt_one (a b : Nat) : decide (([a] : List Nat) < [b]) = decide (a < b) := by
  by_cases h : a < b
  · rw [decide_eq_true h]
    exact decide_eq_true (List.Lex.rel h)
  · rw [decide_eq_false h]
    refine decide_eq_false fun z => ?_
    cases z with
    | rel z => exact h z
    | cons z => cases z
theorem let_a (c : Nat) : (!decide ((⟨#[c]⟩ : Str).cps.toList < (Str.ofString "a").cps.toList)) = decide (97 ≤ c) := by
  have e : (Str.ofString "a").cps.toList = [97] := by decide +kernel
  show (!decide (([c] : List Nat) < _)) = _
  rw [e, lt_one]
  by_cases h : c < 97
  · rw [decide_eq_true h, decide_eq_false (by omega)]; rfl
  · rw [decide_eq_false h, decide_eq_true (by omega)]; rfl
theorem let_z (c : Nat) : (!decide ((Str.ofString "z").cps.toList < (⟨#[c]⟩ : Str).cps.toList)) = decide (c ≤ 122) := by
  have e : (Str.ofString "z").cps.toList = [122] := by decide +kernel
  show (!decide (_ < ([c] : List Nat))) = _
  rw [e, lt_one]
  by_cases h : 122 < c
  · rw [decide_eq_true h, decide_eq_false (by omega)]; rfl
  · rw [decide_eq_false h, decide_eq_true (by omega)]; rfl
theorem bLe_a {c : Nat} {post : D → Prop} (k : post (.bl (decide (97 ≤ c)))) : bLe (.str (Str.ofString "a")) (.str ⟨#[c]⟩) post := by
  show post (.bl (!decide (_ < _)))
  rw [let_a]
  exact k
theorem bLe_z {c : Nat} {post : D → Prop} (k : post (.bl (decide (c ≤ 122)))) : bLe (.str ⟨#[c]⟩) (.str (Str.ofString "z")) post := by
  show post (.bl (!decide (_ < _)))
  rw [let_z]
  exact k
def letD : D → Bool
  | .str x => match x.cps.toList with
    | [c] => isLet c
    | _ => false
  | _ => false
theorem is_name_D {d : D} {xp : XP} {post : D → Prop} (h : fine d) (k : post (.bl (isNm d))) : f_is_name [d] xp post := by
  refine ⟨rfl, ?_⟩
  cases d with
  | str z =>
    have hz : z.length ≤ 100000 := h
    refine ⟨⟨_, rfl⟩, iteF ?_⟩
    refine chainI (i := z.length) (lo := 1) (hi := 8) idq (fun q h => ⟨hz, h⟩) idq ?_
    by_cases hl : 1 ≤ (z.length : Int) ∧ (z.length : Int) ≤ 8
    · have e : (decide ((1 : Int) ≤ z.length) && decide ((z.length : Int) ≤ 8)) = true := by simp [hl]
      rw [e]
      refine iteF ?_
      refine ⟨by rw [List.length_map, Array.length_toList]; show z.length < 100000; omega, ?_⟩
      refine dcomp_map (g := fun d => .bl (letD d)) (fun d hd k => ?_) ?_
      · obtain ⟨c, _, rfl⟩ := List.mem_map.mp hd
        intro k
        exact one_yes (chainB (b1 := decide (97 ≤ c)) (b2 := decide (c ≤ 122)) idq idq idq (fun q h => bLe_a h) (fun q h => bLe_z h) k)
      · refine ⟨_, by rw [List.map_map]; exact isBls_map _ _, ?_⟩
        have e3 : (List.map (letD ∘ fun c => D.str ⟨#[c]⟩) z.cps.toList).all id = z.cps.toList.all isLet := by
          rw [List.all_map]
          rfl
        have e4 : isNm (.str z) = z.cps.toList.all isLet := by
          show (decide (1 ≤ z.length) && decide (z.length ≤ 8) && _) = _
          rw [decide_eq_true (by omega), decide_eq_true (by omega), Bool.true_and, Bool.true_and]
        show post (.bl _)
        rw [e4] at k
        first | exact e3 ▸ k | (rw [e3]; exact k)
    · have e : (decide ((1 : Int) ≤ z.length) && decide ((z.length : Int) ≤ 8)) = false := by
        rw [Bool.and_eq_false_iff, decide_eq_false_iff_not, decide_eq_false_iff_not]
        omega
      rw [e]
      refine iteT ?_
      have e4 : isNm (.str z) = false := by
        show (decide (1 ≤ z.length) && decide (z.length ≤ 8) && _) = false
        by_cases h1 : 1 ≤ z.length
        · rw [decide_eq_false (by omega : ¬ z.length ≤ 8), Bool.and_false, Bool.false_and]
        · rw [decide_eq_false h1, Bool.false_and, Bool.false_and]
      rw [e4] at k
      exact k
  | _ => first | exact h.elim | exact ⟨⟨_, rfl⟩, iteT k⟩
def isRf : D → Bool
  | .tup [n, o] => isNm n && isIn (-9) 9 o
  | _ => false
theorem is_ref_D {d : D} {xp : XP} {post : D → Prop} (h : fine d) (h2 : ∀ ds, d = .tup ds → ∀ e ∈ ds, fine e) (k : post (.bl (isRf d))) : f_is_ref [d] xp post := by
  refine ⟨rfl, ?_⟩
  cases d with
  | tup ds =>
    refine andV (b1 := true) (fun q h => ⟨⟨_, rfl⟩, h⟩) (fun _ => ?_) nofun
    refine andV (b1 := eqD (.int (ds.length : Nat)) (.int 2)) (fun q h => ⟨⟨rfl, rfl⟩, ⟨rfl, rfl⟩, h⟩) (fun e => ?_) (fun e => ?_)
    · have e2 : (ds.length : Int) = 2 := by
        have e' : ((ds.length : Int) == 2) = true := e
        exact beq_iff_eq.mp e'
      match ds, h2 ds rfl, k, e2 with
      | [n, o], hf, k, _ =>
        have k' : post (.bl (isNm n && isIn (-9) 9 o)) := k
        refine andV (b1 := isNm n) (fun q h => ⟨n, rfl, is_name_D (hf n (by simp)) h⟩) (fun hn => ?_) (fun hn => ?_)
        · rw [hn, Bool.true_and] at k'
          exact ⟨o, rfl, is_offset_D (hf o (by simp)) k'⟩
        · rw [hn, Bool.false_and] at k'
          exact k'
    · have e2 : (ds.length : Int) ≠ 2 := by
        have e' : ((ds.length : Int) == 2) = false := e
        exact beq_eq_false_iff_ne.mp e'
      match ds, k, e2 with
      | [], k, _ => exact k
      | [_], k, _ => exact k
      | a :: b :: c :: r, k, _ => exact k
      | [a, b], _, e2 => exact absurd rfl e2
  | _ => first | exact h.elim | exact ⟨⟨_, rfl⟩, k⟩
theorem atI_mem {ds : List D} {r : Int} (h0 : 0 ≤ r) (h1 : r < (ds.length : Nat)) : ∃ d, d ∈ ds ∧ atI ds r = some d := by
  have hl : r.toNat < ds.length := by omega
  refine ⟨ds[r.toNat], List.getElem_mem hl, ?_⟩
  unfold atI ixN
  rw [if_pos h0, if_pos h1]
  simp [hl]
theorem log2_small {n : Int} (h0 : 0 < n) (h : n ≤ 100000) : n.natAbs.log2 < 9000 := by
  have h1 : n.natAbs ≤ 100000 := by omega
  have h2 : n.natAbs.log2 ≤ n.natAbs := Nat.log2_le_self _
  have h3 : n.natAbs < 2 ^ 17 := by omega
  have h4 := (Nat.log2_lt (by omega : n.natAbs ≠ 0)).mpr h3
  omega
theorem pick_lst {ds : List D} {xp : XP} {post : D → Prop} (h0 : 0 < ds.length) (hl : ds.length ≤ 100000) (h : ∀ d ∈ ds, post d) : f_law_pick [.tok, .lst ds] xp post := by
  refine ⟨rfl, ?_⟩
  refine ⟨(ds.length : Nat), rfl, by omega, log2_small (by omega) (by omega), fun r h1 h2 => ?_⟩
  obtain ⟨d, hd, e⟩ := atI_mem h1 h2
  exact ⟨d, e, h d hd⟩
theorem atI_memS {cs : List Nat} {r : Int} (h0 : 0 ≤ r) (h1 : r < (cs.length : Nat)) : ∃ d, d ∈ cs ∧ atI cs r = some d := by
  have hl : r.toNat < cs.length := by omega
  refine ⟨cs[r.toNat], List.getElem_mem hl, ?_⟩
  unfold atI ixN
  rw [if_pos h0, if_pos h1]
  simp [hl]
theorem pick_str {z : Str} {xp : XP} {post : D → Prop} (h0 : 0 < z.length) (hl : z.length ≤ 100000) (h : ∀ c ∈ z.cps.toList, post (.str ⟨#[c]⟩)) : f_law_pick [.tok, .str z] xp post := by
  refine ⟨rfl, hl, ?_⟩
  refine ⟨(z.length : Nat), rfl, by omega, log2_small (by omega) (by omega), fun r h1 h2 => ?_⟩
  have e : z.cps.toList.length = z.length := Array.length_toList
  obtain ⟨c, hc, e⟩ := atI_memS (cs := z.cps.toList) h1 (by omega)
  exact ⟨hl, c, e, h c hc⟩
theorem join_len : ∀ ys : List Str, (Txt.join (Str.ofString "") ys).length = (ys.map fun x => x.length).sum := by
  intro ys
  rw [TL.join_eq]
  induction ys with
  | nil => rfl
  | cons y r ih =>
    cases r with
    | nil => show y.length = y.length + 0; rfl
    | cons z r =>
      have e : Str.join (Str.ofString "") (y :: z :: r) = y ++ Str.ofString "" ++ Str.join (Str.ofString "") (z :: r) := rfl
      have e3 : (Str.ofString "").length = 0 := rfl
      show _ = y.length + (List.map (fun x : Str => x.length) (z :: r)).sum
      rw [e, Str.length_append, Str.length_append, ih, e3]
      omega
/-- signs that a text may have -/
def okC (c : Nat) : Bool := decide (c < 0x110000)
theorem word_D {xp : XP} {post : D → Prop} (h : ∀ w : Str, w.length ≤ 10 → w.cps.toList.all okC = true → post (.str w)) : f_law_word [.tok] xp post := by
  refine ⟨rfl, ?_⟩
  refine ⟨by decide, ?_⟩
  refine pick_lst (by decide) (by decide) fun d hd => ?_
  obtain ⟨s, rfl, hs, e7, hok⟩ : ∃ s : Str, d = .str s ∧ s.length ≤ 1 ∧ (0 < (Str.ofString "abcxyz" ++ s).length ∧ (Str.ofString "abcxyz" ++ s).length ≤ 7) ∧ (Str.ofString "abcxyz" ++ s).cps.toList.all okC = true := by
    simp only [List.mem_cons, List.not_mem_nil, or_false] at hd
    rcases hd with rfl | rfl | rfl | rfl | rfl | rfl | rfl <;> exact ⟨_, rfl, by decide +kernel, by decide +kernel, by decide +kernel⟩
  have e6 : (Str.ofString "abcxyz").length = 6 := by decide +kernel
  refine ⟨by rw [e6]; omega, ?_⟩
  refine ⟨rfl, ?_⟩
  refine ⟨11, rfl, by decide, by decide, fun r h1 h2 => ?_⟩
  refine ⟨by omega, by omega, by rw [rangeD_len]; omega, ?_⟩
  refine dcomp_any (P := fun e => ∃ c, e = .str ⟨#[c]⟩ ∧ okC c = true) (fun d hd k hk => one_yes (pick_str e7.1 (by omega) fun c hc => hk _ ⟨c, rfl, (List.all_eq_true.mp hok) c hc⟩)) fun es hl hp => ?_
  obtain ⟨ys, hy, h3, h4⟩ : ∃ ys : List Str, isStrs es = some ys ∧ (ys.map fun x => x.length).sum = es.length ∧ (Txt.join (Str.ofString "") ys).cps.toList.all okC = true := by
    clear hl
    rw [show (fun ys : List Str => isStrs es = some ys ∧ (ys.map fun x => x.length).sum = es.length ∧ (Txt.join (Str.ofString "") ys).cps.toList.all okC = true) = fun ys : List Str => isStrs es = some ys ∧ (ys.map fun x => x.length).sum = es.length ∧ (Str.join (Str.ofString "") ys).cps.toList.all okC = true from funext fun ys => by rw [TL.join_eq]]
    induction es with
    | nil => exact ⟨[], rfl, rfl, rfl⟩
    | cons e es ih =>
      obtain ⟨c, rfl, hc⟩ := hp e (by simp)
      obtain ⟨ys, h1, h2, h4⟩ := ih fun e he => hp e (by simp [he])
      refine ⟨⟨#[c]⟩ :: ys, by simp [isStrs, h1], ?_, ?_⟩
      · rw [List.map_cons, List.sum_cons, h2, List.length_cons]
        show 1 + _ = _
        omega
      · cases ys with
        | nil => show (okC c && true) = true; rw [hc]; rfl
        | cons z r =>
          have e : Str.join (Str.ofString "") (⟨#[c]⟩ :: z :: r) = (⟨#[c]⟩ : Str) ++ Str.ofString "" ++ Str.join (Str.ofString "") (z :: r) := rfl
          have e2 : (Str.join (Str.ofString "") (⟨#[c]⟩ :: z :: r)).cps.toList = c :: (Str.join (Str.ofString "") (z :: r)).cps.toList := by
            rw [e]
            show ((#[c] ++ #[]) ++ (Str.join (Str.ofString "") (z :: r)).cps).toList = _
            simp
          rw [e2, List.all_cons, hc, h4]
          rfl
  rw [rangeD_len] at hl
  refine ⟨ys, hy, ?_, ?_⟩
  · have : (Str.ofString "").length = 0 := rfl
    rw [h3, this]
    omega
  · refine h _ ?_ h4
    rw [join_len, h3]
    omega
/-! the law's own reading of a name -/
theorem in_letters (c : Nat) : decide (c ∈ (Str.ofString "abcdefghijklmnopqrstuvwxyz").cps.toList) = isLet c := by
  have e : (Str.ofString "abcdefghijklmnopqrstuvwxyz").cps.toList = [97, 98, 99, 100, 101, 102, 103, 104, 105, 106, 107, 108, 109, 110, 111, 112, 113, 114, 115, 116, 117, 118, 119, 120, 121, 122] := by decide +kernel
  rw [e]
  unfold isLet
  rw [Bool.eq_iff_iff, Bool.and_eq_true, decide_eq_true_eq, decide_eq_true_eq, decide_eq_true_eq]
  simp only [List.mem_cons, List.not_mem_nil, or_false]
  omega
theorem strs_ok : ∀ {es : List D}, (∀ e ∈ es, ∃ c, e = .str ⟨#[c]⟩ ∧ okC c = true) → isPyA es = true ∧ PyData.canLayAll0 (toPyA es) = true ∧ PyData.depthAll (toPyA es) = 0
  | [], _ => ⟨rfl, rfl, rfl⟩
  | e :: es, h => by
    obtain ⟨c, rfl, hc⟩ := h e (by simp)
    obtain ⟨h1, h2, h3⟩ := strs_ok (es := es) fun e he => h e (by simp [he])
    refine ⟨by simp [isPyA, isPy, h1], ?_, ?_⟩
    · have e : PyData.canLay0 (.str ⟨#[c]⟩) = true := by
        show PyData.strOk ⟨#[c]⟩ = true
        unfold PyData.strOk
        simpa [okC] using hc
      simp [toPyA, toPy, PyData.canLayAll0, e, h2]
    · simp [toPyA, toPy, PyData.depthAll, PyData.depth, h3]
theorem pyOk_strs {es : List D} (h : ∀ e ∈ es, ∃ c, e = .str ⟨#[c]⟩ ∧ okC c = true) : pyOk (.lst es) := by
  obtain ⟨h1, h2, h3⟩ := strs_ok h
  refine ⟨by simp [isPy, h1], ?_⟩
  unfold SeqAt.shaped
  simp [toPy, PyData.canLay0, PyData.depth, h2, h3]
theorem eqv_nil (es : List PyData) : PyData.eqvAll es [] = es.isEmpty := by cases es <;> rfl
theorem right_D {z : Str} {xp : XP} {post : D → Prop} (hz : z.length < 100000) (hok : z.cps.toList.all okC = true) (k : post (.bl (isNm (.str z)))) : f_law_right [.str z] xp post := by
  refine ⟨rfl, ?_⟩
  have hchain : ∀ q : D → Prop, q (.bl (decide ((1 : Int) ≤ z.length) && decide ((z.length : Int) ≤ 8))) → dChain bLe bLe (dC (.int 1)) (dCB bLen (dCons (dVar 0) dNil)) (dC (.int 8)) [.sh (.str z), .sh (.str "abcdefghijklmnopqrstuvwxyz"), .un] xp q :=
    fun q h => chainI (i := z.length) (lo := 1) (hi := 8) idq (fun q h => ⟨by omega, h⟩) idq h
  refine andV (b1 := decide ((1 : Int) ≤ z.length) && decide ((z.length : Int) ≤ 8)) hchain (fun e => ?_) (fun e => ?_)
  · have e4 : isNm (.str z) = z.cps.toList.all isLet := by
      rw [Bool.and_eq_true, decide_eq_true_eq, decide_eq_true_eq] at e
      show (decide (1 ≤ z.length) && decide (z.length ≤ 8) && _) = _
      rw [decide_eq_true (by omega), decide_eq_true (by omega), Bool.true_and, Bool.true_and]
    refine ⟨by rw [List.length_map, Array.length_toList]; exact hz, ?_⟩
    refine dcomp_filter (f := fun d => !letD d) (g := id) (fun d hd k hk => ?_) ?_
    · obtain ⟨c, _, rfl⟩ := List.mem_map.mp hd
      have e5 : letD (.str ⟨#[c]⟩) = isLet c := rfl
      refine one_if (b := !isLet c) (fun q h => ⟨c, rfl, ?_⟩) (fun hb => ?_) (fun hb => ?_)
      · rw [in_letters]
        exact h
      · rw [e5, if_pos hb] at hk
        exact hk
      · rw [e5, if_neg (by rw [hb]; decide)] at hk
        exact hk
    · rw [List.map_id]
      have hes : ∀ e ∈ List.filter (fun d => !letD d) (z.cps.toList.map fun c => D.str ⟨#[c]⟩), ∃ c, e = .str ⟨#[c]⟩ ∧ okC c = true := by
        intro e he
        obtain ⟨c, hc, rfl⟩ := List.mem_map.mp (List.mem_filter.mp he).1
        exact ⟨c, rfl, (List.all_eq_true.mp hok) c hc⟩
      refine ⟨by decide, pyOk_strs hes, ⟨rfl, rfl⟩, ?_⟩
      have e6 : eqD (.lst (List.filter (fun d => !letD d) (z.cps.toList.map fun c => D.str ⟨#[c]⟩))) (.lst []) = z.cps.toList.all isLet := by
        show PyData.eqvAll (toPyA _) [] = _
        rw [eqv_nil]
        have e7 : ∀ ds : List D, (toPyA ds).isEmpty = ds.isEmpty := fun ds => by cases ds <;> rfl
        rw [e7, Bool.eq_iff_iff, List.isEmpty_iff, List.filter_eq_nil_iff, List.all_eq_true]
        constructor
        · intro h c hc
          have := h (.str ⟨#[c]⟩) (List.mem_map.mpr ⟨c, hc, rfl⟩)
          simpa [letD] using this
        · intro h d hd
          obtain ⟨c, hc, rfl⟩ := List.mem_map.mp hd
          have := h c hc
          simp [letD, this]
      rw [e6, ← e4]
      exact k
  · have e4 : isNm (.str z) = false := by
      rw [Bool.and_eq_false_iff, decide_eq_false_iff_not, decide_eq_false_iff_not] at e
      show (decide (1 ≤ z.length) && decide (z.length ≤ 8) && _) = false
      by_cases h1 : 1 ≤ z.length
      · rw [decide_eq_false (by omega : ¬ z.length ≤ 8), Bool.and_false, Bool.false_and]
      · rw [decide_eq_false h1, Bool.false_and, Bool.false_and]
    rw [e4] at k
    exact k

/-! the law -/
def lawRest2 : DS := (dSeq (dIfS (dTest (dOp bNe (dCB bReprB (dCons (dCall f_is_ref [] (dCons (dTup (dCons (dVar 4) (dCons (dVar 5) dNil))) dNil)) dNil)) (dCB bReprB (dCons (dAndV (dCall f_law_right [] (dCons (dVar 4) dNil)) (dChain bLe bLe (dNeg (dC (.int 9))) (dVar 5) (dC (.int 9)))) dNil)))) (dRet (dC (.bl false))) dNext)
  (dIfS (dOr (dTest (dCall f_is_ref [] (dCons (dLst (dFit (dCons (dVar 4) (dCons (dVar 5) dNil)))) dNil))) (dOr (dTest (dCall f_is_ref [] (dCons (dTup (dCons (dVar 4) (dCons (dVar 5) (dCons (dVar 5) dNil)))) dNil))) (dOr (dTest (dCall f_is_ref [] (dCons (dTup (dCons (dVar 4) dNil)) dNil))) (dTest (dCall f_is_ref [] (dCons (dTup (dCons (dVar 5) (dCons (dVar 4) dNil))) dNil)))))) (dRet (dC (.bl false))) dNext))
def lawRest : DS := (dSeq (dIfS (dTest (dOp bNe (dCB bReprB (dCons (dCall f_is_name [] (dCons (dVar 4) dNil)) dNil)) (dCB bReprB (dCons (dCall f_law_right [] (dCons (dVar 4) dNil)) dNil)))) (dRet (dC (.bl false))) dNext)
  (dSeq (dIfS (dTest (dOp bNe (dCB bReprB (dCons (dCall f_is_ref [] (dCons (dTup (dCons (dVar 4) (dCons (dVar 5) dNil))) dNil)) dNil)) (dCB bReprB (dCons (dAndV (dCall f_law_right [] (dCons (dVar 4) dNil)) (dChain bLe bLe (dNeg (dC (.int 9))) (dVar 5) (dC (.int 9)))) dNil)))) (dRet (dC (.bl false))) dNext)
  (dIfS (dOr (dTest (dCall f_is_ref [] (dCons (dLst (dFit (dCons (dVar 4) (dCons (dVar 5) dNil)))) dNil))) (dOr (dTest (dCall f_is_ref [] (dCons (dTup (dCons (dVar 4) (dCons (dVar 5) (dCons (dVar 5) dNil)))) dNil))) (dOr (dTest (dCall f_is_ref [] (dCons (dTup (dCons (dVar 4) dNil)) dNil))) (dTest (dCall f_is_ref [] (dCons (dTup (dCons (dVar 5) (dCons (dVar 4) dNil))) dNil)))))) (dRet (dC (.bl false))) dNext)))
abbrev lawPar : DS := (dPar 4 5 (dCons (dCall f_law_word [] (dCons (dVar 1) dNil)) (dCons (dOp bSub (dCall f_law_draw [] (dCons (dVar 1) (dCons (dC (.int 29)) dNil))) (dC (.int 14))) dNil)))
abbrev lawBody : DS := dSeq lawPar lawRest
def rep (b : Bool) : Str := if b then "True" else "False"
theorem rep_ne (b : Bool) : eqD (.str (rep b)) (.str (rep b)) = true := by cases b <;> decide +kernel
theorem rep_ok (b : Bool) : pyOk (.str (rep b)) := by cases b <;> exact ⟨rfl, by decide +kernel⟩
theorem nextOf {D1 : DEnds} {xp : XP} {env : SEnv} (h : D1.nx env) : dNext D1 xp env := h
/-- two equal truths have one repr -/
theorem noDiff {da db : DE} {env : SEnv} {xp : XP} {b : Bool} {post : Bool → Prop} (ha : ∀ q : D → Prop, q (.bl b) → da env xp q) (hb : ∀ q : D → Prop, q (.bl b) → db env xp q) (k : post false) : dTest (dOp bNe (dCB bReprB (dCons da dNil)) (dCB bReprB (dCons db dNil))) env xp post := by
  refine ha _ (hb _ ⟨rep_ok b, rep_ok b, ?_⟩)
  show post (!(eqD (.str (rep b)) (.str (rep b))))
  rw [rep_ne]
  exact k
theorem rest2_D {DD : DEnds} {a b : Sl} {w : Str} {r : Int} (hw : w.length ≤ 10) (hok : w.cps.toList.all okC = true) (k : DD.nx [.un, .sh .tok, a, b, .sh (.str w), .sh (.int (r - 14))]) : lawRest2 DD noX [.un, .sh .tok, a, b, .sh (.str w), .sh (.int (r - 14))] := by
  have fw : fine (.str w) := by show w.length ≤ 100000; omega
  have hwz : w.length < 100000 := by omega
  have href : ∀ q : D → Prop, q (.bl (isNm (.str w) && isIn (-9) 9 (.int (r - 14)))) → f_is_ref [.tup [.str w, .int (r - 14)]] noX q := fun q h =>
    is_ref_D trivial (fun ds e e' he => by
      cases e
      simp only [List.mem_cons, List.not_mem_nil, or_false] at he
      rcases he with rfl | rfl
      · exact fw
      · trivial) h
  refine noDiff (b := isNm (.str w) && isIn (-9) 9 (.int (r - 14))) ?n4 ?n5 ?n6
  case n4 => exact fun q h => ⟨Nat.le_of_ble_eq_true rfl, href q h⟩
  case n5 =>
    intro q h
    refine andV (b1 := isNm (.str w)) (fun q h => right_D hwz hok h) (fun e => ?_) (fun e => ?_)
    · rw [e, Bool.true_and] at h
      exact chainI idq idq idq h
    · rw [e, Bool.false_and] at h
      exact h
  case n6 =>
    have f2 : ∀ ds : List D, (∀ e ∈ ds, e = .str w ∨ e = .int (r - 14)) → ∀ ds', D.tup ds = .tup ds' → ∀ e ∈ ds', fine e := fun ds h ds' e e' he => by
      cases e
      rcases h e' he with rfl | rfl
      · exact fw
      · trivial
    refine iteF ?_
    refine ⟨Nat.le_of_ble_eq_true rfl, is_ref_D trivial nofun ?_⟩
    refine iteF ?_
    refine ⟨Nat.le_of_ble_eq_true rfl, is_ref_D trivial (f2 _ (by simp)) ?_⟩
    refine iteF ?_
    refine ⟨Nat.le_of_ble_eq_true rfl, is_ref_D trivial (f2 _ (by simp)) ?_⟩
    refine iteF ?_
    refine ⟨Nat.le_of_ble_eq_true rfl, is_ref_D trivial (f2 _ (by simp)) ?_⟩
    have e : isRf (.tup [.int (r - 14), .str w]) = false := rfl
    rw [e]
    exact iteF k
theorem rest_D {DD : DEnds} {a b : Sl} {w : Str} {r : Int} (hw : w.length ≤ 10) (hok : w.cps.toList.all okC = true) (k : DD.nx [.un, .sh .tok, a, b, .sh (.str w), .sh (.int (r - 14))]) : lawRest DD noX [.un, .sh .tok, a, b, .sh (.str w), .sh (.int (r - 14))] := by
  have fw : fine (.str w) := by show w.length ≤ 100000; omega
  have hwz : w.length < 100000 := by omega
  refine noDiff (b := isNm (.str w)) ?n1 ?n2 ?n3
  case n1 => exact fun q h => is_name_D fw h
  case n2 => exact fun q h => right_D hwz hok h
  exact iteF (rest2_D hw hok k)
theorem turn_D {DD : DEnds} {a b c d : Sl} (k : ∀ c d, DD.nx [.un, .sh .tok, a, b, c, d]) : lawBody DD noX [.un, .sh .tok, a, b, c, d] := by
  refine word_D fun w hw hok => ?_
  exact ⟨29, rfl, by decide, by decide, fun r h1 h2 => rest_D hw hok (k _ _)⟩
theorem turns_D {DD : DEnds} : ∀ (ds : List D) (a b c d : Sl), (∀ a b c d, DD.nx [.un, .sh .tok, a, b, c, d]) → dforL (dgName 2) lawBody ds DD noX [.un, .sh .tok, a, b, c, d]
  | [], a, b, c, d, k => k a b c d
  | x :: ds, a, b, c, d, k => turn_D fun c d => turns_D ds _ _ _ _ k
def oddBody : DS := (dIfS (dOr (dTest (dOp bNotB (dCall f_is_name [] (dCons (dVar 3) dNil)) (dC (.bl false)))) (dTest (dOp bNotB (dCall f_is_ref [] (dCons (dVar 3) dNil)) (dC (.bl false))))) (dRet (dC (.bl false))) dNext)
def odds : List D := [.non, .int 3, .bl true, .lst [], .lst [.str "a"], .tup [.str "a"], .ety, .tup [.str "a", .bl true], .tup [.str "a", .str "1"], .tup [.str "a", .non], .tup [.bl true, .int 1], .tup [.tup [], .int 0], .str ""]
def fineB : D → Bool
  | .str z => decide (z.length ≤ 100000)
  | .obj _ _ => false
  | .tok => false
  | _ => true
def tupB : D → Bool
  | .tup ds => ds.all fineB
  | _ => true
theorem fine_of {d : D} (h : fineB d = true) : fine d := by
  cases d with
  | str z => exact (of_decide_eq_true (p := z.length ≤ 100000) h : z.length ≤ 100000)
  | obj c fs => exact absurd (show false = true from h) Bool.false_ne_true
  | tok => exact absurd (show false = true from h) Bool.false_ne_true
  | _ => trivial
theorem tup_of {d : D} (h : tupB d = true) : ∀ ds, d = .tup ds → ∀ e ∈ ds, fine e := fun ds e e' he => by
  subst e
  exact fine_of (List.all_eq_true.mp h e' he)
theorem isNotF {da : DE} {env : SEnv} {xp : XP} {post : Bool → Prop} (ha : ∀ q : D → Prop, q (.bl false) → da env xp q) (k : post false) : dTest (dOp bNotB da (dC (.bl false))) env xp post := ha _ k
theorem odds_ok : odds.all (fun d => fineB d && tupB d && !isNm d && !isRf d) = true := by decide +kernel
theorem odd_D {DD : DEnds} : ∀ (ds : List D) (a b c d : Sl), (∀ d ∈ ds, d ∈ odds) → (∀ b, DD.nx [.un, .sh .tok, a, b, c, d]) → dforL (dgName 3) oddBody ds DD noX [.un, .sh .tok, a, b, c, d]
  | [], a, b, c, d, _, k => k b
  | x :: ds, a, b, c, d, h, k => by
    have hx := List.all_eq_true.mp odds_ok x (h x (by simp))
    simp only [Bool.and_eq_true, Bool.not_eq_true'] at hx
    obtain ⟨⟨⟨f1, f2⟩, e1⟩, e2⟩ := hx
    refine isNotF ?o1 ?_
    case o1 => exact fun q h => is_name_D (fine_of f1) (by rw [e1]; exact h)
    refine iteF ?_
    refine isNotF ?o2 ?_
    case o2 => exact fun q h => is_ref_D (fine_of f1) (tup_of f2) (by rw [e2]; exact h)
    refine iteF ?_
    exact odd_D ds _ _ _ _ (fun d hd => h d (by simp [hd])) k
theorem law_end {env : SEnv} : (dAndV (dCall f_is_name [] (dCons (dC (.str "abcdefgh")) dNil)) (dAndV (dNotV (dCall f_is_name [] (dCons (dC (.str "abcdefghi")) dNil))) (dAndV (dCall f_is_ref [] (dCons (dTup (dCons (dC (.str "a")) (dCons (dNeg (dC (.int 9))) dNil))) dNil)) (dNotV (dCall f_is_ref [] (dCons (dTup (dCons (dC (.str "a")) (dCons (dC (.int 10)) dNil))) dNil)))))) env noX (fun d => d = .bl true) := by
  refine andV (b1 := true) ?a1 (fun _ => ?_) nofun
  case a1 =>
    intro q h
    refine is_name_D (d := .str "abcdefgh") (fine_of (by decide +kernel)) ?_
    rw [show isNm (.str "abcdefgh") = true by decide +kernel]
    exact h
  refine andV (b1 := true) ?a2 (fun _ => ?_) nofun
  case a2 =>
    intro q h
    refine is_name_D (d := .str "abcdefghi") (fine_of (by decide +kernel)) ?_
    rw [show isNm (.str "abcdefghi") = false by decide +kernel]
    exact h
  refine andV (b1 := true) ?a3 (fun _ => ?_) nofun
  case a3 =>
    intro q h
    refine ⟨by decide, is_ref_D (d := .tup [.str "a", .int (-9)]) trivial (tup_of (by decide +kernel)) ?_⟩
    rw [show isRf (.tup [.str "a", .int (-9)]) = true by decide +kernel]
    exact h
  refine ⟨by decide, is_ref_D (d := .tup [.str "a", .int 10]) trivial (tup_of (by decide +kernel)) ?_⟩
  rw [show isRf (.tup [.str "a", .int 10]) = false by decide +kernel]
  exact rfl
theorem law_true : b_law { nx := fun _ => False, rt := fun d => d = .bl true } noX (.un :: .sh .tok :: List.replicate 4 .un) := by
  refine ⟨by decide, by decide, turns_D _ _ _ _ _ fun a b c d => ?_⟩
  refine ⟨by decide, by decide, by decide, by decide, by decide, by decide, by decide, by decide, by decide, by decide, ?_⟩
  refine odd_D _ _ _ _ _ (fun d hd => hd) fun b => ?_
  exact law_end
end DLlaw

set_option Elab.async false
set_option linter.all false
set_option maxRecDepth 100000
set_option maxHeartbeats 4000000
namespace DLlaw
open PySem L2 DL
def topS (i : Nat) : Stmt := PySem.Challenge.pw_vectorwidths_k01_names_and_refs.main.body.getD i (.Pass ⟨0, 0, 0, 0⟩)
abbrev s_is_integer : Stmt := topS 1
abbrev s_is_between : Stmt := topS 2
abbrev s_is_name : Stmt := topS 6
abbrev s_is_offset : Stmt := topS 7
abbrev s_is_ref : Stmt := topS 8
abbrev s_law_begin : Stmt := topS 10
abbrev s_law_draw : Stmt := topS 11
abbrev s_law_pick : Stmt := topS 12
abbrev s_law_word : Stmt := topS 13
abbrev s_law_right : Stmt := topS 14
abbrev s_law : Stmt := topS 15
structure Tx (K : PySem.W.Frag) (mg : Str → Option Value) : Prop where
  c_GREATEST_OFFSET : ∃ t, mg "GREATEST_OFFSET" = some (.int 9 t)
  c_LONGEST_NAME : ∃ t, mg "LONGEST_NAME" = some (.int 8 t)
  b_all : mg "all" = none
  b_bool : mg "bool" = none
  b_int : mg "int" = none
  b_isinstance : mg "isinstance" = none
  b_len : mg "len" = none
  b_list : mg "list" = none
  b_range : mg "range" = none
  b_repr : mg "repr" = none
  b_str : mg "str" = none
  b_tuple : mg "tuple" = none
section
variable {P : Program} {w : World} {K : PySem.W.Frag} {mg : Str → Option Value} {base : Heap}
theorem sc_is_integer : FnScope ["value"] ["value"] (defScope s_is_integer) := ⟨rfl, rfl, rfl, by decide +kernel, rfl, by decide +kernel, by decide +kernel⟩
theorem ok_is_integer {f : Addr} {fd : FuncData} (F : Fun K "is_integer" "is_integer" s_is_integer f fd) (T : Tx K mg)  : FnOk P w K mg base (L2.CX P w) 1 f fd ["value"] (spD K Wl f_is_integer) := okD (k := 0) F sc_is_integer fun cdv A outer s H E hr => by
    have pX : Passes (L2.CX P w) (cxOf (L2.CX P w) P w K mg base ["value"] "is_integer" (defScope s_is_integer) f cdv A outer s H E) E := passX
    exact ⟨_, (pdss_one (pds_ret (pd_and (pd_isi K .int (by rfl) T.b_isinstance (pe_bltn (by rfl) T.b_int (by decide +kernel) rfl) (pd_var 0)) (pd_one (pd_not (pd_isi K .bool (by rfl) T.b_isinstance (pe_bltn (by rfl) T.b_bool (by decide +kernel) rfl) (pd_var 0)))))))⟩
theorem sc_is_between : FnScope ["value", "least", "most"] ["value", "least", "most"] (defScope s_is_between) := ⟨rfl, rfl, rfl, by decide +kernel, rfl, by decide +kernel, by decide +kernel⟩
theorem ok_is_between {f : Addr} {fd : FuncData} (F : Fun K "is_between" "is_between" s_is_between f fd) (T : Tx K mg) (c_is_integer : DefOk P w K Wl mg base 1 "is_integer" ["value"] f_is_integer []) : FnOk P w K mg base (L2.CX P w) 2 f fd ["value", "least", "most"] (spD K Wl f_is_between) := okD (k := 1) F sc_is_between fun cdv A outer s H E hr => by
    have pX : Passes (L2.CX P w) (cxOf (L2.CX P w) P w K mg base ["value", "least", "most"] "is_between" (defScope s_is_between) f cdv A outer s H E) E := passX
    exact ⟨_, (pdss_one (pds_ret (pd_and (pd_callD c_is_integer pX (pda_cons (pd_var 0) pda_nil)) (pd_one (pd_chain op_leA op_leA rb_le rb_le (pd_var 1) (pd_var 0) (pd_var 2))))))⟩
theorem sc_is_name : FnScope ["value", "letter"] ["value"] (defScope s_is_name) := ⟨rfl, rfl, rfl, by decide +kernel, rfl, by decide +kernel, by decide +kernel⟩
theorem ok_is_name {f : Addr} {fd : FuncData} (F : Fun K "is_name" "is_name" s_is_name f fd) (T : Tx K mg)  : FnOk P w K mg base (L2.CX P w) 1 f fd ["value"] (spD K Wl f_is_name) := okD (k := 0) F sc_is_name fun cdv A outer s H E hr => by
    have pX : Passes (L2.CX P w) (cxOf (L2.CX P w) P w K mg base ["value", "letter"] "is_name" (defScope s_is_name) f cdv A outer s H E) E := passX
    exact ⟨_, (pdss_cons (pds_if (PDW.pt (pdw_or (pdt_not (pdt_val (pd_isi K .str (by rfl) T.b_isinstance (pe_bltn (by rfl) T.b_str (by decide +kernel) rfl) (pd_var 0)))) (pdw_or1 (pdt_not (pdt_chain op_leA op_leA rb_le rb_le pd_int (pd_callB (cr_len K) rc_len (by rfl) T.b_len PySem.boot_len (pda_cons (pd_var 0) pda_nil)) (pd_gint T.c_LONGEST_NAME)))))) (pdss_one (pds_ret pd_bl)) pdss_nil)
      (pdss_one (pds_ret (pd_callB (cr_allK K) rc_all (by rfl) T.b_all (by decide +kernel) (pda_cons (PDN.pd (pdn_lc (own := [("letter", 1)]) rfl sc_is_name.nd (pdi_str (pd_var 0)) (blkOk_by (N := ["value", "letter"]) (sc := defScope s_is_name) (by decide +kernel)) (fun _ _ _ _ _ => (pdg_name 1 sc_is_name.nd)) (fun _ _ _ _ _ => pdts_nil) (fun _ _ _ _ _ => (pd_chain op_leA op_leA rb_le rb_le pd_str (pd_var 1) pd_str)) (by decide) (by intro _; rfl) s)) pda_nil)))))⟩
theorem sc_is_offset : FnScope ["value"] ["value"] (defScope s_is_offset) := ⟨rfl, rfl, rfl, by decide +kernel, rfl, by decide +kernel, by decide +kernel⟩
theorem ok_is_offset {f : Addr} {fd : FuncData} (F : Fun K "is_offset" "is_offset" s_is_offset f fd) (T : Tx K mg) (c_is_between : DefOk P w K Wl mg base 2 "is_between" ["value", "least", "most"] f_is_between []) : FnOk P w K mg base (L2.CX P w) 3 f fd ["value"] (spD K Wl f_is_offset) := okD (k := 2) F sc_is_offset fun cdv A outer s H E hr => by
    have pX : Passes (L2.CX P w) (cxOf (L2.CX P w) P w K mg base ["value"] "is_offset" (defScope s_is_offset) f cdv A outer s H E) E := passX
    exact ⟨_, (pdss_one (pds_ret (pd_callD c_is_between pX (pda_cons (pd_var 0) (pda_cons (pd_neg (pd_gint T.c_GREATEST_OFFSET)) (pda_cons (pd_gint T.c_GREATEST_OFFSET) pda_nil))))))⟩
theorem sc_is_ref : FnScope ["value"] ["value"] (defScope s_is_ref) := ⟨rfl, rfl, rfl, by decide +kernel, rfl, by decide +kernel, by decide +kernel⟩
theorem ok_is_ref {f : Addr} {fd : FuncData} (F : Fun K "is_ref" "is_ref" s_is_ref f fd) (T : Tx K mg) (c_is_name : DefOk P w K Wl mg base 1 "is_name" ["value"] f_is_name []) (c_is_offset : DefOk P w K Wl mg base 3 "is_offset" ["value"] f_is_offset []) : FnOk P w K mg base (L2.CX P w) 4 f fd ["value"] (spD K Wl f_is_ref) := okD (k := 3) F sc_is_ref fun cdv A outer s H E hr => by
    have pX : Passes (L2.CX P w) (cxOf (L2.CX P w) P w K mg base ["value"] "is_ref" (defScope s_is_ref) f cdv A outer s H E) E := passX
    exact ⟨_, (pdss_one (pds_ret (pd_and (pd_isi K .tuple (by rfl) T.b_isinstance (pe_bltn (by rfl) T.b_tuple (by decide +kernel) rfl) (pd_var 0)) (pd_and (pd_cmp (op_eqK K hr.units) rb_eq (pd_callB (cr_len K) rc_len (by rfl) T.b_len PySem.boot_len (pda_cons (pd_var 0) pda_nil)) pd_int (nomark _)) (pd_and (pd_callD c_is_name pX (pda_cons (pd_ix K (pd_var 0) pd_int) pda_nil)) (pd_one (pd_callD c_is_offset pX (pda_cons (pd_ix K (pd_var 0) pd_int) pda_nil))))))))⟩
theorem sc_law_begin : FnScope ["script"] ["script"] (defScope s_law_begin) := ⟨rfl, rfl, rfl, by decide +kernel, rfl, by decide +kernel, by decide +kernel⟩
theorem ok_law_begin {f : Addr} {fd : FuncData} (F : Fun K "_law_begin" "_law_begin" s_law_begin f fd) (T : Tx K mg) : FnOk P w K mg base (L2.CX P w) 1 f fd ["script"] (spBegin K) := okBegin F sc_law_begin fun cdv A outer s H E => (pss_one (ps_ret (pe_lst (pa_cons (pe_callTy call_list_of (by rfl) T.b_list (by decide +kernel) (pa_cons (pe_slice sl_list (pv 0) po_none (po_some pe_int)) pa_nil)) (pa_cons pe_int (pa_cons pe_int (pa_cons pe_int pa_nil)))))))
theorem sc_law_draw : FnScope ["source", "limit", "cell", "digit"] ["source", "limit"] (defScope s_law_draw) := ⟨rfl, rfl, rfl, by decide +kernel, rfl, by decide +kernel, by decide +kernel⟩
theorem ok_law_draw {f : Addr} {fd : FuncData} (F : Fun K "_law_draw" "_law_draw" s_law_draw f fd) (T : Tx K mg) : FnOk P w K mg base (L2.CX P w) 1 f fd ["source", "limit"] (spD K Wl fDraw) := okDraw F sc_law_draw fun cdv A outer s H E =>
  (pss_cons (ps_if (PW.pt (pw_and (pt_cmpR op_lt (pe_ix ix_list (pv 0) pe_int (fun _ _ => rfl)) (pe_op op_pow pe_int pe_int) (nomark _)) (pw_and1 (pt_cmpR op_lt (pe_ix ix_list (pv 0) pe_int (fun _ _ => rfl)) (pe_callB call_len_seq (by rfl) T.b_len PySem.boot_len (pa_cons (pe_ix ix_list (pv 0) pe_int (fun _ _ => rfl)) pa_nil)) (nomark _)))))
    (pss_cons (ps_set (i := 2) sc_law_draw.nd rfl (by first | exact Or.inl rfl | exact Or.inr rfl) (pe_callTy call_int1 (by rfl) T.b_int (by decide +kernel) (pa_cons (pe_ix ix_list (pe_ix ix_list (pv 0) pe_int (fun _ _ => rfl)) (pe_ix ix_list (pv 0) pe_int (fun _ _ => rfl)) (fun _ _ => rfl)) pa_nil)))
    (pss_cons (ps_asg (pe_op op_add (pe_ix ix_list (pv 0) pe_int (fun _ _ => rfl)) pe_int) (pg_sub (pv 0) pe_int set_list))
    (pss_cons (ps_asg pe_int (pg_sub (pv 0) pe_int set_list))
    (pss_cons (ps_if (pt_cmpR op_ge (pv 2) (pe_op op_pow pe_int pe_int) (nomark _)) (pss_one (ps_asg (pv 2) (pg_sub (pv 0) pe_int set_list))) pss_nil)
      (pss_one (ps_asg (pe_op op_mod (pe_callTy call_int1 (by rfl) T.b_int (by decide +kernel) (pa_cons (pe_op op_add (pe_op op_add (pe_op op_mul (pe_ix ix_list (pv 0) pe_int (fun _ _ => rfl)) pe_int) (pe_op op_mod (pv 2) pe_int)) pe_int) pa_nil)) pe_int) (pg_sub (pv 0) pe_int set_list))))))) pss_nil)
  (pss_cons (ps_if (pt_cmpR op_ge (pe_ix ix_list (pv 0) pe_int (fun _ _ => rfl)) (pe_op op_pow pe_int pe_int) (nomark _))
    (pss_cons (ps_set (i := 3) sc_law_draw.nd rfl (by first | exact Or.inl rfl | exact Or.inr rfl) (pe_op op_mod (pe_callTy call_int1 (by rfl) T.b_int (by decide +kernel) (pa_cons (pe_ix ix_list (pv 0) pe_int (fun _ _ => rfl)) pa_nil)) (pv 1)))
    (pss_cons (ps_asg (pe_op op_fdivW (pe_ix ix_list (pv 0) pe_int (fun _ _ => rfl)) (pv 1)) (pg_sub (pv 0) pe_int set_list))
      (pss_one (ps_ret (pv 3))))) pss_nil)
  (pss_cons (ps_asg (pe_op op_mod (pe_callTy call_int1 (by rfl) T.b_int (by decide +kernel) (pa_cons (pe_op op_add (pe_op op_mul (pe_ix ix_list (pv 0) pe_int (fun _ _ => rfl)) pe_int) pe_int) pa_nil)) pe_int) (pg_sub (pv 0) pe_int set_list))
    (pss_one (ps_ret (pe_op op_mod (pe_callTy call_int1 (by rfl) T.b_int (by decide +kernel) (pa_cons (pe_op op_fdiv (pe_ix ix_list (pv 0) pe_int (fun _ _ => rfl)) pe_int) pa_nil)) (pv 1)))))))
theorem sc_law_pick : FnScope ["source", "items"] ["source", "items"] (defScope s_law_pick) := ⟨rfl, rfl, rfl, by decide +kernel, rfl, by decide +kernel, by decide +kernel⟩
theorem ok_law_pick {f : Addr} {fd : FuncData} (F : Fun K "_law_pick" "_law_pick" s_law_pick f fd) (T : Tx K mg) (c_law_draw : DefOk P w K Wl mg base 1 "_law_draw" ["source", "limit"] f_law_draw []) : FnOk P w K mg base (L2.CX P w) 2 f fd ["source", "items"] (spD K Wl f_law_pick) := okD (k := 1) F sc_law_pick fun cdv A outer s H E hr => by
    have pX : Passes (L2.CX P w) (cxOf (L2.CX P w) P w K mg base ["source", "items"] "_law_pick" (defScope s_law_pick) f cdv A outer s H E) E := passX
    exact ⟨_, (pdss_one (pds_ret (pd_ix K (pd_var 1) (pd_callD c_law_draw pX (pda_cons (pd_var 0) (pda_cons (pd_callB (cr_len K) rc_len (by rfl) T.b_len PySem.boot_len (pda_cons (pd_var 1) pda_nil)) pda_nil))))))⟩
theorem sc_law_word : FnScope ["source", "signs", "turn"] ["source"] (defScope s_law_word) := ⟨rfl, rfl, rfl, by decide +kernel, rfl, by decide +kernel, by decide +kernel⟩
theorem ok_law_word {f : Addr} {fd : FuncData} (F : Fun K "_law_word" "_law_word" s_law_word f fd) (T : Tx K mg) (c_law_draw : DefOk P w K Wl mg base 1 "_law_draw" ["source", "limit"] f_law_draw []) (c_law_pick : DefOk P w K Wl mg base 2 "_law_pick" ["source", "items"] f_law_pick []) : FnOk P w K mg base (L2.CX P w) 3 f fd ["source"] (spD K Wl f_law_word) := okD (k := 2) F sc_law_word fun cdv A outer s H E hr => by
    have pX : Passes (L2.CX P w) (cxOf (L2.CX P w) P w K mg base ["source", "signs", "turn"] "_law_word" (defScope s_law_word) f cdv A outer s H E) E := passX
    exact ⟨_, (pdss_cons (pds_set 1 sc_law_word.nd (pd_op op_addA rb_add pd_str (pd_callD c_law_pick pX (pda_cons (pd_var 0) (pda_cons (PDN.pd (pdn_lst (pda_cons pd_str (pda_cons pd_str (pda_cons pd_str (pda_cons pd_str (pda_cons pd_str (pda_cons pd_str (pda_cons pd_str pda_nil))))))))) pda_nil)))))
      (pdss_one (pds_ret (pd_join K pd_str (pda_cons (PDN.pd (pdn_lc (own := [("turn", 2)]) rfl sc_law_word.nd (pdi_range1 (by rfl) T.b_range (pda_cons (pd_callD c_law_draw pX (pda_cons (pd_var 0) (pda_cons pd_int pda_nil))) pda_nil)) (blkOk_by (N := ["source", "signs", "turn"]) (sc := defScope s_law_word) (by decide +kernel)) (fun _ _ _ _ _ => (pdg_name 2 sc_law_word.nd)) (fun _ _ _ _ _ => pdts_nil) (fun _ _ _ _ _ => (pd_callD c_law_pick passL (pda_cons (pd_var 0) (pda_cons (pd_var 1) pda_nil)))) (by decide) (by intro _; rfl) s)) pda_nil)))))⟩
theorem sc_law_right : FnScope ["word", "letters", "sign"] ["word"] (defScope s_law_right) := ⟨rfl, rfl, rfl, by decide +kernel, rfl, by decide +kernel, by decide +kernel⟩
theorem ok_law_right {f : Addr} {fd : FuncData} (F : Fun K "_law_right" "_law_right" s_law_right f fd) (T : Tx K mg)  : FnOk P w K mg base (L2.CX P w) 1 f fd ["word"] (spD K Wl f_law_right) := okD (k := 0) F sc_law_right fun cdv A outer s H E hr => by
    have pX : Passes (L2.CX P w) (cxOf (L2.CX P w) P w K mg base ["word", "letters", "sign"] "_law_right" (defScope s_law_right) f cdv A outer s H E) E := passX
    exact ⟨_, (pdss_cons (pds_set 1 sc_law_right.nd pd_str)
      (pdss_one (pds_ret (pd_and (pd_chain op_leA op_leA rb_le rb_le pd_int (pd_callB (cr_len K) rc_len (by rfl) T.b_len PySem.boot_len (pda_cons (pd_var 0) pda_nil)) pd_int) (pd_one (pd_cmp (op_eqK K hr.units) rb_eq (PDN.pd (pdn_lc (own := [("sign", 2)]) rfl sc_law_right.nd (pdi_str (pd_var 0)) (blkOk_by (N := ["word", "letters", "sign"]) (sc := defScope s_law_right) (by decide +kernel)) (fun _ _ _ _ _ => (pdg_name 2 sc_law_right.nd)) (fun _ _ _ _ _ => (pdts_one (pdt_cmp op_notIn_sign rb_notInS (pd_var 2) (pd_var 1) (by rfl)))) (fun _ _ _ _ _ => (pd_var 2)) (by decide) (by intro _; rfl) s)) (PDN.pd (pdn_lst pda_nil)) (nomark _)))))))⟩
theorem sc_law : FnScope ["script", "source", "turn", "odd", "word", "by"] ["script"] (defScope s_law) := ⟨rfl, rfl, rfl, by decide +kernel, rfl, by decide +kernel, by decide +kernel⟩
theorem ok_law {f : Addr} {fd : FuncData} (F : Fun K "law" "law" s_law f fd) (T : Tx K mg) {fb : Addr} {fdb : FuncData} (FB : FnOk P w K mg base (L2.CX P w) 1 fb fdb ["script"] (spBegin K)) (mB : mg "_law_begin" = some (.ref fb)) (kB : PySem.W.keepIn K (.ref fb) = true) (bB : Binds K fdb ["script"] []) (c_law_draw : DefOk P w K Wl mg base 1 "_law_draw" ["source", "limit"] f_law_draw []) (c_law_right : DefOk P w K Wl mg base 1 "_law_right" ["word"] f_law_right []) (c_law_word : DefOk P w K Wl mg base 3 "_law_word" ["source"] f_law_word []) (c_is_name : DefOk P w K Wl mg base 1 "is_name" ["value"] f_is_name []) (c_is_ref : DefOk P w K Wl mg base 4 "is_ref" ["value"] f_is_ref []) : FnOk P w K mg base (L2.CX P w) 5 f fd ["script"] (spLaw K) :=
  okLaw (k := 4) F sc_law (by decide) (fun cdv A outer s H E hr => by
    have pX : Passes (L2.CX P w) (cxOf (L2.CX P w) P w K mg base ["script", "source", "turn", "odd", "word", "by"] "law" (defScope s_law) f cdv A outer s H E) E := passX
    have b : PDSs (cxOf (L2.CX P w) P w K mg base ["script", "source", "turn", "odd", "word", "by"] "law" (defScope s_law) f cdv A outer s H E) Wl E ((defBody s_law).drop 1) _ b_law :=
      (pdss_cons (pds_for (passes_of rfl) rfl (pdi_range1 (by rfl) T.b_range (pda_cons pd_int pda_nil)) (pdg_name 2 sc_law.nd) (pdss_cons (pds_par 4 5 rfl sc_law.nd (pda_cons (pd_callD c_law_word pX (pda_cons (pd_var 1) pda_nil)) (pda_cons (pd_op op_sub rb_sub (pd_callD c_law_draw pX (pda_cons (pd_var 1) (pda_cons pd_int pda_nil))) pd_int) pda_nil)))
      (pdss_cons (pds_if (pdt_cmp (op_neK K hr.units) rb_ne (pd_callB cr_reprB rc_reprB (by rfl) T.b_repr (by decide +kernel) (pda_cons (pd_callD c_is_name pX (pda_cons (pd_var 4) pda_nil)) pda_nil)) (pd_callB cr_reprB rc_reprB (by rfl) T.b_repr (by decide +kernel) (pda_cons (pd_callD c_law_right pX (pda_cons (pd_var 4) pda_nil)) pda_nil)) (nomark _)) (pdss_one (pds_ret pd_bl)) pdss_nil)
      (pdss_cons (pds_if (pdt_cmp (op_neK K hr.units) rb_ne (pd_callB cr_reprB rc_reprB (by rfl) T.b_repr (by decide +kernel) (pda_cons (pd_callD c_is_ref pX (pda_cons (pd_tup (pda_cons (pd_var 4) (pda_cons (pd_var 5) pda_nil))) pda_nil)) pda_nil)) (pd_callB cr_reprB rc_reprB (by rfl) T.b_repr (by decide +kernel) (pda_cons (pd_and (pd_callD c_law_right pX (pda_cons (pd_var 4) pda_nil)) (pd_one (pd_chain op_leA op_leA rb_le rb_le (pd_neg pd_int) (pd_var 5) pd_int))) pda_nil)) (nomark _)) (pdss_one (pds_ret pd_bl)) pdss_nil)
      (pdss_one (pds_if (PDW.pt (pdw_or (pdt_val (pd_callD c_is_ref pX (pda_cons (PDN.pd (pdn_lst (pda_cons (pd_var 4) (pda_cons (pd_var 5) pda_nil)))) pda_nil))) (pdw_or (pdt_val (pd_callD c_is_ref pX (pda_cons (pd_tup (pda_cons (pd_var 4) (pda_cons (pd_var 5) (pda_cons (pd_var 5) pda_nil)))) pda_nil))) (pdw_or (pdt_val (pd_callD c_is_ref pX (pda_cons (pd_tup (pda_cons (pd_var 4) pda_nil)) pda_nil))) (pdw_or1 (pdt_val (pd_callD c_is_ref pX (pda_cons (pd_tup (pda_cons (pd_var 5) (pda_cons (pd_var 4) pda_nil))) pda_nil)))))))) (pdss_one (pds_ret pd_bl)) pdss_nil))))))
      (pdss_cons (pds_for (passes_of rfl) rfl (pdi_list K (PDN.pd (pdn_lst (pda_cons pd_non (pda_cons pd_int (pda_cons pd_bl (pda_cons (PDN.pd (pdn_lst pda_nil)) (pda_cons (PDN.pd (pdn_lst (pda_cons pd_str pda_nil))) (pda_cons (pd_tup (pda_cons pd_str pda_nil)) (pda_cons pd_ety (pda_cons (pd_tup (pda_cons pd_str (pda_cons pd_bl pda_nil))) (pda_cons (pd_tup (pda_cons pd_str (pda_cons pd_str pda_nil))) (pda_cons (pd_tup (pda_cons pd_str (pda_cons pd_non pda_nil))) (pda_cons (pd_tup (pda_cons pd_bl (pda_cons pd_int pda_nil))) (pda_cons (pd_tup (pda_cons (pd_tup pda_nil) (pda_cons pd_int pda_nil))) (pda_cons pd_str pda_nil)))))))))))))))) (pdg_name 3 sc_law.nd) (pdss_one (pds_if (PDW.pt (pdw_or (pdt_cmp op_notBl rb_notB (pd_callD c_is_name pX (pda_cons (pd_var 3) pda_nil)) pd_bl (nomark _)) (pdw_or1 (pdt_cmp op_notBl rb_notB (pd_callD c_is_ref pX (pda_cons (pd_var 3) pda_nil)) pd_bl (nomark _))))) (pdss_one (pds_ret pd_bl)) pdss_nil)))
      (pdss_one (pds_ret (pd_and (pd_callD c_is_name pX (pda_cons pd_str pda_nil)) (pd_and (pd_not (pd_callD c_is_name pX (pda_cons pd_str pda_nil))) (pd_and (pd_callD c_is_ref pX (pda_cons (pd_tup (pda_cons pd_str (pda_cons (pd_neg pd_int) pda_nil))) pda_nil)) (pd_one (pd_not (pd_callD c_is_ref pX (pda_cons (pd_tup (pda_cons pd_str (pda_cons pd_int pda_nil))) pda_nil)))))))))))
    exact ⟨_, pss_cons (ps_set (i := 1) sc_law.nd rfl (by first | exact Or.inl rfl | exact Or.inr rfl) (pe_call FB (hr.mono (by decide)) rfl mB kB bB .nil passL (pa_cons (pv 0) pa_nil))) b.pe, b.se⟩) law_true
end
theorem all_mk {l : PySem.W.OpenLaw} {w : World} {K : PySem.W.Frag} {h : Heap} {mg : Str → Option Value} {fa f0 f1 f2 f3 f4 f5 f6 f7 f8 f9 f10 : Addr} {od0 an0 od1 an1 od2 an2 od3 an3 od4 an4 od5 an5 od6 an6 od7 an7 od8 an8 od9 an9 od10 an10 : Option Addr} {sl0 sl1 sl2 sl3 sl4 sl5 sl6 sl7 sl8 sl9 sl10 : Array (Option Value)} {oc0 kV0 dc0 pm0 cd0 ct0 oc1 kV1 dc1 pm1 cd1 ct1 oc2 kV2 dc2 pm2 cd2 ct2 oc3 kV3 dc3 pm3 cd3 ct3 oc4 kV4 dc4 pm4 cd4 ct4 oc5 kV5 dc5 pm5 cd5 ct5 oc6 kV6 dc6 pm6 cd6 ct6 oc7 kV7 dc7 pm7 cd7 ct7 oc8 kV8 dc8 pm8 cd8 ct8 oc9 kV9 dc9 pm9 cd9 ct9 oc10 kV10 dc10 pm10 cd10 ct10 : Value} {t0 t1 : Tok} (X : K.In h) (G : h.Ns mainGlobals mg) (hfa : mg "law" = some (.ref fa))
    (a0 : PySem.W.nsIn K mainGlobals "is_integer" = some (some (.ref f0))) (l0 : K.lookup f0 = some ⟨oc0, od0, .func (PySem.W.fnOf "is_integer" "is_integer" (defArgs s_is_integer) (defBody s_is_integer) (defScope s_is_integer) .none kV0 dc0 pm0 an0 cd0 ct0), sl0⟩) (q0 : PySem.W.codeIn K cd0 "is_integer" = true) (k0 : PySem.W.keepIn K (.ref f0) = true)
    (a1 : PySem.W.nsIn K mainGlobals "is_between" = some (some (.ref f1))) (l1 : K.lookup f1 = some ⟨oc1, od1, .func (PySem.W.fnOf "is_between" "is_between" (defArgs s_is_between) (defBody s_is_between) (defScope s_is_between) .none kV1 dc1 pm1 an1 cd1 ct1), sl1⟩) (q1 : PySem.W.codeIn K cd1 "is_between" = true) (k1 : PySem.W.keepIn K (.ref f1) = true)
    (a2 : PySem.W.nsIn K mainGlobals "is_name" = some (some (.ref f2))) (l2 : K.lookup f2 = some ⟨oc2, od2, .func (PySem.W.fnOf "is_name" "is_name" (defArgs s_is_name) (defBody s_is_name) (defScope s_is_name) .none kV2 dc2 pm2 an2 cd2 ct2), sl2⟩) (q2 : PySem.W.codeIn K cd2 "is_name" = true) (k2 : PySem.W.keepIn K (.ref f2) = true)
    (a3 : PySem.W.nsIn K mainGlobals "is_offset" = some (some (.ref f3))) (l3 : K.lookup f3 = some ⟨oc3, od3, .func (PySem.W.fnOf "is_offset" "is_offset" (defArgs s_is_offset) (defBody s_is_offset) (defScope s_is_offset) .none kV3 dc3 pm3 an3 cd3 ct3), sl3⟩) (q3 : PySem.W.codeIn K cd3 "is_offset" = true) (k3 : PySem.W.keepIn K (.ref f3) = true)
    (a4 : PySem.W.nsIn K mainGlobals "is_ref" = some (some (.ref f4))) (l4 : K.lookup f4 = some ⟨oc4, od4, .func (PySem.W.fnOf "is_ref" "is_ref" (defArgs s_is_ref) (defBody s_is_ref) (defScope s_is_ref) .none kV4 dc4 pm4 an4 cd4 ct4), sl4⟩) (q4 : PySem.W.codeIn K cd4 "is_ref" = true) (k4 : PySem.W.keepIn K (.ref f4) = true)
    (a5 : PySem.W.nsIn K mainGlobals "_law_begin" = some (some (.ref f5))) (l5 : K.lookup f5 = some ⟨oc5, od5, .func (PySem.W.fnOf "_law_begin" "_law_begin" (defArgs s_law_begin) (defBody s_law_begin) (defScope s_law_begin) .none kV5 dc5 pm5 an5 cd5 ct5), sl5⟩) (q5 : PySem.W.codeIn K cd5 "_law_begin" = true) (k5 : PySem.W.keepIn K (.ref f5) = true)
    (a6 : PySem.W.nsIn K mainGlobals "_law_draw" = some (some (.ref f6))) (l6 : K.lookup f6 = some ⟨oc6, od6, .func (PySem.W.fnOf "_law_draw" "_law_draw" (defArgs s_law_draw) (defBody s_law_draw) (defScope s_law_draw) .none kV6 dc6 pm6 an6 cd6 ct6), sl6⟩) (q6 : PySem.W.codeIn K cd6 "_law_draw" = true) (k6 : PySem.W.keepIn K (.ref f6) = true)
    (a7 : PySem.W.nsIn K mainGlobals "_law_pick" = some (some (.ref f7))) (l7 : K.lookup f7 = some ⟨oc7, od7, .func (PySem.W.fnOf "_law_pick" "_law_pick" (defArgs s_law_pick) (defBody s_law_pick) (defScope s_law_pick) .none kV7 dc7 pm7 an7 cd7 ct7), sl7⟩) (q7 : PySem.W.codeIn K cd7 "_law_pick" = true) (k7 : PySem.W.keepIn K (.ref f7) = true)
    (a8 : PySem.W.nsIn K mainGlobals "_law_word" = some (some (.ref f8))) (l8 : K.lookup f8 = some ⟨oc8, od8, .func (PySem.W.fnOf "_law_word" "_law_word" (defArgs s_law_word) (defBody s_law_word) (defScope s_law_word) .none kV8 dc8 pm8 an8 cd8 ct8), sl8⟩) (q8 : PySem.W.codeIn K cd8 "_law_word" = true) (k8 : PySem.W.keepIn K (.ref f8) = true)
    (a9 : PySem.W.nsIn K mainGlobals "_law_right" = some (some (.ref f9))) (l9 : K.lookup f9 = some ⟨oc9, od9, .func (PySem.W.fnOf "_law_right" "_law_right" (defArgs s_law_right) (defBody s_law_right) (defScope s_law_right) .none kV9 dc9 pm9 an9 cd9 ct9), sl9⟩) (q9 : PySem.W.codeIn K cd9 "_law_right" = true) (k9 : PySem.W.keepIn K (.ref f9) = true)
    (a10 : PySem.W.nsIn K mainGlobals "law" = some (some (.ref f10))) (l10 : K.lookup f10 = some ⟨oc10, od10, .func (PySem.W.fnOf "law" "law" (defArgs s_law) (defBody s_law) (defScope s_law) .none kV10 dc10 pm10 an10 cd10 ct10), sl10⟩) (q10 : PySem.W.codeIn K cd10 "law" = true) (k10 : PySem.W.keepIn K (.ref f10) = true)
    (z0 : PySem.W.nsIn K mainGlobals "GREATEST_OFFSET" = some (some (.int 9 t0)))
    (z1 : PySem.W.nsIn K mainGlobals "LONGEST_NAME" = some (some (.int 8 t1)))
    (y_all : PySem.W.nsIn K mainGlobals "all" = some none)
    (y_bool : PySem.W.nsIn K mainGlobals "bool" = some none)
    (y_int : PySem.W.nsIn K mainGlobals "int" = some none)
    (y_isinstance : PySem.W.nsIn K mainGlobals "isinstance" = some none)
    (y_len : PySem.W.nsIn K mainGlobals "len" = some none)
    (y_list : PySem.W.nsIn K mainGlobals "list" = some none)
    (y_range : PySem.W.nsIn K mainGlobals "range" = some none)
    (y_repr : PySem.W.nsIn K mainGlobals "repr" = some none)
    (y_str : PySem.W.nsIn K mainGlobals "str" = some none)
    (y_tuple : PySem.W.nsIn K mainGlobals "tuple" = some none) :
    ∃ fd : FuncData, (∀ (s : Shared) (v : Value), BindsTo s fd ⟨[v], []⟩ [("script", v)]) ∧ ∀ base : Heap, K.In base → base.Ns mainGlobals mg → FnOk l.prog w K mg base (L2.CX l.prog w) 5 fa fd ["script"] (spLaw K) := by
  have e := hfa.symm.trans (PySem.W.mg_of X G a10)
  cases e
  have T : Tx K mg := ⟨⟨_, PySem.W.mg_of X G z0⟩, ⟨_, PySem.W.mg_of X G z1⟩, PySem.W.mg_none_of X G y_all, PySem.W.mg_none_of X G y_bool, PySem.W.mg_none_of X G y_int, PySem.W.mg_none_of X G y_isinstance, PySem.W.mg_none_of X G y_len, PySem.W.mg_none_of X G y_list, PySem.W.mg_none_of X G y_range, PySem.W.mg_none_of X G y_repr, PySem.W.mg_none_of X G y_str, PySem.W.mg_none_of X G y_tuple⟩
  have F0 := fun_mk (st := s_is_integer) l0 q0 k0
  have b0 := F0.binds (ps := ["value"]) fun _ _ _ _ _ _ us hl => match us, hl with | [_], _ => rfl
  have F1 := fun_mk (st := s_is_between) l1 q1 k1
  have b1 := F1.binds (ps := ["value", "least", "most"]) fun _ _ _ _ _ _ us hl => match us, hl with | [_, _, _], _ => rfl
  have F2 := fun_mk (st := s_is_name) l2 q2 k2
  have b2 := F2.binds (ps := ["value"]) fun _ _ _ _ _ _ us hl => match us, hl with | [_], _ => rfl
  have F3 := fun_mk (st := s_is_offset) l3 q3 k3
  have b3 := F3.binds (ps := ["value"]) fun _ _ _ _ _ _ us hl => match us, hl with | [_], _ => rfl
  have F4 := fun_mk (st := s_is_ref) l4 q4 k4
  have b4 := F4.binds (ps := ["value"]) fun _ _ _ _ _ _ us hl => match us, hl with | [_], _ => rfl
  have F5 := fun_mk (st := s_law_begin) l5 q5 k5
  have b5 := F5.binds (ps := ["script"]) fun _ _ _ _ _ _ us hl => match us, hl with | [_], _ => rfl
  have F6 := fun_mk (st := s_law_draw) l6 q6 k6
  have b6 := F6.binds (ps := ["source", "limit"]) fun _ _ _ _ _ _ us hl => match us, hl with | [_, _], _ => rfl
  have F7 := fun_mk (st := s_law_pick) l7 q7 k7
  have b7 := F7.binds (ps := ["source", "items"]) fun _ _ _ _ _ _ us hl => match us, hl with | [_, _], _ => rfl
  have F8 := fun_mk (st := s_law_word) l8 q8 k8
  have b8 := F8.binds (ps := ["source"]) fun _ _ _ _ _ _ us hl => match us, hl with | [_], _ => rfl
  have F9 := fun_mk (st := s_law_right) l9 q9 k9
  have b9 := F9.binds (ps := ["word"]) fun _ _ _ _ _ _ us hl => match us, hl with | [_], _ => rfl
  have F10 := fun_mk (st := s_law) l10 q10 k10
  have b10 := F10.binds (ps := ["script"]) fun _ _ _ _ _ _ us hl => match us, hl with | [_], _ => rfl
  refine ⟨PySem.W.fnOf "law" "law" (defArgs s_law) (defBody s_law) (defScope s_law) .none kV10 dc10 pm10 an10 cd10 ct10, fun s v => .of_eq rfl, fun base _ _ => ?_⟩
  have d_is_integer := defOk (W := Wl) (P := l.prog) (w := w) (base := base) (ok_is_integer F0 T ) (PySem.W.mg_of X G a0) k0 b0
  have d_is_between := defOk (W := Wl) (P := l.prog) (w := w) (base := base) (ok_is_between F1 T d_is_integer) (PySem.W.mg_of X G a1) k1 b1
  have d_is_name := defOk (W := Wl) (P := l.prog) (w := w) (base := base) (ok_is_name F2 T ) (PySem.W.mg_of X G a2) k2 b2
  have d_is_offset := defOk (W := Wl) (P := l.prog) (w := w) (base := base) (ok_is_offset F3 T d_is_between) (PySem.W.mg_of X G a3) k3 b3
  have d_is_ref := defOk (W := Wl) (P := l.prog) (w := w) (base := base) (ok_is_ref F4 T d_is_name d_is_offset) (PySem.W.mg_of X G a4) k4 b4
  have d_law_draw := defOk (W := Wl) (P := l.prog) (w := w) (base := base) (ok_law_draw F6 T ) (PySem.W.mg_of X G a6) k6 b6
  have d_law_pick := defOk (W := Wl) (P := l.prog) (w := w) (base := base) (ok_law_pick F7 T d_law_draw) (PySem.W.mg_of X G a7) k7 b7
  have d_law_word := defOk (W := Wl) (P := l.prog) (w := w) (base := base) (ok_law_word F8 T d_law_draw d_law_pick) (PySem.W.mg_of X G a8) k8 b8
  have d_law_right := defOk (W := Wl) (P := l.prog) (w := w) (base := base) (ok_law_right F9 T ) (PySem.W.mg_of X G a9) k9 b9
  exact ok_law F10 T (ok_law_begin F5 T) (PySem.W.mg_of X G a5) k5 b5 d_law_draw d_law_right d_law_word d_is_name d_is_ref
theorem walk {l : PySem.W.OpenLaw} {q : Program} {loose : List Str} {XP : (Str → Option Value) → Heap → Prop} {YP : World → Heap → Prop} {d : DefRec} {K : Params → PySem.W.Frag} (hn : l.most = some 63) (hdf : d.params.defaults = [])
    (hY : ∀ (w : World) (h : Heap), YP w h → (K w.params).In h)
    (F : ∀ (w : World) (mg : Str → Option Value) (fa : Addr) (h : Heap), (K w.params).In h → h.Ns mainGlobals mg → mg d.name = some (.ref fa) →
      ∃ fd : FuncData, (∀ (s : Shared) (u : Value), BindsTo s fd ⟨[u], []⟩ [("script", u)]) ∧ ∀ base : Heap, (K w.params).In base → base.Ns mainGlobals mg → FnOk l.prog w (K w.params) mg base (L2.CX l.prog w) 5 fa fd ["script"] (spLaw (K w.params))) :
    PySem.W.WalkO q loose XP YP l.row.toRowW d [] (fun f vs => PySem.call f vs) :=
  L2.walk_of (n := 63) (k := 5) (x := "script") (CX := fun w => L2.CX l.prog w) (sp := fun w => spLaw (K w.params)) hn (by decide) hdf ⟨rfl, by decide, by decide⟩ hY F (fun _ _ a ns hl _ hS => ⟨a, ns, rfl, hS, hl, fun _ => rfl⟩) fun _ _ _ _ _ h => by
    obtain ⟨_, _, _, _, _, _, _, _, _, _, _, _, z⟩ := h
    exact z.elim
end DLlaw
open PySem PySem.W PyProof.Rows
set_option maxRecDepth 100000 in
set_option maxHeartbeats 0 in
theorem PySem.Challenge.cw_vectorwidths_k01_names_and_refs_holds : PySem.Challenge.rw_vectorwidths_k01_names_and_refs.Holds := by
  w_on; o_law; k_head; (case hw => w_witness2)
  k_fill
  refine DLlaw.walk (l := PySem.Challenge.rw_vectorwidths_k01_names_and_refs) rfl rfl (fun w h Y => PySem.W.kIn_of Y) ?F
  case F =>
    intro w mg fa h KX G hmg
    refine' DLlaw.all_mk KX G hmg ?a0 ?l0 ?q0 ?k0 ?a1 ?l1 ?q1 ?k1 ?a2 ?l2 ?q2 ?k2 ?a3 ?l3 ?q3 ?k3 ?a4 ?l4 ?q4 ?k4 ?a5 ?l5 ?q5 ?k5 ?a6 ?l6 ?q6 ?k6 ?a7 ?l7 ?q7 ?k7 ?a8 ?l8 ?q8 ?k8 ?a9 ?l9 ?q9 ?k9 ?a10 ?l10 ?q10 ?k10 ?z0 ?z1 ?y_all ?y_bool ?y_int ?y_isinstance ?y_len ?y_list ?y_range ?y_repr ?y_str ?y_tuple
    (case a0 => k_is)
    (case l0 => k_is)
    (case q0 => k_is)
    (case k0 => k_is)
    (case a1 => k_is)
    (case l1 => k_is)
    (case q1 => k_is)
    (case k1 => k_is)
    (case a2 => k_is)
    (case l2 => k_is)
    (case q2 => k_is)
    (case k2 => k_is)
    (case a3 => k_is)
    (case l3 => k_is)
    (case q3 => k_is)
    (case k3 => k_is)
    (case a4 => k_is)
    (case l4 => k_is)
    (case q4 => k_is)
    (case k4 => k_is)
    (case a5 => k_is)
    (case l5 => k_is)
    (case q5 => k_is)
    (case k5 => k_is)
    (case a6 => k_is)
    (case l6 => k_is)
    (case q6 => k_is)
    (case k6 => k_is)
    (case a7 => k_is)
    (case l7 => k_is)
    (case q7 => k_is)
    (case k7 => k_is)
    (case a8 => k_is)
    (case l8 => k_is)
    (case q8 => k_is)
    (case k8 => k_is)
    (case a9 => k_is)
    (case l9 => k_is)
    (case q9 => k_is)
    (case k9 => k_is)
    (case a10 => k_is)
    (case l10 => k_is)
    (case q10 => k_is)
    (case k10 => k_is)
    (case z0 => k_is)
    (case z1 => k_is)
    (case y_all => k_is)
    (case y_bool => k_is)
    (case y_int => k_is)
    (case y_isinstance => k_is)
    (case y_len => k_is)
    (case y_list => k_is)
    (case y_range => k_is)
    (case y_repr => k_is)
    (case y_str => k_is)
    (case y_tuple => k_is)

