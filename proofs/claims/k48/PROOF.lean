import PyProof.Rows.All
import Wide.All
import OpenK.AllK
import Wide.FinOn
import HandS.ForMost
import HandS.IsInst
import HandS.ForExc
import HandS.Lambda
import HandS.Walk
import HandS.Style
import HandS.Wide
import HandS.Steps
import KE.KExcSuper
import HandS.ExcInit
import HandS.ExcOwn
import HandS.ExcField
import HandS.Property
import KE.KOpsOwn
import HandS.Deep
import PyProof.Rows.ListStrD
import PyProof.StrOps2
import HandS.Defaults
import HandS.ExcIs
import PyProof.InstEq
import HandS.Star
import PyProof.ReprReads
import HandS.Ends
import PyProof.ReprRoads
import KE.KExcIs
import HandS.TryOnly
import HandS.EndTab
import KE.KNestM
import OpenK.KMeth
import OpenK.KOps
import HandS.Conv
import PyProof.TupleKey
import HandS.Strs
import PyProof.Rows.SetFrom
import PyProof.ReprText
import PyProof.StrBlockL
import KE.SortData
import KE.SortLaws
import HandS.MakeKwOnly
import HandS.HeadHook2
import PyProof.AutoSeq1
import HandS.DictComp
import HandS.DictEq
import HandS.SortInts
import HandS.More
import KE.KEqDict
import PySem.Challenge.RW_vectorwidths_k48_forms_compared
set_option Elab.async false
set_option linter.all false
set_option maxRecDepth 100000
set_option maxHeartbeats 1000000
/-! data: what the values are worth, and the states of a body by data -/
namespace DL
open PySem L2

inductive D where
  | non | bl (b : Bool) | int (i : Int) | str (s : Str)
  | lst (xs : List D) | tup (xs : List D) | obj (c : Nat) (fs : List (Str × D)) | tok
  | ety
  | dct (ks : List (Key × D))

def Ex (H H' : Hp) : Prop := ∀ a o, H a = some o → H' a = some o
theorem Ex.refl (H : Hp) : Ex H H := fun _ _ h => h
theorem Ex.trans {H H1 H2 : Hp} (a : Ex H H1) (b : Ex H1 H2) : Ex H H2 := fun x o h => b x o (a x o h)
theorem Ex.new {H : Hp} {p : Addr} {o : HO} (h : H p = none) : Ex H (upd H p o) := fun a u e => by
  rw [upd_ne (ne_of_none e h)]
  exact e
theorem Ex.rd {H H' : Hp} {a : Addr} {u : HO} (e : Ex H H') (h : Rd H a u) : Rd H' a u := by
  rcases h with h | ⟨o, h⟩
  · exact Or.inl (e a _ h)
  · exact Or.inr ⟨o, e a _ h⟩
theorem Ex.l {K : PySem.W.Frag} {H H' : Hp} {a : Addr} {xs : List V} (e : Ex H H') (h : SqL K H a xs) : SqL K H' a xs := by
  rcases h with h | h
  · exact Or.inl (e.rd h)
  · exact Or.inr h
theorem Ex.t {K : PySem.W.Frag} {H H' : Hp} {a : Addr} {xs : List V} (e : Ex H H') (h : SqT K H a xs) : SqT K H' a xs := by
  rcases h with h | h
  · exact Or.inl (e.rd h)
  · exact Or.inr h

/-- the law's surroundings: the classes by number, what stands at the hidden address -/
structure Wc where
  M : Nat → Option Addr
  Sr : Hp → HO → Prop
  mono : ∀ S S' o, Ex S S' → Sr S o → Sr S' o
  nt : ∀ S o, Sr S o → (∀ ps, o ≠ .tbl ps) ∧ ∀ c q, o ≠ LamX.CodeO c q
  Th : Hp → Prop
  th : ∀ H H' : Hp, (∀ b o, H b = some o → ((∃ ps, o = .tbl ps) ∨ ∃ c q, o = LamX.CodeO c q) → H' b = some o) → Th H → Th H'

/-- a dict that is never changed any more -/
def FzK (S : Hp) (a : Addr) (kvs : List (Key × V)) : Prop := ∃ od, S a = some (.frz od (.dK kvs))
theorem FzK.ex {S S' : Hp} {a : Addr} {kvs : List (Key × V)} (h : FzK S a kvs) (e : Ex S S') : FzK S' a kvs := let ⟨od, h⟩ := h; ⟨od, e _ _ h⟩
theorem FzK.rd {S : Hp} {a : Addr} {kvs : List (Key × V)} (h : FzK S a kvs) : Rd S a (.dK kvs) := let ⟨od, h⟩ := h; .inr ⟨od, h⟩
theorem FzK.inj {S : Hp} {a : Addr} {kvs kws : List (Key × V)} (h : FzK S a kvs) (h' : FzK S a kws) : kvs = kws := by
  obtain ⟨o, h⟩ := h
  obtain ⟨o', h'⟩ := h'
  rw [h] at h'
  cases h'; rfl
section
variable (K : PySem.W.Frag) (W : Wc) (p : Addr) (S : Hp)
mutual
def R : V → D → Prop
  | v, .non => v = .non
  | v, .bl b => v = .bl b
  | v, .int i => v = .int i
  | v, .str x => v = .str x
  | v, .lst ds => ∃ a xs, v = .ref a ∧ S a = some (.lst xs) ∧ RA xs ds
  | v, .tup ds => ∃ a xs, v = .ref a ∧ SqT K S a xs ∧ RA xs ds
  | v, .obj c fs => ∃ a C dx gs, v = .ref a ∧ S a = some (.ins C dx gs) ∧ W.M c = some C ∧ RF gs fs
  | v, .tok => v = .ref p
  | v, .ety => ∃ a, v = .ref a ∧ FzK S a []
  | v, .dct ks => ks ≠ [] ∧ ∃ a kvs, v = .ref a ∧ FzK S a kvs ∧ RK kvs ks
def RA : List V → List D → Prop
  | xs, [] => xs = []
  | xs, d :: ds => ∃ y ys, xs = y :: ys ∧ R y d ∧ RA ys ds
def RF : List (Str × V) → List (Str × D) → Prop
  | gs, [] => gs = []
  | gs, (n, d) :: fs => ∃ y ys, gs = (n, y) :: ys ∧ R y d ∧ RF ys fs
def RK : List (Key × V) → List (Key × D) → Prop
  | gs, [] => gs = []
  | gs, (n, d) :: fs => ∃ y ys, gs = (n, y) :: ys ∧ R y d ∧ RK ys fs
end
end
section
variable {K : PySem.W.Frag} {W : Wc} {p : Addr} {S S' : Hp}
mutual
theorem R.mono (e : Ex S S') : ∀ (d : D) (v : V), R K W p S v d → R K W p S' v d
  | .non, _, h => h
  | .bl _, _, h => h
  | .int _, _, h => h
  | .str _, _, h => h
  | .lst ds, v, h => by
    unfold R at h ⊢
    obtain ⟨a, xs, rfl, h1, h2⟩ := h
    exact ⟨a, xs, rfl, e _ _ h1, RA.mono e ds xs h2⟩
  | .tup ds, v, h => by
    unfold R at h ⊢
    obtain ⟨a, xs, rfl, h1, h2⟩ := h
    exact ⟨a, xs, rfl, e.t h1, RA.mono e ds xs h2⟩
  | .obj c fs, v, h => by
    unfold R at h ⊢
    obtain ⟨a, C, dx, gs, rfl, h1, h2, h3⟩ := h
    exact ⟨a, C, dx, gs, rfl, e _ _ h1, h2, RF.mono e fs gs h3⟩
  | .tok, _, h => h
  | .ety, v, h => by
    unfold R at h ⊢
    obtain ⟨a, rfl, h1⟩ := h
    exact ⟨a, rfl, h1.ex e⟩
  | .dct ks, v, h => by
    unfold R at h ⊢
    obtain ⟨h0, a, kvs, rfl, h1, h2⟩ := h
    exact ⟨h0, a, kvs, rfl, h1.ex e, RK.mono e ks kvs h2⟩
theorem RA.mono (e : Ex S S') : ∀ (ds : List D) (xs : List V), RA K W p S xs ds → RA K W p S' xs ds
  | [], _, h => h
  | d :: ds, xs, h => by
    unfold RA at h ⊢
    obtain ⟨y, ys, rfl, h1, h2⟩ := h
    exact ⟨y, ys, rfl, R.mono e d y h1, RA.mono e ds ys h2⟩
theorem RF.mono (e : Ex S S') : ∀ (ds : List (Str × D)) (xs : List (Str × V)), RF K W p S xs ds → RF K W p S' xs ds
  | [], _, h => h
  | (n, d) :: ds, xs, h => by
    unfold RF at h ⊢
    obtain ⟨y, ys, rfl, h1, h2⟩ := h
    exact ⟨y, ys, rfl, R.mono e d y h1, RF.mono e ds ys h2⟩
theorem RK.mono (e : Ex S S') : ∀ (ds : List (Key × D)) (xs : List (Key × V)), RK K W p S xs ds → RK K W p S' xs ds
  | [], _, h => h
  | (n, d) :: ds, xs, h => by
    unfold RK at h ⊢
    obtain ⟨y, ys, rfl, h1, h2⟩ := h
    exact ⟨y, ys, rfl, R.mono e d y h1, RK.mono e ds ys h2⟩
end
theorem RA.length : ∀ {ds : List D} {xs : List V}, RA K W p S xs ds → xs.length = ds.length
  | [], xs, h => by unfold RA at h; subst h; rfl
  | d :: ds, xs, h => by
    unfold RA at h
    obtain ⟨y, ys, rfl, _, h2⟩ := h
    simp [RA.length h2]
theorem RA.nil : RA K W p S [] [] := by unfold RA; rfl
theorem RA.cons {v : V} {d : D} {vs : List V} {ds : List D} (h : R K W p S v d) (t : RA K W p S vs ds) : RA K W p S (v :: vs) (d :: ds) := by unfold RA; exact ⟨v, vs, rfl, h, t⟩
theorem RA.append : ∀ {ds : List D} {xs : List V} {es : List D} {ys : List V}, RA K W p S xs ds → RA K W p S ys es → RA K W p S (xs ++ ys) (ds ++ es)
  | [], xs, es, ys, h, k => by unfold RA at h; subst h; exact k
  | d :: ds, xs, es, ys, h, k => by
    unfold RA at h
    obtain ⟨y, zs, rfl, h1, h2⟩ := h
    exact RA.cons h1 (RA.append h2 k)
theorem RA.get : ∀ {ds : List D} {xs : List V} {i : Nat} {v : V}, RA K W p S xs ds → xs[i]? = some v → ∃ d, ds[i]? = some d ∧ R K W p S v d
  | [], xs, i, v, h, e => by unfold RA at h; subst h; simp at e
  | d :: ds, xs, i, v, h, e => by
    unfold RA at h
    obtain ⟨y, ys, rfl, h1, h2⟩ := h
    cases i with
    | zero => simp at e; subst e; exact ⟨d, by simp, h1⟩
    | succ i =>
      obtain ⟨d', q1, q2⟩ := RA.get (i := i) (v := v) h2 (by simpa using e)
      exact ⟨d', by simpa using q1, q2⟩
theorem RA.at : ∀ {ds : List D} {xs : List V} {i : Nat} {d : D}, RA K W p S xs ds → ds[i]? = some d → ∃ v, xs[i]? = some v ∧ R K W p S v d
  | [], xs, i, v, h, e => by simp at e
  | d0 :: ds, xs, i, d, h, e => by
    unfold RA at h
    obtain ⟨y, ys, rfl, h1, h2⟩ := h
    cases i with
    | zero => simp at e; subst e; exact ⟨y, by simp, h1⟩
    | succ i =>
      obtain ⟨d', q1, q2⟩ := RA.at (i := i) (d := d) h2 (by simpa using e)
      exact ⟨d', by simpa using q1, q2⟩
theorem RA.take : ∀ (n : Nat) {ds : List D} {xs : List V}, RA K W p S xs ds → RA K W p S (xs.take n) (ds.take n)
  | 0, _, _, _ => by simp; exact RA.nil
  | n + 1, [], xs, h => by unfold RA at h; subst h; simp; exact RA.nil
  | n + 1, d :: ds, xs, h => by
    unfold RA at h
    obtain ⟨y, ys, rfl, h1, h2⟩ := h
    exact RA.cons h1 (RA.take n h2)
theorem RA.drop : ∀ (n : Nat) {ds : List D} {xs : List V}, RA K W p S xs ds → RA K W p S (xs.drop n) (ds.drop n)
  | 0, _, _, h => h
  | n + 1, [], xs, h => by unfold RA at h; subst h; simp; exact RA.nil
  | n + 1, d :: ds, xs, h => by
    unfold RA at h
    obtain ⟨y, ys, rfl, h1, h2⟩ := h
    exact RA.drop n h2
end

/-! ### states -/
/-- tables and code objects stay -/
def Keeps (H H' : Hp) : Prop := ∀ b o, H b = some o → ((∃ ps, o = .tbl ps) ∨ ∃ c q, o = LamX.CodeO c q) → H' b = some o
theorem Keeps.of {H H' : Hp} (e : Ex H H') : Keeps H H' := fun b o h _ => e b o h
theorem keeps_put {H : Hp} {q : Addr} {u o : HO} (h : H q = some u) (n : (∀ ps, u ≠ .tbl ps) ∧ ∀ c x, u ≠ LamX.CodeO c x) : Keeps H (upd H q o) := fun b v e k => by
  have : b ≠ q := fun z => by
    rw [z, h] at e
    cases e
    rcases k with ⟨ps, z⟩ | ⟨c, x, z⟩
    · exact n.1 _ z
    · exact n.2 _ _ z
  rw [upd_ne this]
  exact e
def Tb (W : Wc) (S H : Hp) : Prop := W.Th H ∧ ∀ b ps, S b ≠ some (.tbl ps)
theorem tabs_new {W : Wc} {S H : Hp} {q : Addr} {o : HO} (t : Tb W S H) (h : H q = none) : Tb W S (upd H q o) := ⟨W.th _ _ (Keeps.of (Ex.new h)) t.1, t.2⟩
theorem tb_tell {W : Wc} {S H : Hp} {q : Addr} {o : HO} (t : Tb W S H) (n : ∀ ps, o ≠ .tbl ps) : Tb W (upd S q o) H := ⟨t.1, fun b ps e => by
  by_cases hb : b = q
  · rw [hb, upd_same] at e
    exact n ps (Option.some.inj e)
  · rw [upd_ne hb] at e
    exact t.2 b ps e⟩
theorem tabs_put {W : Wc} {S H : Hp} {q : Addr} {u o : HO} (t : Tb W S H) (h : H q = some u) (n : (∀ ps, u ≠ .tbl ps) ∧ ∀ c x, u ≠ LamX.CodeO c x) : Tb W S (upd H q o) := ⟨W.th _ _ (keeps_put h n) t.1, t.2⟩
theorem nt_lst {vs : List V} : (∀ ps, (HO.lst vs) ≠ .tbl ps) ∧ ∀ c x, (HO.lst vs) ≠ LamX.CodeO c x := ⟨nofun, fun c q z => by unfold LamX.CodeO at z; cases z⟩
theorem nt_ins {C dx : Addr} {gs : List (Str × V)} : (∀ ps, (HO.ins C dx gs) ≠ .tbl ps) ∧ ∀ c x, (HO.ins C dx gs) ≠ LamX.CodeO c x := ⟨nofun, fun c q z => by unfold LamX.CodeO at z; cases z⟩
structure Stt (W : Wc) (p : Addr) (S H : Hp) : Prop where
  tabs : Tb W S H
  ex : Ex S H
  hid : S p = none
  src : ∃ o, H p = some o ∧ W.Sr S o
structure Grow (W : Wc) (p : Addr) (S H S' H' : Hp) : Prop where
  ex : Ex S S'
  st : Stt W p S' H'
  kp : ∀ b o, b ≠ p → H b = some o → H' b = some o ∨ ∃ ps qs, o = .tbl ps ∧ H' b = some (.tbl qs)
  fr : ∀ b, H b ≠ none → S b = none → S' b = none
section
variable {W : Wc} {p : Addr} {S H S1 H1 S2 H2 : Hp}
theorem Grow.keep (g : Grow W p S H S1 H1) (b : Addr) (o : HO) (n : b ≠ p) (h : H b = some o) (nt : ∀ ps, o ≠ .tbl ps := by nofun) : H1 b = some o := by
  rcases g.kp b o n h with z | ⟨ps, _, z, _⟩
  · exact z
  · exact (nt ps z).elim
theorem Grow.live (g : Grow W p S H S1 H1) (b : Addr) (n : b ≠ p) (h : H b ≠ none) : H1 b ≠ none := by
  cases e : H b with
  | none => exact absurd e h
  | some o =>
    rcases g.kp b o n e with z | ⟨_, _, _, z⟩ <;> rw [z] <;> simp
theorem Grow.dead (g : Grow W p S H S1 H1) (b : Addr) (n : b ≠ p) (h : H1 b = none) : H b = none := by
  cases e : H b with
  | none => rfl
  | some o => exact absurd h (g.live b n (by rw [e]; simp))
theorem Grow.refl (s : Stt W p S H) : Grow W p S H S H := ⟨Ex.refl S, s, fun _ _ _ h => .inl h, fun _ _ h => h⟩
theorem Grow.trans (a : Grow W p S H S1 H1) (b : Grow W p S1 H1 S2 H2) : Grow W p S H S2 H2 where
  ex := a.ex.trans b.ex
  st := b.st
  kp := fun c o n h => by
    rcases a.kp c o n h with z | ⟨ps, qs, e, z⟩
    · exact b.kp c o n z
    · subst e
      rcases b.kp c _ n z with y | ⟨_, us, _, y⟩
      · exact .inr ⟨ps, qs, rfl, y⟩
      · exact .inr ⟨ps, us, rfl, y⟩
  fr := fun c h n => b.fr c (by
    by_cases hc : c = p
    · subst hc
      obtain ⟨o, e, _⟩ := a.st.src
      rw [e]
      simp
    · exact a.live c hc h) (a.fr c h n)
/-- a new object, known from now on -/
theorem Grow.new {q : Addr} {o : HO} (s : Stt W p S H) (h : H q = none) (nt : ∀ ps, o ≠ .tbl ps := by nofun) : Grow W p S H (upd S q o) (upd H q o) := by
  have hp : p ≠ q := by
    obtain ⟨o', e, _⟩ := s.src
    exact ne_of_none e h
  have hS : S q = none := by
    cases e : S q with
    | none => rfl
    | some u =>
      rw [s.ex q u e] at h
      cases h
  refine ⟨Ex.new hS, ⟨tb_tell (tabs_new s.tabs h) nt, fun a u e => ?_, by rw [upd_ne hp]; exact s.hid, ?_⟩, fun b u _ e => .inl (by rw [upd_ne (ne_of_none e h)]; exact e), fun b n e => ?_⟩
  · by_cases ha : a = q
    · subst ha
      rw [upd_same] at e ⊢
      exact e
    · rw [upd_ne ha] at e ⊢
      exact s.ex a u e
  · obtain ⟨o', e, r⟩ := s.src
    exact ⟨o', by rw [upd_ne hp]; exact e, W.mono _ _ _ (Ex.new hS) r⟩
  · have : b ≠ q := fun z => by rw [z] at n; exact n h
    rw [upd_ne this]
    exact e
end

/-! ### slots -/
inductive Sl where
  | un | sh (d : D) | ow (xs : List D) | ex (a dx : Addr) (c : Nat) (fs : List (Str × D)) | is (a : Addr)
abbrev SEnv := List Sl
abbrev XP := Nat → List (Str × D) → Prop
section
variable (K : PySem.W.Frag) (W : Wc) (p : Addr) (S H : Hp)
def RSl (o : Option V) : Sl → Prop
  | .un => True
  | .sh d => ∃ v, o = some v ∧ R K W p S v d
  | .ow ds => ∃ a vs, o = some (.ref a) ∧ S a = none ∧ a ≠ p ∧ H a = some (.lst vs) ∧ RA K W p S vs ds
  | .ex a dx c dfs => o = some (.ref a) ∧ ∃ gs, H dx = some (.xd gs) ∧ dx ≠ p ∧ RF K W p S gs dfs
  | .is a => o = some (.ref a)
structure Ev (σ : L2.St) (env : SEnv) : Prop where
  at_ : ∀ (i : Nat) (s : Sl), env[i]? = some s → ∃ o, σ[i]? = some o ∧ RSl K W p S H o s
  dis : ∀ (i j : Nat) (ds es : List D), i ≠ j → env[i]? = some (.ow ds) → env[j]? = some (.ow es) → σ[i]? ≠ σ[j]?
end
section
variable {K : PySem.W.Frag} {W : Wc} {p : Addr} {S H S' H' : Hp} {σ : L2.St} {env : SEnv}
theorem RSl.mono {o : Option V} {s : Sl} (g : Grow W p S H S' H') (h : RSl K W p S H o s) : RSl K W p S' H' o s := by
  cases s with
  | un => trivial
  | sh d =>
    obtain ⟨v, e, r⟩ := h
    exact ⟨v, e, R.mono g.ex _ _ r⟩
  | ow ds =>
    obtain ⟨a, vs, e, h1, h2, h3, h4⟩ := h
    exact ⟨a, vs, e, g.fr a (by rw [h3]; simp) h1, h2, g.keep a _ h2 h3, RA.mono g.ex _ _ h4⟩
  | ex a dx c dfs =>
    obtain ⟨e, gs, h1, h2, h3⟩ := h
    exact ⟨e, gs, g.keep dx _ h2 h1, h2, RF.mono g.ex _ _ h3⟩
  | is a => exact h
theorem Ev.mono (g : Grow W p S H S' H') (h : Ev K W p S H σ env) : Ev K W p S' H' σ env :=
  ⟨fun i s e => let ⟨o, h1, h2⟩ := h.at_ i s e; ⟨o, h1, h2.mono g⟩, h.dis⟩
theorem Ev.set {i : Nat} {v : V} {d : D} (h : Ev K W p S H σ env) (r : R K W p S v d) : Ev K W p S H (σ.set i (some v)) (env.set i (.sh d)) := by
  refine ⟨fun j s e => ?_, fun j k ds es n e1 e2 => ?_⟩
  · by_cases hj : i = j
    · subst hj
      have hl : i < env.length := by
        by_cases hl : i < env.length
        · exact hl
        · rw [List.getElem?_eq_none (by simpa using hl)] at e; cases e
      rw [List.getElem?_set_self hl] at e
      cases e
      have hs : i < σ.length := by
        obtain ⟨o, h1, _⟩ := h.at_ i env[i] (by simp [hl])
        exact (List.getElem?_eq_some_iff.mp h1).1
      exact ⟨_, List.getElem?_set_self hs, v, rfl, r⟩
    · rw [List.getElem?_set_ne hj] at e ⊢
      exact h.at_ j s e
  · have nj : i ≠ j := fun z => by
      subst z
      by_cases hl : i < env.length
      · rw [List.getElem?_set_self hl] at e1; cases e1
      · rw [List.getElem?_eq_none (by simpa using hl)] at e1; cases e1
    have nk : i ≠ k := fun z => by
      subst z
      by_cases hl : i < env.length
      · rw [List.getElem?_set_self hl] at e2; cases e2
      · rw [List.getElem?_eq_none (by simpa using hl)] at e2; cases e2
    rw [List.getElem?_set_ne nj] at e1 ⊢
    rw [List.getElem?_set_ne nk] at e2 ⊢
    exact h.dis j k ds es n e1 e2
end
end DL

set_option Elab.async false
set_option linter.all false
set_option maxRecDepth 100000
set_option maxHeartbeats 1000000
/-! judgements over data -/
namespace DL
open PySem L2

abbrev DE := SEnv → XP → (D → Prop) → Prop
abbrev DT := SEnv → XP → (Bool → Prop) → Prop
abbrev DA := SEnv → XP → (List D → Prop) → Prop
structure DEnds where
  nx : SEnv → Prop
  rt : D → Prop
  bk : SEnv → Prop := fun _ => False
  ct : SEnv → Prop := fun _ => False
abbrev DS := DEnds → XP → SEnv → Prop
/-- a def by data: arguments, what is wanted of an error, of a value -/
abbrev DF := List D → XP → (D → Prop) → Prop
abbrev noX : XP := fun _ _ => False

section
variable (K : PySem.W.Frag) (W : Wc)
def XOk (p : Addr) (S H : Hp) (xp : XP) (E : XK) : Prop :=
  ∀ c dfs C x fs S' H', xp c dfs → W.M c = some C → x ≠ p → Grow W p S H S' H' → H' x = some (.xd fs) → RF K W p S' fs dfs → E (.ref C) (some x) H'
/-- .. from a state between -/
def XOkS (p : Addr) (S0 H0 S : Hp) (xp : XP) (E : XK) : Prop :=
  ∀ c dfs C x fs S' H', xp c dfs → W.M c = some C → x ≠ p → Ex S S' → Grow W p S0 H0 S' H' → H' x = some (.xd fs) → RF K W p S' fs dfs → E (.ref C) (some x) H'
def SE (E : XK) (te : TE) (de : DE) : Prop :=
  ∀ p S H σ env xp, Stt W p S H → Ev K W p S H σ env → XOk K W p S H xp E → ∀ (Q : VK) (post : D → Prop), de env xp post →
    (∀ v d S' H', post d → Grow W p S H S' H' → R K W p S' v d → Q v H') → te σ H Q
def STt (E : XK) (tt : TT) (dt : DT) : Prop :=
  ∀ p S H σ env xp, Stt W p S H → Ev K W p S H σ env → XOk K W p S H xp E → ∀ (Q : Bool → Hp → Prop) (post : Bool → Prop), dt env xp post →
    (∀ b S' H', post b → Grow W p S H S' H' → Q b H') → tt σ H Q
def SA (E : XK) (ta : TA) (da : DA) : Prop :=
  ∀ p S H σ env xp, Stt W p S H → Ev K W p S H σ env → XOk K W p S H xp E → ∀ (Q : List V → Hp → Prop) (post : List D → Prop), da env xp post →
    (∀ vs ds S' H', post ds → Grow W p S H S' H' → RA K W p S' vs ds → Q vs H') → ta σ H Q
/-- a new list, known to nobody yet -/
def SN (E : XK) (te : TE) (dn : DA) : Prop :=
  ∀ p S H σ env xp, Stt W p S H → Ev K W p S H σ env → XOk K W p S H xp E → ∀ (Q : VK) (post : List D → Prop), dn env xp post →
    (∀ q vs ds S' H', post ds → Grow W p S H S' H' → H q = none → S' q = none → H' q = some (.lst vs) → RA K W p S' vs ds → Q (.ref q) H') → te σ H Q
structure Sv (p : Addr) (S0 H0 S H : Hp) (σ : L2.St) (env : SEnv) : Prop where
  g : Grow W p S0 H0 S H
  ev : Ev K W p S H σ env
  own : ∀ (i : Nat) (ds : List D) (a : Addr), env[i]? = some (.ow ds) → σ[i]? = some (some (.ref a)) → H0 a = none
structure EOk (p : Addr) (S0 H0 S : Hp) (D : Ends) (DD : DEnds) : Prop where
  nx : ∀ S' H' σ' env', Ex S S' → Sv K W p S0 H0 S' H' σ' env' → DD.nx env' → D.nx σ' H'
  rt : ∀ S' H' v d, Ex S S' → Grow W p S0 H0 S' H' → R K W p S' v d → DD.rt d → D.rt v H'
  bk : ∀ S' H' σ' env', Ex S S' → Sv K W p S0 H0 S' H' σ' env' → DD.bk env' → D.bk σ' H'
  ct : ∀ S' H' σ' env', Ex S S' → Sv K W p S0 H0 S' H' σ' env' → DD.ct env' → D.ct σ' H'
def SS (E : XK) (ts : TS) (ds : DS) : Prop :=
  ∀ p S0 H0 S H σ env xp, Sv K W p S0 H0 S H σ env → XOkS K W p S0 H0 S xp E → ∀ (D : Ends) (DD : DEnds), ds DD xp env → EOk K W p S0 H0 S D DD → ts D σ H
/-- the promise of a def by data -/
def spD (f : DF) : Sp := fun vs H Q E => ∃ p S ds post xp, Stt W p S H ∧ RA K W p S vs ds ∧ f ds xp post ∧
  (∀ v d S' H', post d → Grow W p S H S' H' → R K W p S' v d → Q v H') ∧ XOk K W p S H xp E
end
theorem XOk.mono {K : PySem.W.Frag} {W : Wc} {p : Addr} {S H S1 H1 : Hp} {xp : XP} {E : XK} (g : Grow W p S H S1 H1) (h : XOk K W p S H xp E) : XOk K W p S1 H1 xp E :=
  fun c dfs C x fs S' H' a b n g' e r => h c dfs C x fs S' H' a b n (g.trans g') e r
theorem XOkS.ex {K : PySem.W.Frag} {W : Wc} {p : Addr} {S0 H0 S S1 : Hp} {xp : XP} {E : XK} (h : XOkS K W p S0 H0 S xp E) (x : Ex S S1) : XOkS K W p S0 H0 S1 xp E :=
  fun c dfs C y fs S' H' a b n x' g' e r => h c dfs C y fs S' H' a b n (x.trans x') g' e r
theorem XOk.s {K : PySem.W.Frag} {W : Wc} {p : Addr} {S0 H0 S : Hp} {xp : XP} {E : XK} (h : XOk K W p S0 H0 xp E) : XOkS K W p S0 H0 S xp E :=
  fun c dfs C y fs S' H' a b n _ g' e r => h c dfs C y fs S' H' a b n g' e r
theorem XOk.no {K : PySem.W.Frag} {W : Wc} {p : Addr} {S H : Hp} {E : XK} : XOk K W p S H noX E := fun _ _ _ _ _ _ _ h => h.elim
theorem XOkS.no {K : PySem.W.Frag} {W : Wc} {p : Addr} {S0 H0 S : Hp} {E : XK} : XOkS K W p S0 H0 S noX E := fun _ _ _ _ _ _ _ h => h.elim

section
variable (X : Cx) (W : Wc) (E : XK)
structure PD (e : Expr) (te : TE) (de : DE) : Prop where
  pe : PE X e te
  se : SE X.K W E te de
structure PDT (e : Expr) (tt : TT) (dt : DT) : Prop where
  pe : PT X e tt
  se : STt X.K W E tt dt
structure PDW (e : Expr) (tt : TT) (dt : DT) : Prop where
  pe : PW X e tt
  se : STt X.K W E tt dt
structure PDA (es : List Expr) (ta : TA) (da : DA) : Prop where
  pe : PA X es ta
  se : SA X.K W E ta da
structure PDN (e : Expr) (te : TE) (dn : DA) : Prop where
  pe : PE X e te
  se : SN X.K W E te dn
structure PDS (st : Stmt) (ts : TS) (ds : DS) : Prop where
  pe : PS X st ts
  se : SS X.K W E ts ds
structure PDSs (sts : List Stmt) (ts : TS) (ds : DS) : Prop where
  pe : PSs X sts ts
  se : SS X.K W E ts ds
end

section
variable {X : Cx} {W : Wc} {E : XK} {a b c e : Expr} {es : List Expr} {pos : Pos} {da db dc de : DE} {dt du : DT} {ta tb tc te : TE} {t u : TT} {tr : TA}

/-! ### names, constants -/
def dVar (i : Nat) : DE := fun env _ post => match env[i]? with
  | some (.sh d) => post d
  | _ => False
def dC (d : D) : DE := fun _ _ post => post d
theorem pd_var (i : Nat) {x : Str} (hN : X.N[i]? = some x := by rfl) (hv : Vis X.env.scope x := by first | exact Or.inl rfl | exact Or.inr (Or.inl rfl) | exact Or.inr (Or.inr rfl)) (hd : (x == ("__debug__" : Str)) = false := by decide)
    (hcd : (x == ("__classdict__" : Str)) = false := by decide) : PD X W E (.Name x pos) (tVar i) (dVar i) := by
  refine ⟨pe_var hN hv hd hcd, fun p S H σ env xp st ev _ Q post h k => ?_⟩
  unfold dVar at h
  split at h
  · rename_i d e
    obtain ⟨o, e1, v, rfl, r⟩ := ev.at_ i _ e
    exact ⟨v, e1, k v d S H h (Grow.refl st) r⟩
  · exact h.elim
theorem se_c {K : PySem.W.Frag} {v : V} {d : D} (r : ∀ p S, R K W p S v d) : SE K W E (tC v) (dC d) := fun p S H σ env xp st ev _ Q post h k => k v d S H h (Grow.refl st) (r p S)
theorem pd_int {i : Int} {j : Nat} : PD X W E (.Constant (.int i) j pos) (tC (.int i)) (dC (.int i)) := ⟨pe_int, se_c fun _ _ => rfl⟩
theorem pd_bl {i : Bool} {j : Nat} : PD X W E (.Constant (.bool i) j pos) (tC (.bl i)) (dC (.bl i)) := ⟨pe_bl, se_c fun _ _ => rfl⟩
theorem pd_non {j : Nat} : PD X W E (.Constant .none j pos) (tC .non) (dC .non) := ⟨pe_non, se_c fun _ _ => rfl⟩
theorem pd_str {x : Str} {j : Nat} : PD X W E (.Constant (.str x) j pos) (tC (.str x)) (dC (.str x)) := ⟨pe_str, se_c fun _ _ => rfl⟩
theorem pd_glob {x : Str} {v : V} {u : Value} {d : D} (hg : Gl X x) (hm : X.mg x = some u) (r : RelV v u) (q : ∀ p S, R X.K W p S v d) (hd : (x == ("__debug__" : Str)) = false := by decide) : PD X W E (.Name x pos) (tC v) (dC d) :=
  ⟨pe_glob hg hm r hd, se_c q⟩

/-! ### operations on two values -/
def RB (K : PySem.W.Frag) (W : Wc) (r : R2) (b : D → D → (D → Prop) → Prop) : Prop :=
  ∀ p S H x y d e (Q : VK) (post : D → Prop), Stt W p S H → R K W p S x d → R K W p S y e → b d e post →
    (∀ v d' S' H', post d' → Grow W p S H S' H' → R K W p S' v d' → Q v H') → r x y H Q
def dOp (o : D → D → (D → Prop) → Prop) (da db : DE) : DE := fun env xp post => da env xp fun x => db env xp fun y => o x y post
theorem se_op {K : PySem.W.Frag} {r : R2} {o : D → D → (D → Prop) → Prop} {ta tb : TE} (hr : RB K W r o) (ha : SE K W E ta da) (hb : SE K W E tb db) : SE K W E (tOp r ta tb) (dOp o da db) :=
  fun p S H σ env xp st ev xo Q post h k => ha p S H σ env xp st ev xo _ _ h fun v d S1 H1 h1 g1 r1 =>
    hb p S1 H1 σ env xp g1.st (ev.mono g1) (xo.mono g1) _ _ h1 fun w d2 S2 H2 h2 g2 r2 =>
      hr p S2 H2 v w d d2 Q post g2.st (R.mono g2.ex _ _ r1) r2 h2 fun u d3 S3 H3 h3 g3 r3 => k u d3 S3 H3 h3 ((g1.trans g2).trans g3) r3
theorem pd_op {op : Operator} {r : R2} {o : D → D → (D → Prop) → Prop} (ho : OpR X (binaryOp op) r) (hr : RB X.K W r o) (ha : PD X W E a ta da) (hb : PD X W E b tb db) : PD X W E (.BinOp a op b pos) (tOp r ta tb) (dOp o da db) := by
  obtain ⟨pa, sa⟩ := ha
  obtain ⟨pb, sb⟩ := hb
  exact ⟨pe_op ho pa pb, se_op hr sa sb⟩
theorem pd_cmp {op : CmpOp} {r : R2} {o : D → D → (D → Prop) → Prop} (ho : OpR X (compareOp op) r) (hr : RB X.K W r o) (ha : PD X W E a ta da) (hb : PD X W E b tb db) (hm : behindInMarks op b = false) : PD X W E (.Compare a [op] [b] pos) (tOp r ta tb) (dOp o da db) := by
  obtain ⟨pa, sa⟩ := ha
  obtain ⟨pb, sb⟩ := hb
  exact ⟨pe_cmpR ho pa pb hm, se_op hr sa sb⟩
def dTest (de : DE) : DT := fun env xp post => de env xp fun d => match d with
  | .bl b => post b
  | _ => False
theorem st_test {K : PySem.W.Frag} {te : TE} (h : SE K W E te de) : STt K W E (tTest te) (dTest de) := fun p S H σ env xp st ev xo Q post q k =>
  h p S H σ env xp st ev xo _ _ q fun v d S1 H1 h1 g1 r1 => by
    cases d with
    | bl b =>
      have r1' : v = .bl b := r1
      exact ⟨b, r1', k b S1 H1 h1 g1⟩
    | _ => exact (show False from h1).elim
theorem pdt_cmp {op : CmpOp} {r : R2} {o : D → D → (D → Prop) → Prop} (ho : OpR X (compareOp op) r) (hr : RB X.K W r o) (ha : PD X W E a ta da) (hb : PD X W E b tb db) (hm : behindInMarks op b = false) : PDT X W E (.Compare a [op] [b] pos) (tTest (tOp r ta tb)) (dTest (dOp o da db)) := by
  obtain ⟨pa, sa⟩ := ha
  obtain ⟨pb, sb⟩ := hb
  exact ⟨pt_cmpR ho pa pb hm, st_test (se_op hr sa sb)⟩
theorem pdt_val (h : PD X W E e te de) (he : ∀ whole, isTrue e X.env whole = (do let v ← whole; standAt e.pos; holding [v] (truthy v)) := by intro _; rfl) : PDT X W E e (tB te) (dTest de) := by
  obtain ⟨pe, se⟩ := h
  exact ⟨pt_val pe he, st_test se⟩
/-- a op b op' c -/
def dChain (o o' : D → D → (D → Prop) → Prop) (da db dc : DE) : DE := fun env xp post => da env xp fun x => db env xp fun y => o x y fun z => match z with
  | .bl true => dc env xp fun w => o' y w post
  | .bl false => post (.bl false)
  | _ => False
theorem se_chain {K : PySem.W.Frag} {r r' : R2} {o o' : D → D → (D → Prop) → Prop} {ta tb tc : TE} (hr : RB K W r o) (hr' : RB K W r' o') (ha : SE K W E ta da) (hb : SE K W E tb db) (hc : SE K W E tc dc) : SE K W E (tChain r r' ta tb tc) (dChain o o' da db dc) :=
  fun p S H σ env xp st ev xo Q post h k => ha p S H σ env xp st ev xo _ _ h fun v d S1 H1 h1 g1 r1 =>
    hb p S1 H1 σ env xp g1.st (ev.mono g1) (xo.mono g1) _ _ h1 fun w d2 S2 H2 h2 g2 r2 =>
      hr p S2 H2 v w d d2 _ _ g2.st (R.mono g2.ex _ _ r1) r2 h2 fun u d3 S3 H3 h3 g3 r3 => by
        have g := (g1.trans g2).trans g3
        cases d3 with
        | bl b =>
          have r3' : u = .bl b := r3
          refine ⟨b, r3', ?_⟩
          cases b with
          | true =>
            rw [if_pos rfl]
            exact hc p S3 H3 σ env xp g3.st (ev.mono g) (xo.mono g) _ _ h3 fun u4 d4 S4 H4 h4 g4 r4 =>
              hr' p S4 H4 w u4 d2 d4 Q post g4.st (R.mono (g3.ex.trans g4.ex) _ _ r2) r4 h4 fun u5 d5 S5 H5 h5 g5 r5 => k u5 d5 S5 H5 h5 ((g.trans g4).trans g5) r5
          | false =>
            rw [if_neg Bool.false_ne_true]
            exact k _ _ S3 H3 h3 g rfl
        | _ => exact (show False from h3).elim
theorem pd_chain {op op' : CmpOp} {r r' : R2} {o o' : D → D → (D → Prop) → Prop} (ho : OpR X (compareOp op) r) (ho' : OpR X (compareOp op') r') (hr : RB X.K W r o) (hr' : RB X.K W r' o') (ha : PD X W E a ta da) (hb : PD X W E b tb db) (hc : PD X W E c tc dc)
    (hm : lastMarks [op, op'] [b, c] = false := by with_unfolding_all rfl) : PD X W E (.Compare a [op, op'] [b, c] pos) (tChain r r' ta tb tc) (dChain o o' da db dc) := by
  obtain ⟨pa, sa⟩ := ha
  obtain ⟨pb, sb⟩ := hb
  obtain ⟨pc, sc⟩ := hc
  exact ⟨pe_chain ho ho' pa pb pc hm, se_chain hr hr' sa sb sc⟩
theorem pdt_chain {op op' : CmpOp} {r r' : R2} {o o' : D → D → (D → Prop) → Prop} (ho : OpR X (compareOp op) r) (ho' : OpR X (compareOp op') r') (hr : RB X.K W r o) (hr' : RB X.K W r' o') (ha : PD X W E a ta da) (hb : PD X W E b tb db) (hc : PD X W E c tc dc)
    (hm : lastMarks [op, op'] [b, c] = false := by with_unfolding_all rfl) : PDT X W E (.Compare a [op, op'] [b, c] pos) (tTest (tChain r r' ta tb tc)) (dTest (dChain o o' da db dc)) := by
  obtain ⟨pa, sa⟩ := ha
  obtain ⟨pb, sb⟩ := hb
  obtain ⟨pc, sc⟩ := hc
  exact ⟨pt_chain ho ho' pa pb pc hm, st_test (se_chain hr hr' sa sb sc)⟩

/-! ### and, or, not, choices -/
def dAnd (dt du : DT) : DT := fun env xp post => dt env xp fun b => if b = true then du env xp post else post false
def dOr (dt du : DT) : DT := fun env xp post => dt env xp fun b => if b = true then post true else du env xp post
def dNot (dt : DT) : DT := fun env xp post => dt env xp fun b => post (!b)
theorem st_and {K : PySem.W.Frag} {t u : TT} (h1 : STt K W E t dt) (h2 : STt K W E u du) : STt K W E (tAnd t u) (dAnd dt du) := fun p S H σ env xp st ev xo Q post q k =>
  h1 p S H σ env xp st ev xo _ _ q fun b S1 H1 q1 g1 => by
    cases b with
    | true =>
      rw [if_pos rfl] at q1 ⊢
      exact h2 p S1 H1 σ env xp g1.st (ev.mono g1) (xo.mono g1) _ _ q1 fun b S2 H2 q2 g2 => k b S2 H2 q2 (g1.trans g2)
    | false =>
      rw [if_neg Bool.false_ne_true] at q1 ⊢
      exact k _ S1 H1 q1 g1
theorem st_or {K : PySem.W.Frag} {t u : TT} (h1 : STt K W E t dt) (h2 : STt K W E u du) : STt K W E (tOr t u) (dOr dt du) := fun p S H σ env xp st ev xo Q post q k =>
  h1 p S H σ env xp st ev xo _ _ q fun b S1 H1 q1 g1 => by
    cases b with
    | true =>
      rw [if_pos rfl] at q1 ⊢
      exact k _ S1 H1 q1 g1
    | false =>
      rw [if_neg Bool.false_ne_true] at q1 ⊢
      exact h2 p S1 H1 σ env xp g1.st (ev.mono g1) (xo.mono g1) _ _ q1 fun b S2 H2 q2 g2 => k b S2 H2 q2 (g1.trans g2)
theorem st_not {K : PySem.W.Frag} {t : TT} (h1 : STt K W E t dt) : STt K W E (tNot t) (dNot dt) := fun p S H σ env xp st ev xo Q post q k =>
  h1 p S H σ env xp st ev xo _ _ q fun b S1 H1 q1 g1 => k (!b) S1 H1 q1 g1
theorem PDW.pt (h : PDW X W E e t dt) : PDT X W E e t dt := let ⟨p, s⟩ := h; ⟨p.pt, s⟩
theorem pdw_and1 (ha : PDT X W E a t dt) : PDW X W E (.BoolOp .And [a] pos) t dt := let ⟨p, s⟩ := ha; ⟨pw_and1 p, s⟩
theorem pdw_or1 (ha : PDT X W E a t dt) : PDW X W E (.BoolOp .Or [a] pos) t dt := let ⟨p, s⟩ := ha; ⟨pw_or1 p, s⟩
theorem pdw_and (ha : PDT X W E a t dt) (hb : PDW X W E (.BoolOp .And (b :: es) pos) u du) : PDW X W E (.BoolOp .And (a :: b :: es) pos) (tAnd t u) (dAnd dt du) := let ⟨p, s⟩ := ha; let ⟨p', s'⟩ := hb; ⟨pw_and p p', st_and s s'⟩
theorem pdw_or (ha : PDT X W E a t dt) (hb : PDW X W E (.BoolOp .Or (b :: es) pos) u du) : PDW X W E (.BoolOp .Or (a :: b :: es) pos) (tOr t u) (dOr dt du) := let ⟨p, s⟩ := ha; let ⟨p', s'⟩ := hb; ⟨pw_or p p', st_or s s'⟩
theorem pdt_not (ha : PDT X W E a t dt) : PDT X W E (.UnaryOp .Not a pos) (tNot t) (dNot dt) := let ⟨p, s⟩ := ha; ⟨pt_not p, st_not s⟩
def dAndV (da db : DE) : DE := fun env xp post => da env xp fun d => match d with
  | .bl true => db env xp post
  | .bl false => post (.bl false)
  | _ => False
def dOrV (da db : DE) : DE := fun env xp post => da env xp fun d => match d with
  | .bl true => post (.bl true)
  | .bl false => db env xp post
  | _ => False
def dNotV (da : DE) : DE := fun env xp post => da env xp fun d => match d with
  | .bl b => post (.bl (!b))
  | _ => False
theorem pd_one {op} (h : PD X W E a ta da) : PD X W E (.BoolOp op [a] pos) ta da := let ⟨p, s⟩ := h; ⟨pe_one p, s⟩
theorem pd_and (ha : PD X W E a ta da) (hb : PD X W E (.BoolOp .And (b :: es) pos) tb db) : PD X W E (.BoolOp .And (a :: b :: es) pos) (tAndV ta tb) (dAndV da db) := by
  obtain ⟨pa, sa⟩ := ha
  obtain ⟨pb, sb⟩ := hb
  refine ⟨pe_and pa pb, fun p S H σ env xp st ev xo Q post h k => sa p S H σ env xp st ev xo _ _ h fun v d S1 H1 h1 g1 r1 => ?_⟩
  cases d with
  | bl c =>
    have r1' : v = .bl c := r1
    refine ⟨c, r1', ?_⟩
    cases c with
    | true =>
      rw [if_pos rfl]
      exact sb p S1 H1 σ env xp g1.st (ev.mono g1) (xo.mono g1) _ _ h1 fun w d2 S2 H2 h2 g2 r2 => k w d2 S2 H2 h2 (g1.trans g2) r2
    | false =>
      rw [if_neg Bool.false_ne_true]
      exact k _ _ S1 H1 h1 g1 rfl
  | _ => exact (show False from h1).elim
theorem pd_or (ha : PD X W E a ta da) (hb : PD X W E (.BoolOp .Or (b :: es) pos) tb db) : PD X W E (.BoolOp .Or (a :: b :: es) pos) (tOrV ta tb) (dOrV da db) := by
  obtain ⟨pa, sa⟩ := ha
  obtain ⟨pb, sb⟩ := hb
  refine ⟨pe_or pa pb, fun p S H σ env xp st ev xo Q post h k => sa p S H σ env xp st ev xo _ _ h fun v d S1 H1 h1 g1 r1 => ?_⟩
  cases d with
  | bl c =>
    have r1' : v = .bl c := r1
    refine ⟨c, r1', ?_⟩
    cases c with
    | true =>
      rw [if_pos rfl]
      exact k _ _ S1 H1 h1 g1 rfl
    | false =>
      rw [if_neg Bool.false_ne_true]
      exact sb p S1 H1 σ env xp g1.st (ev.mono g1) (xo.mono g1) _ _ h1 fun w d2 S2 H2 h2 g2 r2 => k w d2 S2 H2 h2 (g1.trans g2) r2
  | _ => exact (show False from h1).elim
theorem pd_not (ha : PD X W E a ta da) : PD X W E (.UnaryOp .Not a pos) (tNotV ta) (dNotV da) := by
  obtain ⟨pa, sa⟩ := ha
  refine ⟨pe_not pa, fun p S H σ env xp st ev xo Q post h k => sa p S H σ env xp st ev xo _ _ h fun v d S1 H1 h1 g1 r1 => ?_⟩
  cases d with
  | bl c =>
    have r1' : v = .bl c := r1
    exact ⟨c, r1', k _ _ S1 H1 h1 g1 rfl⟩
  | _ => exact (show False from h1).elim
def dIf (dt : DT) (da db : DE) : DE := fun env xp post => dt env xp fun b => if b = true then da env xp post else db env xp post
theorem pd_ifExp (hc : PDT X W E c t dt) (ha : PD X W E a ta da) (hb : PD X W E b tb db) : PD X W E (.IfExp c a b pos) (tIf t ta tb) (dIf dt da db) := by
  obtain ⟨pc, sc⟩ := hc
  obtain ⟨pa, sa⟩ := ha
  obtain ⟨pb, sb⟩ := hb
  refine ⟨pe_ifExp pc pa pb, fun p S H σ env xp st ev xo Q post h k => sc p S H σ env xp st ev xo _ _ h fun z S1 H1 h1 g1 => ?_⟩
  cases z with
  | true =>
    rw [if_pos rfl] at h1 ⊢
    exact sa p S1 H1 σ env xp g1.st (ev.mono g1) (xo.mono g1) _ _ h1 fun w d2 S2 H2 h2 g2 r2 => k w d2 S2 H2 h2 (g1.trans g2) r2
  | false =>
    rw [if_neg Bool.false_ne_true] at h1 ⊢
    exact sb p S1 H1 σ env xp g1.st (ev.mono g1) (xo.mono g1) _ _ h1 fun w d2 S2 H2 h2 g2 r2 => k w d2 S2 H2 h2 (g1.trans g2) r2

/-! ### arguments, displays -/
def dNil : DA := fun _ _ post => post []
def dCons (da : DE) (dr : DA) : DA := fun env xp post => da env xp fun d => dr env xp fun ds => post (d :: ds)
theorem sa_nil {K : PySem.W.Frag} : SA K W E tNil dNil := fun p S H σ env xp st ev _ Q post h k => k [] [] S H h (Grow.refl st) RA.nil
theorem sa_cons {K : PySem.W.Frag} {ta : TE} {tr : TA} {dr : DA} (ha : SE K W E ta da) (hr : SA K W E tr dr) : SA K W E (tCons ta tr) (dCons da dr) :=
  fun p S H σ env xp st ev xo Q post h k => ha p S H σ env xp st ev xo _ _ h fun v d S1 H1 h1 g1 r1 =>
    hr p S1 H1 σ env xp g1.st (ev.mono g1) (xo.mono g1) _ _ h1 fun vs ds S2 H2 h2 g2 r2 => k (v :: vs) (d :: ds) S2 H2 h2 (g1.trans g2) (RA.cons (R.mono g2.ex _ _ r1) r2)
theorem pda_nil : PDA X W E [] tNil dNil := ⟨pa_nil, sa_nil⟩
theorem pda_cons {dr : DA} (ha : PD X W E a ta da) (hr : PDA X W E es tr dr) (hs : starEach (a :: es) X.env = (false, eval a X.env) :: starEach es X.env := by rfl) : PDA X W E (a :: es) (tCons ta tr) (dCons da dr) := by
  obtain ⟨pa, sa⟩ := ha
  obtain ⟨pr, sr⟩ := hr
  exact ⟨pa_cons pa pr hs, sa_cons sa sr⟩
end
end DL

set_option Elab.async false
set_option linter.all false
set_option maxRecDepth 100000
set_option maxHeartbeats 1000000
/-! displays, calls, walks, comprehensions -/
namespace DL
open PySem L2

section
variable {K : PySem.W.Frag} {W : Wc} {p : Addr} {S H S1 H1 : Hp}
/-- a new object that is not told -/
theorem Grow.hid {q : Addr} {o : HO} (s : Stt W p S H) (h : H q = none) : Grow W p S H S (upd H q o) := by
  have hp : p ≠ q := by
    obtain ⟨o', e, _⟩ := s.src
    exact ne_of_none e h
  refine ⟨Ex.refl S, ⟨tabs_new s.tabs h, fun a u e => ?_, s.hid, ?_⟩, fun b u _ e => .inl (by rw [upd_ne (ne_of_none e h)]; exact e), fun b n e => e⟩
  · rw [upd_ne (ne_of_none (s.ex a u e) h)]
    exact s.ex a u e
  · obtain ⟨o', e, r⟩ := s.src
    exact ⟨o', by rw [upd_ne hp]; exact e, r⟩
theorem Stt.none (s : Stt W p S H) {q : Addr} (h : H q = none) : S q = none := by
  cases e : S q with
  | none => rfl
  | some u =>
    rw [s.ex q u e] at h
    cases h
/-- an object of ours that is not told is told from now on -/
theorem Grow.tell {q : Addr} {o : HO} (s : Stt W p S H) (h : H q = some o) (hq : q ≠ p) (hS : S q = none) (g : Grow W p S1 H1 S H) (f : H1 q = none) (nt : ∀ ps, o ≠ .tbl ps := by nofun) : Grow W p S1 H1 (upd S q o) H := by
  refine ⟨g.ex.trans (Ex.new hS), ⟨tb_tell s.tabs nt, fun a u e => ?_, by rw [upd_ne hq.symm]; exact s.hid, ?_⟩, g.kp, fun b n e => ?_⟩
  · by_cases ha : a = q
    · subst ha
      rw [upd_same] at e
      cases e
      exact h
    · rw [upd_ne ha] at e
      exact s.ex a u e
  · obtain ⟨o', e, r⟩ := s.src
    exact ⟨o', e, W.mono _ _ _ (Ex.new hS) r⟩
  · have : b ≠ q := fun z => by rw [z] at n; exact n f
    rw [upd_ne this]
    exact g.fr b n e
end

section
variable {X : Cx} {W : Wc} {E : XK} {a b c e : Expr} {es : List Expr} {pos : Pos} {da db dc de : DE} {dt du : DT} {ta tb tc te : TE} {t u : TT} {tr : TA} {dr dn : DA}
/-- displays -/
def dFit (dr : DA) : DA := fun env xp post => dr env xp fun ds => ds.length ≤ 100000 ∧ post ds
theorem sz_of {n : Nat} (h : n ≤ 100000) : n ≤ sizeLine := Nat.le_trans h (by decide)
theorem sz_lt {n : Nat} (h : n < 100000) : n < sizeLine := Nat.lt_of_lt_of_le h (by decide)
theorem pdn_lst (h : PDA X W E es tr dr) : PDN X W E (.List es pos) (tLst tr) (dFit dr) :=
  ⟨pe_lst h.pe, fun p S H σ env xp st ev xo Q post q k => h.se p S H σ env xp st ev xo _ _ q fun vs ds S1 H1 ⟨hz, q1⟩ g1 r1 =>
    ⟨by rw [RA.length r1]; exact sz_of hz, fun l hl => k l vs ds S1 _ q1 (g1.trans (Grow.hid g1.st hl)) (by
      have hp : l ≠ p := fun z => by
        obtain ⟨o', e', _⟩ := g1.st.src
        rw [z, e'] at hl
        cases hl
      exact g1.dead l hp hl) (g1.st.none hl) upd_same r1⟩⟩
/-- a list display's data as a value -/
def dLst (dn : DA) : DE := fun env xp post => dn env xp fun ds => post (.lst ds)
theorem PDN.pd (h : PDN X W E e te dn) : PD X W E e te (dLst dn) := ⟨h.pe, fun p S H σ env xp st ev xo Q post q k => h.se p S H σ env xp st ev xo _ _ q fun l vs ds S1 H1 q1 g1 hl hS hH r1 => by
  have hp : l ≠ p := fun z => by
    obtain ⟨o', e', _⟩ := st.src
    rw [z, e'] at hl
    cases hl
  have g := Grow.tell g1.st hH hp hS g1 hl
  refine k _ _ _ _ q1 g ?_
  unfold R
  exact ⟨l, vs, rfl, upd_same, RA.mono (Ex.new hS) _ _ r1⟩⟩
def dTup (dr : DA) : DE := fun env xp post => dr env xp fun ds => ds.length ≤ 100000 ∧ post (.tup ds)
theorem pd_tup {x1} (h : PDA X W E es tr dr) : PD X W E (.Tuple es x1 pos) (tTup tr) (dTup dr) :=
  ⟨pe_tup h.pe, fun p S H σ env xp st ev xo Q post q k => h.se p S H σ env xp st ev xo _ _ q fun vs ds S1 H1 ⟨hz, q1⟩ g1 r1 =>
    ⟨by rw [RA.length r1]; exact sz_of hz, fun l hl => by
      have hS := g1.st.none hl
      refine k _ _ _ _ q1 (g1.trans (Grow.new g1.st hl)) ?_
      unfold R
      exact ⟨l, vs, rfl, SqT.of upd_same, RA.mono (Ex.new hS) _ _ r1⟩⟩⟩

/-! ### built-in functions -/
def RCb (K : PySem.W.Frag) (W : Wc) (r : List V → Hp → VK → Prop) (o : List D → (D → Prop) → Prop) : Prop :=
  ∀ p S H vs ds (Q : VK) (post : D → Prop), Stt W p S H → RA K W p S vs ds → o ds post → (∀ v d' S' H', post d' → Grow W p S H S' H' → R K W p S' v d' → Q v H') → r vs H Q
def dCB (o : List D → (D → Prop) → Prop) (dr : DA) : DE := fun env xp post => dr env xp fun ds => o ds post
theorem se_cb {K : PySem.W.Frag} {r : List V → Hp → VK → Prop} {o : List D → (D → Prop) → Prop} (hr : RCb K W r o) (h : SA K W E tr dr) : SE K W E (tCB r tr) (dCB o dr) :=
  fun p S H σ env xp st ev xo Q post q k => h p S H σ env xp st ev xo _ _ q fun vs ds S1 H1 q1 g1 r1 => hr p S1 H1 vs ds Q post g1.st r1 q1 fun v d S2 H2 q2 g2 r2 => k v d S2 H2 q2 (g1.trans g2) r2
theorem pd_callB {id : String} {x : Str} {p : Pos} {r : List V → Hp → VK → Prop} {o : List D → (D → Prop) → Prop} (hc : CallR X (.builtin id) r) (hr : RCb X.K W r o) (hg : Gl X x) (hm : X.mg x = none) (hv : bootBuiltins x = some (.builtin id)) (ha : PDA X W E (e :: es) tr dr)
    (hn : x ≠ "__name__" := by decide) (hdb : (x == ("__debug__" : Str)) = false := by decide)
    (he : starEach (e :: es) X.env = (false, eval e X.env) :: starEach es X.env := by rfl) (hpl : (backTo pos (starEach es X.env)).any (·.1) = false := by rfl) : PD X W E (.Call (.Name x p) (e :: es) [] pos) (tCB r tr) (dCB o dr) :=
  ⟨pe_callB hc hg hm hv ha.pe hn hdb he hpl, se_cb hr ha.se⟩
theorem pd_callTy {T : String} {x : Str} {p : Pos} {r : List V → Hp → VK → Prop} {o : List D → (D → Prop) → Prop} (hc : CallR X (.type T) r) (hr : RCb X.K W r o) (hg : Gl X x) (hm : X.mg x = none) (hv : bootBuiltins x = some (.type T)) (ha : PDA X W E (e :: es) tr dr)
    (hn : x ≠ "__name__" := by decide) (hdb : (x == ("__debug__" : Str)) = false := by decide)
    (he : starEach (e :: es) X.env = (false, eval e X.env) :: starEach es X.env := by rfl) (hpl : (backTo pos (starEach es X.env)).any (·.1) = false := by rfl) : PD X W E (.Call (.Name x p) (e :: es) [] pos) (tCB r tr) (dCB o dr) :=
  ⟨pe_callTy hc hg hm hv ha.pe hn hdb he hpl, se_cb hr ha.se⟩

/-! ### a subscript -/
def bIx : D → D → (D → Prop) → Prop
  | .lst ds, .int i, post => ∃ d, atI ds i = some d ∧ post d
  | .tup ds, .int i, post => ∃ d, atI ds i = some d ∧ post d
  | .str z, .int i, post => z.length ≤ 100000 ∧ ∃ c, atI z.cps.toList i = some c ∧ post (.str ⟨#[c]⟩)
  | _, _, _ => False
theorem RA.atI {K : PySem.W.Frag} {p : Addr} {S : Hp} {xs : List V} {ds : List D} {i : Int} {d : D} (r : RA K W p S xs ds) (h : atI ds i = some d) : ∃ v, L2.atI xs i = some v ∧ R K W p S v d := by
  unfold L2.atI at h ⊢
  rw [← RA.length r] at h
  cases e : ixN xs.length i with
  | none => rw [e] at h; cases h
  | some j =>
    rw [e] at h
    obtain ⟨v, h1, h2⟩ := r.at (i := j) (d := d) h
    exact ⟨v, h1, h2⟩
theorem rb_ix {K : PySem.W.Frag} : RB K W (rIx K) bIx := fun p S H x y d e Q post st r1 r2 h k => by
  cases d with
  | lst ds =>
    cases e with
    | int i =>
      obtain ⟨d, ha, q⟩ := h
      unfold R at r1
      obtain ⟨a, xs, rfl, hS, ra⟩ := r1
      obtain ⟨v, hv, rv⟩ := ra.atI ha
      have r2' : y = .int i := r2
      exact .inl ⟨a, xs, i, v, rfl, r2', SqL.of (st.ex _ _ hS), hv, k v d S H q (Grow.refl st) rv⟩
    | _ => exact (show False from h).elim
  | tup ds =>
    cases e with
    | int i =>
      obtain ⟨d, ha, q⟩ := h
      unfold R at r1
      obtain ⟨a, xs, rfl, hS, ra⟩ := r1
      obtain ⟨v, hv, rv⟩ := ra.atI ha
      have r2' : y = .int i := r2
      exact .inr (.inl ⟨a, xs, i, v, rfl, r2', Ex.t st.ex hS, hv, k v d S H q (Grow.refl st) rv⟩)
    | _ => exact (show False from h).elim
  | str z =>
    cases e with
    | int i =>
      obtain ⟨hz, c, ha, q⟩ := h
      have r1' : x = .str z := r1
      have r2' : y = .int i := r2
      exact .inr (.inr ⟨z, i, c, r1', r2', sz_of hz, ha, k _ _ S H q (Grow.refl st) rfl⟩)
    | _ => exact (show False from h).elim
  | _ => exact (show False from h).elim
theorem pd_ix (K : PySem.W.Frag) (ha : PD X W E a ta da) (hb : PD X W E b tb db) (hs : PlainIx b := by exact fun _ _ => rfl) (hK : X.K = K := by rfl) : PD X W E (.Subscript a b pos) (tOp (rIx K) ta tb) (dOp bIx da db) := by
  subst hK
  exact ⟨pe_ix ix_seq ha.pe hb.pe hs, se_op rb_ix ha.se hb.se⟩

/-! ### a def called -/
def dCall (f : DF) (dds : List D) (dr : DA) : DE := fun env xp post => dr env xp fun ds => f (ds ++ dds) xp post
theorem se_call {K : PySem.W.Frag} {f : DF} {dvs : List V} {dds : List D} (hd : ∀ p S, RA K W p S dvs dds) (h : SA K W E tr dr) : SE K W E (tCall (spD K W f) dvs E tr) (dCall f dds dr) :=
  fun p S H σ env xp st ev xo Q post q k => h p S H σ env xp st ev xo _ _ q fun vs ds S1 H1 q1 g1 r1 =>
    ⟨p, S1, ds ++ dds, post, xp, g1.st, r1.append (hd p S1), q1, fun v d S2 H2 q2 g2 r2 => k v d S2 H2 q2 (g1.trans g2) r2, xo.mono g1⟩
theorem pd_call {CX : CXT} {k : Nat} {f : Addr} {fd : FuncData} {ps : List Str} {df : DF} {dvs : List V} {dds : List D} {ds : List Value} {x : Str} {p : Pos} (F : FnOk X.prog X.w X.K X.mg X.base CX k f fd ps (spD X.K W df)) (hr : Room k X.A) (hg : Gl X x) (hm : X.mg x = some (.ref f)) (hk : PySem.W.keepIn X.K (.ref f) = true)
    (hb : Binds X.K fd ps ds) (hd : Vals dvs ds) (hdd : ∀ p S, RA X.K W p S dvs dds) (hx : Passes CX X E) (ha : PDA X W E (e :: es) tr dr) (hdb : (x == ("__debug__" : Str)) = false := by decide) (he : starEach (e :: es) X.env = (false, eval e X.env) :: starEach es X.env := by rfl)
    (hpl : (backTo pos (starEach es X.env)).any (·.1) = false := by rfl) : PD X W E (.Call (.Name x p) (e :: es) [] pos) (tCall (spD X.K W df) dvs E tr) (dCall df dds dr) :=
  ⟨pe_call F hr hg hm hk hb hd hx ha.pe hdb he hpl, se_call hdd ha.se⟩

/-! ### what is walked -/
def SI (K : PySem.W.Frag) (W : Wc) (E : XK) (wi : TI) (di : DA) : Prop :=
  ∀ p S H σ env xp, Stt W p S H → Ev K W p S H σ env → XOk K W p S H xp E → ∀ (Rr : It → Hp → Prop) (post : List D → Prop), di env xp post →
    (∀ (J : It) (G : Hp → Prop) (Y : Nat → Hp → V → Hp → Prop) (ds : List D) S' H', post ds → Grow W p S H S' H' → Walk J ds.length G Y → (∀ H2, Ex S' H2 → G H2) →
      (∀ i S2 H2 x H3, Ex S' S2 → Stt W p S2 H2 → i < ds.length → Y i H2 x H3 → ∃ d S3, ds[i]? = some d ∧ Grow W p S2 H2 S3 H3 ∧ R K W p S3 x d) → Rr J H') → wi σ H Rr
structure PDI (X : Cx) (W : Wc) (E : XK) (tg it : Expr) (wi : TI) (di : DA) : Prop where
  pe : PI X tg it wi
  se : SI X.K W E wi di
/-- a list | a tuple as a value, walked -/
def dSeqL (de : DE) : DA := fun env xp post => de env xp fun d => match d with
  | .lst ds => post ds
  | _ => False
def dSeqT (de : DE) : DA := fun env xp post => de env xp fun d => match d with
  | .tup ds => post ds
  | _ => False
def dSeqS (de : DE) : DA := fun env xp post => de env xp fun d => match d with
  | .str z => post (z.cps.toList.map fun c => .str ⟨#[c]⟩)
  | _ => False
theorem pdi_list (K : PySem.W.Frag) {tg : Expr} (h : PD X W E e te de) (hK : X.K = K := by rfl) : PDI X W E tg e (iList K te) (dSeqL de) := by
  subst hK
  exact ⟨pi_list h.pe, fun p S H σ env xp st ev xo Rr post q k => h.se p S H σ env xp st ev xo _ _ q fun v d S1 H1 q1 g1 r1 => by
    cases d with
    | lst ds =>
      unfold R at r1
      obtain ⟨l, xs, rfl, hS, ra⟩ := r1
      refine ⟨l, rfl, ⟨xs, SqL.of (g1.st.ex _ _ hS)⟩, k (Itl X.K l) (fun H => SqL X.K H l xs) (YAt xs) ds S1 H1 q1 g1 (by rw [← RA.length ra]; exact walk_list) (fun H2 x => SqL.of (x _ _ hS)) fun i S2 H2 x H3 e2 st2 hi y => ?_⟩
      obtain ⟨rfl, hx⟩ := y
      obtain ⟨d, h1, h2⟩ := ra.get hx
      exact ⟨d, S2, h1, Grow.refl st2, R.mono e2 _ _ h2⟩
    | _ => exact (show False from q1).elim⟩
theorem pdi_tup (K : PySem.W.Frag) {tg : Expr} (h : PD X W E e te de) (hK : X.K = K := by rfl) : PDI X W E tg e (iTup K te) (dSeqT de) := by
  subst hK
  exact ⟨pi_tup h.pe, fun p S H σ env xp st ev xo Rr post q k => h.se p S H σ env xp st ev xo _ _ q fun v d S1 H1 q1 g1 r1 => by
    cases d with
    | tup ds =>
      unfold R at r1
      obtain ⟨l, xs, rfl, hS, ra⟩ := r1
      refine ⟨l, rfl, ⟨xs, Ex.t g1.st.ex hS⟩, k (Itt X.K l) (fun H => SqT X.K H l xs) (YAt xs) ds S1 H1 q1 g1 (by rw [← RA.length ra]; exact walk_tup) (fun H2 x => Ex.t x hS) fun i S2 H2 x H3 e2 st2 hi y => ?_⟩
      obtain ⟨rfl, hx⟩ := y
      obtain ⟨d, h1, h2⟩ := ra.get hx
      exact ⟨d, S2, h1, Grow.refl st2, R.mono e2 _ _ h2⟩
    | _ => exact (show False from q1).elim⟩
theorem pdi_str {tg : Expr} (h : PD X W E e te de) : PDI X W E tg e (iStr te) (dSeqS de) :=
  ⟨pi_str h.pe, fun p S H σ env xp st ev xo Rr post q k => h.se p S H σ env xp st ev xo _ _ q fun v d S1 H1 q1 g1 r1 => by
    cases d with
    | str z =>
      have r1' : v = .str z := r1
      refine ⟨z, r1', k (Its z) (fun _ => True) _ (z.cps.toList.map fun c => .str ⟨#[c]⟩) S1 H1 q1 g1 (by rw [List.length_map, Array.length_toList]; exact walk_str) (fun H2 x => trivial) fun i S2 H2 x H3 e2 st2 hi y => ?_⟩
      obtain ⟨rfl, c, hc, rfl⟩ := y
      exact ⟨.str ⟨#[c]⟩, S2, by rw [List.getElem?_map, Array.getElem?_toList, hc]; rfl, Grow.refl st2, rfl⟩
    | _ => exact (show False from q1).elim⟩
/-- range(n) -/
def rangeD (lo : Int) (n : Nat) : List D := (List.range n).map fun i => .int (lo + (i : Nat))
def dRng1 (dr : DA) : DA := fun env xp post => dr env xp fun ds => match ds with
  | [.int n] => -(2 ^ 62) ≤ n ∧ n < 2 ^ 62 ∧ post (rangeD 0 n.toNat)
  | _ => False
def dRng2 (dr : DA) : DA := fun env xp post => dr env xp fun ds => match ds with
  | [.int m, .int n] => (-(2 ^ 62) ≤ m ∧ m < 2 ^ 62 ∧ -(2 ^ 62) ≤ n ∧ n < 2 ^ 62) ∧ post (rangeD m (n - m).toNat)
  | _ => False
theorem rangeD_len {lo : Int} {n : Nat} : (rangeD lo n).length = n := by simp [rangeD]
theorem rangeD_get {lo : Int} {n i : Nat} (h : i < n) : (rangeD lo n)[i]? = some (.int (lo + (i : Nat))) := by simp [rangeD, h]
theorem RA.one {K : PySem.W.Frag} {p : Addr} {S : Hp} {vs : List V} {d : D} (h : RA K W p S vs [d]) : ∃ v, vs = [v] ∧ R K W p S v d := by
  unfold RA at h
  obtain ⟨y, ys, rfl, h1, h2⟩ := h
  unfold RA at h2
  subst h2
  exact ⟨y, rfl, h1⟩
theorem RA.two {K : PySem.W.Frag} {p : Addr} {S : Hp} {vs : List V} {d e : D} (h : RA K W p S vs [d, e]) : ∃ v w, vs = [v, w] ∧ R K W p S v d ∧ R K W p S w e := by
  unfold RA at h
  obtain ⟨y, ys, rfl, h1, h2⟩ := h
  obtain ⟨z, rfl, h3⟩ := h2.one
  exact ⟨y, z, rfl, h1, h3⟩
theorem pdi_range1 {tg : Expr} {p' : Pos} (hg : Gl X "range") (hm : X.mg "range" = none) (ha : PDA X W E [a] tr dr) (hs : starEach [a] X.env = [(false, eval a X.env)] := by rfl) : PDI X W E tg (.Call (.Name "range" p') [a] [] pos) (iRng1 tr) (dRng1 dr) :=
  ⟨pi_range1 hg hm ha.pe hs, fun p S H σ env xp st ev xo Rr post q k => ha.se p S H σ env xp st ev xo _ _ q fun vs ds S1 H1 q1 g1 r1 => by
    match ds, q1, r1 with
    | [.int n], q1, r1 =>
      obtain ⟨v, rfl, rv⟩ := r1.one
      have rv' : v = .int n := rv
      subst rv'
      obtain ⟨h1, h2, q1⟩ := q1
      refine ⟨n, rfl, h1, h2, k (Itr 0 n.toNat) (fun _ => True) _ (rangeD 0 n.toNat) S1 H1 q1 g1 (by rw [rangeD_len]; exact walk_range) (fun H2 x => trivial) fun i S2 H2 x H3 e2 st2 hi y => ?_⟩
      obtain ⟨rfl, rfl⟩ := y
      rw [rangeD_len] at hi
      exact ⟨_, S2, rangeD_get hi, Grow.refl st2, rfl⟩⟩
theorem pdi_range2 {tg : Expr} {p' : Pos} (hg : Gl X "range") (hm : X.mg "range" = none) (ha : PDA X W E [a, b] tr dr) (hs : starEach [a, b] X.env = [(false, eval a X.env), (false, eval b X.env)] := by rfl) (hs2 : starEach [b] X.env = [(false, eval b X.env)] := by rfl) : PDI X W E tg (.Call (.Name "range" p') [a, b] [] pos) (iRng2 tr) (dRng2 dr) :=
  ⟨pi_range2 hg hm ha.pe hs hs2, fun p S H σ env xp st ev xo Rr post q k => ha.se p S H σ env xp st ev xo _ _ q fun vs ds S1 H1 q1 g1 r1 => by
    match ds, q1, r1 with
    | [.int m, .int n], q1, r1 =>
      obtain ⟨v, w, rfl, rv, rw'⟩ := r1.two
      have rv' : v = .int m := rv
      have rw'' : w = .int n := rw'
      subst rv' rw''
      obtain ⟨hb, q1⟩ := q1
      refine ⟨m, n, rfl, hb, k (Itr m (n - m).toNat) (fun _ => True) _ (rangeD m (n - m).toNat) S1 H1 q1 g1 (by rw [rangeD_len]; exact walk_range) (fun H2 x => trivial) fun i S2 H2 x H3 e2 st2 hi y => ?_⟩
      obtain ⟨rfl, rfl⟩ := y
      rw [rangeD_len] at hi
      exact ⟨_, S2, rangeD_get hi, Grow.refl st2, rfl⟩⟩

/-! ### targets -/
abbrev DG := D → SEnv → (SEnv → Prop) → Prop
/-- vs: the slots that it may store to -/
def SG (K : PySem.W.Frag) (W : Wc) (g : TG) (dg : DG) (vs : List Nat) : Prop :=
  ∀ p S H σ env v d, Stt W p S H → Ev K W p S H σ env → R K W p S v d → ∀ (Q : L2.St → Hp → Prop) (post : SEnv → Prop), dg d env post →
    (∀ σ' env', Ev K W p S H σ' env' → post env' → (∀ (i : Nat), i ∉ vs → σ'[i]? = σ[i]? ∧ env'[i]? = env[i]?) → (∀ (i : Nat) ds, env'[i]? = some (Sl.ow ds) → env[i]? = some (Sl.ow ds) ∧ σ'[i]? = σ[i]?) → σ'.length = σ.length → env'.length = env.length → Q σ' H) → g v σ H Q
def dgName (i : Nat) : DG := fun d env post => post (env.set i (.sh d))
theorem sg_name {K : PySem.W.Frag} (i : Nat) : SG K W (gName i) (dgName i) [i] := fun p S H σ env v d st ev r Q post q k =>
  k _ _ (ev.set r) q (fun j hj => by
    have : i ≠ j := fun z => hj (by simp [z])
    exact ⟨List.getElem?_set_ne this, List.getElem?_set_ne this⟩) (fun j ds e => by
    have : i ≠ j := fun z => by
      subst z
      by_cases hl : i < env.length
      · rw [List.getElem?_set_self hl] at e; cases e
      · rw [List.getElem?_eq_none (by simpa using hl)] at e; cases e
    rw [List.getElem?_set_ne this] at e
    exact ⟨e, List.getElem?_set_ne this⟩) (by simp) (by simp)
structure PDG (X : Cx) (W : Wc) (tg : Expr) (g : TG) (dg : DG) (vs : List Nat) : Prop where
  pe : PG X tg g
  se : SG X.K W g dg vs
theorem pdg_name (i : Nat) {x : Str} (hN : X.N.Nodup) (hi : X.N[i]? = some x := by rfl) (hx : Loc X.env.scope x := by first | exact Or.inl rfl | exact Or.inr rfl) (hf : X.fn x = true ∨ X.env.scope.names.lookup x = some .local := by first | exact .inl rfl | exact .inr rfl | assumption) : PDG X W (.Name x pos) (gName i) (dgName i) [i] :=
  ⟨pg_name hN hi hx hf, sg_name i⟩
end
end DL

set_option Elab.async false
set_option linter.all false
set_option maxRecDepth 100000
set_option maxHeartbeats 1000000
/-! comprehensions, statements, defs -/
namespace DL
open PySem L2
theorem EOk.mono {K : PySem.W.Frag} {W : Wc} {p : Addr} {S0 H0 S S1 : Hp} {D : Ends} {DD : DEnds} (h : EOk K W p S0 H0 S D DD) (e : Ex S S1) : EOk K W p S0 H0 S1 D DD :=
  ⟨fun S' H' σ' env' x => h.nx S' H' σ' env' (e.trans x), fun S' H' v d x => h.rt S' H' v d (e.trans x), fun S' H' σ' env' x => h.bk S' H' σ' env' (e.trans x), fun S' H' σ' env' x => h.ct S' H' σ' env' (e.trans x)⟩

/-! ### targets that are tuples -/
abbrev DGs := List D → SEnv → (SEnv → Prop) → Prop
def SGs (K : PySem.W.Frag) (W : Wc) (g : TGs) (dg : DGs) (vs : List Nat) : Prop :=
  ∀ p S H σ env us ds, Stt W p S H → Ev K W p S H σ env → RA K W p S us ds → ∀ (Q : L2.St → Hp → Prop) (post : SEnv → Prop), dg ds env post →
    (∀ σ' env', Ev K W p S H σ' env' → post env' → (∀ (i : Nat), i ∉ vs → σ'[i]? = σ[i]? ∧ env'[i]? = env[i]?) → (∀ (i : Nat) ds, env'[i]? = some (Sl.ow ds) → env[i]? = some (Sl.ow ds) ∧ σ'[i]? = σ[i]?) → σ'.length = σ.length → env'.length = env.length → Q σ' H) → g us σ H Q
structure PDGs (X : Cx) (W : Wc) (tgs : List Expr) (g : TGs) (dg : DGs) (vs : List Nat) : Prop where
  pe : PGs X tgs g
  se : SGs X.K W g dg vs
def dgNil : DGs := fun ds env post => match ds with
  | [] => post env
  | _ => False
def dgCons (dg : DG) (dr : DGs) : DGs := fun ds env post => match ds with
  | d :: ds => dg d env fun env' => dr ds env' post
  | [] => False
def dgTup (n : Nat) (dr : DGs) : DG := fun d env post => match d with
  | .tup ds => ds.length = n ∧ dr ds env post
  | _ => False
section
variable {X : Cx} {W : Wc} {E : XK} {pos : Pos}
theorem pdgs_nil : PDGs X W [] gNil dgNil [] := ⟨pgs_nil, fun p S H σ env us ds st ev r Q post q k => by
  cases ds with
  | nil =>
    unfold RA at r
    exact ⟨r, k σ env ev q (fun i _ => ⟨rfl, rfl⟩) (fun i ds e => ⟨e, rfl⟩) rfl rfl⟩
  | cons d ds => exact (show False from q).elim⟩
theorem pdgs_cons {e : Expr} {es : List Expr} {g : TG} {gs : TGs} {dg : DG} {dr : DGs} {vs us : List Nat} (h1 : PDG X W e g dg vs) (h2 : PDGs X W es gs dr us) (hs : (assignEach (e :: es) X.env).map (·.2) = assign e X.env :: (assignEach es X.env).map (·.2) := by rfl) :
    PDGs X W (e :: es) (gCons g gs) (dgCons dg dr) (vs ++ us) := ⟨pgs_cons h1.pe h2.pe hs, fun p S H σ env ws ds st ev r Q post q k => by
  cases ds with
  | nil => exact (show False from q).elim
  | cons d ds =>
    unfold RA at r
    obtain ⟨y, ys, rfl, r1, r2⟩ := r
    refine ⟨y, ys, rfl, h1.se p S H σ env y d st ev r1 _ _ q fun σ1 env1 ev1 q1 a1 b1 l1 m1 => h2.se p S H σ1 env1 ys ds st ev1 r2 _ _ q1 fun σ2 env2 ev2 q2 a2 b2 l2 m2 => k σ2 env2 ev2 q2 (fun i hi => ?_) (fun i ds e => ?_) (l2.trans l1) (m2.trans m1)⟩
    · have hv : i ∉ vs := fun z => hi (List.mem_append_left _ z)
      have hu : i ∉ us := fun z => hi (List.mem_append_right _ z)
      exact ⟨(a2 i hu).1.trans (a1 i hv).1, (a2 i hu).2.trans (a1 i hv).2⟩
    · obtain ⟨x1, x2⟩ := b2 i ds e
      obtain ⟨y1, y2⟩ := b1 i ds x1
      exact ⟨y1, x2.trans y2⟩⟩
theorem pdg_tup (K : PySem.W.Frag) {es : List Expr} {k : Nat} {gs : TGs} {dr : DGs} {vs : List Nat} {n : Nat} (hc : X.calm = true) (h : PDGs X W es gs dr vs) (hn : (assignEach es X.env).length = n := by rfl) (hst : (assignEach es X.env).findIdx? (·.1) = none := by rfl) (hK : X.K = K := by rfl) :
    PDG X W (.Tuple es k pos) (gTup K n gs) (dgTup n dr) vs := by
  subst hK
  exact ⟨pg_tup hc h.pe hn hst, fun p S H σ env v d st ev r Q post q k => by
  cases d with
  | tup ds =>
    unfold R at r
    obtain ⟨a, xs, rfl, hS, ra⟩ := r
    exact ⟨a, xs, rfl, Ex.t st.ex hS, by rw [RA.length ra]; exact q.1, h.se p S H σ env xs ds st ev ra Q post q.2 k⟩
  | _ => exact (show False from q).elim⟩
end

/-! ### comprehensions -/
def wipeE (env : SEnv) : List Nat → SEnv
  | [] => env
  | v :: vs => (wipeE env vs).set v .un
section
variable {K : PySem.W.Frag} {W : Wc} {p : Addr} {S H : Hp} {σ : L2.St} {env : SEnv}
theorem Ev.drop1 (ev : Ev K W p S H σ env) (i : Nat) (o : Option V) : Ev K W p S H (σ.set i o) (env.set i .un) := by
  refine ⟨fun j s e => ?_, fun j k ds es n e1 e2 => ?_⟩
  · by_cases hj : i = j
    · subst hj
      have hl : i < env.length := by
        by_cases hl : i < env.length
        · exact hl
        · rw [List.getElem?_eq_none (by simpa using hl)] at e; cases e
      rw [List.getElem?_set_self hl] at e
      cases e
      have hs : i < σ.length := by
        obtain ⟨o, h1, _⟩ := ev.at_ i env[i] (by simp [hl])
        exact (List.getElem?_eq_some_iff.mp h1).1
      exact ⟨_, List.getElem?_set_self hs, trivial⟩
    · rw [List.getElem?_set_ne hj] at e ⊢
      exact ev.at_ j s e
  · have nj : ∀ j ds, (env.set i .un)[j]? = some (Sl.ow ds) → i ≠ j := fun j ds e z => by
      subst z
      by_cases hl : i < env.length
      · rw [List.getElem?_set_self hl] at e; cases e
      · rw [List.getElem?_eq_none (by simpa using hl)] at e; cases e
    have n1 := nj j ds e1
    have n2 := nj k es e2
    rw [List.getElem?_set_ne n1] at e1 ⊢
    rw [List.getElem?_set_ne n2] at e2 ⊢
    exact ev.dis j k ds es n e1 e2
theorem Ev.wipe (ev : Ev K W p S H σ env) : ∀ vs : List Nat, Ev K W p S H (L2.wipe σ vs) (wipeE env vs)
  | [] => ev
  | v :: vs => (Ev.wipe ev vs).drop1 v none
theorem wipe_out {i : Nat} : ∀ {vs : List Nat}, i ∉ vs → (L2.wipe σ vs)[i]? = σ[i]?
  | [], _ => rfl
  | v :: vs, h => by
    have h1 : v ≠ i := fun z => h (by simp [z])
    unfold L2.wipe
    rw [List.getElem?_set_ne h1]
    exact wipe_out fun z => h (List.mem_cons_of_mem _ z)
theorem wipe_in {i : Nat} (hl : i < σ.length) : ∀ {vs : List Nat}, i ∈ vs → (L2.wipe σ vs)[i]? = some none
  | v :: vs, h => by
    unfold L2.wipe
    by_cases e : v = i
    · subst e
      rw [List.getElem?_set_self (by rw [wipe_length]; exact hl)]
    · rw [List.getElem?_set_ne e]
      exact wipe_in hl ((List.mem_cons.mp h).resolve_left fun z => e z.symm)
theorem wipe_same {σ2 : L2.St} {vs : List Nat} (hl : σ2.length = (L2.wipe σ vs).length) (h : ∀ (i : Nat), i ∉ vs → σ2[i]? = (L2.wipe σ vs)[i]?) : L2.wipe σ2 vs = L2.wipe σ vs := by
  refine List.ext_getElem? fun i => ?_
  by_cases hi : i ∈ vs
  · by_cases hh : i < σ.length
    · rw [wipe_in hh hi, wipe_in (by rw [hl, wipe_length]; exact hh) hi]
    · rw [List.getElem?_eq_none (by rw [wipe_length, hl, wipe_length]; omega), List.getElem?_eq_none (by rw [wipe_length]; omega)]
  · rw [wipe_out hi]
    exact h i hi
end
def dcomp (one : D → (Option D → Prop) → Prop) : List D → (List D → Prop) → Prop
  | [], k => k []
  | d :: ds, k => one d fun o => dcomp one ds fun r => k (match o with | some e => e :: r | none => r)
def dOne (dg : DG) (dt : DT) (de : DE) (env : SEnv) : D → (Option D → Prop) → Prop := fun d k => dg d env fun env2 => dt env2 noX fun b => if b = true then de env2 noX fun e => k (some e) else k none
def dLc (di : DA) (dg : DG) (dt : DT) (de : DE) (own : List Nat) : DA := fun env xp post => di env xp fun ds => ds.length < 100000 ∧ dcomp (dOne dg dt de (wipeE env own)) ds post
abbrev dYes : DT := fun _ _ post => post true
theorem stt_yes {K : PySem.W.Frag} {W : Wc} {E : XK} : STt K W E tYes dYes := fun p S H σ env xp st ev _ Q post q k => k true S H q (Grow.refl st)
theorem sn_lc {K : PySem.W.Frag} {W : Wc} {E : XK} {wi : TI} {g : TG} {tt : TT} {te : TE} {di : DA} {dg : DG} {dt : DT} {de : DE} {own vs : List Nat} (hv : ∀ i ∈ vs, i ∈ own) (hi : SI K W E wi di) (hg : SG K W g dg vs) (ht : STt K W E0 tt dt) (he : SE K W E0 te de) :
    SN K W E (tLc wi g tt te own) (dLc di dg dt de own) := fun p S H σ env xp st ev xo Q post q k =>
  hi p S H σ env xp st ev xo _ _ q fun J G Y ds S1 H1 ⟨hz, q1⟩ g1 wk hG hY Dl hD => by
    have nDp : Dl ≠ p := fun z => by
      obtain ⟨o', e', _⟩ := g1.st.src
      rw [z, e'] at hD
      cases hD
    have nH : H Dl = none := g1.dead Dl nDp hD
    refine lc_it wk (fun i Hx => ∃ Sx acc eds, Grow W p S1 H1 Sx Hx ∧ Hx Dl = some (.lst acc) ∧ Sx Dl = none ∧ RA K W p Sx acc eds ∧ eds.length ≤ i ∧ dcomp (dOne dg dt de (wipeE env own)) (ds.drop i) (fun r => post (eds ++ r)))
      ⟨S1, [], [], Grow.hid g1.st hD, upd_same, g1.st.none hD, RA.nil, Nat.le_refl _, q1⟩ (fun i Hx _ ⟨Sx, _, _, gx, _⟩ => hG Hx (gx.ex.trans gx.st.ex)) ?_ ?_
    · rintro i x Hx H' hlt ⟨Sx, acc, eds, gx, hL, hN, ra, hle, hq⟩ y
      obtain ⟨d, S3, hd, g3, r3⟩ := hY i Sx Hx x H' gx.ex gx.st hlt y
      have hdrop : ds.drop i = d :: ds.drop (i + 1) := by
        obtain ⟨h1, h2⟩ := List.getElem?_eq_some_iff.mp hd
        rw [← h2]
        exact List.drop_eq_getElem_cons h1
      rw [hdrop] at hq
      have gx3 := gx.trans g3
      have ev3 : Ev K W p S3 H' σ env := ev.mono (g1.trans gx3)
      refine hg p S3 H' (L2.wipe σ own) (wipeE env own) x d gx3.st (ev3.wipe own) r3 _ _ hq fun σ2 env2 ev2 q2 out _ len _ => ⟨wipe_same len fun i hi => (out i fun z => hi (hv i z)).1, ?_⟩
      refine ht p S3 H' σ2 env2 noX gx3.st ev2 XOk.no _ _ q2 fun b S4 H4 q4 g4 => ?_
      have gx4 := gx3.trans g4
      cases b with
      | true =>
        rw [if_pos rfl] at q4 ⊢
        refine he p S4 H4 σ2 env2 noX g4.st (ev2.mono g4) XOk.no _ _ q4 fun v e S5 H5 q5 g5 r5 => ?_
        have gx5 := (g3.trans g4).trans g5
        have hL5 : H5 Dl = some (.lst acc) := gx5.keep Dl _ nDp hL
        have hN5 : S5 Dl = none := gx5.fr Dl (by rw [hL]; simp) hN
        refine ⟨acc, hL5, ?_, S5, acc ++ [v], eds ++ [e], ?_, upd_same, hN5, (RA.mono gx5.ex _ _ ra).append (RA.cons r5 RA.nil), by simp; omega, ?_⟩
        · rw [RA.length ra]
          exact sz_lt (by omega)
        · have gg := gx.trans gx5
          refine ⟨gg.ex, ⟨tabs_put gg.st.tabs hL5 nt_lst, fun b u e => ?_, gg.st.hid, ?_⟩, fun b u n e => ?_, gg.fr⟩
          · have : b ≠ Dl := fun z => by rw [z, hN5] at e; cases e
            rw [upd_ne this]
            exact gg.st.ex b u e
          · obtain ⟨o', e', r⟩ := gg.st.src
            exact ⟨o', by rw [upd_ne nDp.symm]; exact e', r⟩
          · have : b ≠ Dl := fun z => by rw [z, hD] at e; cases e
            rw [upd_ne this]
            exact gg.kp b u n e
        · simpa [List.append_assoc] using q5
      | false =>
        rw [if_neg Bool.false_ne_true] at q4 ⊢
        have gx5 := g3.trans g4
        exact ⟨S4, acc, eds, gx.trans gx5, gx5.keep Dl _ nDp hL, gx5.fr Dl (by rw [hL]; simp) hN, RA.mono gx5.ex _ _ ra, by omega, q4⟩
    · rintro Hx ⟨Sx, acc, eds, gx, hL, hN, ra, hle, hq⟩
      rw [List.drop_eq_nil_of_le (Nat.le_refl _)] at hq
      have hq' : post (eds ++ []) := hq
      rw [List.append_nil] at hq'
      exact k Dl acc eds Sx Hx hq' (g1.trans gx) nH hN hL ra
structure PDTs (X : Cx) (W : Wc) (E : XK) (ifs : List Expr) (tt : TT) (dt : DT) : Prop where
  pe : PTs X ifs tt
  se : STt X.K W E tt dt
section
variable {X : Cx} {W : Wc} {E : XK} {pos : Pos}
theorem pdts_nil : PDTs X W E [] tYes dYes := ⟨pts_nil, stt_yes⟩
theorem pdts_one {c : Expr} {t : TT} {dt : DT} (h : PDT X W E c t dt) : PDTs X W E [c] t dt := ⟨pts_one h.pe, h.se⟩
theorem pdn_lc {elt tg iter : Expr} {ifs : List Expr} {scope : Scope} {own : List (Str × Nat)} {wi : TI} {g : TG} {tt : TT} {te : TE} {di : DA} {dg : DG} {dt : DT} {de : DE} {vs : List Nat} (hc : X.calm = true) (hN : X.N.Nodup) (hi : PDI X W E tg iter wi di) (ok : BlkOk X.N X.env.scope scope own)
    (hg : ∀ (s : Shared) (H : Hp) (C : Addr) (cl : List (Str × Addr)) (fp : List Addr), PDG (X.blk s H scope (compEnvC scope cl C X.env) fp) W tg g dg vs) (ht : ∀ (s : Shared) (H : Hp) (C : Addr) (cl : List (Str × Addr)) (fp : List Addr), PDTs (X.blk s H scope (compEnvC scope cl C X.env) fp) W E0 ifs tt dt)
    (he : ∀ (s : Shared) (H : Hp) (C : Addr) (cl : List (Str × Addr)) (fp : List Addr), PD (X.blk s H scope (compEnvC scope cl C X.env) fp) W E0 elt te de) (hv : ∀ i ∈ vs, i ∈ own.map (·.2) := by decide) (hs : ∀ x, foldedSetIterable iter X.env x = pure x := by intro _; rfl) (s0 : Shared) :
    PDN X W E (.ListComp elt [⟨tg, iter, ifs, 0⟩] scope pos) (tLc wi g tt te (own.map (·.2))) (dLc di dg dt de (own.map (·.2))) :=
  ⟨pe_lc hc hN hi.pe ok (fun s H C cl fp => (hg s H C cl fp).pe) (fun s H C cl fp => (ht s H C cl fp).pe) (fun s H C cl fp => (he s H C cl fp).pe) hs,
    sn_lc hv hi.se (hg s0 (fun _ => none) 0 [] []).se (ht s0 (fun _ => none) 0 [] []).se (he s0 (fun _ => none) 0 [] []).se⟩
end

theorem ow_set {l : SEnv} {i j : Nat} {d : D} {ds : List D} (e : (l.set i (.sh d))[j]? = some (Sl.ow ds)) : i ≠ j ∧ l[j]? = some (Sl.ow ds) := by
  have : i ≠ j := fun z => by
    subst z
    by_cases hl : i < l.length
    · rw [List.getElem?_set_self hl] at e; cases e
    · rw [List.getElem?_eq_none (by simpa using hl)] at e; cases e
  rw [List.getElem?_set_ne this] at e
  exact ⟨this, e⟩
/-! ### statements -/
section
variable {K : PySem.W.Frag} {W : Wc} {p : Addr} {S0 H0 S H S1 H1 : Hp} {σ : L2.St} {env : SEnv}
theorem Sv.mono (h : Sv K W p S0 H0 S H σ env) (g : Grow W p S H S1 H1) : Sv K W p S0 H0 S1 H1 σ env := ⟨h.g.trans g, h.ev.mono g, h.own⟩
theorem Sv.xo {xp : XP} {E : XK} (h : Sv K W p S0 H0 S H σ env) (x : XOkS K W p S0 H0 S xp E) : XOk K W p S H xp E := fun c dfs C y fs S' H' a b n g e r => x c dfs C y fs S' H' a b n g.ex (h.g.trans g) e r
theorem Sv.st (h : Sv K W p S0 H0 S H σ env) : Stt W p S H := h.g.st
end
section
variable {X : Cx} {W : Wc} {E : XK} {pos : Pos} {st : Stmt} {rest : List Stmt} {ts us : TS} {ds du : DS} {e : Expr} {te : TE} {de : DE}
def dNext : DS := fun DD _ env => DD.nx env
def dSeq (ds du : DS) : DS := fun DD xp env => ds { DD with nx := fun env' => du DD xp env' } xp env
theorem ss_next {K : PySem.W.Frag} : SS K W E tNext dNext := fun p S0 H0 S H σ env xp sv _ D DD q k => k.nx S H σ env (Ex.refl S) sv q
theorem ss_seq {K : PySem.W.Frag} (h1 : SS K W E ts ds) (h2 : SS K W E us du) : SS K W E (tSeq ts us) (dSeq ds du) := fun p S0 H0 S H σ env xp sv xo D DD q k =>
  h1 p S0 H0 S H σ env xp sv xo _ _ q ⟨fun S' H' σ' env' x sv' q' => h2 p S0 H0 S' H' σ' env' xp sv' (xo.ex x) D DD q' (k.mono x), k.rt, k.bk, k.ct⟩
theorem pdss_nil : PDSs X W E [] tNext dNext := ⟨pss_nil, ss_next⟩
theorem pdss_cons (h1 : PDS X W E st ts ds) (h2 : PDSs X W E rest us du) : PDSs X W E (st :: rest) (tSeq ts us) (dSeq ds du) := ⟨pss_cons h1.pe h2.pe, ss_seq h1.se h2.se⟩
theorem pdss_one (h1 : PDS X W E st ts ds) : PDSs X W E [st] ts ds := ⟨pss_one h1.pe, h1.se⟩
theorem pds_pass : PDS X W E (.Pass pos) tNext dNext := ⟨ps_pass, ss_next⟩
theorem pds_doc {x : Str} {j : Nat} {pos' : Pos} : PDS X W E (.Expr (.Constant (.str x) j pos) pos') tNext dNext := ⟨ps_doc, ss_next⟩
def dBreak : DS := fun DD _ env => DD.bk env
def dCont : DS := fun DD _ env => DD.ct env
theorem pds_break : PDS X W E (.Break pos) tBreak dBreak := ⟨ps_break, fun p S0 H0 S H σ env xp sv _ D DD q k => k.bk S H σ env (Ex.refl S) sv q⟩
theorem pds_continue : PDS X W E (.Continue pos) tCont dCont := ⟨ps_continue, fun p S0 H0 S H σ env xp sv _ D DD q k => k.ct S H σ env (Ex.refl S) sv q⟩
def dRet (de : DE) : DS := fun DD xp env => de env xp DD.rt
theorem pds_ret (h : PD X W E e te de) : PDS X W E (.Return (some e) pos) (tRet te) (dRet de) := ⟨ps_ret h.pe, fun p S0 H0 S H σ env xp sv xo D DD q k =>
  h.se p S H σ env xp sv.st sv.ev (sv.xo xo) _ _ q fun v d S1 H1 q1 g1 r1 => k.rt S1 H1 v d g1.ex (sv.g.trans g1) r1 q1⟩
def dRetN : DS := fun DD _ _ => DD.rt .non
theorem pds_retN : PDS X W E (.Return none pos) tRetN dRetN := ⟨ps_retN, fun p S0 H0 S H σ env xp sv xo D DD q k => k.rt S H .non .non (Ex.refl S) sv.g rfl q⟩
def dDrop (de : DE) : DS := fun DD xp env => de env xp fun _ => DD.nx env
theorem pds_expr (h : PD X W E e te de) (hs : swapsWith e none pos.line X.env = pure false := by rfl) : PDS X W E (.Expr e pos) (tDrop te) (dDrop de) := ⟨ps_expr h.pe hs, fun p S0 H0 S H σ env xp sv xo D DD q k =>
  h.se p S H σ env xp sv.st sv.ev (sv.xo xo) _ _ q fun v d S1 H1 q1 g1 r1 => k.nx S1 H1 σ env g1.ex (sv.mono g1) q1⟩
def dIfS (dt : DT) (ds du : DS) : DS := fun DD xp env => dt env xp fun b => if b = true then ds DD xp env else du DD xp env
theorem pds_if {c : Expr} {a b : List Stmt} {tc : TT} {dc : DT} (hc : PDT X W E c tc dc) (ha : PDSs X W E a ts ds) (hb : PDSs X W E b us du) : PDS X W E (.If c a b pos) (tIfS tc ts us) (dIfS dc ds du) := ⟨ps_if hc.pe ha.pe hb.pe, fun p S0 H0 S H σ env xp sv xo D DD q k =>
  hc.se p S H σ env xp sv.st sv.ev (sv.xo xo) _ _ q fun b S1 H1 q1 g1 => by
    cases b with
    | true =>
      rw [if_pos rfl] at q1 ⊢
      exact ha.se p S0 H0 S1 H1 σ env xp (sv.mono g1) (xo.ex g1.ex) D DD q1 (k.mono g1.ex)
    | false =>
      rw [if_neg Bool.false_ne_true] at q1 ⊢
      exact hb.se p S0 H0 S1 H1 σ env xp (sv.mono g1) (xo.ex g1.ex) D DD q1 (k.mono g1.ex)⟩
/-- a target stored to -/
def dAsg (de : DE) (dg : DG) : DS := fun DD xp env => de env xp fun d => dg d env DD.nx
theorem ss_asg {K : PySem.W.Frag} {g : TG} {dg : DG} {vs : List Nat} (h : SE K W E te de) (hg : SG K W g dg vs) : SS K W E (tAsg te g) (dAsg de dg) := fun p S0 H0 S H σ env xp sv xo D DD q k =>
  h p S H σ env xp sv.st sv.ev (sv.xo xo) _ _ q fun v d S1 H1 q1 g1 r1 => hg p S1 H1 σ env v d g1.st (sv.ev.mono g1) r1 _ _ q1 fun σ2 env2 ev2 q2 _ b2 _ _ =>
    k.nx S1 H1 σ2 env2 g1.ex ⟨sv.g.trans g1, ev2, fun i ds a e1 e2 => sv.own i ds a (b2 i ds e1).1 ((b2 i ds e1).2.symm.trans e2)⟩ q2
theorem pds_asg {tg : Expr} {g : TG} {dg : DG} {vs : List Nat} (he : PD X W E e te de) (hg : PDG X W tg g dg vs) (hs : swapsWithSole [tg] e pos.line X.env = pure false := by rfl) (hw : swappedStores [tg] e X.env = pure none := by rfl)
    (h1 : (assignEach [tg] X.env).map (·.2) = [assign tg X.env] := by rfl) : PDS X W E (.Assign [tg] e pos) (tAsg te g) (dAsg de dg) := ⟨ps_asg he.pe hg.pe hs hw h1, ss_asg he.se hg.se⟩
theorem pds_set (i : Nat) {x : Str} {pos' : Pos} (hN : X.N.Nodup) (he : PD X W E e te de) (hi : X.N[i]? = some x := by rfl) (hx : Loc X.env.scope x := by first | exact Or.inl rfl | exact Or.inr rfl) (hs : swapsWith e (some (.Name x pos')) pos.line X.env = pure false := by rfl)
    (hf : X.fn x = true ∨ X.env.scope.names.lookup x = some .local := by first | exact .inl rfl | exact .inr rfl | assumption) : PDS X W E (.Assign [.Name x pos'] e pos) (tAsg te (gName i)) (dAsg de (dgName i)) :=
  ⟨ps_set hN hi hx he.pe hs hf, ss_asg he.se (sg_name i)⟩
/-- a, b = x, y -/
def dPar (i j : Nat) (dr : DA) : DS := fun DD xp env => dr env xp fun ds => match ds with
  | [d, e] => DD.nx ((env.set i (.sh d)).set j (.sh e))
  | _ => False
theorem ss_par {K : PySem.W.Frag} {ta : TA} {da : DA} {i j : Nat} (h : SA K W E ta da) : SS K W E (tPar i j ta) (dPar i j da) := fun p S0 H0 S H σ env xp sv xo D DD q k =>
  h p S H σ env xp sv.st sv.ev (sv.xo xo) _ _ q fun vs ds S1 H1 q1 g1 r1 => by
    match ds, q1, r1 with
    | [d, e], q1, r1 =>
      obtain ⟨v, w, rfl, rv, rw'⟩ := r1.two
      refine ⟨v, w, rfl, k.nx S1 H1 _ _ g1.ex ⟨sv.g.trans g1, ((sv.ev.mono g1).set rv).set rw', fun n ds a e1 e2 => ?_⟩ q1⟩
      obtain ⟨n1, e1⟩ := ow_set e1
      obtain ⟨n2, e1⟩ := ow_set e1
      rw [List.getElem?_set_ne n1, List.getElem?_set_ne n2] at e2
      exact sv.own n ds a e1 e2
theorem pds_par (i j : Nat) {x y : Str} {a b : Expr} {ta : TA} {da : DA} {px py pt : Pos} {kt k2 pt2} (hc : X.calm = true) (hN : X.N.Nodup) (ha : PDA X W E [a, b] ta da) (hij : i ≠ j := by decide) (hi : X.N[i]? = some x := by rfl) (hj : X.N[j]? = some y := by rfl)
    (hx : X.env.scope.names.lookup x = some .local := by rfl) (hy : X.env.scope.names.lookup y = some .local := by rfl)
    (hw : swappedStores [.Tuple [.Name x px, .Name y py] kt pt] (.Tuple [a, b] k2 pt2) X.env = pure (some [x, y]) := by rfl)
    (hs : swapsWithSole [.Tuple [.Name x px, .Name y py] kt pt] (.Tuple [a, b] k2 pt2) pos.line X.env = pure false := by rfl) :
    PDS X W E (.Assign [.Tuple [.Name x px, .Name y py] kt pt] (.Tuple [a, b] k2 pt2) pos) (tPar i j ta) (dPar i j da) := ⟨ps_par hc hN hi hj hij hx hy ha.pe hw hs, ss_par ha.se⟩

/-! ### for -/
def dforL (dg : DG) (db : DS) : List D → DS
  | [], DD, _, env => DD.nx env
  | d :: ds, DD, xp, env => dg d env fun env1 => db { DD with nx := fun env2 => dforL dg db ds DD xp env2, ct := fun env2 => dforL dg db ds DD xp env2, bk := DD.nx } xp env1
def dFor (di : DA) (dg : DG) (db : DS) : DS := fun DD xp env => di env xp fun ds => dforL dg db ds DD xp env
theorem ss_for {K : PySem.W.Frag} {wi : TI} {g : TG} {di : DA} {dg : DG} {vs : List Nat} (hi : SI K W E wi di) (hg : SG K W g dg vs) (hb : SS K W E ts ds) : SS K W E (tFor wi g ts) (dFor di dg ds) := fun p S0 H0 S H σ env xp sv xo D DD q k =>
  hi p S H σ env xp sv.st sv.ev (sv.xo xo) _ _ q fun J G Y xs S1 H1 q1 g1 wk hG hY => by
    refine for_it wk (fun i σ' H' => ∃ S' env', Sv K W p S0 H0 S' H' σ' env' ∧ Ex S1 S' ∧ dforL dg ds (xs.drop i) DD xp env') ⟨S1, env, sv.mono g1, Ex.refl _, q1⟩ (fun i σ' H' _ ⟨S', env', sv', x, _⟩ => hG H' (x.trans sv'.st.ex)) ?_ ?_
    · rintro i x σ' H' H2 hlt ⟨S', env', sv', ex, hq⟩ y
      obtain ⟨d, S3, hd, g3, r3⟩ := hY i S' H' x H2 ex sv'.st hlt y
      have hdrop : xs.drop i = d :: xs.drop (i + 1) := by
        obtain ⟨h1, h2⟩ := List.getElem?_eq_some_iff.mp hd
        rw [← h2]
        exact List.drop_eq_getElem_cons h1
      rw [hdrop] at hq
      have sv3 := sv'.mono g3
      refine hg p S3 H2 σ' env' x d g3.st sv3.ev r3 _ _ hq fun σ2 env2 ev2 q2 _ b2 _ _ => ?_
      have sv4 : Sv K W p S0 H0 S3 H2 σ2 env2 := ⟨sv3.g, ev2, fun i ds a e1 e2 => sv3.own i ds a (b2 i ds e1).1 ((b2 i ds e1).2.symm.trans e2)⟩
      have e13 : Ex S1 S3 := ex.trans g3.ex
      exact hb p S0 H0 S3 H2 σ2 env2 xp sv4 (xo.ex (g1.ex.trans e13)) _ _ q2 ⟨fun S4 H4 σ4 env4 x4 sv4 q4 => ⟨S4, env4, sv4, e13.trans x4, q4⟩, fun S4 H4 v d x4 g4 r4 q4 => k.rt S4 H4 v d ((g1.ex.trans e13).trans x4) g4 r4 q4,
        fun S4 H4 σ4 env4 x4 sv4 q4 => k.nx S4 H4 σ4 env4 ((g1.ex.trans e13).trans x4) sv4 q4, fun S4 H4 σ4 env4 x4 sv4 q4 => ⟨S4, env4, sv4, e13.trans x4, q4⟩⟩
    · rintro σ' H' ⟨S', env', sv', ex, hq⟩
      rw [List.drop_eq_nil_of_le (Nat.le_refl _)] at hq
      exact k.nx S' H' σ' env' (g1.ex.trans ex) sv' hq
theorem pds_for {tg iter : Expr} {body : List Stmt} {wi : TI} {g : TG} {di : DA} {dg : DG} {vs : List Nat} (hp : PassesOwn (model X.prog X.w) X.A X.env X.xe) (hc : X.calm = true) (hi : PDI X W E tg iter wi di) (hg : PDG X W tg g dg vs) (hb : PDSs X W E body ts ds)
    (hs : ∀ x, foldedSetIterable iter X.env x = pure x := by intro _; rfl) : PDS X W E (.For tg iter body [] pos) (tFor wi g ts) (dFor di dg ds) := ⟨ps_for hp hc hi.pe hg.pe hb.pe hs, ss_for hi.se hg.se hb.se⟩
/-- while: some number of turns is enough -/
def dwh (dt : DT) (db : DS) : Nat → DS
  | 0, _, _, _ => False
  | n + 1, DD, xp, env => dt env xp fun b => if b = true then db { DD with nx := fun env2 => dwh dt db n DD xp env2, ct := fun env2 => dwh dt db n DD xp env2, bk := DD.nx } xp env else DD.nx env
def dWhile (dt : DT) (db : DS) : DS := fun DD xp env => ∃ n, dwh dt db n DD xp env
theorem ss_while {K : PySem.W.Frag} {t : TT} {dt : DT} (ht : STt K W E t dt) (hb : SS K W E ts ds) : SS K W E (tWhile t ts) (dWhile dt ds) := fun p S0 H0 S H σ env xp sv xo D DD q k => by
  obtain ⟨n0, q⟩ := q
  refine ⟨fun m σ' H' => ∃ S' env', Sv K W p S0 H0 S' H' σ' env' ∧ Ex S S' ∧ dwh dt ds m DD xp env', ⟨n0, S, env, sv, Ex.refl S, q⟩, ?_⟩
  rintro m σ' H' ⟨S', env', sv', ex, hq⟩
  cases m with
  | zero => exact hq.elim
  | succ m =>
    refine ht p S' H' σ' env' xp sv'.st sv'.ev (sv'.xo (xo.ex ex)) _ _ hq fun b S1 H1 q1 g1 => ?_
    have ex1 : Ex S S1 := ex.trans g1.ex
    cases b with
    | true =>
      rw [if_pos rfl] at q1 ⊢
      refine ⟨fun σ2 H2 => ∃ S2 env2, Sv K W p S0 H0 S2 H2 σ2 env2 ∧ Ex S S2 ∧ dwh dt ds m DD xp env2, fun σ2 H2 z => ⟨m, Nat.lt_succ_self m, z⟩, ?_⟩
      exact hb p S0 H0 S1 H1 σ' env' xp (sv'.mono g1) (xo.ex ex1) _ _ q1 ⟨fun S4 H4 σ4 env4 x4 sv4 q4 => ⟨S4, env4, sv4, ex1.trans x4, q4⟩, fun S4 H4 v d x4 g4 r4 q4 => k.rt S4 H4 v d (ex1.trans x4) g4 r4 q4,
        fun S4 H4 σ4 env4 x4 sv4 q4 => k.nx S4 H4 σ4 env4 (ex1.trans x4) sv4 q4, fun S4 H4 σ4 env4 x4 sv4 q4 => ⟨S4, env4, sv4, ex1.trans x4, q4⟩⟩
    | false =>
      rw [if_neg Bool.false_ne_true] at q1 ⊢
      exact k.nx S1 H1 σ' env' ex1 (sv'.mono g1) q1
theorem pds_while {c : Expr} {body : List Stmt} {t : TT} {dt : DT} (hp : PassesOwn (model X.prog X.w) X.A X.env X.xe) (hc : PDT X W E c t dt) (hb : PDSs X W E body ts ds) : PDS X W E (.While c body [] pos) (tWhile t ts) (dWhile dt ds) := ⟨ps_while hp hc.pe hb.pe, ss_while hc.se hb.se⟩
end

/-! ### a def -/
/-- n slots, m of them parameters -/
def runF (n m : Nat) (body : DS) : DF := fun ds xp post => ds.length = m ∧ body { nx := fun _ => post .non, rt := post } xp (ds.map .sh ++ List.replicate (n - m) .un)
section
variable {P : Program} {w : World} {K : PySem.W.Frag} {W : Wc} {mg : Str → Option Value} {base : Heap}
theorem RA.begins {p : Addr} {S H : Hp} {N : List Str} {vs : List V} {ds : List D} (r : RA K W p S vs ds) : Ev K W p S H (L2.start N vs) (ds.map Sl.sh ++ List.replicate (N.length - vs.length) .un) := by
  have hl := RA.length r
  refine ⟨fun i s e => ?_, fun i j as bs n e1 e2 => ?_⟩
  · unfold L2.start
    by_cases hi : i < ds.length
    · rw [List.getElem?_append_left (by simpa using hi)] at e
      rw [List.getElem?_append_left (by simpa [hl] using hi)]
      rw [List.getElem?_map] at e
      cases hd : ds[i]? with
      | none => rw [hd] at e; cases e
      | some d =>
        rw [hd] at e
        cases e
        obtain ⟨v, h1, h2⟩ := r.at hd
        exact ⟨some v, by rw [List.getElem?_map, h1]; rfl, v, rfl, h2⟩
    · rw [List.getElem?_append_right (by simpa using hi), List.getElem?_replicate] at e
      rw [List.getElem?_append_right (by simp [hl]; omega), List.getElem?_replicate]
      split at e
      · cases e
        rename_i hlt
        exact ⟨none, by rw [if_pos (by simp [hl] at hlt ⊢; omega)], trivial⟩
      · cases e
  · exfalso
    by_cases hi : i < ds.length
    · rw [List.getElem?_append_left (by simpa using hi), List.getElem?_map] at e1
      cases hd : ds[i]? with
      | none => rw [hd] at e1; cases e1
      | some d => rw [hd] at e1; cases e1
    · rw [List.getElem?_append_right (by simpa using hi), List.getElem?_replicate] at e1
      split at e1 <;> cases e1
/-- THE RULE: a def by its body's data -/
theorem okD {x qual : Str} {st : Stmt} {f : Addr} {fd : FuncData} {N ps : List Str} {k : Nat} {body : DS} (F : Fun K x qual st f fd) (Sc : FnScope N ps (defScope st))
    (hb : ∀ (cdv : Value) (A : Around) (outer : List PySem.Env) (s : Shared) (H : Hp) (E : XK), Room k (A.deeper (PyProof.Rows.envOfC qual (defScope st) s.heap.objs.size f cdv)) →
      ∃ ts, PDSs (cxOf (L2.CX P w) P w K mg base N qual (defScope st) f cdv A outer s H E) W E (defBody st) ts body) : FnOk P w K mg base (L2.CX P w) (k + 1) f fd ps (spD K W (runF N.length ps.length body)) := by
  refine F.okX Sc (fun vs H Q E h => ?_) (fun cdv A outer s H vs Q E hr h => ?_)
  · obtain ⟨p, S, ds, post, xp, _, r, ⟨h1, _⟩, _⟩ := h
    rw [RA.length r, h1]
  · obtain ⟨p, S, ds, post, xp, stt, r, ⟨h1, q⟩, k1, xo⟩ := h
    obtain ⟨ts, pe, se⟩ := hb cdv A outer s H E hr
    refine ⟨ts, pe, se p S H S H (L2.start N vs) _ xp ⟨Grow.refl stt, ?_, fun i ds' a e1 e2 => ?_⟩ xo.s _ _ q ⟨fun S' H' σ' env' _ sv q => k1 .non .non S' H' q sv.g rfl, fun S' H' v d _ g r q => k1 v d S' H' q g r, fun _ _ _ _ _ _ q => q.elim, fun _ _ _ _ _ _ q => q.elim⟩⟩
    · have := r.begins (H := H) (N := N)
      rw [RA.length r, h1] at this
      exact this
    · exfalso
      by_cases hi : i < ds.length
      · rw [List.getElem?_append_left (by simpa using hi), List.getElem?_map] at e1
        cases hd : ds[i]? with
        | none => rw [hd] at e1; cases e1
        | some d => rw [hd] at e1; cases e1
      · rw [List.getElem?_append_right (by simpa using hi), List.getElem?_replicate] at e1
        split at e1 <;> cases e1
end
end DL

set_option Elab.async false
set_option linter.all false
set_option maxRecDepth 100000
set_option maxHeartbeats 1000000
/-! operations by data -/
namespace DL
open PySem L2

/-! ### numbers, texts -/
def bAdd : D → D → (D → Prop) → Prop
  | .int i, .int j, k => k (.int (i + j))
  | .str i, .str j, k => i.length + j.length ≤ 100000 ∧ k (.str (i ++ j))
  | .lst i, .lst j, k => i.length + j.length ≤ 100000 ∧ k (.lst (i ++ j))
  | _, _, _ => False
def bSub : D → D → (D → Prop) → Prop
  | .int i, .int j, k => k (.int (i - j))
  | _, _, _ => False
def bMod : D → D → (D → Prop) → Prop
  | .int i, .int j, k => 0 < j ∧ k (.int (i % j))
  | _, _, _ => False
def bDiv : D → D → (D → Prop) → Prop
  | .int i, .int j, k => (0 < j ∧ j < 1073741824) ∧ k (.int (i / j))
  | _, _, _ => False
def bMulI : D → D → (D → Prop) → Prop
  | .int i, .int j, k => ((-(2 ^ 64) < i ∧ i < 2 ^ 64) ∨ (-(2 ^ 64) < j ∧ j < 2 ^ 64)) ∧ k (.int (i * j))
  | _, _, _ => False
def bPow : D → D → (D → Prop) → Prop
  | .int i, .int j, k => (0 ≤ j ∧ j ≤ 1000000 ∧ i.natAbs < 2 ^ 64) ∧ k (.int (i ^ j.toNat))
  | _, _, _ => False
def bLt : D → D → (D → Prop) → Prop
  | .int i, .int j, k => k (.bl (decide (i < j)))
  | .str i, .str j, k => k (.bl (decide (i.cps.toList < j.cps.toList)))
  | _, _, _ => False
def bLe : D → D → (D → Prop) → Prop
  | .int i, .int j, k => k (.bl (decide (i ≤ j)))
  | .str i, .str j, k => k (.bl (!decide (j.cps.toList < i.cps.toList)))
  | _, _, _ => False
def bGt : D → D → (D → Prop) → Prop
  | .int i, .int j, k => k (.bl (decide (j < i)))
  | _, _, _ => False
def bGe : D → D → (D → Prop) → Prop
  | .int i, .int j, k => k (.bl (decide (j ≤ i)))
  | _, _, _ => False
section
variable {K : PySem.W.Frag} {W : Wc}
theorem rb_I0 {g : Int → Int → V} {o : D → D → (D → Prop) → Prop} (h : ∀ p S x y k, o x y k → ∃ i j d, x = .int i ∧ y = .int j ∧ R K W p S (g i j) d ∧ k d) : RB K W (rI0 g) o := fun p S H x y d e Q post st r1 r2 q k => by
  obtain ⟨i, j, z, rfl, rfl, rz, q⟩ := h p S d e post q
  exact ⟨i, j, r1, r2, k _ z S H q (Grow.refl st) rz⟩
theorem rb_I {C : Int → Int → Prop} {g : Int → Int → V} {o : D → D → (D → Prop) → Prop} (h : ∀ p S x y k, o x y k → ∃ i j d, x = .int i ∧ y = .int j ∧ C i j ∧ R K W p S (g i j) d ∧ k d) : RB K W (rI C g) o := fun p S H x y d e Q post st r1 r2 q k => by
  obtain ⟨i, j, z, rfl, rfl, hc, rz, q⟩ := h p S d e post q
  exact ⟨i, j, r1, r2, hc, k _ z S H q (Grow.refl st) rz⟩
theorem rb_sub : RB K W (rI0 fun i j => .int (i - j)) bSub := rb_I0 fun p S x y k h => by
  cases x <;> cases y <;> first | exact h.elim | exact ⟨_, _, .int _, rfl, rfl, rfl, h⟩
theorem rb_mod : RB K W (rI (fun _ j => 0 < j) fun i j => .int (i % j)) bMod := rb_I fun p S x y k h => by
  cases x <;> cases y <;> first | exact h.elim | exact ⟨_, _, .int _, rfl, rfl, h.1, rfl, h.2⟩
theorem rb_div : RB K W (rI CDiv fun i j => .int (i / j)) bDiv := rb_I fun p S x y k h => by
  cases x <;> cases y <;> first | exact h.elim | exact ⟨_, _, .int _, rfl, rfl, h.1, rfl, h.2⟩
theorem rb_mulI : RB K W (rI CMul fun i j => .int (i * j)) bMulI := rb_I fun p S x y k h => by
  cases x <;> cases y <;> first | exact h.elim | exact ⟨_, _, .int _, rfl, rfl, h.1, rfl, h.2⟩
theorem rb_pow : RB K W (rI CPow fun i j => .int (i ^ j.toNat)) bPow := rb_I fun p S x y k h => by
  cases x <;> cases y <;> first | exact h.elim | exact ⟨_, _, .int _, rfl, rfl, h.1, rfl, h.2⟩
theorem rb_gt : RB K W (rI0 fun i j => .bl (decide (j < i))) bGt := rb_I0 fun p S x y k h => by
  cases x <;> cases y <;> first | exact h.elim | exact ⟨_, _, .bl _, rfl, rfl, rfl, h⟩
theorem rb_ge : RB K W (rI0 fun i j => .bl (decide (j ≤ i))) bGe := rb_I0 fun p S x y k h => by
  cases x <;> cases y <;> first | exact h.elim | exact ⟨_, _, .bl _, rfl, rfl, rfl, h⟩
abbrev rLtA : R2 := fun x y H Q => rI0 (fun i j => .bl (decide (i < j))) x y H Q ∨ ∃ i j, x = .str i ∧ y = .str j ∧ Q (.bl (decide (i.cps.toList < j.cps.toList))) H
abbrev rLeA : R2 := fun x y H Q => rI0 (fun i j => .bl (decide (i ≤ j))) x y H Q ∨ ∃ i j, x = .str i ∧ y = .str j ∧ Q (.bl (!decide (j.cps.toList < i.cps.toList))) H
theorem op_ltA {X : Cx} : OpR X (compareOp .Lt) rLtA := op_lt.or op_lt_str
theorem op_leA {X : Cx} : OpR X (compareOp .LtE) rLeA := op_le.or op_le_str
theorem rb_lt : RB K W rLtA bLt := fun p S H x y d e Q post st r1 r2 q k => by
  cases d <;> cases e <;> first
    | exact q.elim
    | exact .inl ⟨_, _, r1, r2, k _ _ S H q (Grow.refl st) rfl⟩
    | exact .inr ⟨_, _, r1, r2, k _ _ S H q (Grow.refl st) rfl⟩
theorem rb_le : RB K W rLeA bLe := fun p S H x y d e Q post st r1 r2 q k => by
  cases d <;> cases e <;> first
    | exact q.elim
    | exact .inl ⟨_, _, r1, r2, k _ _ S H q (Grow.refl st) rfl⟩
    | exact .inr ⟨_, _, r1, r2, k _ _ S H q (Grow.refl st) rfl⟩
abbrev rAddA : R2 := fun x y H Q => rI0 (fun i j => .int (i + j)) x y H Q ∨ ((∃ i j, x = .str i ∧ y = .str j ∧ i.length + j.length ≤ sizeLine ∧ Q (.str (i ++ j)) H) ∨ rCat x y H Q)
theorem op_addA {X : Cx} : OpR X (binaryOp .Add) rAddA := op_add.or (op_add_str.or op_cat)
theorem rb_add : RB K W rAddA bAdd := fun p S H x y d e Q post st r1 r2 q k => by
  cases d with
  | int i =>
    cases e with
    | int j => exact .inl ⟨_, _, r1, r2, k _ _ S H q (Grow.refl st) rfl⟩
    | _ => exact (show False from q).elim
  | str i =>
    cases e with
    | str j => exact .inr (.inl ⟨_, _, r1, r2, sz_of q.1, k _ _ S H q.2 (Grow.refl st) rfl⟩)
    | _ => exact (show False from q).elim
  | lst i =>
    cases e with
    | lst j =>
      unfold R at r1 r2
      obtain ⟨a, xs, rfl, h1, a1⟩ := r1
      obtain ⟨b, ys, rfl, h2, a2⟩ := r2
      refine .inr (.inr ⟨a, b, xs, ys, rfl, rfl, st.ex _ _ h1, st.ex _ _ h2, by rw [RA.length a1, RA.length a2]; exact sz_of q.1, fun l hl => ?_⟩)
      have hS := st.none hl
      refine k _ _ _ _ q.2 (Grow.new st hl) ?_
      unfold R
      exact ⟨l, _, rfl, upd_same, (RA.mono (Ex.new hS) _ _ a1).append (RA.mono (Ex.new hS) _ _ a2)⟩
    | _ => exact (show False from q).elim
  | _ => exact (show False from q).elim
/-! ### == of data -/
mutual
def toPy : D → PyData
  | .non => .none
  | .bl b => .bool b
  | .int i => .int i
  | .str x => .str x
  | .lst ds => .list (toPyA ds)
  | .tup ds => .tuple (toPyA ds)
  | _ => .none
def toPyA : List D → List PyData
  | [] => []
  | d :: ds => toPy d :: toPyA ds
end
mutual
def isPy : D → Bool
  | .lst ds => isPyA ds
  | .tup ds => isPyA ds
  | .obj _ _ => false
  | .tok => false
  | .ety => false
  | .dct _ => false
  | _ => true
def isPyA : List D → Bool
  | [] => true
  | d :: ds => isPy d && isPyA ds
end
section
variable {p : Addr} {S H : Hp}
mutual
theorem R.dp (ex : Ex S H) : ∀ (d : D) (v : V), isPy d = true → R K W p S v d → Dp K H v (toPy d)
  | .non, _, _, h => by cases (show _ = V.non from h); exact .non
  | .bl b, _, _, h => by cases (show _ = V.bl b from h); exact .bl b
  | .int i, _, _, h => by cases (show _ = V.int i from h); exact .int i
  | .str x, _, _, h => by cases (show _ = V.str x from h); exact .str x
  | .lst ds, v, i, h => by
    unfold R at h
    obtain ⟨a, xs, rfl, h1, h2⟩ := h
    exact Dp.lst (SqL.of (ex _ _ h1)) (RA.dp ex ds xs (by simpa [isPy] using i) h2)
  | .tup ds, v, i, h => by
    unfold R at h
    obtain ⟨a, xs, rfl, h1, h2⟩ := h
    exact Dp.tup (ex.t h1) (RA.dp ex ds xs (by simpa [isPy] using i) h2)
  | .obj _ _, _, i, _ => by simp [isPy] at i
  | .tok, _, i, _ => by simp [isPy] at i
  | .ety, _, i, _ => by simp [isPy] at i
  | .dct _, _, i, _ => by simp [isPy] at i
theorem RA.dp (ex : Ex S H) : ∀ (ds : List D) (xs : List V), isPyA ds = true → RA K W p S xs ds → DpAll K H xs (toPyA ds)
  | [], xs, _, h => by unfold RA at h; subst h; exact .nil
  | d :: ds, xs, i, h => by
    unfold RA at h
    obtain ⟨y, ys, rfl, h1, h2⟩ := h
    simp only [isPyA, Bool.and_eq_true] at i
    exact .cons (R.dp ex d y i.1 h1) (RA.dp ex ds ys i.2 h2)
end
end
def pyOk (d : D) : Prop := isPy d = true ∧ SeqAt.shaped (toPy d) = true
def eqD (d e : D) : Bool := PyData.eqv (toPy d) (toPy e)
def bEq : D → D → (D → Prop) → Prop := fun d e k => pyOk d ∧ pyOk e ∧ k (.bl (eqD d e))
def bNe : D → D → (D → Prop) → Prop := fun d e k => pyOk d ∧ pyOk e ∧ k (.bl (!eqD d e))
theorem rb_eq : RB K W (rEqD K) bEq := fun p S H x y d e Q post st r1 r2 q k =>
  ⟨toPy d, toPy e, R.dp st.ex d x q.1.1 r1, R.dp st.ex e y q.2.1.1 r2, q.1.2, q.2.1.2, k _ _ S H q.2.2 (Grow.refl st) rfl⟩
theorem rb_ne : RB K W (rNeD K) bNe := fun p S H x y d e Q post st r1 r2 q k =>
  ⟨toPy d, toPy e, R.dp st.ex d x q.1.1 r1, R.dp st.ex e y q.2.1.1 r2, q.1.2, q.2.1.2, k _ _ S H q.2.2 (Grow.refl st) rfl⟩
/-! ### one sign in a text; is of bools -/
def sign1 (x : Str) : Option Nat := match x.cps.toList with
  | [c] => some c
  | _ => none
theorem sign1_eq {x : Str} {c : Nat} (h : sign1 x = some c) : x = ⟨#[c]⟩ := by
  unfold sign1 at h
  split at h
  · rename_i d e
    cases h
    obtain ⟨⟨l⟩⟩ := x
    simp at e
    rw [e]
  · cases h
def bInS : D → D → (D → Prop) → Prop
  | .str x, .str z, k => ∃ c, sign1 x = some c ∧ k (.bl (decide (c ∈ z.cps.toList)))
  | _, _, _ => False
def bNotInS : D → D → (D → Prop) → Prop
  | .str x, .str z, k => ∃ c, sign1 x = some c ∧ k (.bl (!decide (c ∈ z.cps.toList)))
  | _, _, _ => False
theorem rb_inS : RB K W (fun x y H Q => ∃ (c : Nat) (z : Str), x = .str ⟨#[c]⟩ ∧ y = .str z ∧ Q (.bl (decide (c ∈ z.cps.toList))) H) bInS := fun p S H x y d e Q post st r1 r2 q k => by
  cases d <;> cases e <;> first
    | exact (show False from q).elim
    | (obtain ⟨c, e, q⟩ := q
       exact ⟨c, _, by rw [show x = _ from r1, sign1_eq e], r2, k _ _ S H q (Grow.refl st) rfl⟩)
theorem rb_notInS : RB K W (fun x y H Q => ∃ (c : Nat) (z : Str), x = .str ⟨#[c]⟩ ∧ y = .str z ∧ Q (.bl (!decide (c ∈ z.cps.toList))) H) bNotInS := fun p S H x y d e Q post st r1 r2 q k => by
  cases d <;> cases e <;> first
    | exact (show False from q).elim
    | (obtain ⟨c, e, q⟩ := q
       exact ⟨c, _, by rw [show x = _ from r1, sign1_eq e], r2, k _ _ S H q (Grow.refl st) rfl⟩)
def bIsB : D → D → (D → Prop) → Prop
  | .bl a, .bl b, k => k (.bl (decide (a = b)))
  | _, _, _ => False
def bNotB : D → D → (D → Prop) → Prop
  | .bl a, .bl b, k => k (.bl (!decide (a = b)))
  | _, _, _ => False
theorem rb_isB : RB K W rIsB bIsB := fun p S H x y d e Q post st r1 r2 q k => by
  cases d <;> cases e <;> first | exact q.elim | exact ⟨_, _, r1, r2, k _ _ S H q (Grow.refl st) rfl⟩
theorem rb_notB : RB K W rNotB bNotB := fun p S H x y d e Q post st r1 r2 q k => by
  cases d <;> cases e <;> first | exact q.elim | exact ⟨_, _, r1, r2, k _ _ S H q (Grow.refl st) rfl⟩
/-! ### -n -/
def dNeg (da : DE) : DE := fun env xp post => da env xp fun d => match d with
  | .int i => post (.int (-i))
  | _ => False
end
theorem pd_neg {X : Cx} {W : Wc} {E : XK} {a : Expr} {ta : TE} {da : DE} {pos : Pos} (ha : PD X W E a ta da) : PD X W E (.UnaryOp .USub a pos) (tUn (rU fun i => .int (-i)) ta) (dNeg da) :=
  ⟨pe_un un_neg ha.pe, fun p S H σ env xp st ev xo Q post q k => ha.se p S H σ env xp st ev xo _ _ q fun v d S1 H1 q1 g1 r1 => by
    cases d with
    | int i => exact ⟨i, r1, k _ _ S1 H1 q1 g1 rfl⟩
    | _ => exact (show False from q1).elim⟩

/-! ### built-ins -/
section
variable {K : PySem.W.Frag} {W : Wc}
/-- len -/
def bLen : List D → (D → Prop) → Prop
  | [.lst ds], k => k (.int ds.length)
  | [.tup ds], k => k (.int ds.length)
  | [.str z], k => z.length ≤ 100000 ∧ k (.int z.length)
  | _, _ => False
abbrev rLenA (K : PySem.W.Frag) : List V → Hp → VK → Prop := fun xs H Q => (∃ p ys, xs = [.ref p] ∧ (SqL K H p ys ∨ SqT K H p ys) ∧ Q (.int ys.length) H) ∨ ∃ z, xs = [.str z] ∧ z.length ≤ sizeLine ∧ Q (.int z.length) H
theorem CallR.or {X : Cx} {f : Value} {r r' : List V → Hp → VK → Prop} (h : CallR X f r) (h' : CallR X f r') : CallR X f (fun xs H Q => r xs H Q ∨ r' xs H Q) := by
  intro pins s σ H xs us Q I rv q
  rcases q with q | q
  · exact h pins s σ H xs us Q I rv q
  · exact h' pins s σ H xs us Q I rv q
theorem cr_len (K : PySem.W.Frag) {X : Cx} (hK : X.K = K := by rfl) : CallR X (.builtin "len") (rLenA K) := by
  subst hK
  exact CallR.or call_len_seq call_len_str
theorem rc_len : RCb K W (rLenA K) bLen := fun p S H vs ds Q post st ra q k => by
  unfold bLen at q
  split at q
  · obtain ⟨v, rfl, r⟩ := ra.one
    unfold R at r
    obtain ⟨a, xs, rfl, h1, h2⟩ := r
    exact .inl ⟨a, xs, rfl, .inl (SqL.of (st.ex _ _ h1)), k _ _ S H q (Grow.refl st) (by rw [RA.length h2]; rfl)⟩
  · obtain ⟨v, rfl, r⟩ := ra.one
    unfold R at r
    obtain ⟨a, xs, rfl, h1, h2⟩ := r
    exact .inl ⟨a, xs, rfl, .inr (Ex.t st.ex h1), k _ _ S H q (Grow.refl st) (by rw [RA.length h2]; rfl)⟩
  · obtain ⟨v, rfl, r⟩ := ra.one
    exact .inr ⟨_, by rw [show v = _ from r], sz_of q.1, k _ _ S H q.2 (Grow.refl st) rfl⟩
  · exact q.elim
/-- all(a list of bools) -/
def isBls : List D → Option (List Bool)
  | [] => some []
  | .bl b :: ds => (isBls ds).map (b :: ·)
  | _ :: _ => none
def bAll : List D → (D → Prop) → Prop
  | [.lst ds], k => ∃ bs, isBls ds = some bs ∧ k (.bl (bs.all id))
  | _, _ => False
def bAny : List D → (D → Prop) → Prop
  | [.lst ds], k => ∃ bs, isBls ds = some bs ∧ k (.bl (bs.any id))
  | _, _ => False
theorem RA.bls {p : Addr} {S : Hp} : ∀ {ds : List D} {xs : List V} {bs : List Bool}, RA K W p S xs ds → isBls ds = some bs → xs = bs.map V.bl
  | [], xs, bs, h, e => by unfold RA at h; cases e; exact h
  | .bl b :: ds, xs, bs, h, e => by
    unfold RA at h
    obtain ⟨y, ys, rfl, h1, h2⟩ := h
    simp only [isBls, Option.map_eq_some_iff] at e
    obtain ⟨cs, e1, rfl⟩ := e
    rw [RA.bls h2 e1, show y = V.bl b from h1]
    rfl
  | .non :: _, _, _, _, e => by simp [isBls] at e
  | .int _ :: _, _, _, _, e => by simp [isBls] at e
  | .str _ :: _, _, _, _, e => by simp [isBls] at e
  | .lst _ :: _, _, _, _, e => by simp [isBls] at e
  | .tup _ :: _, _, _, _, e => by simp [isBls] at e
  | .obj _ _ :: _, _, _, _, e => by simp [isBls] at e
  | .tok :: _, _, _, _, e => by simp [isBls] at e
  | .ety :: _, _, _, _, e => by simp [isBls] at e
  | .dct _ :: _, _, _, _, e => by simp [isBls] at e
theorem rc_all : RCb K W (rAll K) bAll := fun p S H vs ds Q post st ra q k => by
  unfold bAll at q
  split at q
  · obtain ⟨v, rfl, r⟩ := ra.one
    unfold R at r
    obtain ⟨a, xs, rfl, h1, h2⟩ := r
    obtain ⟨bs, e, q⟩ := q
    have hb := h2.bls e
    subst hb
    exact ⟨a, bs, rfl, SqL.of (st.ex _ _ h1), k _ _ S H q (Grow.refl st) rfl⟩
  · exact q.elim
theorem rc_any : RCb K W (rAny K) bAny := fun p S H vs ds Q post st ra q k => by
  unfold bAny at q
  split at q
  · obtain ⟨v, rfl, r⟩ := ra.one
    unfold R at r
    obtain ⟨a, xs, rfl, h1, h2⟩ := r
    obtain ⟨bs, e, q⟩ := q
    have hb := h2.bls e
    subst hb
    exact ⟨a, bs, rfl, SqL.of (st.ex _ _ h1), k _ _ S H q (Grow.refl st) rfl⟩
  · exact q.elim
/-- int(n), int(flag) -/
def bIntOf : List D → (D → Prop) → Prop
  | [.int i], k => k (.int i)
  | [.bl b], k => k (.int (if b then 1 else 0))
  | _, _ => False
theorem rc_int : RCb K W (fun xs H Q => (∃ i, xs = [.int i] ∧ Q (.int i) H) ∨ ∃ k, xs = [.bl k] ∧ Q (.int (if k then 1 else 0)) H) bIntOf := fun p S H vs ds Q post st ra q k => by
  unfold bIntOf at q
  split at q
  · obtain ⟨v, rfl, r⟩ := ra.one
    exact .inl ⟨_, by rw [show v = _ from r], k _ _ S H q (Grow.refl st) rfl⟩
  · obtain ⟨v, rfl, r⟩ := ra.one
    exact .inr ⟨_, by rw [show v = _ from r], k _ _ S H q (Grow.refl st) rfl⟩
  · exact q.elim
/-- isinstance(x, a built-in class) -/
inductive Ty where | int | bool | str | list | tuple | dict
def Ty.nm : Ty → String
  | .int => "int" | .bool => "bool" | .str => "str" | .list => "list" | .tuple => "tuple" | .dict => "dict"
def tyN : D → Option String
  | .non => some "NoneType" | .bl _ => some "bool" | .int _ => some "int" | .str _ => some "str" | .lst _ => some "list" | .tup _ => some "tuple" | .ety => some "dict" | .dct _ => some "dict"
  | _ => none
def isTy : Ty → D → Bool
  | .int, .int _ => true | .int, .bl _ => true | .bool, .bl _ => true | .str, .str _ => true | .list, .lst _ => true | .tuple, .tup _ => true | .dict, .ety => true | .dict, .dct _ => true
  | _, _ => false
theorem isTy_ok (T : Ty) (d : D) (n : String) (h : tyN d = some n) : kitB n T.nm = some (isTy T d) := by
  cases d <;> simp only [tyN, Option.some.injEq, reduceCtorEq] at h <;> subst h <;> cases T <;> simp only [isTy, Ty.nm] <;> decide +kernel
theorem R.ty {p : Addr} {S H : Hp} {v : V} {d : D} {n : String} (ex : Ex S H) (r : R K W p S v d) (h : tyN d = some n) : TyX K H v (.type n) := by
  cases d <;> simp only [tyN, Option.some.injEq, reduceCtorEq] at h <;> subst h
  · cases (show v = V.non from r); exact .base .non
  · cases (show v = V.bl _ from r); exact .base (.bl _)
  · cases (show v = V.int _ from r); exact .base (.int _)
  · cases (show v = V.str _ from r); exact .base (.str _)
  · unfold R at r
    obtain ⟨a, xs, rfl, h1, _⟩ := r
    exact .base (.lst (ex _ _ h1))
  · unfold R at r
    obtain ⟨a, xs, rfl, h1, _⟩ := r
    rcases ex.t h1 with (h | ⟨o, h⟩) | ⟨o, its, n, h, c, _⟩
    · exact .base (.tup h)
    · exact .fTuple h
    · exact .kTuple h c
  · unfold R at r
    obtain ⟨a, rfl, h1⟩ := r
    obtain ⟨od, h1⟩ := h1
    exact .fDict (ex _ _ h1)
  · unfold R at r
    obtain ⟨_, a, _, rfl, h1, _⟩ := r
    obtain ⟨od, h1⟩ := h1
    exact .fDict (ex _ _ h1)
def dIsi (T : Ty) (da : DE) : DE := fun env xp post => da env xp fun d => (∃ n, tyN d = some n) ∧ post (.bl (isTy T d))
end
theorem pd_isi (K : PySem.W.Frag) {X : Cx} {W : Wc} {E : XK} {a : Expr} {ta : TE} {da : DE} {x : Str} {p p' pos : Pos} (T : Ty) (hg : Gl X "isinstance") (hm : X.mg "isinstance" = none) (hT : PE X (.Name x p') (tC (.ty T.nm))) (ha : PD X W E a ta da)
    (h1 : starEach [a, .Name x p'] X.env = (false, eval a X.env) :: starEach [.Name x p'] X.env := by rfl) (h2 : starEach [.Name x p'] X.env = (false, eval (.Name x p') X.env) :: starEach [] X.env := by rfl)
    (hpl : (backTo pos (starEach [.Name x p'] X.env)).any (·.1) = false := by rfl) (hK : X.K = K := by rfl) :
    PD X W E (.Call (.Name "isinstance" p) [a, .Name x p'] [] pos) (tCB (rIsi K) (tCons ta (tCons (tC (.ty T.nm)) tNil))) (dIsi T da) := by
  subst hK
  exact ⟨pe_callB call_isi hg hm (by decide +kernel) (pa_cons ha.pe (pa_cons hT pa_nil h2) h1) (by decide) (by decide) h1 hpl, fun p S H σ env xp st ev xo Q post q k => ha.se p S H σ env xp st ev xo _ _ q fun v d S1 H1 ⟨⟨n, hn⟩, q1⟩ g1 r1 =>
    ⟨v, .ty T.nm, .type n, .type T.nm, isTy T d, rfl, .ty _, r1.ty g1.st.ex hn, kit_ty (isTy_ok T d n hn), k _ _ S1 H1 q1 g1 rfl⟩⟩
theorem op_eqK (K : PySem.W.Frag) {X : Cx} (hu : X.A.units + 64 < cLine) (hK : X.K = K := by rfl) : OpR X (compareOp .Eq) (rEqD K) := by
  subst hK
  exact op_eqD hu
theorem op_neK (K : PySem.W.Frag) {X : Cx} (hu : X.A.units + 64 < cLine) (hK : X.K = K := by rfl) : OpR X (compareOp .NotEq) (rNeD K) := by
  subst hK
  exact op_neD hu
theorem cr_allK (K : PySem.W.Frag) {X : Cx} (hc : X.calm = true := by rfl) (hK : X.K = K := by rfl) : CallR X (.builtin "all") (rAll K) := by
  subst hK
  exact cr_all hc
theorem cr_anyK (K : PySem.W.Frag) {X : Cx} (hc : X.calm = true := by rfl) (hK : X.K = K := by rfl) : CallR X (.builtin "any") (rAny K) := by
  subst hK
  exact cr_any hc
end DL

set_option Elab.async false
set_option linter.all false
set_option maxRecDepth 100000
set_option maxHeartbeats 1000000
/-! defs by name, methods of built-ins, the source of draws -/
namespace DL
open PySem L2

structure DefOk (P : Program) (w : World) (K : PySem.W.Frag) (W : Wc) (mg : Str → Option Value) (base : Heap) (k : Nat) (nm : Str) (ps : List Str) (df : DF) (dds : List D) : Prop where
  ex : ∃ (f : Addr) (fd : FuncData) (ds : List Value) (dvs : List V), FnOk P w K mg base (L2.CX P w) k f fd ps (spD K W df) ∧ mg nm = some (.ref f) ∧ PySem.W.keepIn K (.ref f) = true ∧ Binds K fd ps ds ∧ Vals dvs ds ∧ ∀ p S, RA K W p S dvs dds
/-- a call by the def's name: the values of the defaults are chosen by its place in the text -/
def tCallN (K : PySem.W.Frag) (W : Wc) (df : DF) (dds : List D) (E : XK) (tr : TA) : TE := fun σ H Q => ∃ dvs, (∀ p S, RA K W p S dvs dds) ∧ tCall (spD K W df) dvs E tr σ H Q
section
variable {X : Cx} {W : Wc} {E : XK} {a b c e : Expr} {es : List Expr} {pos : Pos} {da db dc de : DE} {ta tb tc te : TE} {tr : TA} {dr : DA}
theorem RA.fix {K : PySem.W.Frag} {W : Wc} {ds : List D} {vs us : List V} (h : ∀ p S, RA K W p S vs ds) : vs = vs := rfl
def simpleD : D → Bool
  | .non => true | .bl _ => true | .int _ => true | .str _ => true
  | .tup [] => false
  | _ => false
def valD : D → V
  | .bl b => .bl b | .int i => .int i | .str x => .str x | _ => .non
theorem pd_gint {x : Str} {i : Int} (hm : ∃ t, X.mg x = some (.int i t)) (hg : Gl X x := by rfl) (hd : (x == ("__debug__" : Str)) = false := by decide) : PD X W E (.Name x pos) (tC (.int i)) (dC (.int i)) := by
  obtain ⟨t, hm⟩ := hm
  exact pd_glob hg hm ⟨t, rfl⟩ (fun _ _ => rfl) hd
/-- a call of a def with no defaults left -/
theorem pd_callD {P : Program} {w : World} {K : PySem.W.Frag} {mg : Str → Option Value} {base : Heap} {j k : Nat} {x : Str} {ps : List Str} {df : DF} {p : Pos} (F : DefOk P w K W mg base j x ps df []) (hx : Passes (L2.CX X.prog X.w) X E) (ha : PDA X W E (e :: es) tr dr)
    (hX : X.prog = P ∧ X.w = w ∧ X.K = K ∧ X.mg = mg ∧ X.base = base := by exact ⟨rfl, rfl, rfl, rfl, rfl⟩) (hr : Room k X.A := by assumption) (hj : j ≤ k := by decide) (hg : Gl X x := by rfl)
    (hdb : (x == ("__debug__" : Str)) = false := by decide) (he : starEach (e :: es) X.env = (false, eval e X.env) :: starEach es X.env := by rfl) (hpl : (backTo pos (starEach es X.env)).any (·.1) = false := by rfl) :
    PD X W E (.Call (.Name x p) (e :: es) [] pos) (tCall (spD K W df) [] E tr) (dCall df [] dr) := by
  obtain ⟨rfl, rfl, rfl, rfl, rfl⟩ := hX
  obtain ⟨f, fd, ds, dvs, F, hm, hk, hb, hd, hdd⟩ := F.ex
  have e0 : dvs = [] := by
    have := hdd 0 (fun _ => none)
    unfold RA at this
    exact this
  subst e0
  exact pd_call F (hr.mono hj) hg hm hk hb hd hdd hx ha hdb he hpl
theorem se_call0 {K : PySem.W.Frag} {f : DF} : SE K W E (tCall (spD K W f) [] E tNil) (dCall f [] dNil) := se_call (fun _ _ => RA.nil) sa_nil
theorem pd_callD0 {P : Program} {w : World} {K : PySem.W.Frag} {mg : Str → Option Value} {base : Heap} {j k : Nat} {x : Str} {ps : List Str} {df : DF} {p : Pos} (F : DefOk P w K W mg base j x ps df []) (hx : Passes (L2.CX X.prog X.w) X E)
    (hX : X.prog = P ∧ X.w = w ∧ X.K = K ∧ X.mg = mg ∧ X.base = base := by exact ⟨rfl, rfl, rfl, rfl, rfl⟩) (hr : Room k X.A := by assumption) (hj : j ≤ k := by decide) (hg : Gl X x := by rfl)
    (hdb : (x == ("__debug__" : Str)) = false := by decide) : PD X W E (.Call (.Name x p) [] [] pos) (tCall (spD K W df) [] E tNil) (dCall df [] dNil) := by
  obtain ⟨rfl, rfl, rfl, rfl, rfl⟩ := hX
  obtain ⟨f, fd, ds, dvs, F, hm, hk, hb, hd, hdd⟩ := F.ex
  have e0 : dvs = [] := by
    have := hdd 0 (fun _ => none)
    unfold RA at this
    exact this
  subst e0
  exact ⟨pe_call0 F (hr.mono hj) hg hm hk hb hd hx hdb, se_call0⟩

/-! ### methods of built-in classes -/
def RMt (K : PySem.W.Frag) (W : Wc) (T : String) (r : V → List V → Hp → VK → Prop) (o : D → List D → (D → Prop) → Prop) : Prop :=
  ∀ p S H x d vs ds (Q : VK) (post : D → Prop), Stt W p S H → R K W p S x d → RA K W p S vs ds → o d ds post → (∀ v d' S' H', post d' → Grow W p S H S' H' → R K W p S' v d' → Q v H') → r x vs H Q
def tyD (T : String) : D → Prop
  | .str _ => T = "str"
  | .lst _ => T = "list"
  | _ => False
theorem R.tyV {K : PySem.W.Frag} {p : Addr} {S H : Hp} {v : V} {d : D} {T : String} (ex : Ex S H) (r : R K W p S v d) (h : tyD T d) : L2.tyV K T v H := by
  cases d with
  | str x => cases (show v = V.str x from r); exact h
  | lst ds =>
    unfold R at r
    obtain ⟨a, xs, rfl, h1, _⟩ := r
    exact .inl ⟨h, xs, SqL.of (ex _ _ h1)⟩
  | _ => exact (show False from h).elim
def dBM (T : String) (o : D → List D → (D → Prop) → Prop) (da : DE) (dr : DA) : DE := fun env xp post => da env xp fun x => tyD T x ∧ dr env xp fun ds => o x ds post
theorem pd_bm {name : Str} {apos cpos : Pos} {T id : String} {r : V → List V → Hp → VK → Prop} {o : D → List D → (D → Prop) → Prop} (pa : PlainAttrs T) (slot : Slot T name id) (hty : typeOf (.builtin id) = pure (.type "method_descriptor")) (hm : MtR X id r) (hr : RMt X.K W T r o) (ho : PD X W E a ta da) (ha : PDA X W E (e :: es) tr dr)
    (hbase : attributeBase a name X.env (eval a X.env) = eval a X.env := by rfl)
    (hfew : ((backTo cpos (starEach (e :: es) X.env)).all (fun x => !x.1) && (backToKw cpos (keywordEach [] X.env)).all (fun x => x.1.isSome)
      && decide ((e :: es).length + ([] : List Keyword).length + (if ([] : List Keyword).isEmpty then 0 else 1) < 30)) = true := by rfl)
    (hline : (apos.endLine == cpos.line) = true := by rfl) (hs : starEach (e :: es) X.env = (false, eval e X.env) :: starEach es X.env := by rfl) (hplain : (backTo cpos (starEach es X.env)).any (·.1) = false := by rfl) :
    PD X W E (.Call (.Attribute a name apos) (e :: es) [] cpos) (tBM X.K T r ta tr) (dBM T o da dr) :=
  ⟨pe_bm pa slot hty hm ho.pe ha.pe hbase hfew hline hs hplain, fun p S H σ env xp st ev xo Q post q k => ho.se p S H σ env xp st ev xo _ _ q fun v d S1 H1 ⟨h1, q1⟩ g1 r1 =>
    ⟨r1.tyV g1.st.ex h1, ha.se p S1 H1 σ env xp g1.st (ev.mono g1) (xo.mono g1) _ _ q1 fun vs ds S2 H2 q2 g2 r2 => hr p S2 H2 v d vs ds Q post g2.st (R.mono g2.ex _ _ r1) r2 q2 fun u d3 S3 H3 q3 g3 r3 => k u d3 S3 H3 q3 ((g1.trans g2).trans g3) r3⟩⟩
/-- sep.join(list of texts) -/
def isStrs : List D → Option (List Str)
  | [] => some []
  | .str b :: ds => (isStrs ds).map (b :: ·)
  | _ :: _ => none
theorem RA.strs {K : PySem.W.Frag} {p : Addr} {S : Hp} : ∀ {ds : List D} {xs : List V} {bs : List Str}, RA K W p S xs ds → isStrs ds = some bs → xs = bs.map V.str
  | [], xs, bs, h, e => by unfold RA at h; cases e; exact h
  | .str b :: ds, xs, bs, h, e => by
    unfold RA at h
    obtain ⟨y, ys, rfl, h1, h2⟩ := h
    simp only [isStrs, Option.map_eq_some_iff] at e
    obtain ⟨cs, e1, rfl⟩ := e
    rw [RA.strs h2 e1, show y = V.str b from h1]
    rfl
  | .non :: _, _, _, _, e => by simp [isStrs] at e
  | .int _ :: _, _, _, _, e => by simp [isStrs] at e
  | .bl _ :: _, _, _, _, e => by simp [isStrs] at e
  | .lst _ :: _, _, _, _, e => by simp [isStrs] at e
  | .tup _ :: _, _, _, _, e => by simp [isStrs] at e
  | .obj _ _ :: _, _, _, _, e => by simp [isStrs] at e
  | .tok :: _, _, _, _, e => by simp [isStrs] at e
  | .ety :: _, _, _, _, e => by simp [isStrs] at e
  | .dct _ :: _, _, _, _, e => by simp [isStrs] at e
def oJoin : D → List D → (D → Prop) → Prop
  | .str a, [.lst ds], k => ∃ ys, isStrs ds = some ys ∧ (ys.map fun x => x.length).sum + ys.length * a.length ≤ 100000 ∧ k (.str (Txt.join a ys))
  | _, _, _ => False
abbrev rJoin (K : PySem.W.Frag) : V → List V → Hp → VK → Prop := fun x xs H Q => ∃ a p, ∃ ys : List Str, x = .str a ∧ xs = [.ref p] ∧ (SqL K H p (ys.map V.str) ∨ SqT K H p (ys.map V.str)) ∧ (ys.map fun x => x.length).sum + ys.length * a.length ≤ 16777216 ∧ Q (.str (Txt.join a ys)) H
theorem rm_join {K : PySem.W.Frag} : RMt K W "str" (rJoin K) oJoin :=
  fun p S H x d vs ds Q post st r ra q k => by
    unfold oJoin at q
    split at q
    · obtain ⟨v, rfl, r2⟩ := ra.one
      unfold R at r2
      obtain ⟨l, xs, rfl, h1, h2⟩ := r2
      obtain ⟨ys, e, hz, q⟩ := q
      have hb := h2.strs e
      subst hb
      exact ⟨_, l, ys, r, rfl, .inl (SqL.of (st.ex _ _ h1)), by omega, k _ _ S H q (Grow.refl st) rfl⟩
    · exact q.elim
theorem pd_join (K : PySem.W.Frag) {apos cpos : Pos} (ho : PD X W E a ta da) (ha : PDA X W E (e :: es) tr dr) (hbase : attributeBase a "join" X.env (eval a X.env) = eval a X.env := by rfl)
    (hfew : ((backTo cpos (starEach (e :: es) X.env)).all (fun x => !x.1) && (backToKw cpos (keywordEach [] X.env)).all (fun x => x.1.isSome)
      && decide ((e :: es).length + ([] : List Keyword).length + (if ([] : List Keyword).isEmpty then 0 else 1) < 30)) = true := by rfl)
    (hline : (apos.endLine == cpos.line) = true := by rfl) (hs : starEach (e :: es) X.env = (false, eval e X.env) :: starEach es X.env := by rfl) (hplain : (backTo cpos (starEach es X.env)).any (·.1) = false := by rfl) (hK : X.K = K := by rfl) :
    PD X W E (.Call (.Attribute a "join" apos) (e :: es) [] cpos) (tBM K "str" (rJoin K) ta tr) (dBM "str" oJoin da dr) := by
  subst hK
  exact pd_bm PySem.F.plainAttrs_str PySem.F.slot_str_join PySem.F.type_str_join mt_join rm_join ho ha hbase hfew hline hs hplain
/-! ### repr of a bool -/
def bReprB : List D → (D → Prop) → Prop
  | [.bl b], k => k (.str (if b then "True" else "False"))
  | _, _ => False
theorem cr_reprB : CallR X (.builtin "repr") (fun xs H Q => ∃ b, xs = [.bl b] ∧ Q (.str (if b then "True" else "False")) H) := by
  intro pins s σ H xs us Q I rv h
  obtain ⟨b, rfl, q⟩ := h
  obtain ⟨u, rfl, r⟩ := vals1 rv
  cases (show u = Value.bool b from r)
  exact PySem.P.repr_of_bool ⟨.str _, H, I.tok _, ⟨_, rfl⟩, q⟩
theorem rc_reprB {K : PySem.W.Frag} : RCb K W (fun xs H Q => ∃ b, xs = [.bl b] ∧ Q (.str (if b then "True" else "False")) H) bReprB := fun p S H vs ds Q post st ra q k => by
  unfold bReprB at q
  split at q
  · obtain ⟨v, rfl, r⟩ := ra.one
    exact ⟨_, by rw [show v = _ from r], k _ _ S H q (Grow.refl st) rfl⟩
  · exact q.elim
/-- a dict just made is never changed any more -/
def tFrz (t : TE) : TE := fun σ H Q => t σ H fun x H1 => ∃ a kvs, x = .ref a ∧ H1 a = some (.dK kvs) ∧ ∀ od, Q x (upd H1 a (.frz od (.dK kvs)))
theorem pe_frz {e : Expr} {t : TE} (h : PE X e t) : PE X e (tFrz t) := by
  refine ⟨fun pins s σ H Q I hw => ?_⟩
  refine thn (h.run pins s σ H _ I hw) fun u s1 ⟨x, H1, I1, rx, a, kvs, ex, hd, q⟩ => ?_
  obtain ⟨od, I2⟩ := I1.lock hd trivial
  exact ⟨x, _, I2, rx, q od⟩
theorem upd_upd {H : Hp} {a : Addr} {x y : HO} : upd (upd H a x) a y = upd H a y := funext fun b => by
  by_cases hb : b = a
  · subst hb; rw [upd_same, upd_same]
  · rw [upd_ne hb, upd_ne hb, upd_ne hb]
theorem Grow.frz {p a : Addr} {S H S2 H2 : Hp} {kvs kws : List (Key × V)} {od : Obj} (g : Grow W p S H S2 H2) (hn : H a = none) (hp : a ≠ p) (hS2 : S2 a = none) (hH2 : H2 a = some (.dK kws)) : Grow W p S H (upd S2 a (.frz od (.dK kvs))) (upd H2 a (.frz od (.dK kvs))) := by
  have ex := Ex.new (o := HO.frz od (.dK kvs)) hS2
  refine ⟨g.ex.trans ex, ⟨tb_tell (tabs_put g.st.tabs hH2 ⟨nofun, fun c q z => by unfold LamX.CodeO at z; cases z⟩) nofun, fun b u z => ?_, ?_, ?_⟩, fun b o n z => ?_, fun b n z => ?_⟩
  · by_cases hb : b = a
    · subst hb; rw [upd_same] at z ⊢; exact z
    · rw [upd_ne hb] at z ⊢; exact g.st.ex b u z
  · rw [upd_ne (Ne.symm hp)]; exact g.st.hid
  · obtain ⟨o', e', s⟩ := g.st.src
    exact ⟨o', by rw [upd_ne (Ne.symm hp)]; exact e', W.mono _ _ _ ex s⟩
  · have hb : b ≠ a := fun y => by rw [y, hn] at z; cases z
    rw [upd_ne hb]; exact g.kp b o n z
  · have hb : b ≠ a := fun y => n (y ▸ hn)
    rw [upd_ne hb]; exact g.fr b n z
/-- {} -/
theorem pd_ety {pos : Pos} : PD X W E (.Dict [] [] pos) (tFrz fun _ H Q => ∀ d, H d = none → Q (.ref d) (upd H d (.dK []))) (dC .ety) :=
  ⟨pe_frz pe_dnewK, fun p S H σ env xp st ev _ Q post q k d hd => by
    refine ⟨d, [], rfl, upd_same, fun od => ?_⟩
    rw [upd_upd]
    refine k _ _ _ _ q (Grow.new st hd) ?_
    unfold R
    exact ⟨d, rfl, od, upd_same⟩⟩
end

/-! ### the source of draws -/
/-- at the hidden address: the script's numbers, the place, what is left of a great one, the seed -/
def SrcO (S : Hp) (o : HO) : Prop := ∃ (c : Addr) (ns : List Int) (i b s : Int), o = .lst [.ref c, .int i, .int b, .int s] ∧ S c = some (.lst (ns.map V.int)) ∧ 0 ≤ i ∧ 0 ≤ b ∧ 0 ≤ s ∧ s < 2147483647
theorem SrcO.mono (S S' : Hp) (o : HO) (e : Ex S S') : SrcO S o → SrcO S' o := fun ⟨c, ns, i, b, s, h, h1, h2⟩ => ⟨c, ns, i, b, s, h, e _ _ h1, h2⟩
/-- the classes by number; the law's table of code objects, if it makes lambdas -/
structure MM where
  m : Nat → Option Addr
  tb : Option Addr
  /-- draws of the second kind: a pool of two numbers -/
  pk : Bool
/-- the law's table of code objects, if it makes lambdas -/
def tabsOf (M : MM) : List (Addr × Str) := match M.tb with
  | some P => [(P, "law.<locals>.<lambda>")]
  | none => []
theorem SrcO.nt (S : Hp) (o : HO) : SrcO S o → (∀ ps, o ≠ .tbl ps) ∧ ∀ c q, o ≠ LamX.CodeO c q := fun ⟨_, _, _, _, _, e, _⟩ => by
  subst e
  exact ⟨nofun, fun c q z => by unfold LamX.CodeO at z; cases z⟩
theorem tabs_th {T : List (Addr × Str)} (H H' : Hp) (e : ∀ b o, H b = some o → ((∃ ps, o = .tbl ps) ∨ ∃ c q, o = LamX.CodeO c q) → H' b = some o) (t : LamX.Tabs T H) : LamX.Tabs T H' := fun p hp => by
  obtain ⟨ps, h1, h2, h3⟩ := t p hp
  refine ⟨ps, e _ _ h1 (.inl ⟨_, rfl⟩), h2, fun pos cv hc => ?_⟩
  obtain ⟨c, e1, e2⟩ := h3 pos cv hc
  exact ⟨c, e1, e _ _ e2 (.inr ⟨_, _, rfl⟩)⟩
/-- the second kind: what is left of a great number, the seed -/
def SrcP (o : HO) : Prop := ∃ g s : Int, o = .lst [.int g, .int s] ∧ 0 ≤ s ∧ s < 2147483647
def SrcM (M : MM) (S : Hp) (o : HO) : Prop := if M.pk = true then SrcP o else SrcO S o
theorem SrcM.o {M : MM} {S : Hp} {o : HO} (h : M.pk = false) : SrcM M S o ↔ SrcO S o := by unfold SrcM; rw [h]; exact Iff.rfl
theorem SrcM.p {M : MM} {S : Hp} {o : HO} (h : M.pk = true) : SrcM M S o ↔ SrcP o := by unfold SrcM; rw [h]; exact Iff.rfl
theorem SrcM.mono {M : MM} (S S' : Hp) (o : HO) (e : Ex S S') (h : SrcM M S o) : SrcM M S' o := by
  cases k : M.pk with
  | false => exact (SrcM.o k).mpr (SrcO.mono S S' o e ((SrcM.o k).mp h))
  | true => exact (SrcM.p k).mpr ((SrcM.p k).mp h)
theorem SrcM.nt {M : MM} (S : Hp) (o : HO) (h : SrcM M S o) : (∀ ps, o ≠ .tbl ps) ∧ ∀ c q, o ≠ LamX.CodeO c q := by
  cases k : M.pk with
  | false => exact SrcO.nt S o ((SrcM.o k).mp h)
  | true =>
    obtain ⟨g, s, e, _⟩ := (SrcM.p k).mp h
    subst e
    exact ⟨nofun, fun c q z => by unfold LamX.CodeO at z; cases z⟩
theorem SrcM.lst {M : MM} {S : Hp} {o : HO} (h : SrcM M S o) : ∃ xs, o = .lst xs := by
  cases k : M.pk with
  | false => obtain ⟨c, ns, i, b, s, e, _⟩ := (SrcM.o k).mp h; exact ⟨_, e⟩
  | true => obtain ⟨g, s, e, _⟩ := (SrcM.p k).mp h; exact ⟨_, e⟩
abbrev WcOf (M : MM) : Wc := ⟨M.m, SrcM M, SrcM.mono, SrcM.nt, LamX.Tabs (tabsOf M), tabs_th⟩
/-- a draw below n: any of them -/
def fDraw : DF := fun ds _ post => ∃ n : Int, ds = [.tok, .int n] ∧ 0 < n ∧ n.natAbs.log2 < 9000 ∧ ∀ r, 0 ≤ r → r < n → post (.int r)
def spDraw (K : PySem.W.Frag) (M : MM) : Sp := fun vs H Q _ => ∃ (p : Addr) (S : Hp) (n : Int), vs = [.ref p, .int n] ∧ Stt (WcOf M) p S H ∧ 0 < n ∧ n.natAbs.log2 < 9000 ∧
  ∀ r H', 0 ≤ r → r < n → Grow (WcOf M) p S H S H' → Q (.int r) H'
theorem spDraw_of {K : PySem.W.Frag} {M : MM} (vs : List V) (H : Hp) (Q : VK) (E : XK) (h : spD K (WcOf M) fDraw vs H Q E) : spDraw K M vs H Q E := by
  obtain ⟨p, S, ds, post, xp, st, ra, ⟨n, rfl, h1, h2, h3⟩, k, _⟩ := h
  obtain ⟨v, w, rfl, r1, r2⟩ := ra.two
  exact ⟨p, S, n, by rw [show v = V.ref p from r1, show w = V.int n from r2], st, h1, h2, fun r H' a b g => k _ _ S H' (h3 r a b) g rfl⟩
/-- the source is written anew -/
theorem src_put {M : MM} {p : Addr} {S H : Hp} {o : HO} (st : Stt (WcOf M) p S H) (h : SrcM M S o) : Grow (WcOf M) p S H S (upd H p o) :=
  ⟨Ex.refl S, ⟨(let ⟨_, e, r⟩ := st.src; tabs_put st.tabs e (SrcM.nt _ _ r)), fun a u e => by
    have : a ≠ p := fun z => by rw [z, st.hid] at e; cases e
    rw [upd_ne this]
    exact st.ex a u e, st.hid, o, upd_same, h⟩, fun b u n e => .inl (by rw [upd_ne n]; exact e), fun _ _ h => h⟩
end DL

set_option Elab.async false
set_option linter.all false
set_option maxRecDepth 100000
set_option maxHeartbeats 4000000
/-! the law's own helpers: begin, draw; the law's end -/
namespace DL
open PySem L2

section
variable {P : Program} {w : World} {K : PySem.W.Frag} {W : Wc} {mg : Str → Option Value} {base : Heap}
theorem passX {N : List Str} {qual : Str} {scope : Scope} {f : Addr} {cd : Value} {A : Around} {outer : List PySem.Env} {s : Shared} {H : Hp} {E : XK} : Passes (L2.CX P w) (cxOf (L2.CX P w) P w K mg base N qual scope f cd A outer s H E) E :=
  passes_call (takes_of rfl rfl rfl rfl) fun _ _ _ _ h => h
theorem defOk {k : Nat} {nm : Str} {ps : List Str} {df : DF} {f : Addr} {fd : FuncData} (F : FnOk P w K mg base (L2.CX P w) k f fd ps (spD K W df)) (m : mg nm = some (.ref f)) (kp : PySem.W.keepIn K (.ref f) = true) (b : Binds K fd ps []) : DefOk P w K W mg base k nm ps df [] :=
  ⟨f, fd, [], [], F, m, kp, b, .nil, fun _ _ => RA.nil⟩

/-! ### begin -/
def spBegin (K : PySem.W.Frag) : Sp := fun vs H Q _ => ∃ (a : Addr) (ns : List Int), vs = [.ref a] ∧ SqL K H a (ns.map V.int) ∧ ∀ (p c : Addr) (ms : List Int) H', p ≠ c → H' c = some (.lst (ms.map V.int)) → H' p = some (.lst [.ref c, .int 0, .int 0, .int 7]) → Ex H H' → Q (.ref p) H'
abbrev tBegin (K : PySem.W.Frag) : TS := tRet (tLst (tCons (tCB (fun xs H Q => ∃ p ys, xs = [.ref p] ∧ (SqL K H p ys ∨ SqT K H p ys) ∧ ∀ l, H l = none → Q (.ref l) (upd H l (.lst ys))) (tCons (tSl (rSlL K) (tVar 0) tNoPart (tPart (tC (.int 63)))) tNil)) (tCons (tC (.int 0)) (tCons (tC (.int 0)) (tCons (tC (.int 7)) tNil)))))
theorem okBegin {x qual : Str} {st : Stmt} {f : Addr} {fd : FuncData} {k : Nat} (F : Fun K x qual st f fd) (Sc : FnScope ["script"] ["script"] (defScope st))
    (hb : ∀ (cdv : Value) (A : Around) (outer : List PySem.Env) (s : Shared) (H : Hp) (E : XK), PSs (cxOf (L2.CX P w) P w K mg base ["script"] qual (defScope st) f cdv A outer s H E) (defBody st) (tBegin K)) : FnOk P w K mg base (L2.CX P w) (k + 1) f fd ["script"] (spBegin K) := by
  refine F.okX Sc (fun vs H Q E h => ?_) (fun cdv A outer s H vs Q E hr h => ?_)
  · obtain ⟨a, ns, rfl, _⟩ := h
    rfl
  · obtain ⟨a, ns, rfl, hs, k⟩ := h
    refine ⟨_, hb cdv A outer s H E, ?_⟩
    refine ⟨_, rfl, ?_⟩
    refine ⟨63, rfl, a, ns.map V.int, rfl, hs, fun t ht => ?_⟩
    refine ⟨t, _, rfl, .inl (SqL.of upd_same), fun c hc => ?_⟩
    refine ⟨by show 4 ≤ sizeLine; decide, fun p hp => ?_⟩
    have e : cutV (ns.map V.int) none (some 63) = ((ns.drop (HT.sIx (ns.map V.int).length 0 none)).take (HT.sIx (ns.map V.int).length (ns.map V.int).length (some 63) - HT.sIx (ns.map V.int).length 0 none)).map V.int := by
      unfold cutV
      rw [← List.map_drop, ← List.map_take]
    have npc : p ≠ c := fun z => by
      rw [z, upd_same] at hp
      cases hp
    exact k p c _ _ npc (by rw [upd_ne npc.symm, upd_same, e]) upd_same (((Ex.new ht).trans (Ex.new hc)).trans (Ex.new hp))

/-! ### draw -/
abbrev rListOf (K : PySem.W.Frag) : R2 := rIxL K
def tAt (K : PySem.W.Frag) (k : Int) : TE := tOp (rIxL K) (tVar 0) (tC (.int k))
def tPw : TE := tOp (rI CPow fun i j => .int (i ^ j.toNat)) (tC (.int 10)) (tC (.int 18))
def tInt (te : TE) : TE := tCB (fun xs H Q => (∃ i, xs = [.int i] ∧ Q (.int i) H) ∨ ∃ k, xs = [.bl k] ∧ Q (.int (if k then 1 else 0)) H) (tCons te tNil)
abbrev rM : R2 := rI (fun _ j => 0 < j) fun i j => .int (i % j)
abbrev rA : R2 := rI0 fun i j => .int (i + j)
abbrev rX : R2 := rI CMul fun i j => .int (i * j)
def tDraw (K : PySem.W.Frag) : TS :=
  tSeq (tIfS (tAnd (tTest (tOp (rI0 fun i j => .bl (decide (i < j))) (tAt K 2) tPw)) (tTest (tOp (rI0 fun i j => .bl (decide (i < j))) (tAt K 1) (tCB (fun xs H Q => ∃ p ys, xs = [.ref p] ∧ (SqL K H p ys ∨ SqT K H p ys) ∧ Q (.int ys.length) H) (tCons (tAt K 0) tNil)))))
    (tSeq (tAsg (tInt (tOp (rIxL K) (tAt K 0) (tAt K 1))) (gName 2))
    (tSeq (tAsg (tOp rA (tAt K 1) (tC (.int 1))) (gSub (tVar 0) (tC (.int 1)) rSetL))
    (tSeq (tAsg (tC (.int 0)) (gSub (tVar 0) (tC (.int 2)) rSetL))
    (tSeq (tIfS (tTest (tOp (rI0 fun i j => .bl (decide (j ≤ i))) (tVar 2) tPw)) (tAsg (tVar 2) (gSub (tVar 0) (tC (.int 2)) rSetL)) tNext)
      (tAsg (tOp rM (tInt (tOp rA (tOp rA (tOp rX (tAt K 3) (tC (.int 48271))) (tOp rM (tVar 2) (tC (.int 2147483629)))) (tC (.int 11)))) (tC (.int 2147483647))) (gSub (tVar 0) (tC (.int 3)) rSetL)))))) tNext)
  (tSeq (tIfS (tTest (tOp (rI0 fun i j => .bl (decide (j ≤ i))) (tAt K 2) tPw))
    (tSeq (tAsg (tOp rM (tInt (tAt K 2)) (tVar 1)) (gName 3))
    (tSeq (tAsg (tOp (rI CDivW fun i j => .int (i / j)) (tAt K 2) (tVar 1)) (gSub (tVar 0) (tC (.int 2)) rSetL))
      (tRet (tVar 3)))) tNext)
  (tSeq (tAsg (tOp rM (tInt (tOp rA (tOp rX (tAt K 3) (tC (.int 39373))) (tC (.int 12820163)))) (tC (.int 2147483647))) (gSub (tVar 0) (tC (.int 3)) rSetL))
    (tRet (tOp rM (tInt (tOp (rI CDiv fun i j => .int (i / j)) (tAt K 3) (tC (.int 16)))) (tVar 1)))))
section
variable {σ : L2.St} {H : Hp} {p : Addr} {xs : List V} {v : V} {i j : Int} {ta tb te : TE} {D : Ends}
theorem val_at {k : Int} (h0 : σ[0]? = some (some (.ref p))) (h : H p = some (.lst xs)) (hk : atI xs k = some v) : Val (tAt K k) σ H v := val_op (val_var h0) val_c fun Q q => ⟨p, xs, k, v, rfl, rfl, SqL.of h, hk, q⟩
theorem val_pw : Val tPw σ H (.int 1000000000000000000) := val_op val_c val_c fun Q q => ⟨10, 18, rfl, rfl, ⟨by decide, by decide, by decide⟩, q⟩
theorem val_I {C : Int → Int → Prop} {g : Int → Int → V} (ha : Val ta σ H (.int i)) (hb : Val tb σ H (.int j)) (hc : C i j) : Val (tOp (rI C g) ta tb) σ H (g i j) := val_op ha hb fun Q q => ⟨i, j, rfl, rfl, hc, q⟩
theorem val_I0 {g : Int → Int → V} (ha : Val ta σ H (.int i)) (hb : Val tb σ H (.int j)) : Val (tOp (rI0 g) ta tb) σ H (g i j) := val_op ha hb fun Q q => ⟨i, j, rfl, rfl, q⟩
theorem val_add (ha : Val ta σ H (.int i)) (hb : Val tb σ H (.int j)) : Val (tOp rA ta tb) σ H (.int (i + j)) := val_I0 ha hb
theorem val_mul (ha : Val ta σ H (.int i)) (hb : Val tb σ H (.int j)) (hc : CMul i j) : Val (tOp rX ta tb) σ H (.int (i * j)) := val_I ha hb hc
theorem val_rem (ha : Val ta σ H (.int i)) (hb : Val tb σ H (.int j)) (hc : 0 < j) : Val (tOp rM ta tb) σ H (.int (i % j)) := val_I (C := fun _ j => 0 < j) ha hb hc
theorem val_quo (ha : Val ta σ H (.int i)) (hb : Val tb σ H (.int j)) (hc : CDiv i j) : Val (tOp (rI CDiv fun i j => .int (i / j)) ta tb) σ H (.int (i / j)) := val_I ha hb hc
theorem val_quoW (ha : Val ta σ H (.int i)) (hb : Val tb σ H (.int j)) (hc : CDivW i j) : Val (tOp (rI CDivW fun i j => .int (i / j)) ta tb) σ H (.int (i / j)) := val_I ha hb hc
theorem val_int (h : Val te σ H (.int i)) : Val (tInt te) σ H (.int i) := fun Q q => h _ (.inl ⟨i, rfl, q⟩)
theorem ans_I0 {g : Int → Int → Bool} (ha : Val ta σ H (.int i)) (hb : Val tb σ H (.int j)) : Ans (tTest (tOp (rI0 fun i j => .bl (g i j)) ta tb)) σ H (g i j) := ans_cmp ha hb fun Q q => ⟨i, j, rfl, rfl, q⟩
theorem st_put {k : Int} {n : Nat} (h0 : σ[0]? = some (some (.ref p))) (hv : Val te σ H v) (h : H p = some (.lst xs)) (hk : ixN xs.length k = some n) (q : D.nx σ (upd H p (.lst (xs.set n v)))) : tAsg te (gSub (tVar 0) (tC (.int k)) rSetL) D σ H :=
  hv _ ⟨.ref p, h0, p, xs, k, n, rfl, rfl, h, hk, q⟩
end
theorem mod_lt {i : Int} {m : Int} (h : 0 < m) : 0 ≤ i % m ∧ i % m < m := ⟨Int.emod_nonneg _ (by omega), Int.emod_lt_of_pos _ h⟩
theorem okDraw {x qual : Str} {st : Stmt} {f : Addr} {fd : FuncData} {k : Nat} {M : MM} (hk : M.pk = false) (F : Fun K x qual st f fd) (Sc : FnScope ["source", "limit", "cell", "digit"] ["source", "limit"] (defScope st))
    (hb : ∀ (cdv : Value) (A : Around) (outer : List PySem.Env) (s : Shared) (H : Hp) (E : XK), PSs (cxOf (L2.CX P w) P w K mg base ["source", "limit", "cell", "digit"] qual (defScope st) f cdv A outer s H E) (defBody st) (tDraw K)) :
    FnOk P w K mg base (L2.CX P w) (k + 1) f fd ["source", "limit"] (spD K (WcOf M) fDraw) := by
  refine FnOk.imp (sp := spDraw K M) ?_ spDraw_of
  refine F.okX Sc (fun vs H Q E h => ?_) (fun cdv A outer s H vs Q E hr h => ?_)
  · obtain ⟨p, S, n, rfl, _⟩ := h
    rfl
  · obtain ⟨p, S, n, rfl, st0, hn, hlog, k⟩ := h
    refine ⟨_, hb cdv A outer s H E, ?_⟩
    show tDraw K { nx := fun _ H' => Q .non H', rt := Q } [some (.ref p), some (.int n), none, none] H
    obtain ⟨o, ho, hsr⟩ := st0.src
    obtain ⟨c, ns, i, b, sd, rfl, hc, hi, hb0, hs0, hs1⟩ := (SrcM.o hk).mp hsr
    -- what holds ahead of the second test
    have rest : ∀ (o : Option V) (H : Hp) (i b sd : Int), Grow (WcOf M) p S H S H → (∀ r H', 0 ≤ r → r < n → Grow (WcOf M) p S H S H' → Q (.int r) H') → H p = some (.lst [.ref c, .int i, .int b, .int sd]) → 0 ≤ i → 0 ≤ b → 0 ≤ sd → sd < 2147483647 →
        (tSeq (tIfS (tTest (tOp (rI0 fun i j => .bl (decide (j ≤ i))) (tAt K 2) tPw))
          (tSeq (tAsg (tOp rM (tInt (tAt K 2)) (tVar 1)) (gName 3))
          (tSeq (tAsg (tOp (rI CDivW fun i j => .int (i / j)) (tAt K 2) (tVar 1)) (gSub (tVar 0) (tC (.int 2)) rSetL))
            (tRet (tVar 3)))) tNext)
          (tSeq (tAsg (tOp rM (tInt (tOp rA (tOp rX (tAt K 3) (tC (.int 39373))) (tC (.int 12820163)))) (tC (.int 2147483647))) (gSub (tVar 0) (tC (.int 3)) rSetL))
            (tRet (tOp rM (tInt (tOp (rI CDiv fun i j => .int (i / j)) (tAt K 3) (tC (.int 16)))) (tVar 1))))) { nx := fun _ H' => Q .non H', rt := Q } [some (.ref p), some (.int n), o, none] H := by
      intro o H i b sd g0 k ho hi hb0 hs0 hs1
      have stt := g0.st
      refine st_seq ?_
      have a2 : Ans (tTest (tOp (rI0 fun i j => .bl (decide (j ≤ i))) (tAt K 2) tPw)) [some (.ref p), some (.int n), o, none] H (decide ((1000000000000000000 : Int) ≤ b)) := ans_I0 (g := fun i j => decide (j ≤ i)) (val_at rfl ho rfl) val_pw
      by_cases h2 : (1000000000000000000 : Int) ≤ b
      · rw [decide_eq_true h2] at a2
        refine st_yes a2 ?_
        refine st_seq ?_
        refine st_set (val_rem (val_int (val_at rfl ho rfl)) (val_var rfl) hn) ?_
        refine st_seq ?_
        refine st_put (k := 2) (n := 2) rfl (val_quoW (val_at rfl ho rfl) (val_var rfl) ⟨hn, hlog⟩) ho rfl ?_
        refine st_ret (val_var rfl) ?_
        have m := mod_lt (i := b) hn
        exact k (b % n) _ m.1 m.2 (src_put stt ((SrcM.o hk).mpr ⟨c, ns, i, b / n, sd, rfl, hc, hi, Int.ediv_nonneg hb0 (by omega), hs0, hs1⟩))
      · rw [decide_eq_false h2] at a2
        have m1 := mod_lt (i := sd * 39373 + 12820163) (m := 2147483647) (by decide)
        have hx : CMul sd 39373 := .inr ⟨by decide, by decide⟩
        have H1 : upd H p (.lst [.ref c, .int i, .int b, .int ((sd * 39373 + 12820163) % 2147483647)]) p = some (.lst [.ref c, .int i, .int b, .int ((sd * 39373 + 12820163) % 2147483647)]) := upd_same
        refine st_no a2 ?_
        refine st_next ?_
        refine st_seq ?_
        refine st_put (k := 3) (n := 3) rfl (val_rem (val_int (val_add (val_mul (val_at rfl ho rfl) val_c hx) val_c)) val_c (by decide)) ho rfl ?_
        refine st_ret (val_rem (val_int (val_quo (val_at rfl H1 rfl) val_c ⟨by decide, by decide⟩)) (val_var rfl) hn) ?_
        have m := mod_lt (i := (sd * 39373 + 12820163) % 2147483647 / 16) hn
        exact k _ _ m.1 m.2 (src_put stt ((SrcM.o hk).mpr ⟨c, ns, i, b, _, rfl, hc, hi, hb0, m1.1, m1.2⟩))
    have hcH : H c = some (.lst (ns.map V.int)) := st0.ex _ _ hc
    refine st_seq ?_
    have g0 := Grow.refl st0
    have t1 : Ans (tTest (tOp (rI0 fun i j => .bl (decide (i < j))) (tAt K 2) tPw)) [some (.ref p), some (.int n), none, none] H (decide (b < (1000000000000000000 : Int))) := ans_I0 (g := fun i j => decide (i < j)) (val_at rfl ho rfl) val_pw
    have t2 : Ans (tTest (tOp (rI0 fun i j => .bl (decide (i < j))) (tAt K 1) (tCB (fun xs H Q => ∃ p ys, xs = [.ref p] ∧ (SqL K H p ys ∨ SqT K H p ys) ∧ Q (.int ys.length) H) (tCons (tAt K 0) tNil)))) [some (.ref p), some (.int n), none, none] H (decide (i < ((ns.map V.int).length : Int))) :=
      ans_I0 (g := fun i j => decide (i < j)) (val_at rfl ho rfl) (fun Q q => val_at (k := 0) rfl ho rfl _ ⟨c, _, rfl, .inl (SqL.of hcH), q⟩)
    have t := ans_and2 t1 t2
    by_cases hh : (decide (b < (1000000000000000000 : Int)) && decide (i < ((ns.map V.int).length : Int))) = true
    · rw [hh] at t
      simp only [Bool.and_eq_true, decide_eq_true_eq, List.length_map] at hh
      have hj : i.toNat < ns.length := by omega
      have hcell : atI (ns.map V.int) i = some (.int (ns[i.toNat]'hj)) := at_of (j := i.toNat) (by omega) (by simp [hj])
      generalize ns[i.toNat]'hj = cell at hcell
      have npc : c ≠ p := fun z => by rw [z, st0.hid] at hc; cases hc
      have vc : Val (tInt (tOp (rIxL K) (tAt K 0) (tAt K 1))) [some (.ref p), some (.int n), none, none] H (.int cell) := val_int (val_op (val_at rfl ho rfl) (val_at rfl ho rfl) fun Q q => ⟨c, _, i, _, rfl, rfl, SqL.of hcH, hcell, q⟩)
      refine st_yes t ?_
      refine st_seq ?_
      refine st_set vc ?_
      refine st_seq ?_
      refine st_put (k := 1) (n := 1) rfl (val_add (val_at rfl ho rfl) val_c) ho rfl ?_
      refine st_seq ?_
      refine st_put (k := 2) (n := 2) rfl val_c upd_same rfl ?_
      refine st_seq ?_
      have fin : ∀ (b' : Int), 0 ≤ b' → (tAsg (tOp rM (tInt (tOp rA (tOp rA (tOp rX (tAt K 3) (tC (.int 48271))) (tOp rM (tVar 2) (tC (.int 2147483629)))) (tC (.int 11)))) (tC (.int 2147483647))) (gSub (tVar 0) (tC (.int 3)) rSetL))
          { nx := fun σ' H' => (tSeq (tIfS (tTest (tOp (rI0 fun i j => .bl (decide (j ≤ i))) (tAt K 2) tPw))
          (tSeq (tAsg (tOp rM (tInt (tAt K 2)) (tVar 1)) (gName 3))
          (tSeq (tAsg (tOp (rI CDivW fun i j => .int (i / j)) (tAt K 2) (tVar 1)) (gSub (tVar 0) (tC (.int 2)) rSetL))
            (tRet (tVar 3)))) tNext)
          (tSeq (tAsg (tOp rM (tInt (tOp rA (tOp rX (tAt K 3) (tC (.int 39373))) (tC (.int 12820163)))) (tC (.int 2147483647))) (gSub (tVar 0) (tC (.int 3)) rSetL))
            (tRet (tOp rM (tInt (tOp (rI CDiv fun i j => .int (i / j)) (tAt K 3) (tC (.int 16)))) (tVar 1))))) { nx := fun _ H' => Q .non H', rt := Q } σ' H', rt := Q } [some (.ref p), some (.int n), some (.int cell), none] (upd H p (.lst [.ref c, .int (i + 1), .int b', .int sd])) := by
        intro b' hb'
        have hx : CMul sd 48271 := .inr ⟨by decide, by decide⟩
        refine st_put (k := 3) (n := 3) rfl (val_rem (val_int (val_add (val_add (val_mul (val_at rfl upd_same rfl) val_c hx) (val_rem (val_var rfl) val_c (by decide))) val_c)) val_c (by decide)) upd_same rfl ?_
        have m1 := mod_lt (i := sd * 48271 + cell % 2147483629 + 11) (m := 2147483647) (by decide)
        rw [upd_upd]
        have g1 := src_put (M := M) (o := .lst [.ref c, .int (i + 1), .int b', .int ((sd * 48271 + cell % 2147483629 + 11) % 2147483647)]) st0 ((SrcM.o hk).mpr ⟨c, ns, i + 1, b', _, rfl, hc, by omega, hb', m1.1, m1.2⟩)
        exact rest _ _ (i + 1) b' _ (Grow.refl g1.st) (fun r H' h1 h2 g => k r H' h1 h2 (g1.trans g)) upd_same (by omega) hb' m1.1 m1.2
      have e0 : upd (upd H p (.lst [.ref c, .int (i + 1), .int b, .int sd])) p (.lst [.ref c, .int (i + 1), .int 0, .int sd]) = upd H p (.lst [.ref c, .int (i + 1), .int 0, .int sd]) := upd_upd
      show (tIfS (tTest (tOp (rI0 fun i j => .bl (decide (j ≤ i))) (tVar 2) tPw)) (tAsg (tVar 2) (gSub (tVar 0) (tC (.int 2)) rSetL)) tNext) _ [some (.ref p), some (.int n), some (.int cell), none] (upd (upd H p (.lst [.ref c, .int (i + 1), .int b, .int sd])) p (.lst [.ref c, .int (i + 1), .int 0, .int sd]))
      rw [e0]
      have a3 : Ans (tTest (tOp (rI0 fun i j => .bl (decide (j ≤ i))) (tVar 2) tPw)) [some (.ref p), some (.int n), some (.int cell), none] (upd H p (.lst [.ref c, .int (i + 1), .int 0, .int sd])) (decide ((1000000000000000000 : Int) ≤ cell)) := ans_I0 (g := fun i j => decide (j ≤ i)) (val_var rfl) val_pw
      by_cases h3 : (1000000000000000000 : Int) ≤ cell
      · rw [decide_eq_true h3] at a3
        refine st_yes a3 (st_put (k := 2) (n := 2) rfl (val_var rfl) upd_same rfl ?_)
        rw [upd_upd]
        exact fin cell (by omega)
      · rw [decide_eq_false h3] at a3
        exact st_no a3 (fin 0 (Int.le_refl 0))
    · rw [Bool.not_eq_true] at hh
      rw [hh] at t
      exact st_no t (rest none H i b sd g0 k ho hi hb0 hs0 hs1)

/-! ### the law -/
def spLaw (K : PySem.W.Frag) (M : MM) : Sp := fun vs H Q _ => ∃ (a : Addr) (ns : List Int), vs = [.ref a] ∧ SqL K H a (ns.map V.int) ∧ ns.length ≤ 63 ∧ LamX.Tabs (tabsOf M) H ∧ ∀ H', Q (.bl true) H'
theorem okLaw {x qual : Str} {st : Stmt} {f : Addr} {fd : FuncData} {N : List Str} {k : Nat} {M : MM} {ds : DS} (hk : M.pk = false) (F : Fun K x qual st f fd) (Sc : FnScope N ["script"] (defScope st)) (hN : 2 ≤ N.length)
    (hb : ∀ (cdv : Value) (A : Around) (outer : List PySem.Env) (s : Shared) (H : Hp) (E : XK), Room k (A.deeper (PyProof.Rows.envOfC qual (defScope st) s.heap.objs.size f cdv)) →
      ∃ ts, PSs (cxOf (L2.CX P w) P w K mg base N qual (defScope st) f cdv A outer s H E) (defBody st) (tSeq (tAsg (tCall (spBegin K) [] E0 (tCons (tVar 0) tNil)) (gName 1)) ts) ∧ SS K (WcOf M) E ts ds)
    (hd : ds { nx := fun _ => False, rt := fun d => d = .bl true } noX (.un :: .sh .tok :: List.replicate (N.length - 2) .un)) : FnOk P w K mg base (L2.CX P w) (k + 1) f fd ["script"] (spLaw K M) := by
  refine F.okX Sc (fun vs H Q E h => ?_) (fun cdv A outer s H vs Q E hr h => ?_)
  · obtain ⟨a, ns, rfl, _⟩ := h
    rfl
  · obtain ⟨a, ns, rfl, hs, _, hT, k⟩ := h
    obtain ⟨ts, pe, se⟩ := hb cdv A outer s H E hr
    refine ⟨_, pe, ?_⟩
    obtain ⟨m, hm⟩ : ∃ m, N.length = m + 2 := ⟨N.length - 2, by omega⟩
    have e1 : L2.start N [.ref a] = some (.ref a) :: none :: List.replicate m none := by
      unfold L2.start
      rw [hm]
      show [some (V.ref a)] ++ List.replicate (m + 2 - 1) none = _
      rw [show m + 2 - 1 = m + 1 by omega, List.replicate_succ]
      rfl
    rw [e1]
    refine ⟨.ref a, rfl, a, ns, rfl, hs, fun p c ms H' npc hc hp hx => ?_⟩
    show ts _ (some (V.ref a) :: some (V.ref p) :: List.replicate m none) H'
    have st : Stt (WcOf M) p (upd (fun _ => none) c (.lst (ms.map V.int))) H' := by
      refine ⟨⟨hT.ext hx, fun b ps e => by
        by_cases hb : b = c
        · rw [hb, upd_same] at e; cases e
        · rw [upd_ne hb] at e; cases e⟩, fun b o e => ?_, by rw [upd_ne npc], _, hp, (SrcM.o hk).mpr ⟨c, ms, 0, 0, 7, rfl, upd_same, by decide, by decide, by decide, by decide⟩⟩
      by_cases hb : b = c
      · subst hb
        rw [upd_same] at e
        cases e
        exact hc
      · rw [upd_ne hb] at e
        cases e
    rw [hm] at hd
    have hd' : ds { nx := fun _ => False, rt := fun d => d = .bl true } noX (.un :: .sh .tok :: List.replicate m .un) := hd
    refine se p (upd (fun _ => none) c (.lst (ms.map V.int))) H' _ H' _ _ noX ⟨Grow.refl st, ⟨fun i s e => ?_, fun i j as bs n e1 e2 => ?_⟩, fun i as b e1 e2 => ?_⟩ XOkS.no _ _ hd' ⟨fun _ _ _ _ _ _ q => q.elim, fun S2 H2 v d _ _ r q => ?_, fun _ _ _ _ _ _ q => q.elim, fun _ _ _ _ _ _ q => q.elim⟩
    · match i, e with
      | 0, e =>
        have e' : Sl.un = s := Option.some.inj e
        subst e'
        exact ⟨_, rfl, trivial⟩
      | 1, e =>
        have e' : Sl.sh .tok = s := Option.some.inj e
        subst e'
        exact ⟨_, rfl, .ref p, rfl, rfl⟩
      | i + 2, e =>
        have e' : (List.replicate m Sl.un)[i]? = some s := e
        rw [List.getElem?_replicate] at e'
        split at e'
        · rename_i hi
          cases e'
          refine ⟨none, ?_, trivial⟩
          show (List.replicate m (none : Option V))[i]? = some none
          rw [List.getElem?_replicate, if_pos hi]
        · cases e'
    · exfalso
      match i, e1 with
      | 0, e => cases e
      | 1, e => cases e
      | i + 2, e =>
        have e' : (List.replicate m Sl.un)[i]? = some (.ow as) := e
        rw [List.getElem?_replicate] at e'
        split at e' <;> cases e'
    · exfalso
      match i, e1 with
      | 0, e => cases e
      | 1, e => cases e
      | i + 2, e =>
        have e' : (List.replicate m Sl.un)[i]? = some (.ow as) := e
        rw [List.getElem?_replicate] at e'
        split at e' <;> cases e'
    · have q' : d = .bl true := q
      subst q'
      rw [show v = V.bl true from r]
      exact k H2
end
end DL

set_option Elab.async false
set_option linter.all false
set_option maxRecDepth 100000
set_option maxHeartbeats 1000000
/-! mathematics of readings by data -/
namespace DL
open PySem L2
theorem dcomp_map {one : D → (Option D → Prop) → Prop} {g : D → D} : ∀ {ds : List D} {k : List D → Prop}, (∀ d ∈ ds, ∀ k, k (some (g d)) → one d k) → k (ds.map g) → dcomp one ds k
  | [], k, _, h => h
  | d :: ds, k, h1, h => h1 d (by simp) _ (dcomp_map (fun e he => h1 e (by simp [he])) h)
theorem dcomp_filter {one : D → (Option D → Prop) → Prop} {f : D → Bool} {g : D → D} : ∀ {ds : List D} {k : List D → Prop}, (∀ d ∈ ds, ∀ k, k (if f d then some (g d) else none) → one d k) → k ((ds.filter f).map g) → dcomp one ds k
  | [], k, _, h => h
  | d :: ds, k, h1, h => h1 d (by simp) _ (dcomp_filter (fun e he => h1 e (by simp [he])) (by
      cases hf : f d with
      | true => simpa [hf] using h
      | false => simpa [hf] using h))
theorem dcomp_any {one : D → (Option D → Prop) → Prop} {P : D → Prop} : ∀ {ds : List D} {k : List D → Prop}, (∀ d ∈ ds, ∀ k : Option D → Prop, (∀ e, P e → k (some e)) → one d k) → (∀ es, es.length = ds.length → (∀ e ∈ es, P e) → k es) → dcomp one ds k
  | [], k, _, h => h [] rfl (by simp)
  | d :: ds, k, h1, h => h1 d (by simp) _ fun e pe => dcomp_any (fun e he => h1 e (by simp [he])) fun es hl hp => h (e :: es) (by simp [hl]) (by
      intro x hx
      rcases List.mem_cons.mp hx with rfl | hx
      · exact pe
      · exact hp x hx)
theorem isBls_map {α : Type} (f : α → Bool) : ∀ xs : List α, isBls (xs.map fun x => D.bl (f x)) = some (xs.map f)
  | [] => rfl
  | x :: xs => by simp [isBls, isBls_map f xs]
theorem fDraw_of {n : Int} {xp : XP} {post : D → Prop} (h1 : 0 < n) (h2 : n.natAbs.log2 < 9000) (h : ∀ r, 0 ≤ r → r < n → post (.int r)) : fDraw [.tok, .int n] xp post := ⟨n, rfl, h1, h2, h⟩
theorem one_yes {i : Nat} {de : DE} {env : SEnv} {d : D} {k : Option D → Prop} (h : de (env.set i (.sh d)) noX fun e => k (some e)) : dOne (dgName i) dYes de env d k := by
  show (if true = true then de (env.set i (.sh d)) noX (fun e => k (some e)) else k none)
  exact iteT h
theorem one_if {i : Nat} {dt : DT} {de : DE} {env : SEnv} {d : D} {b : Bool} {k : Option D → Prop} (ht : ∀ q : Bool → Prop, q b → dt (env.set i (.sh d)) noX q) (h : b = true → de (env.set i (.sh d)) noX fun e => k (some e)) (h0 : b = false → k none) : dOne (dgName i) dt de env d k := by
  refine ht _ ?_
  cases b with
  | true => exact iteT (h rfl)
  | false => exact iteF (h0 rfl)
end DL

set_option Elab.async false
set_option linter.all false
set_option maxRecDepth 100000
set_option maxHeartbeats 1000000
/-! an own exception whose __init__ says super().__init__("..") and keeps one field: low down -/
namespace DX
open PySem PySem.W PySem.Calls PyProof.Rows L2 PySem.HandSPX

section
variable {prog : Program} {w : World} {A : Around} {E : Value → Shared → Prop} {R : Result → Shared → Prop} {h : Heap} {g : Array GenState} {d : Drawn} {t : Nat} {os : OsState}
variable {nm q : Str} {C N : Addr} {bs bm bmB : List Value} {hdct : Bool} {sn : List Str} {sub : List Value} {ab : Bool} {col : Option Bool} {dd : Option Addr} {k0 k1 k2 k3 k5 : Option Value} {B newId i : String}
/-- the built-in's __init__, bound, called -/
theorem callMw {u e t0 : Addr} {us : List Value} {Q : Value → Shared → Prop} (FB : ExcBaseFacts B newId i bmB)
    (hC : h.get? C = some (excClassObj nm q C N bs bm hdct sn sub ab col dd k0 k1 k2 k3 k5 newId)) (he : h.get? e = some (excO C t0)) (hu : h.get? u = some (kxs_mw i e)) (hz : us.length ≤ sizeLine)
    (hq : ∀ h' t1, (∀ b o, b ≠ e → h.get? b = some o → h'.get? b = some o) → h'.get? e = some (excO C t1) → Q .none ⟨h', g, d, t, os⟩) :
    wpAny (model prog w) A (call (.ref u) us) Q E ⟨h, g, d, t, os⟩ := by
  refine wpAny_call (codeAny_of_tree ?_)
  show wpAny _ A.in1 (callAny (.ref u) { pos := us, kw := [] }) _ _ _
  unfold callAny
  refine wpAny_bind (wpAny_load hu ?_)
  refine W.KFB.if_so (by show (Value.type "method-wrapper" == Value.type "method" || Value.type "method-wrapper" == Value.type "builtin_function_or_method" || Value.type "method-wrapper" == Value.type "method-wrapper") = true; decide) ?_
  refine W.KFB.if_so (by show (Value.type "method-wrapper" == Value.type "method-wrapper") = true; decide) (wpAny_bind (check_bound_init FB.toExcCallFacts hC he rfl ?_))
  refine wpAny_bind (wpAny_pure (wpAny_pure ⟨plainId_quiet FB.init.plain _, codeAny_builtin FB.initEntry ?_⟩))
  rw [Around.under_plainId FB.init.plain _]
  wp_walk
  refine hq _ h.objs.size (fun b o hb ho => (Heap.get?_update_other _ _ (Ne.symm hb)).trans (Heap.get?_push_of_some _ ho)) ?_
  exact Heap.get?_update_self _ (Heap.get?_push_of_some _ he) rfl
end
/-- the __init__ of such a class -/
abbrev inB (fl vn msg : Str) (n : Nat) (p0 p1 p2 p3 p4 p5 q1 q2 q3 q4 : Pos) : List Stmt :=
  [.Expr (.Call (.Attribute (.Call (.Name "super" p0) [] [] p1) "__init__" p2) [.Constant (.str msg) n p3] [] p4) p5, .Assign [.Attribute (.Name "self" q1) fl q2] (.Name vn q3) q4]
/-- what the written part says of it: the built-in base B, its __new__ and __init__ -/
structure InitV (prog : Program) (K : Frag) (C fI : Addr) (fl vn : Str) (B newId initId : String) (bmB : List Value) (fd : FuncData) : Prop where
  FB : ExcBaseFacts B newId initId bmB
  KF : KxsFacts B initId
  lk : ∃ oc od osl, K.lookup fI = some ⟨oc, od, .func fd, osl⟩
  sh : ∃ (name qual msg : Str) (n : Nat) (p0 p1 p2 p3 p4 p5 q1 q2 q3 q4 r1 r2 : Pos) (dV kV doc pm ct : Value) (an : Option Addr) (cc cda : Addr),
    fd = fnX name qual { posonlyargs := [], args := [{ arg := "self", annotation := none, pos := r1 }, { arg := vn, annotation := none, pos := r2 }], vararg := none, kwonlyargs := [], kw_defaults := [], kwarg := none, defaults := [] }
      (inB fl vn msg n p0 p1 p2 p3 p4 p5 q1 q2 q3 q4)
      { kind := .function, names := [("self", .local), (vn, .local), ("__class__", .free), ("super", .globalImplicit)], isGenerator := false, isCoroutine := false, more := [] } [("__class__", cc)] dV kV doc pm an (.ref cda) ct ∧
    (p2.endLine == p4.line) = true ∧ codeIn K (.ref cda) qual = true ∧ (∃ ccl cdd vs ccs file tf, K.lookup cda = some ⟨ccl, cdd, .fields vs, ccs⟩ ∧ vs[2]? = some (.str file tf) ∧ ((prog.main.file : Str) == file) = true) ∧
    (∃ cl cld csl, K.lookup cc = some ⟨cl, cld, .cell (some (.ref C)), csl⟩)
  vn_ : (vn == ("__debug__" : Str)) = false ∧ vn ≠ "self" ∧ vn ≠ "super" ∧ vn ≠ "__class__"
  sup : ks_superIn K C C "__init__" = some (some (.builtin initId))
  sb : subIn K (.ref C) (.type B) = some true
  any : nsIn K cStatics "thirdparty.any" = some none
  self : mroIn K C (.ref C) = some true
  top : (prog.main.scope.names.lookup ("super" : Str)).isSome = false
  cls : ∃ nm q N bs bm hd sn sub ab col dd k0 k1 k2 k3 k5, K.lookup C = some (excClassObj nm q C N bs bm hd sn sub ab col dd k0 k1 k2 k3 k5 newId) ∧ ∀ X : String, bm.contains (.type X) = bmB.contains (.type X)
section
variable {prog : Program} {w : World} {A : Around} {E : Value → Shared → Prop} {R : Result → Shared → Prop} {h : Heap} {g : Array GenState} {d : Drawn} {t : Nat} {os : OsState}
variable {K : Frag} {mg mb : Str → Option Value} {C fI a t0 : Addr} {fl vn : Str} {B newId initId : String} {bmB : List Value} {fd : FuncData} {u : Value}
theorem exInit (V : InitV prog K C fI fl vn B newId initId bmB fd) (hroom : A.depth < recursionLimit) (X : K.In h) (lim : h.NoLimit) (hg : h.Ns mainGlobals mg) (hm : mg "super" = none) (hb : h.Ns builtinsNs mb) (hmb : mb "super" = some (.type "super"))
    (he : h.get? a = some (excO C t0)) (hK : K.lookup a = none) (bind : BindsTo ⟨h, g, d, t, os⟩ fd ⟨[.ref a, u], []⟩ [("self", .ref a), (vn, u)])
    (hset : ∀ (A' : Around) (Q : Unit → Shared → Prop) (E' : Value → Shared → Prop) (h1 : Heap) (t' : Nat) (t1 : Addr), K.In h1 → h1.get? a = some (excO C t1) → (∀ b o, b ≠ a → h.get? b = some o → h1.get? b = some o) → 
      (∀ h2 dx t2, (∀ b o, b ≠ a → h1.get? b = some o → h2.get? b = some o) → h1.objs.size ≤ dx → h2.get? a = some { cls := .ref C, dict := some dx, data := .fields #[.ref t1, .none, .none, .none, .bool false, .none] } →
        h2.Ns1 dx (fun y => if y = fl then some u else none) → Q () ⟨h2, g, d, t2, os⟩) → wpAny (model prog w) A' (setAttr (.ref a) fl u) Q E' ⟨h1, g, d, t', os⟩)
    (hq : ∀ h2 dx t2 t1, (∀ b o, b ≠ a → h.get? b = some o → h2.get? b = some o) → h.objs.size ≤ dx → h2.get? a = some { cls := .ref C, dict := some dx, data := .fields #[.ref t1, .none, .none, .none, .bool false, .none] } →
      h2.Ns1 dx (fun y => if y = fl then some u else none) → R (.ok (.ret .none)) ⟨h2, g, d, t2, os⟩) :
    codeAny (model prog w) A (.call (.ref fI) ⟨[.ref a, u], []⟩) R ⟨h, g, d, t, os⟩ := by
  obtain ⟨FB, KF, ⟨oc, od, osl, lk⟩, ⟨name, qual, msg, n, p0, p1, p2, p3, p4, p5, q1, q2, q3, q4, r1, r2, dV, kV, doc, pm, ct, an, cc, cda, rfl, hpos, hcd, ⟨ccl, cdd, vs, ccs, file, tf, hcode, hvs, hfile⟩, ⟨cl, cld, csl, hcell⟩⟩, ⟨v1, v2, v3, v4⟩, sup, sb, any, self, top, nm, q, N, bs, bm, hd, sn, sub, ab, col, dd, k0, k1, k2, k3, k5, hC, hT⟩ := V
  have l0 : ∀ (k : NameKind), List.lookup vn (("self", k) :: (vn, NameKind.local) :: [("__class__", NameKind.free), ("super", NameKind.globalImplicit)]) = some .local := fun k => by
    have e : (vn == ("self" : Str)) = false := beq_eq_false_iff_ne.mpr v2
    simp [List.lookup, e]
  have lc : List.lookup ("__class__" : Str) [("self", NameKind.local), (vn, .local), ("__class__", .free), ("super", .globalImplicit)] = some .free := by
    have e : (("__class__" : Str) == vn) = false := beq_eq_false_iff_ne.mpr (Ne.symm v4)
    have e2 : (("__class__" : Str) == "self") = false := by decide
    simp [List.lookup, e, e2]
  have lsu : List.lookup ("super" : Str) [("self", NameKind.local), (vn, .local), ("__class__", .free), ("super", .globalImplicit)] = some .globalImplicit := by
    have e : (("super" : Str) == vn) = false := beq_eq_false_iff_ne.mpr (Ne.symm v3)
    have e2 : (("super" : Str) == "self") = false := by decide
    have e3 : (("super" : Str) == "__class__") = false := by decide
    simp [List.lookup, e, e2, e3]
  refine ks_codeAny_call_defAt hroom (X _ _ lk) rfl lim (codeRec_of X hcd) rfl bind (fun x hx => ?c) (fun x hx => ?l) (fun h1 hns k1' => ?_)
  case c =>
    simp only [List.mem_cons, List.not_mem_nil, or_false] at hx
    rcases hx with rfl | rfl | rfl | rfl <;> intro z <;> cases z
  case l =>
    simp only [List.mem_cons, List.not_mem_nil, or_false] at hx
    rcases hx with rfl | rfl
    · rfl
    · exact l0 _
  have X1 : K.In h1 := X.keeps k1'
  have e1 : h1.get? a = some (excO C t0) := k1' _ _ he
  have hcl : clsIn K C = some { name := nm, bases := bs, mro := .ref C :: bm, ns := N, qualname := q, hasDict := hd, slotNames := sn, subclasses := sub, abstract := ab, collection := col, hasDel := false } := by
    unfold clsIn
    rw [hC]
  have I1 : ∀ {h2 : Heap} {t2 : Addr}, h2.get? a = some (excO C t2) → InstAt h2 a (excO C t2) C none := fun z => ⟨z, rfl, rfl, True.intro⟩
  have hself : (List.lookup ("self" : Str) [("self", NameKind.local), (vn, .local), ("__class__", .free), ("super", .globalImplicit)]) = some .local := rfl
  have ms : (List.lookup ("self" : Str) [(vn, u), (("self" : Str), Value.ref a)]) = some (.ref a) := by
    have e : (("self" : Str) == vn) = false := beq_eq_false_iff_ne.mpr (Ne.symm v2)
    simp [List.lookup, e]
  have mv : (List.lookup vn [(vn, u), (("self" : Str), Value.ref a)]) = some u := by simp [List.lookup]
  have base : ∀ {h2 : Heap}, (∀ b o, h1.get? b = some o → h2.get? b = some o) → h2.get? a = some (excO C t0) := fun k => k _ _ e1
  generalize hE : callEnv (fnX name qual { posonlyargs := [], args := [{ arg := "self", annotation := none, pos := r1 }, { arg := vn, annotation := none, pos := r2 }], vararg := none, kwonlyargs := [], kw_defaults := [], kwarg := none, defaults := [] }
      (inB fl vn msg n p0 p1 p2 p3 p4 p5 q1 q2 q3 q4)
      { kind := .function, names := [("self", .local), (vn, .local), ("__class__", .free), ("super", .globalImplicit)], isGenerator := false, isCoroutine := false, more := [] } [("__class__", cc)] dV kV doc pm an (.ref cda) ct) h.objs.size fI = en
  have hcall : eval (.Call (.Attribute (.Call (.Name "super" p0) [] [] p1) "__init__" p2) [.Constant (.str msg) n p3] [] p4) en = (do
      let ov ← attributeBase (.Call (.Name "super" p0) [] [] p1) "__init__" en (eval (.Call (.Name "super" p0) [] [] p1) en)
      standAt p2.atName
      let (f, first) ← holding [ov] (getMethod ov "__init__" (do return (← importBound (.Call (.Name "super" p0) [] [] p1) en).getD true))
      callWith p4 f first (backTo p4 (starEach [.Constant (.str msg) n p3] en)) []) := by
    have hp : methodCallPos true (.Call (.Name "super" p0) [] [] p1) en p2 p4 = pure p4 := by
      unfold methodCallPos
      rw [hpos]
      rfl
    show (do
      let ov ← attributeBase (.Call (.Name "super" p0) [] [] p1) "__init__" en (eval (.Call (.Name "super" p0) [] [] p1) en)
      standAt p2.atName
      let (f, first) ← holding [ov] (getMethod ov "__init__" (do return (← importBound (.Call (.Name "super" p0) [] [] p1) en).getD true))
      let cp ← methodCallPos true (.Call (.Name "super" p0) [] [] p1) en p2 p4
      callWith cp f first (backTo p4 (starEach [.Constant (.str msg) n p3] en)) []) = _
    rw [hp]
    rfl
  have hin : interactive en = false := by subst hE; rfl
  refine ks_wpAt_execs_cons (ks_wpAt_Expr_any (ks_wpAt_MethodCall ?_ hcall) hin)
  subst hE
  refine ks_wpAt_super_base lsu lc (by decide) rfl (X1 _ _ lk) rfl rfl rfl (X1 _ _ hcode) rfl hvs hfile top ?_
  refine ks_loadName_global rfl lsu (loadGlobal_builtin (hg.keeps k1') hm (hb.keeps k1') hmb ⟨rfl, ?_⟩)
  refine wpAny_loadName_free rfl lc rfl ⟨_, X1 _ _ hcell, rfl⟩ ?_
  refine wpAny_loadName_local rfl hself hns ms ?_
  refine ks_wpAny_isType_cls (X1 _ _ hC) rfl ⟨rfl, ?_⟩
  refine ks_wpAny_call_super (X1 _ _ hC) rfl e1 rfl (fun c e => ?_) (looks_mroIn X1 self) (fun h2 hso k2 => ?_)
  · cases e
  have X2 : K.In h2 := X1.keeps k2
  have e2 : h2.get? a = some (excO C t0) := k2 _ _ e1
  refine kxs_getMethod KF hso (looks_opaque X2 any) (l₀ := .ref C :: bm) (fun A Q E s k q => wpAny_bind ((looks_clsIn X2 hcl) A _ E s k (wpAny_pure q))) rfl X2 ?s1 ((I1 e2).type.andThen (looks_subIn X2 sb)) (ks_ne X2 (I1 e2) hcl) (by decide) ?_
  case s1 =>
    have z := sup
    unfold ks_superIn at z
    rw [hcl] at z
    exact z
  have e3 : (h2.push (kxs_mw initId a)).get? a = some (excO C t0) := Heap.get?_push_of_some _ e2
  have eu : (h2.push (kxs_mw initId a)).get? h2.objs.size = some (kxs_mw initId a) := Heap.get?_push_at rfl rfl
  have X3 : K.In (h2.push (kxs_mw initId a)) := X2.keeps fun b o z => Heap.get?_push_of_some _ z
  refine kxs_callWith (i := initId) (x := a) rfl (evalArgs_plain ?_)
  refine wpAny_items_cons (pos := p4) (rest := []) (wpAny_Constant_str (wpAny_items_nil ⟨eu, ?_⟩))
  refine callMw FB (X3 _ _ hC) e3 eu (by show 1 ≤ sizeLine; rw [sizeLine_eq]; decide) (fun h4 t4 k4 e4 => ?_)
  have a0 : ∀ b o, b ≠ a → h1.get? b = some o → h4.get? b = some o := fun b o hb z => k4 b o hb (Heap.get?_push_of_some _ (k2 b o z))
  have al : h.objs.size ≠ a := Nat.ne_of_gt (Heap.lt_size he)
  have X4 : K.In h4 := fun b o z => a0 b o (fun y => by
    rw [y, hK] at z
    cases z) (X1 b o z)
  have hns4 := hns.at' (h' := h4) fun o z => a0 _ o al z
  refine ks_wpAt_execs_cons (ks_wpAt_Assign_Attr (wpAt_of_wpAny (wpAny_Name (wpAny_loadName_local rfl (l0 _) hns4 mv (wpAny_Name (wpAny_loadName_local rfl hself hns4 ms ?_))) v1)))
  refine hset _ _ _ _ _ _ X4 e4 (fun b o hb z => a0 b o hb (k1' b o z)) fun h5 dx t5 k5' hdx e5 n5 => ?_
  have kf : ∀ b o, b ≠ a → h.get? b = some o → h5.get? b = some o := fun b o hb z => k5' b o hb (a0 b o hb (k1' b o z))
  have sz : h.objs.size ≤ dx := by
    obtain ⟨oL, _, _, hL, _⟩ := hns4
    exact Nat.le_trans (Nat.le_of_lt (Heap.lt_size hL)) hdx
  exact wpAt_of_wpAny (wpAny_pure (hq h5 dx t5 t4 kf sz e5 n5))
end
end DX

set_option Elab.async false
set_option linter.all false
set_option maxRecDepth 100000
set_option maxHeartbeats 1000000
/-! raise C(e) over ValueError, C keeping its one field -/
namespace DX
open PySem PySem.W PySem.Calls PyProof.Rows L2 PySem.HandSPX

/-- what the written part says of C, whose __init__ keeps vn as fl -/
structure ValCls (prog : Program) (K : Frag) (C fI : Addr) (fl vn : Str) (fd : FuncData) : Prop where
  oex : OexC K C
  no : findIn K (.ref C) fl = some none
  iC : findIn K (.ref C) "__init__" = some (some (.ref fI))
  tI : typeIn K (.ref fI) = some (.type "function")
  V : InitV prog K C fI fl vn "ValueError" "ValueError.__new__" "ValueError.__init__" veTail fd
  bd : Binds K fd ["self", vn] []

abbrev exoObj (C t1 dx : Addr) : Obj := { cls := .ref C, dict := some dx, data := .fields #[.ref t1, .none, .none, .none, .bool false, .none] }
section
variable {P : Program} {w : World} {fs : List Addr} {H : Hp} {a C dx t1 : Addr} {f : Str} {y : V} {u : Value} {hp h2 : Heap}
theorem un_exc (hok : HOk P w H hp) (e : H a = some (exo a C none)) (k : ∀ b o, b ≠ a → hp.get? b = some o → h2.get? b = some o) (hx : h2.get? a = some (exoObj C t1 dx)) (dn : hp.objs.size ≤ dx) :
    Un fs [] H (upd (upd H dx (exd dx [(f, y)])) a (exo a C (some dx))) hp h2 := by
  have hnd : H dx = none := hok.fresh dn
  have nd : ∀ {b : Addr} {o : Obj}, hp.get? b = some o → b ≠ dx := fun {b o} q => Nat.ne_of_lt (Nat.lt_of_lt_of_le (Heap.lt_size q) dn)
  have na : ∀ {b : Addr}, H b = none → b ≠ a := fun {b} n z => by rw [z, e] at n; cases n
  refine ⟨fun b o q n _ _ => k b o (na n) q, fun b o q n _ _ => ⟨o.slots, k b o (na n) q⟩, fun b o q n _ => ?_, fun b o q _ => ?_, fun b xs q => ?_, fun b o v q => ?_, fun b ps q => ⟨#[], ?_⟩⟩
  · rw [upd_ne (na n), upd_ne (nd q)]; exact n
  · by_cases hb : b = a
    · subst hb; exact ⟨_, hx⟩
    · exact ⟨o, k b o hb q⟩
  · rw [upd_ne (at_ne e q exo_tup), upd_ne (ne_of_none q hnd)]; exact q
  · rw [upd_ne (at_ne e q exo_frz), upd_ne (ne_of_none q hnd)]; exact q
  · rw [upd_ne (at_ne e q exo_tbl), upd_ne (ne_of_none q hnd), q]; simp
theorem hok_exc (hok : HOk P w H hp) (e : H a = some (exo a C none)) (k : ∀ b o, b ≠ a → hp.get? b = some o → h2.get? b = some o) (hx : h2.get? a = some (exoObj C t1 dx)) (dn : hp.objs.size ≤ dx)
    (hn : h2.Ns1 dx (fun z => if z = f then some u else none)) (ry : RelV y u) : HOk P w (upd (upd H dx (exd dx [(f, y)])) a (exo a C (some dx))) h2 := fun b o q => by
  have hnd : H dx = none := hok.fresh dn
  by_cases hb : b = a
  · subst hb; rw [upd_same] at q; cases q
    exact exo_ok hx
  · rw [upd_ne hb] at q
    by_cases hd : b = dx
    · subst hd; rw [upd_same] at q; cases q
      exact exd_ok hn (relO_put (fs := []) (mA := fun _ => none) ry fun _ => True.intro)
    · rw [upd_ne hd] at q
      refine (hok b o q).stay (fun c v hc z => k c v ?_ z) (fun c hc => ?_) fun c xs hc => ?_
      · rcases hc with hc | hc
        · exact hc ▸ hb
        · exact at_ne e hc exo_own
      · rw [upd_ne (at_ne e hc exo_own), upd_ne (ne_of_none hc hnd)]; exact hc
      · rw [upd_ne (at_ne e hc exo_tup), upd_ne (ne_of_none hc hnd)]; exact hc
end

/-- C(e): the one value kept -/
def tMkV (C : Addr) (fl : Str) (ta : TA) : L2.St → Hp → XK → Prop := fun σ H Q => ta σ H fun vs H1 => ∃ v, vs = [v] ∧ ∀ d, H1 d = none → Q (.ref C) (some d) (upd H1 d (.xd [(fl, v)]))
section
variable {X : Cx} {x : Str} {C fI : Addr} {fl vn : Str} {fd : FuncData} {e : Expr} {es : List Expr} {ta : TA} {p pos : Pos}
theorem pmk_val (T : ValCls X.prog X.K C fI fl vn fd) (hsup : X.mg "super" = none) (hr : Room 2 X.A) (hg : Gl X x) (hm : X.mg x = some (.ref C)) (ha : PA X (e :: es) ta)
    (hdb : (x == ("__debug__" : Str)) = false := by decide) (he : starEach (e :: es) X.env = (false, eval e X.env) :: starEach es X.env := by rfl) (hpl : (backTo pos (starEach es X.env)).any (·.1) = false := by rfl) :
    PMk X (.Call (.Name x p) (e :: es) [] pos) (tMkV C fl ta) := by
  intro pins s σ H Q I h
  obtain ⟨O, hno, iC, tI, V, bd⟩ := T
  obtain ⟨nm, q, N, bs, bm, sn, sub, ab, col, dd, k0, k1, k2, k3, k5, hC, hbm⟩ := O.cls
  refine wpAny_Call_Name_kw (ld_glob I hg hm ?_ hdb)
  refine PySem.W.callWith_K (h₀ := X.base) I.ok.mod.kin O.kC (thn (ha.run pos pins s σ H _ I h) fun us s1 ⟨vs, H1, I1, r1, v, hv, q1⟩ => ⟨I1.kIn, ?_⟩) he hpl
  subst hv
  cases r1 with
  | @cons _ u _ _ ru rn =>
  cases rn
  obtain ⟨hp, g, dr, tk, os⟩ := s1
  show wpAny _ _ (call (.ref C) [u]) _ _ _
  have hsz : hp.objs.size ≤ hp.objs.size + 1 := Nat.le_succ _
  have hn : H1 (hp.objs.size + 1) = none := I1.hok.fresh hsz
  have kk : ∀ b o, hp.get? b = some o → ((hp.push (PySem.W.kdv_tup [u])).push (excO C hp.objs.size)).get? b = some o := fun b o z => Heap.get?_push_of_some _ (Heap.get?_push_of_some _ z)
  have hget : ((hp.push (PySem.W.kdv_tup [u])).push (excO C hp.objs.size)).get? (hp.objs.size + 1) = some (excO C hp.objs.size) := by heap_get
  have I2 : Inv X pins σ (upd H1 (hp.objs.size + 1) (exo (hp.objs.size + 1) C none)) ⟨(hp.push (PySem.W.kdv_tup [u])).push (excO C hp.objs.size), g, dr, tk, os⟩ :=
    I1.laid (t' := tk) (a := hp.objs.size + 1) (o := exo (hp.objs.size + 1) C none) kk hsz (exo_ok hget)
  have hK : X.K.lookup (hp.objs.size + 1) = none := by
    cases z : X.K.lookup (hp.objs.size + 1) with
    | none => rfl
    | some o => exact absurd (show hp.objs.size + 1 < hp.objs.size from Heap.lt_size (I1.kIn _ _ z)) (Nat.not_lt.mpr hsz)
  obtain ⟨mb, hb1, hb2⟩ := I2.mod.blt
  refine wpAny_call (PySem.HandSPX.call_own F.excBase_ValueError (fun Y => PySem.HandSPX.refsVE_contains Y bm hbm) (I1.kIn _ _ hC) (PySem.W.looks_findIn I1.kIn iC) (fun self => PySem.W.bind_fn I1.kIn self tI) (by show 1 ≤ sizeLine; rw [sizeLine_eq]; decide) ?_)
  refine exInit V (hr.make C [u] []).depth I2.kIn I2.nolimit (I2.mod.glob.keeps I2.bk) hsup (hb1.keeps I2.bk) ((hb2 _ (by decide)).trans PyProof.Rows.Boot.«super») hget hK (bd _ [.ref (hp.objs.size + 1), u] I2.kIn rfl) ?_ ?_
  · intro A' Q' E' h1 t' t1 X1 e1 k1 hq
    have hcl : clsIn X.K C = some { name := nm, bases := bs, mro := .ref C :: bm, ns := N, qualname := q, hasDict := true, slotNames := sn, subclasses := sub, abstract := ab, collection := col, hasDel := false } := by
      unfold clsIn
      rw [hC]
    refine PySem.W.set_plain X1 (ox := { cls := .ref C, dict := none, data := .fields #[.ref t1, .none, .none, .none, .bool false, .none] }) (od := none) ⟨e1, rfl, rfl, trivial⟩ O.sa ?_
    exact PySem.HandSPX.exc_osa X1 e1 hcl (show PySem.HandSPX.refsVE (.ref C :: bm) = true from hbm) rfl hno fun h' tk' dx k dn dne hx hn' => hq h' dx tk' k dn hx hn'
  · intro h2 dx t2 t1 k dn hx hns
    have eH : upd H1 (hp.objs.size + 1) (exo (hp.objs.size + 1) C none) (hp.objs.size + 1) = some (exo (hp.objs.size + 1) C none) := upd_same
    have hd1 : H1 dx = none := I1.hok.fresh (Nat.le_trans (show hp.objs.size ≤ ((hp.push (PySem.W.kdv_tup [u])).push (excO C hp.objs.size)).objs.size by rw [Heap.size_push, Heap.size_push]; omega) dn)
    have dne : dx ≠ hp.objs.size + 1 := fun z => by
      rw [z, Heap.size_push, Heap.size_push] at dn
      omega
    refine ⟨rfl, mk_end (raises_own O.exC O.tyC) I1 hsz kk (un_exc (y := v) (f := fl) I2.hok eH k hx dn) (hok_exc I2.hok eH k hx dn hns ru) rfl I1.bare upd_same ((upd_ne dne).trans upd_same) hd1 ?_⟩
    have := q1 dx hd1
    rw [show upd (del (upd (upd (upd H1 (hp.objs.size + 1) (exo (hp.objs.size + 1) C none)) dx (exd dx [(fl, v)])) (hp.objs.size + 1) (exo (hp.objs.size + 1) C (some dx))) (hp.objs.size + 1)) dx (.xd [(fl, v)]) = upd H1 dx (.xd [(fl, v)]) from ?_]
    · exact this
    · funext b
      by_cases h1 : b = dx
      · subst h1; rw [upd_same, upd_same]
      · rw [upd_ne h1, upd_ne h1]
        by_cases h3 : b = hp.objs.size + 1
        · subst h3; rw [del_same, hn]
        · rw [del_ne h3, upd_ne h3, upd_ne h1, upd_ne h3]
end
end DX

set_option Elab.async false
set_option linter.all false
set_option maxRecDepth 100000
set_option maxHeartbeats 1000000
/-! raise, try, the caught exception's field, by data -/
namespace DL
open PySem L2 DX

theorem RF.lookup {K : PySem.W.Frag} {W : Wc} {p : Addr} {S : Hp} {f : Str} {d : D} : ∀ {dfs : List (Str × D)} {gs : List (Str × V)}, RF K W p S gs dfs → dfs.lookup f = some d → ∃ y, gs.lookup f = some y ∧ R K W p S y d
  | [], gs, h, e => by cases e
  | (n, d0) :: dfs, gs, h, e => by
    unfold RF at h
    obtain ⟨y, ys, rfl, h1, h2⟩ := h
    by_cases hf : f = n
    · subst hf
      rw [show List.lookup f ((f, d0) :: dfs) = some d0 by simp [List.lookup]] at e
      cases e
      exact ⟨y, by simp [List.lookup], h1⟩
    · have hb : (f == n) = false := by simpa using hf
      rw [show List.lookup f ((n, d0) :: dfs) = List.lookup f dfs by simp [List.lookup, hb]] at e
      obtain ⟨z, e1, r⟩ := RF.lookup h2 e
      exact ⟨z, by simp [List.lookup, hb, e1], r⟩
theorem Grow.hide {W : Wc} {p : Addr} {S H : Hp} {q : Addr} {o : HO} (s : Stt W p S H) (h : H q = none) : Grow W p S H S (upd H q o) := by
  have hp : p ≠ q := by
    obtain ⟨o', e, _⟩ := s.src
    exact ne_of_none e h
  refine ⟨Ex.refl S, ⟨tabs_new s.tabs h, fun a u e => ?_, s.hid, ?_⟩, fun b u _ e => .inl (by rw [upd_ne (ne_of_none e h)]; exact e), fun b _ n => n⟩
  · rw [upd_ne (ne_of_none (s.ex a u e) h)]
    exact s.ex a u e
  · obtain ⟨o', e, r⟩ := s.src
    exact ⟨o', by rw [upd_ne hp]; exact e, r⟩

section
variable {X : Cx} {W : Wc} {E : XK} {pos pos2 p : Pos} {e : Expr} {es : List Expr} {ta : TA} {da : DA} {x : Str} {C fI : Addr} {fl vn : Str} {fd : FuncData} {c : Nat}
/-! ### raise C(e) -/
def tRaiseV (C : Addr) (fl : Str) (E : XK) (ta : TA) : TS := fun _ σ H => tMkV C fl ta σ H E
def dRaise (c : Nat) (fl : Str) (da : DA) : DS := fun _ xp env => da env xp fun ds => ∃ d, ds = [d] ∧ xp c [(fl, d)]
theorem ss_raise {K : PySem.W.Frag} (hM : W.M c = some C) (h : SA K W E ta da) : SS K W E (tRaiseV C fl E ta) (dRaise c fl da) := fun p S0 H0 S H σ env xp sv xo D DD q k =>
  h p S H σ env xp sv.st sv.ev (sv.xo xo) _ _ q fun vs ds S1 H1 q1 g1 r1 => by
    obtain ⟨d, rfl, hx⟩ := q1
    unfold RA at r1
    obtain ⟨y, ys, rfl, ry, rn⟩ := r1
    unfold RA at rn
    subst rn
    refine ⟨y, rfl, fun dd hd => ?_⟩
    have hp : dd ≠ p := by
      obtain ⟨o, eo, _⟩ := g1.st.src
      intro z
      rw [z, eo] at hd
      cases hd
    exact xo c [(fl, d)] C dd [(fl, y)] S1 _ hx hM hp g1.ex ((sv.g.trans g1).trans (Grow.hide g1.st hd)) upd_same (by unfold RF; exact ⟨y, [], rfl, ry, by unfold RF; rfl⟩)
theorem pds_raise (hc : X.calm = true) (tk : Takes X (fun cls d _ H => E cls d H)) (T : ValCls X.prog X.K C fI fl vn fd) (hsup : X.mg "super" = none) (hr : Room 2 X.A) (hM : W.M c = some C) (hg : Gl X x) (hm : X.mg x = some (.ref C)) (ha : PDA X W E (e :: es) ta da)
    (hdb : (x == ("__debug__" : Str)) = false := by decide) (he : starEach (e :: es) X.env = (false, eval e X.env) :: starEach es X.env := by rfl) (hpl : (backTo pos (starEach es X.env)).any (·.1) = false := by rfl) :
    PDS X W E (.Raise (some (.Call (.Name x p) (e :: es) [] pos)) none pos2) (tRaiseV C fl E ta) (dRaise c fl da) :=
  ⟨ps_raise (W := fun cls d _ H => E cls d H) hc tk (pmk_val T hsup hr hg hm ha.pe hdb he hpl), ss_raise hM ha.se⟩
/-- a statement that is never come to -/
def dNo : DS := fun _ _ _ => False
theorem pds_no {st : Stmt} : PDS X W E st (fun _ _ _ => False) dNo := ⟨⟨fun _ _ _ _ _ _ h => h.elim⟩, fun _ _ _ _ _ _ _ _ _ _ _ _ q _ => q.elim⟩
end

/-! ### try: .. except x as n: .. -/
/-- what a body wants of an exception, whatever the slots hold -/
def EW (n : Nat) (Wx : WX) : XK := fun cls d H => ∀ σ : L2.St, σ.length = n → Wx cls d σ H
theorem takes_ew {X : Cx} {Wx : WX} (tk : Takes X Wx) {n : Nat} (hn : n = X.N.length) : Takes X (fun cls d _ H => EW n Wx cls d H) := fun u s' ⟨a, B, sI, pins, σ, H, cls, d, e, I, nb, up, sky, na, os, ag, w⟩ =>
  tk u s' ⟨a, B, sI, pins, σ, H, cls, d, e, I, nb, up, sky, na, os, ag, w σ (I.len.trans hn.symm)⟩
def unS (n : Nat) : SEnv := List.replicate n .un
/-- bt: which classes the clause takes -/
def dTry (W : Wc) (n i : Nat) (bt : Nat → Bool) (db : DS) (ds : Addr → Value → Option Addr → DS) : DS := fun DD xp env => db DD (fun c dfs =>
  (bt c = true ∧ ∀ a dx C, W.M c = some C → ds a (.ref C) (some dx) { nx := fun env' => DD.nx (env'.set i .un), rt := DD.rt, bk := fun env' => DD.bk (env'.set i .un), ct := fun env' => DD.ct (env'.set i .un) } noX ((unS n).set i (.ex a dx c dfs))) ∨ (bt c = false ∧ xp c dfs)) env
section
variable {K : PySem.W.Frag} {W : Wc} {p : Addr} {S0 H0 S H : Hp} {σ : L2.St} {env : SEnv}
theorem unS_get {n i : Nat} {s : Sl} (h : (unS n)[i]? = some s) : s = .un := List.eq_of_mem_replicate (List.mem_of_getElem? h)
theorem Ev.ex {σ' : L2.St} {n i : Nat} {a dx : Addr} {c : Nat} {gs : List (Str × V)} {dfs : List (Str × D)} (hl : σ'.length = n) (h1 : H dx = some (.xd gs)) (h2 : dx ≠ p) (h3 : RF K W p S gs dfs) :
    Ev K W p S H (σ'.set i (some (.ref a))) ((unS n).set i (.ex a dx c dfs)) := by
  have lu : (unS n).length = n := List.length_replicate
  have other : ∀ {j : Nat} {s : Sl}, ((unS n).set i (.ex a dx c dfs))[j]? = some s → (i = j ∧ s = .ex a dx c dfs) ∨ (i ≠ j ∧ s = .un) := fun {j s} e => by
    by_cases hj : i = j
    · subst hj
      have hlt : i < (unS n).length := by
        by_cases hlt : i < (unS n).length
        · exact hlt
        · rw [List.getElem?_eq_none (by simpa using hlt)] at e; cases e
      rw [List.getElem?_set_self hlt] at e
      cases e
      exact .inl ⟨rfl, rfl⟩
    · rw [List.getElem?_set_ne hj] at e
      exact .inr ⟨hj, unS_get e⟩
  refine ⟨fun j s e => ?_, fun j k ds es n e1 e2 => ?_⟩
  · have hjl : j < ((unS n).set i (.ex a dx c dfs)).length := (List.getElem?_eq_some_iff.mp e).1
    rw [List.length_set, lu, ← hl] at hjl
    rcases other e with ⟨rfl, rfl⟩ | ⟨hj, rfl⟩
    · exact ⟨_, List.getElem?_set_self hjl, rfl, gs, h1, h2, h3⟩
    · exact ⟨σ'[j], by rw [List.getElem?_set_ne hj]; exact List.getElem?_eq_getElem hjl, True.intro⟩
  · rcases other e1 with ⟨_, z⟩ | ⟨_, z⟩ <;> cases z
theorem Ev.unset (ev : Ev K W p S H σ env) (i : Nat) : Ev K W p S H (σ.set i none) (env.set i .un) := by
  have other : ∀ {j : Nat} {s : Sl}, (env.set i .un)[j]? = some s → (i = j ∧ s = .un) ∨ (i ≠ j ∧ env[j]? = some s) := fun {j s} e => by
    by_cases hj : i = j
    · subst hj
      have hlt : i < env.length := by
        by_cases hlt : i < env.length
        · exact hlt
        · rw [List.getElem?_eq_none (by simpa using hlt)] at e; cases e
      rw [List.getElem?_set_self hlt] at e
      cases e
      exact .inl ⟨rfl, rfl⟩
    · rw [List.getElem?_set_ne hj] at e
      exact .inr ⟨hj, e⟩
  refine ⟨fun j s e => ?_, fun j k ds es n e1 e2 => ?_⟩
  · rcases other e with ⟨rfl, rfl⟩ | ⟨hj, e'⟩
    · have hlt : i < env.length := by
        have := (List.getElem?_eq_some_iff.mp e).1
        rwa [List.length_set] at this
      obtain ⟨o, h1, _⟩ := ev.at_ i env[i] (by simp [hlt])
      exact ⟨none, List.getElem?_set_self (List.getElem?_eq_some_iff.mp h1).1, True.intro⟩
    · obtain ⟨o, h1, h2⟩ := ev.at_ j s e'
      exact ⟨o, by rw [List.getElem?_set_ne hj]; exact h1, h2⟩
  · rcases other e1 with ⟨_, z⟩ | ⟨hj, e1'⟩
    · cases z
    rcases other e2 with ⟨_, z⟩ | ⟨hk, e2'⟩
    · cases z
    rw [List.getElem?_set_ne hj, List.getElem?_set_ne hk]
    exact ev.dis j k ds es n e1' e2'
theorem Sv.unset (h : Sv K W p S0 H0 S H σ env) (i : Nat) : Sv K W p S0 H0 S H (σ.set i none) (env.set i .un) := by
  refine ⟨h.g, h.ev.unset i, fun j ds a e1 e2 => ?_⟩
  by_cases hj : i = j
  · subst hj
    have hlt : i < env.length := by
      have := (List.getElem?_eq_some_iff.mp e1).1
      rwa [List.length_set] at this
    rw [List.getElem?_set_self hlt] at e1
    cases e1
  · rw [List.getElem?_set_ne hj] at e1 e2
    exact h.own j ds a e1 e2
end
section
variable {X : Cx} {W : Wc} {E : XK} {xN n : Str} {cH : Value} {i : Nat} {body suite : List Stmt} {b0 : Stmt} {np pos pos' : Pos} {tb : WX → TS} {db : DS} {ts : Addr → Value → Option Addr → TS} {dsu : Addr → Value → Option Addr → DS} {bt : Nat → Bool}
theorem ss_try {K : PySem.W.Frag} {N : Nat} {E0 : XK} (hbt : ∀ c C, W.M c = some C → PySem.W.exmOne K (.ref C) cH = some (bt c)) (hb : ∀ Wx : WX, SS K W (EW N Wx) (tb Wx) db) (hsu : ∀ a cls d, SS K W E0 (ts a cls d) (dsu a cls d)) :
    SS K W E (fun D σ H => tb (wAs K cH i ts (fun cls d _ H => E cls d H) D) D σ H) (dTry W N i bt db dsu) := fun p S0 H0 S H σ env xp sv xo D DD q k => by
  refine hb _ p S0 H0 S H σ env _ sv (fun c dfs C x gs S' H' hx hM hne ex g' e r => ?_) D DD q k
  intro σ' hσ
  rcases hx with ⟨h1, h2⟩ | ⟨h1, h2⟩
  · refine ⟨true, by rw [hbt c C hM, h1], fun _ a ha => ?_, fun z => Bool.noConfusion z⟩
    have ev := Ev.ex (K := K) (W := W) (p := p) (S := S') (H := H') (i := i) (a := a) (c := c) hσ e hne r
    refine hsu a (.ref C) (some x) p S0 H0 S' H' _ _ noX ⟨g', ev, fun j ds b e1 e2 => ?_⟩ XOkS.no _ _ (h2 a x C hM) ⟨?_, ?_, ?_, ?_⟩
    · exfalso
      by_cases hj : i = j
      · subst hj
        have hlt : i < (unS N).length := by
          have := (List.getElem?_eq_some_iff.mp e1).1
          rwa [List.length_set] at this
        rw [List.getElem?_set_self hlt] at e1
        cases e1
      · rw [List.getElem?_set_ne hj] at e1
        cases unS_get e1
    · exact fun S2 H2 σ2 env2 x2 sv2 q2 => k.nx S2 H2 _ _ (ex.trans x2) (sv2.unset i) q2
    · exact fun S2 H2 v d x2 g2 r2 q2 => k.rt S2 H2 v d (ex.trans x2) g2 r2 q2
    · exact fun S2 H2 σ2 env2 x2 sv2 q2 => k.bk S2 H2 _ _ (ex.trans x2) (sv2.unset i) q2
    · exact fun S2 H2 σ2 env2 x2 sv2 q2 => k.ct S2 H2 _ _ (ex.trans x2) (sv2.unset i) q2
  · exact ⟨false, by rw [hbt c C hM, h1], fun z => Bool.noConfusion z, fun _ => xo c dfs C x gs S' H' h2 hM hne ex g' e r⟩
theorem pds_try {E0 : XK} (hs : X.stack = X.env :: X.outer) (hf : X.env.frame = some X.env.locals) (hN : X.N.Nodup) (hi : X.N[i]? = some n) (hln : X.env.kindOf n = some .local) (hc : Names X xN cH) (tk : Takes X (fun cls d _ H => E cls d H))
    (hbt : ∀ c C, W.M c = some C → PySem.W.exmOne X.K (.ref C) cH = some (bt c))
    (hb : ∀ (Wx : WX) (pn : List (Addr × Obj)) (xe : Value → Shared → Prop), Takes (X.tr pn xe) (fun cls d _ H => EW X.N.length Wx cls d H) → PDSs (X.tr pn xe) W (EW X.N.length Wx) body (tb Wx) db)
    (hsu : ∀ (a : Addr) (oe : Obj) (cls : Value) (d : Option Addr) (pn : List (Addr × Obj)), Zc cls d oe → (∃ vs, oe.data = .fields vs) → PDSs (X.suite a ((a, oe) :: pn)) W E0 (b0 :: suite) (ts a cls d) (dsu a cls d)) :
    PDS X W E (.Try body [.ExceptHandler (some (.Name xN np)) (some n) (b0 :: suite) pos'] [] [] pos) (fun D σ H => tb (wAs X.K cH i ts (fun cls d _ H => E cls d H) D) D σ H) (dTry W X.N.length i bt db dsu) :=
  ⟨ps_try_as hs hf hN hi hln hc tk (fun Wx pn xe tkx pw => (hb Wx pn xe (takes_ew tkx rfl)).pe) (fun a oe cls d pn hz hv => (hsu a oe cls d pn hz hv).pe), ss_try hbt (fun Wx => (hb Wx [] (fun _ _ => True) (fun _ _ _ => True.intro)).se) (fun a cls d => (hsu a { cls := cls, dict := d, data := .fields #[] } cls d [] ⟨rfl, rfl⟩ ⟨_, rfl⟩).se)⟩
/-- e.f, e the caught exception -/
def dExV (W : Wc) (a : Addr) (cls : Value) (d : Option Addr) (c i : Nat) (fl : Str) : DE := fun env _ post => ∃ dx dfs v, env[i]? = some (.ex a dx c dfs) ∧ d = some dx ∧ (∃ C, W.M c = some C ∧ cls = .ref C) ∧ dfs.lookup fl = some v ∧ post v
theorem se_exv {K : PySem.W.Frag} {a C : Addr} {cls : Value} {d : Option Addr} {c : Nat} {fl : Str} (hM : W.M c = some C) : SE K W E (tXf a cls d C fl (tVar i)) (dExV W a cls d c i fl) := fun p S H σ env xp st ev _ Q post q k => by
  obtain ⟨dx, dfs, v, e, rfl, ⟨C', h1, rfl⟩, l, hq⟩ := q
  obtain rfl : C' = C := Option.some.inj (h1.symm.trans hM)
  obtain ⟨o, e1, rfl, gs, e2, _, r⟩ := ev.at_ i _ e
  obtain ⟨y, l2, ry⟩ := RF.lookup r l
  exact ⟨.ref a, e1, rfl, rfl, dx, gs, y, rfl, e2, l2, k y v S H hq (Grow.refl st) ry⟩
theorem pd_exv {a C : Addr} {oe : Obj} {cls : Value} {d : Option Addr} {pn : List (Addr × Obj)} {c : Nat} {fl : Str} (T : XfC X.K C) (hno : PySem.W.findIn X.K (.ref C) fl = some none) (hM : W.M c = some C) (hz : Zc cls d oe) (hf : ∃ vs, oe.data = .fields vs)
    (hi : X.N[i]? = some n) (hv : Vis X.env.scope n) (hb : attributeBase (.Name n np) fl X.env (eval (.Name n np) X.env) = eval (.Name n np) X.env := by rfl) (hd : (n == ("__debug__" : Str)) = false := by decide) (hcd : (n == ("__classdict__" : Str)) = false := by decide) :
    PD (X.suite a ((a, oe) :: pn)) W E (.Attribute (.Name n np) fl pos) (tXf a cls d C fl (tVar i)) (dExV W a cls d c i fl) :=
  ⟨pe_xf T hno hz hf (pe_var (X := X.suite a ((a, oe) :: pn)) hi hv hd hcd) hb, se_exv hM⟩
end
end DL

set_option Elab.async false
set_option linter.all false
set_option maxRecDepth 100000
set_option maxHeartbeats 1000000
/-! objects of own classes by data -/
namespace DL
open PySem L2

/-- as Grow, but for what stands at a -/
structure But (W : Wc) (p a : Addr) (S H S' H' : Hp) : Prop where
  ex : Ex S S'
  st : Stt W p S' H'
  kp : ∀ b o, b ≠ p → b ≠ a → H b = some o → H' b = some o ∨ ∃ ps qs, o = .tbl ps ∧ H' b = some (.tbl qs)
  fr : ∀ b, H b ≠ none → S b = none → S' b = none
theorem But.refl {W : Wc} {p a : Addr} {S H : Hp} (s : Stt W p S H) : But W p a S H S H := ⟨Ex.refl S, s, fun _ _ _ _ h => .inl h, fun _ _ h => h⟩
theorem But.trans {W : Wc} {p a : Addr} {S H S1 H1 S2 H2 : Hp} (x : But W p a S H S1 H1) (y : But W p a S1 H1 S2 H2) (ha : ∃ o, H1 a = some o) : But W p a S H S2 H2 := by
  refine ⟨x.ex.trans y.ex, y.st, fun b o n1 n2 e => (by
    rcases x.kp b o n1 n2 e with z | ⟨ps, qs, e', z⟩
    · exact y.kp b o n1 n2 z
    · subst e'
      rcases y.kp b _ n1 n2 z with y' | ⟨_, us, _, y'⟩
      · exact .inr ⟨ps, qs, rfl, y'⟩
      · exact .inr ⟨ps, us, rfl, y'⟩), fun b e n => y.fr b ?_ (x.fr b e n)⟩
  by_cases hp : b = p
  · subst hp
    obtain ⟨o, eo, _⟩ := x.st.src
    rw [eo]; simp
  · by_cases hb : b = a
    · subst hb
      obtain ⟨o, eo⟩ := ha
      rw [eo]; simp
    · cases z : H b with
      | none => exact absurd z e
      | some o => rcases x.kp b o hp hb z with y | ⟨_, _, _, y⟩ <;> rw [y] <;> simp
theorem Grow.but {W : Wc} {p a : Addr} {S H S1 H1 : Hp} (g : Grow W p S H S1 H1) : But W p a S H S1 H1 := ⟨g.ex, g.st, fun b o n _ e => g.kp b o n e, g.fr⟩

/-- the promise of an __init__ by data: as of a def that returns the object -/
def spI (K : PySem.W.Frag) (W : Wc) (c : Nat) (f : DF) : Sp := fun vs H Q E => ∃ (p : Addr) (S H0 : Hp) (a dx C : Addr) (ws : List V) (ds : List D) (post : D → Prop) (xp : XP), vs = .ref a :: ws ∧ W.M c = some C ∧ Stt W p S H0 ∧ H0 a = none ∧ H0 dx = none ∧ dx ≠ a ∧
  H = upd (upd H0 dx (.own a)) a (.ins C dx []) ∧ RA K W p S ws ds ∧ f ds xp post ∧ (∀ fs gs S' H', post (.obj c fs) → Grow W p S H0 S' H' → S' a = none → a ≠ p → H' a = some (.ins C dx gs) → RF K W p S' gs fs → Q .non H') ∧ XOk K W p S H0 xp E

/-! ### C(e, ..) -/
section
variable {X : Cx} {W : Wc} {E : XK} {e o : Expr} {es : List Expr} {tr : TA} {dr : DA} {pos p apos : Pos} {c : Nat} {te : TE} {de : DE}
theorem R.made {K : PySem.W.Frag} {p : Addr} {S H S' H' : Hp} {a dx C : Addr} {gs : List (Str × V)} {fs : List (Str × D)} (hM : W.M c = some C) (g : Grow W p S H S' H') (hH : H a = none) (hS : S' a = none) (hp : a ≠ p) (hi : H' a = some (.ins C dx gs)) (r : RF K W p S' gs fs) :
    Grow W p S H (upd S' a (.ins C dx gs)) H' ∧ R K W p (upd S' a (.ins C dx gs)) (.ref a) (.obj c fs) := by
  have ex := Ex.new (o := .ins C dx gs) hS
  refine ⟨⟨g.ex.trans ex, ⟨tb_tell g.st.tabs nofun, fun b u z => ?_, ?_, ?_⟩, g.kp, fun b n z => ?_⟩, ?_⟩
  · by_cases hb : b = a
    · subst hb; rw [upd_same] at z; cases z; exact hi
    · rw [upd_ne hb] at z; exact g.st.ex b u z
  · rw [upd_ne (Ne.symm hp)]; exact g.st.hid
  · obtain ⟨o', e', s⟩ := g.st.src
    exact ⟨o', e', W.mono _ _ _ ex s⟩
  · have : b ≠ a := fun y => n (y ▸ hH)
    rw [upd_ne this]; exact g.fr b n z
  · unfold R
    exact ⟨a, C, dx, gs, rfl, upd_same, hM, RF.mono ex _ _ r⟩
theorem se_make {K : PySem.W.Frag} {C : Addr} {f : DF} {dvs : List V} {dds : List D} (hM : W.M c = some C) (hd : ∀ p S, RA K W p S dvs dds) (h : SA K W E tr dr) : SE K W E (tMake C (spI K W c f) dvs E tr) (dCall f dds dr) :=
  fun p S H σ env xp st ev xo Q post q k => h p S H σ env xp st ev xo _ _ q fun vs ds S1 H1 q1 g1 r1 x dx hx hdx hne =>
    ⟨p, S1, H1, x, dx, C, vs ++ dvs, ds ++ dds, post, xp, rfl, hM, g1.st, hx, hdx, hne, rfl, r1.append (hd p S1), q1, fun fs gs S2 H2 q2 g2 hS hp hi r2 => by
      obtain ⟨g3, r3⟩ := R.made hM g2 hx hS hp hi r2
      exact ⟨rfl, k _ _ _ H2 q2 (g1.trans g3) r3⟩, xo.mono g1⟩
theorem pd_make {CX : CXT} {k : Nat} {C f : Addr} {fd : FuncData} {ps : List Str} {df : DF} {dvs : List V} {dds : List D} {ds : List Value} {x : Str} (hM : W.M c = some C) (M : Mk X.K C f) (F : FnOk X.prog X.w X.K X.mg X.base CX k f fd ps (spI X.K W c df)) (hr : Room (k + 1) X.A) (hg : Gl X x)
    (hm : X.mg x = some (.ref C)) (hb : Binds X.K fd ps ds) (hd : Vals dvs ds) (hdd : ∀ p S, RA X.K W p S dvs dds) (hx : Passes CX X E) (ha : PDA X W E (e :: es) tr dr) (hdb : (x == ("__debug__" : Str)) = false := by decide)
    (he : starEach (e :: es) X.env = (false, eval e X.env) :: starEach es X.env := by rfl) (hpl : (backTo pos (starEach es X.env)).any (·.1) = false := by rfl) : PD X W E (.Call (.Name x p) (e :: es) [] pos) (tMake C (spI X.K W c df) dvs E tr) (dCall df dds dr) :=
  ⟨pe_make M F hr hg hm hb hd hx ha.pe hdb he hpl, se_make hM hdd ha.se⟩

/-! ### o.m(e, ..), o.p, o.f -/
theorem RF.miss {K : PySem.W.Frag} {p : Addr} {S : Hp} {f : Str} : ∀ {dfs : List (Str × D)} {gs : List (Str × V)}, RF K W p S gs dfs → dfs.lookup f = Option.none → gs.lookup f = Option.none
  | [], gs, h, e => by unfold RF at h; subst h; rfl
  | (n, d0) :: dfs, gs, h, e => by
    unfold RF at h
    obtain ⟨y, ys, rfl, h1, h2⟩ := h
    by_cases hf : f = n
    · subst hf
      rw [show List.lookup f ((f, d0) :: dfs) = some d0 by simp [List.lookup]] at e
      cases e
    · have hb : (f == n) = false := by simpa using hf
      rw [show List.lookup f ((n, d0) :: dfs) = List.lookup f dfs by simp [List.lookup, hb]] at e
      simp [List.lookup, hb, RF.miss h2 e]
def dMeth (c : Nat) (m : Str) (f : DF) (dds : List D) (de : DE) (dr : DA) : DE := fun env xp post => de env xp fun d => ∃ fs, d = .obj c fs ∧ fs.lookup m = none ∧ dr env xp fun ds => f (d :: (ds ++ dds)) xp post
theorem se_meth {K : PySem.W.Frag} {C : Addr} {m : Str} {f : DF} {dvs : List V} {dds : List D} (hM : W.M c = some C) (hd : ∀ p S, RA K W p S dvs dds) (ho : SE K W E te de) (h : SA K W E tr dr) : SE K W E (tMeth C m (spD K W f) dvs E te tr) (dMeth c m f dds de dr) :=
  fun p S H σ env xp st ev xo Q post q k => ho p S H σ env xp st ev xo _ _ q fun v d S1 H1 q1 g1 r1 => by
    obtain ⟨fs, rfl, hl, q2⟩ := q1
    have r0 := r1
    unfold R at r1
    obtain ⟨a, C', dx, gs, rfl, ea, hC, rf⟩ := r1
    obtain rfl : C' = C := Option.some.inj (hC.symm.trans hM)
    refine ⟨a, dx, gs, rfl, g1.st.ex _ _ ea, RF.miss rf hl, ?_⟩
    exact h p S1 H1 σ env xp g1.st (ev.mono g1) (xo.mono g1) _ _ q2 fun vs ds S2 H2 q3 g2 r2 =>
      ⟨p, S2, _, post, xp, g2.st, RA.cons (r0.mono g2.ex) (r2.append (hd p S2)), q3, fun v d S3 H3 q4 g3 r3 => k v d S3 H3 q4 ((g1.trans g2).trans g3) r3, xo.mono (g1.trans g2)⟩
theorem pd_meth {CX : CXT} {k : Nat} {C f : Addr} {m : Str} {fd : FuncData} {ps : List Str} {df : DF} {dvs : List V} {dds : List D} {ds : List Value} {pl : Sem Bool} (hM : W.M c = some C) (cl : Cls X.K C) (hm : Meth X.K C m f) (F : FnOk X.prog X.w X.K X.mg X.base CX k f fd ps (spD X.K W df)) (hr : Room k X.A)
    (hb : Binds X.K fd ps ds) (hd : Vals dvs ds) (hdd : ∀ p S, RA X.K W p S dvs dds) (hx : Passes CX X E) (ho : PD X W E o te de) (ha : PDA X W E (e :: es) tr dr)
    (ht : eval (.Call (.Attribute o m apos) (e :: es) [] pos) X.env = (do
      let ov ← eval o X.env
      standAt apos.atName
      let (f, first) ← holding [ov] (getMethod ov m pl)
      callWith pos f first (backTo pos (starEach (e :: es) X.env)) (backToKw pos (keywordEach [] X.env))) := by rfl)
    (he : starEach (e :: es) X.env = (false, eval e X.env) :: starEach es X.env := by rfl) (hpl : (backTo pos (starEach es X.env)).any (·.1) = false := by rfl) :
    PD X W E (.Call (.Attribute o m apos) (e :: es) [] pos) (tMeth C m (spD X.K W df) dvs E te tr) (dMeth c m df dds de dr) :=
  ⟨pe_meth ho.pe cl hm F hr hb hd hx ha.pe he hpl ht, se_meth hM hdd ho.se ha.se⟩
theorem pd_meth0 {CX : CXT} {k : Nat} {C f : Addr} {m : Str} {fd : FuncData} {ps : List Str} {df : DF} {dvs : List V} {dds : List D} {ds : List Value} {pl : Sem Bool} (hM : W.M c = some C) (cl : Cls X.K C) (hm : Meth X.K C m f) (F : FnOk X.prog X.w X.K X.mg X.base CX k f fd ps (spD X.K W df)) (hr : Room k X.A)
    (hb : Binds X.K fd ps ds) (hd : Vals dvs ds) (hdd : ∀ p S, RA X.K W p S dvs dds) (hx : Passes CX X E) (ho : PD X W E o te de)
    (ht : eval (.Call (.Attribute o m apos) [] [] pos) X.env = (do
      let ov ← eval o X.env
      standAt apos.atName
      let (f, first) ← holding [ov] (getMethod ov m pl)
      callWith pos f first (backTo pos (starEach [] X.env)) (backToKw pos (keywordEach [] X.env))) := by rfl) :
    PD X W E (.Call (.Attribute o m apos) [] [] pos) (tMeth C m (spD X.K W df) dvs E te tNil) (dMeth c m df dds de dNil) :=
  ⟨pe_meth0 ho.pe cl hm F hr hb hd hx ht, se_meth hM hdd ho.se sa_nil⟩
/-- a property, which raises nothing -/
def dProp (c : Nat) (f : DF) (de : DE) : DE := fun env xp post => de env xp fun d => (∃ fs, d = .obj c fs) ∧ f [d] noX post
theorem se_prop {K : PySem.W.Frag} {C : Addr} {f : DF} (hM : W.M c = some C) (ho : SE K W E te de) : SE K W E (tProp C (spD K W f) [] (fun _ _ _ => False) te) (dProp c f de) :=
  fun p S H σ env xp st ev xo Q post q k => ho p S H σ env xp st ev xo _ _ q fun v d S1 H1 q1 g1 r1 => by
    obtain ⟨⟨fs, rfl⟩, q2⟩ := q1
    have r0 := r1
    unfold R at r1
    obtain ⟨a, C', dx, gs, rfl, ea, hC, rf⟩ := r1
    obtain rfl : C' = C := Option.some.inj (hC.symm.trans hM)
    exact ⟨a, dx, gs, rfl, g1.st.ex _ _ ea, p, S1, _, post, noX, g1.st, RA.cons r0 RA.nil, q2, fun v d S3 H3 q4 g3 r3 => k v d S3 H3 q4 (g1.trans g3) r3, XOk.no⟩
theorem passes_no {X : Cx} : Passes (L2.CX X.prog X.w) X (fun _ _ _ => False) := fun _ _ _ _ _ _ _ h => by
  obtain ⟨_, _, _, _, _, _, _, _, _, _, _, _, z⟩ := h
  exact z.elim
theorem pd_prop {k : Nat} {C q g : Addr} {f : Str} {fd : FuncData} {ps : List Str} {df : DF} (hM : W.M c = some C) (cl : Cls X.K C) (hp : PropOf X.K C f q g) (F : FnOk X.prog X.w X.K X.mg X.base (L2.CX X.prog X.w) k g fd ps (spD X.K W df)) (hr : Room (k + 1) X.A) (hb : Binds X.K fd ps [])
    (ho : PD X W E o te de) (hab : attributeBase o f X.env (eval o X.env) = eval o X.env := by rfl) : PD X W E (.Attribute o f pos) (tProp C (spD X.K W df) [] (fun _ _ _ => False) te) (dProp c df de) :=
  ⟨pe_prop ho.pe cl hp F hr hb .nil (passes_no (X := X.nox)) hab, se_prop hM ho.se⟩
/-- a field -/
def dFld (c : Nat) (f : Str) (de : DE) : DE := fun env xp post => de env xp fun d => ∃ fs v, d = .obj c fs ∧ fs.lookup f = some v ∧ post v
theorem se_fld {K : PySem.W.Frag} {C : Addr} {f : Str} (hM : W.M c = some C) (cl : Cls K C) (n : NoAttr K C f) (ho : SE K W E te de) : SE K W E (tFld K te f) (dFld c f de) :=
  fun p S H σ env xp st ev xo Q post q k => ho p S H σ env xp st ev xo _ _ q fun v d S1 H1 q1 g1 r1 => by
    obtain ⟨fs, v1, rfl, hl, q2⟩ := q1
    unfold R at r1
    obtain ⟨a, C', dx, gs, rfl, ea, hC, rf⟩ := r1
    obtain rfl : C' = C := Option.some.inj (hC.symm.trans hM)
    obtain ⟨y, l2, ry⟩ := RF.lookup rf hl
    exact ⟨a, C', dx, gs, y, rfl, g1.st.ex _ _ ea, cl, n, l2, k y v1 S1 H1 q2 g1 ry⟩
theorem pd_fld {C : Addr} {f : Str} (hM : W.M c = some C) (cl : Cls X.K C) (n : NoAttr X.K C f) (ho : PD X W E o te de) (hb : attributeBase o f X.env (eval o X.env) = eval o X.env := by rfl) : PD X W E (.Attribute o f pos) (tFld X.K te f) (dFld c f de) :=
  ⟨pe_fld ho.pe hb, se_fld hM cl n ho.se⟩
end

/-! ### an __init__: guards, then self.f = e, .. -/
abbrev DI := List (Str × D) → (D → Prop) → SEnv → Prop
def SInit (K : PySem.W.Frag) (W : Wc) (c : Nat) (ts : TS) (di : DI) : Prop := ∀ (p a dx C : Addr) (S H : Hp) (σ : L2.St) (env : SEnv) (gs : List (Str × V)) (acc : List (Str × D)), W.M c = some C → Cls K C → env[0]? = some (.is a) → a ≠ p → S a = none → H a = some (.ins C dx gs) → RF K W p S gs acc →
  Stt W p S H → Ev K W p S H σ env → ∀ (post : D → Prop) (EE : Ends), di acc post env → (∀ fs gs' S' H' σ', post (.obj c fs) → But W p a S H S' H' → S' a = none → H' a = some (.ins C dx gs') → RF K W p S' gs' fs → EE.nx σ' H') → ts EE σ H
def diEnd (c : Nat) : DI := fun acc post _ => post (.obj c acc)
def diSet (f : Str) (de : DE) (r : DI) : DI := fun acc post env => de env noX fun d => acc.length < 900 ∧ acc.lookup f = none ∧ r (acc ++ [(f, d)]) post env
theorem si_end {K : PySem.W.Frag} {W : Wc} {c : Nat} : SInit K W c tNext (diEnd c) := fun p a dx C S H σ env gs acc _ _ _ _ hS hH rf st _ post EE q k => k acc gs S H σ q (But.refl st) hS hH rf
theorem RF.put {K : PySem.W.Frag} {W : Wc} {p : Addr} {S : Hp} {f : Str} {y : V} {d : D} (ry : R K W p S y d) : ∀ {acc : List (Str × D)} {gs : List (Str × V)}, RF K W p S gs acc → acc.lookup f = none → RF K W p S (putF f y gs) (acc ++ [(f, d)])
  | [], gs, h, _ => by
    unfold RF at h; subst h
    show RF K W p S [(f, y)] [(f, d)]
    unfold RF
    exact ⟨y, [], rfl, ry, by unfold RF; rfl⟩
  | (n, d0) :: acc, gs, h, e => by
    unfold RF at h
    obtain ⟨z, zs, rfl, h1, h2⟩ := h
    have hn : ¬ n = f := fun w => by subst w; simp [List.lookup] at e
    have hb : (f == n) = false := by simpa using Ne.symm hn
    have e2 : List.lookup f acc = none := by simpa [List.lookup, hb] using e
    have r := RF.put (f := f) (y := y) ry h2 e2
    show RF K W p S (if n = f then (n, y) :: zs else (n, z) :: putF f y zs) ((n, d0) :: (acc ++ [(f, d)]))
    rw [if_neg hn]
    unfold RF
    exact ⟨z, _, rfl, h1, r⟩
theorem RF.length {K : PySem.W.Frag} {W : Wc} {p : Addr} {S : Hp} : ∀ {dfs : List (Str × D)} {gs : List (Str × V)}, RF K W p S gs dfs → gs.length = dfs.length
  | [], gs, h => by unfold RF at h; subst h; rfl
  | (n, d0) :: dfs, gs, h => by
    unfold RF at h
    obtain ⟨y, ys, rfl, h1, h2⟩ := h
    simp [RF.length h2]
section
variable {K : PySem.W.Frag} {W : Wc} {p a dx C : Addr} {S H : Hp} {gs gs' : List (Str × V)}
theorem But.put (st : Stt W p S H) (hp : a ≠ p) (hS : S a = none) (hH : H a = some (.ins C dx gs)) : But W p a S H S (upd H a (.ins C dx gs')) := by
  refine ⟨Ex.refl S, ⟨tabs_put st.tabs hH nt_ins, fun b u e => ?_, st.hid, ?_⟩, fun b o _ n e => .inl (by rw [upd_ne n]; exact e), fun b _ n => n⟩
  · have : b ≠ a := fun z => by rw [z, hS] at e; cases e
    rw [upd_ne this]; exact st.ex b u e
  · obtain ⟨o, e, s⟩ := st.src
    exact ⟨o, by rw [upd_ne (Ne.symm hp)]; exact e, s⟩
theorem Ev.put {σ : L2.St} {env : SEnv} (ev : Ev K W p S H σ env) (hH : H a = some (.ins C dx gs)) : Ev K W p S (upd H a (.ins C dx gs')) σ env := by
  refine ⟨fun i s e => ?_, ev.dis⟩
  obtain ⟨o, h1, h2⟩ := ev.at_ i s e
  refine ⟨o, h1, ?_⟩
  cases s with
  | un => trivial
  | sh d => exact h2
  | is b => exact h2
  | ow ds =>
    obtain ⟨b, vs, z1, z2, z3, z4, z5⟩ := h2
    have : b ≠ a := fun z => by rw [z, hH] at z4; cases z4
    exact ⟨b, vs, z1, z2, z3, by rw [upd_ne this]; exact z4, z5⟩
  | ex b d c fs =>
    obtain ⟨z1, gs2, z2, z3, z4⟩ := h2
    have : d ≠ a := fun z => by rw [z, hH] at z2; cases z2
    exact ⟨z1, gs2, by rw [upd_ne this]; exact z2, z3, z4⟩
end
theorem si_set {K : PySem.W.Frag} {W : Wc} {c : Nat} {f : Str} {tv : TE} {de : DE} {us : TS} {r : DI} (hn : ∀ C, W.M c = some C → NoAttr K C f) (he : SE K W (fun _ _ _ => False) tv de) (hr : SInit K W c us r) : SInit K W c (tSeq (sFld K (tVar 0) tv f) us) (diSet f de r) :=
  fun p a dx C S H σ env gs acc hM cl h0 hp hS hH rf st ev post EE q k => he p S H σ env noX st ev XOk.no _ _ q fun y d S1 H1 ⟨hl, hk, q1⟩ g1 ry => by
    obtain ⟨o, e0, e1⟩ := ev.at_ 0 _ h0
    obtain rfl : o = some (V.ref a) := e1
    have hH1 := g1.keep a _ hp hH
    have hS1 := g1.fr a (by rw [hH]; simp) hS
    have rf1 := RF.mono g1.ex _ _ rf
    refine ⟨V.ref a, e0, a, C, dx, gs, rfl, hH1, cl, hn C hM, by rw [RF.length rf]; omega, ?_⟩
    have ev1 := (ev.mono g1).put (gs' := putF f y gs) hH1
    have b1 := But.put (gs' := putF f y gs) g1.st hp hS1 hH1
    have ha : ∃ o, (upd H1 a (.ins C dx (putF f y gs))) a = some o := ⟨_, upd_same⟩
    exact hr p a dx C S1 _ σ env _ _ hM cl h0 hp hS1 upd_same (RF.put ry rf1 hk) b1.st ev1 post EE q1 fun fs gs2 S2 H2 σ2 q2 b2 n2 e2 r2 =>
      k fs gs2 S2 H2 σ2 q2 ((g1.but.trans b1 ⟨_, hH1⟩).trans b2 ha) n2 e2 r2

abbrev DBI := Addr → (D → Prop) → XP → SEnv → Prop
def SIB (K : PySem.W.Frag) (W : Wc) (E : XK) (c : Nat) (ts : TS) (db : DBI) : Prop := ∀ (p a dx C : Addr) (S0 H0 S H : Hp) (σ : L2.St) (env : SEnv) (xp : XP), W.M c = some C → Cls K C → a ≠ p → S0 a = none → H0 a = some (.ins C dx []) → Sv K W p S0 H0 S H σ env → XOkS K W p S0 H0 S xp E →
  ∀ (post : D → Prop) (EE : Ends), db a post xp env → (∀ fs gs' S' H' σ', post (.obj c fs) → But W p a S0 H0 S' H' → S' a = none → H' a = some (.ins C dx gs') → RF K W p S' gs' fs → EE.nx σ' H') → ts EE σ H
def bTail (di : DI) : DBI := fun a post _ env => env[0]? = some (.is a) ∧ di [] post env
def bSeq (ds : DS) (r : DBI) : DBI := fun a post xp env => ds { nx := fun env' => r a post xp env', rt := fun _ => False } xp env
theorem sib_tail {K : PySem.W.Frag} {W : Wc} {E : XK} {c : Nat} {ts : TS} {di : DI} (h : SInit K W c ts di) : SIB K W E c ts (bTail di) := fun p a dx C S0 H0 S H σ env xp hM cl hp hS hH sv _ post EE ⟨h0, q⟩ k => by
  have hH1 := sv.g.keep a _ hp hH
  have hS1 := sv.g.fr a (by rw [hH]; simp) hS
  exact h p a dx C S H σ env [] [] hM cl h0 hp hS1 hH1 (by unfold RF; rfl) sv.st sv.ev post EE q fun fs gs' S' H' σ' q2 b2 n2 e2 r2 => k fs gs' S' H' σ' q2 (sv.g.but.trans b2 ⟨_, hH1⟩) n2 e2 r2
theorem sib_seq {K : PySem.W.Frag} {W : Wc} {E : XK} {c : Nat} {ts us : TS} {ds : DS} {r : DBI} (h1 : SS K W E ts ds) (h2 : SIB K W E c us r) : SIB K W E c (tSeq ts us) (bSeq ds r) := fun p a dx C S0 H0 S H σ env xp hM cl hp hS hH sv xo post EE q k =>
  h1 p S0 H0 S H σ env xp sv xo { EE with nx := us EE } { nx := fun env' => r a post xp env', rt := fun _ => False } q ⟨fun S' H' σ' env' x sv' q' => h2 p a dx C S0 H0 S' H' σ' env' xp hM cl hp hS hH sv' (xo.ex x) post EE q' k, fun _ _ _ _ _ _ _ z => z.elim, fun _ _ _ _ _ _ z => z.elim, fun _ _ _ _ _ _ z => z.elim⟩
/-- a def of the text, its defaults whatever -/
structure Fn2 (K : PySem.W.Frag) (x qual : Str) (st : Stmt) (f : Addr) (fd : FuncData) : Prop where
  ex : ∃ (oc : Value) (od : Option Addr) (dV kV doc pm : Value) (an : Option Addr) (cdv ct : Value) (osl : Array (Option Value)),
    fd = PySem.W.fnOf x qual (defArgs st) (defBody st) (defScope st) dV kV doc pm an cdv ct ∧ K.lookup f = some ⟨oc, od, .func fd, osl⟩ ∧ PySem.W.codeIn K cdv qual = true
def runI (n m : Nat) (b : DBI) : DF := fun ds xp post => ds.length = m ∧ ∀ a, b a post xp (.is a :: (ds.map .sh ++ List.replicate (n - 1 - m) .un))
theorem Ev.cons {K : PySem.W.Frag} {W : Wc} {p a : Addr} {S H : Hp} {σ : L2.St} {env : SEnv} (ev : Ev K W p S H σ env) : Ev K W p S H (some (.ref a) :: σ) (.is a :: env) := by
  refine ⟨fun i s e => ?_, fun i j ds es n e1 e2 => ?_⟩
  · cases i with
    | zero =>
      have e' : some (Sl.is a) = some s := by simpa using e
      cases e'
      exact ⟨_, rfl, rfl⟩
    | succ i =>
      obtain ⟨o, h1, h2⟩ := ev.at_ i s (by simpa using e)
      exact ⟨o, by simpa using h1, h2⟩
  · cases i with
    | zero => exact nomatch (show some (Sl.is a) = some (.ow ds) by simpa using e1)
    | succ i =>
      cases j with
      | zero => exact nomatch (show some (Sl.is a) = some (.ow es) by simpa using e2)
      | succ j =>
        have := ev.dis i j ds es (fun z => n (by rw [z])) (by simpa using e1) (by simpa using e2)
        simpa using this
section
variable {P : Program} {w : World} {K : PySem.W.Frag} {W : Wc} {mg : Str → Option Value} {base : Heap}
/-- an __init__ by its body's data -/
theorem okI {x qual n0 : Str} {st : Stmt} {f : Addr} {fd : FuncData} {N ps : List Str} {k c : Nat} {body : DBI} (F : Fn2 K x qual st f fd) (Sc : FnScope (n0 :: N) (n0 :: ps) (defScope st)) (hcl : ∀ C, W.M c = some C → Cls K C)
    (hb : ∀ (cdv : Value) (A : Around) (outer : List PySem.Env) (s : Shared) (H : Hp) (E : XK), Room k (A.deeper (PyProof.Rows.envOfC qual (defScope st) s.heap.objs.size f cdv)) →
      ∃ ts, PSs (cxOf (L2.CX P w) P w K mg base (n0 :: N) qual (defScope st) f cdv A outer s H E) (defBody st) ts ∧ SIB K W E c ts body) : FnOk P w K mg base (L2.CX P w) (k + 1) f fd (n0 :: ps) (spI K W c (runI (N.length + 1) ps.length body)) := by
  obtain ⟨oc, od, dV, kV, doc, pm, an, cdv, ct, osl, rfl, lk, hcd⟩ := F.ex
  refine fn_of lk hcd Sc (fun vs H Q E h => ?_) (fun A outer s H vs Q E hr h => ?_)
  · obtain ⟨p, S, H0, a, dx, C, ws, ds, post, xp, rfl, _, _, _, _, _, _, r, ⟨h1, _⟩, _⟩ := h
    simp [RA.length r, h1]
  · obtain ⟨p, S, H0, a, dx, C, ws, ds, post, xp, rfl, hM, stt, ha, hdx, hne, rfl, r, ⟨h1, q⟩, k1, xo⟩ := h
    obtain ⟨ts, pe, se⟩ := hb cdv A outer s _ E hr
    refine ⟨ts, pe, ?_⟩
    have g1 := Grow.hide (o := .own a) stt hdx
    have ha2 : (upd H0 dx (.own a)) a = none := by rw [upd_ne (Ne.symm hne)]; exact ha
    have g2 := g1.trans (Grow.hide (o := .ins C dx []) g1.st ha2)
    have hp : a ≠ p := by
      obtain ⟨o, e, _⟩ := stt.src
      exact fun z => by rw [← z, ha] at e; cases e
    have hS : S a = none := by
      cases z : S a with
      | none => rfl
      | some u => rw [stt.ex a u z] at ha; cases ha
    have es : L2.start (n0 :: N) (V.ref a :: ws) = some (V.ref a) :: L2.start N ws := by simp [L2.start]
    rw [es]
    have ev0 : Ev K W p S (upd (upd H0 dx (.own a)) a (.ins C dx [])) (L2.start N ws) (ds.map Sl.sh ++ List.replicate (N.length - ws.length) .un) := r.begins
    rw [RA.length r, h1] at ev0
    refine se p a dx C S (upd (upd H0 dx (.own a)) a (.ins C dx [])) S _ _ _ xp hM (hcl C hM) hp hS upd_same ⟨Grow.refl g2.st, ev0.cons, fun i as b e1 e2 => ?_⟩ (XOk.s (xo.mono g2)) post _ (by simpa using q a) fun fs gs' S' H' σ' q2 b2 n2 e2 r2 => ?_
    · exfalso
      cases i with
      | zero => exact nomatch (show some (Sl.is a) = some (.ow as) by simpa using e1)
      | succ i =>
        have e1' : (ds.map Sl.sh ++ List.replicate (N.length - ps.length) .un)[i]? = some (.ow as) := by simpa using e1
        by_cases hi : i < ds.length
        · rw [List.getElem?_append_left (by simpa using hi), List.getElem?_map] at e1'
          cases hd : ds[i]? with
          | none => rw [hd] at e1'; cases e1'
          | some d => rw [hd] at e1'; cases e1'
        · rw [List.getElem?_append_right (by simpa using hi), List.getElem?_replicate] at e1'
          split at e1' <;> cases e1'
    · refine k1 fs gs' S' H' q2 ⟨b2.ex, b2.st, fun b o n e => ?_, fun b n e => ?_⟩ n2 hp e2 r2
      · have nb : b ≠ a := fun z => by rw [z, ha] at e; cases e
        have nd : b ≠ dx := fun z => by rw [z, hdx] at e; cases e
        exact b2.kp b o n nb (by rw [upd_ne nb, upd_ne nd]; exact e)
      · refine b2.fr b ?_ e
        have nb : b ≠ a := fun z => n (by rw [z, ha])
        have nd : b ≠ dx := fun z => n (by rw [z, hdx])
        rw [upd_ne nb, upd_ne nd]; exact n
end
end DL

set_option Elab.async false
set_option linter.all false
set_option maxRecDepth 100000
set_option maxHeartbeats 1000000
/-! an operator that an own class says, by data -/
namespace DL
open PySem L2

def tyV : V → Option String
  | .non => some "NoneType"
  | .bl _ => some "bool"
  | .int _ => some "int"
  | .str _ => some "str"
  | _ => none
theorem tyV_of {v : V} {u : Value} {T : String} (h : tyV v = some T) (r : RelV v u) : typeOf u = pure (.type T) := by
  cases v <;> simp only [tyV, Option.some.injEq, reduceCtorEq] at h
  · subst h; obtain rfl : u = Value.none := r; rfl
  · subst h; obtain rfl : u = Value.bool _ := r; rfl
  · subst h; obtain ⟨t, rfl⟩ := r; rfl
  · subst h; obtain ⟨t, rfl⟩ := r; rfl
/-- a value is not NotImplemented -/
theorem notNI {Q : Value → Shared → Prop} {v : V} {u : Value} {s : Shared} (r : RelV v u) (h : Q u s) : PySem.W.CmpBack Q u s := by
  cases v
  · obtain rfl : u = Value.none := r; exact h
  · obtain rfl : u = Value.bool _ := r; exact h
  · obtain ⟨t, rfl⟩ := r; exact h
  · obtain ⟨t, rfl⟩ := r; exact h
  · obtain ⟨t, rfl⟩ := r; exact h
  · obtain ⟨t, rfl⟩ := r; exact h
  · obtain rfl : u = Value.ref _ := r; exact h
  · obtain rfl : u = Value.type _ := r; exact h
structure OwnOp (K : PySem.W.Frag) (C f : Addr) (op : Operator) : Prop where
  hc : PySem.W.selfFirst K C = true
  hs : PySem.W.findIn K (.ref C) (PySem.dunder op.info.2) = some (some (.ref f))
  hf : PySem.W.isFn K (.ref f) = true
  hr : PySem.W.findIn K (.ref C) (dunderR op.info.2) = some none
  rt : ∀ T ∈ ["NoneType", "bool", "int", "str"], ∃ fo ro, PySem.W.findIn K (.type T) (PySem.dunder op.info.2) = some fo ∧ PySem.W.findIn K (.type T) (dunderR op.info.2) = some ro ∧ PySem.W.subIn K (.type T) (.ref C) = some false
def tOwn (C : Addr) (sp : Sp) (E : XK) (tl tr : TE) : TE := fun σ H Q => tl σ H fun x H1 => tr σ H1 fun y H2 => ∃ a dx fs, x = .ref a ∧ H2 a = some (.ins C dx fs) ∧ (tyV y).isSome = true ∧ sp [x, y] H2 Q E
section
variable {X : Cx} {W : Wc} {E : XK} {l r : Expr} {pos : Pos} {tl tr : TE} {dl dr : DE} {c : Nat} {op : Operator}
theorem pe_own {CX : CXT} {k : Nat} {C f : Addr} {fd : FuncData} {ps : List Str} {sp : Sp} (O : OwnOp X.K C f op) (F : FnOk X.prog X.w X.K X.mg X.base CX k f fd ps sp) (hr : Room k X.A) (hb : Binds X.K fd ps []) (hx : Passes CX X E) (hl : PE X l tl) (hrr : PE X r tr) : PE X (.BinOp l op r pos) (tOwn C sp E tl tr) := by
  refine ⟨fun pins s σ H Q I h => ?_⟩
  refine wpAny_BinOp (thn (hl.run pins s σ H _ I h) fun u s1 ⟨x, H1, I1, rx, q1⟩ => thn (hrr.run pins s1 σ H1 _ I1 q1) fun v s2 ⟨y, H2, I2, ry, a, dx, fs, ex, ea, ty, q2⟩ => ?_)
  subst ex
  obtain rfl : u = Value.ref a := rx
  obtain ⟨mA, OM, _, _, _, _⟩ := ins_get I2.hok ea
  obtain ⟨od, J, _⟩ := OM.look
  obtain ⟨m, fr⟩ := I2.fr
  cases hT : tyV y with
  | none => rw [hT] at ty; cases ty
  | some T =>
    have hm : T ∈ ["NoneType", "bool", "int", "str"] := by
      cases y <;> simp only [tyV, Option.some.injEq, reduceCtorEq] at hT <;> subst hT <;> simp
    obtain ⟨fo, ro, h1, h2, h3⟩ := O.rt T hm
    refine PySem.W.ksp_binT fr I2.ok.mod.kin J (tyV_of hT ry) O.hc O.hs O.hf O.hr (.inl rfl) h1 h2 h3 ?_
    refine wpAny_mono (run_fn (us := [.ref a, v]) (vs := [.ref a, y]) F hr hb .nil hx I2 (.cons (show RelV (.ref a) (.ref a) from rfl) (.cons ry .nil)) q2) (fun v' s' hv => ?_) fun _ _ z => z
    obtain ⟨v0, H3, I3, rv, q3⟩ := hv
    exact notNI rv ⟨v0, H3, I3, rv, q3⟩
/-- x op y, x of an own class, y a plain value -/
def plainD : D → Bool
  | .non => true
  | .bl _ => true
  | .int _ => true
  | .str _ => true
  | _ => false
theorem plain_of {K : PySem.W.Frag} {p : Addr} {S : Hp} {v : V} {d : D} (h : DL.R K W p S v d) (hp : plainD d = true) : (tyV v).isSome = true := by
  cases d <;> simp only [plainD, Bool.false_eq_true] at hp <;> unfold DL.R at h <;> subst h <;> rfl
def dOwn (c : Nat) (f : DF) (dl dr : DE) : DE := fun env xp post => dl env xp fun x => dr env xp fun y => (∃ fs, x = .obj c fs) ∧ plainD y = true ∧ f [x, y] xp post
theorem se_own {K : PySem.W.Frag} {C : Addr} {f : DF} (hM : W.M c = some C) (hl : SE K W E tl dl) (hr : SE K W E tr dr) : SE K W E (tOwn C (spD K W f) E tl tr) (dOwn c f dl dr) :=
  fun p S H σ env xp st ev xo Q post q k => hl p S H σ env xp st ev xo _ _ q fun v d S1 H1 q1 g1 r1 => hr p S1 H1 σ env xp g1.st (ev.mono g1) (xo.mono g1) _ _ q1 fun v2 d2 S2 H2 ⟨⟨fs, ed⟩, hp, q2⟩ g2 r2 => by
    subst ed
    have r0 := R.mono g2.ex _ _ r1
    have r3 := r0
    unfold R at r3
    obtain ⟨a, C', dx, gs, rfl, ea, hC, rf⟩ := r3
    obtain rfl : C' = C := Option.some.inj (hC.symm.trans hM)
    exact ⟨a, dx, gs, rfl, g2.st.ex _ _ ea, plain_of r2 hp, p, S2, _, post, xp, g2.st, RA.cons r0 (RA.cons r2 RA.nil), q2, fun v d S3 H3 q4 g3 r4 => k v d S3 H3 q4 ((g1.trans g2).trans g3) r4, xo.mono (g1.trans g2)⟩
theorem pd_own {k : Nat} {C f : Addr} {fd : FuncData} {ps : List Str} {df : DF} (hM : W.M c = some C) (O : OwnOp X.K C f op) (F : FnOk X.prog X.w X.K X.mg X.base (L2.CX X.prog X.w) k f fd ps (spD X.K W df)) (hr : Room k X.A) (hb : Binds X.K fd ps []) (hx : Passes (L2.CX X.prog X.w) X E)
    (hl : PD X W E l tl dl) (hrr : PD X W E r tr dr) : PD X W E (.BinOp l op r pos) (tOwn C (spD X.K W df) E tl tr) (dOwn c df dl dr) := ⟨pe_own O F hr hb hx hl.pe hrr.pe, se_own hM hl.se hrr.se⟩
end
end DL

set_option Elab.async false
set_option linter.all false
set_option maxRecDepth 100000
set_option maxHeartbeats 1000000
/-! lists that only the def holds: made, changed, handed out -/
namespace DL
open PySem L2

/-- what an expression leaves in a slot: a shared value, or a new list -/
abbrev DSl := SEnv → XP → (Sl → Prop) → Prop
def NewS (K : PySem.W.Frag) (W : Wc) (p : Addr) (H S' H' : Hp) (v : V) : Sl → Prop
  | .sh d => R K W p S' v d
  | .ow ds => ∃ q vs, v = .ref q ∧ H q = none ∧ S' q = none ∧ H' q = some (.lst vs) ∧ RA K W p S' vs ds
  | _ => False
def SSl (K : PySem.W.Frag) (W : Wc) (E : XK) (te : TE) (dl : DSl) : Prop :=
  ∀ p S H σ env xp, Stt W p S H → Ev K W p S H σ env → XOk K W p S H xp E → ∀ (Q : VK) (post : Sl → Prop), dl env xp post →
    (∀ v s S' H', post s → Grow W p S H S' H' → NewS K W p H S' H' v s → Q v H') → te σ H Q
structure PDSl (X : Cx) (W : Wc) (E : XK) (e : Expr) (te : TE) (dl : DSl) : Prop where
  pe : PE X e te
  se : SSl X.K W E te dl
def slV (de : DE) : DSl := fun env xp post => de env xp fun d => post (.sh d)
def slN (dn : DA) : DSl := fun env xp post => dn env xp fun ds => post (.ow ds)
section
variable {X : Cx} {W : Wc} {E : XK} {e : Expr} {te : TE} {de : DE} {dn : DA}
theorem PD.sl (h : PD X W E e te de) : PDSl X W E e te (slV de) := ⟨h.pe, fun p S H σ env xp st ev xo Q post q k => h.se p S H σ env xp st ev xo _ _ q fun v d S1 H1 q1 g1 r1 => k v (.sh d) S1 H1 q1 g1 r1⟩
theorem PDN.sl (h : PDN X W E e te dn) : PDSl X W E e te (slN dn) := ⟨h.pe, fun p S H σ env xp st ev xo Q post q k => h.se p S H σ env xp st ev xo _ _ q fun l vs ds S1 H1 q1 g1 h1 h2 h3 r1 => k (.ref l) (.ow ds) S1 H1 q1 g1 ⟨l, vs, rfl, h1, h2, h3, r1⟩⟩
end
section
variable {K : PySem.W.Frag} {W : Wc} {p : Addr} {S0 H0 S H S1 H1 : Hp} {σ : L2.St} {env : SEnv}
theorem set_get {α : Type} {l : List α} {i j : Nat} {x y : α} (h : (l.set i x)[j]? = some y) : (i = j ∧ y = x ∧ i < l.length) ∨ (i ≠ j ∧ l[j]? = some y) := by
  by_cases hj : i = j
  · subst hj
    have hl : i < l.length := by
      have := (List.getElem?_eq_some_iff.mp h).1
      rwa [List.length_set] at this
    rw [List.getElem?_set_self hl] at h
    exact .inl ⟨rfl, (Option.some.inj h).symm, hl⟩
  · rw [List.getElem?_set_ne hj] at h
    exact .inr ⟨hj, h⟩
theorem Ev.sat (h : Ev K W p S H σ env) {i : Nat} (hl : i < env.length) : i < σ.length := by
  obtain ⟨o, h1, _⟩ := h.at_ i env[i] (by simp [hl])
  exact (List.getElem?_eq_some_iff.mp h1).1
/-- a new list into a slot: nobody of the old ones is it -/
theorem Ev.setS {i : Nat} {v : V} {s : Sl} (st : Stt W p S H) (h : Ev K W p S H σ env) (g : Grow W p S H S1 H1) (n : NewS K W p H S1 H1 v s) : Ev K W p S1 H1 (σ.set i (some v)) (env.set i s) := by
  cases s with
  | sh d => exact (h.mono g).set n
  | ow ds =>
    obtain ⟨q, vs, rfl, n1, n2, n3, n4⟩ := n
    have hp : q ≠ p := by
      obtain ⟨o, e, _⟩ := st.src
      exact fun z => by rw [z, e] at n1; cases n1
    have far : ∀ {j : Nat} {es : List D}, env[j]? = some (.ow es) → σ[j]? ≠ some (some (.ref q)) := fun {j es} e z => by
      obtain ⟨o, e1, a, ws, rfl, _, _, e4, _⟩ := h.at_ j _ e
      rw [e1] at z
      cases z
      rw [n1] at e4
      cases e4
    have ev1 := h.mono g
    refine ⟨fun j s e => ?_, fun j k as bs nj e1 e2 => ?_⟩
    · rcases set_get e with ⟨rfl, rfl, hl⟩ | ⟨hj, e'⟩
      · exact ⟨_, List.getElem?_set_self (h.sat hl), q, vs, rfl, n2, hp, n3, n4⟩
      · obtain ⟨o, h1, h2⟩ := ev1.at_ j s e'
        exact ⟨o, by rw [List.getElem?_set_ne hj]; exact h1, h2⟩
    · rcases set_get e1 with ⟨rfl, _, hl⟩ | ⟨hj, e1'⟩
      · rcases set_get e2 with ⟨rfl, _, _⟩ | ⟨hk, e2'⟩
        · exact absurd rfl nj
        · rw [List.getElem?_set_self (h.sat hl), List.getElem?_set_ne hk]
          exact fun z => far e2' z.symm
      · rcases set_get e2 with ⟨rfl, _, hl⟩ | ⟨hk, e2'⟩
        · rw [List.getElem?_set_self (h.sat hl), List.getElem?_set_ne hj]
          exact far e1'
        · rw [List.getElem?_set_ne hj, List.getElem?_set_ne hk]
          exact ev1.dis j k as bs nj e1' e2'
  | un => exact n.elim
  | ex a dx c fs => exact n.elim
  | is a => exact n.elim
theorem Sv.setS {i : Nat} {v : V} {s : Sl} (h : Sv K W p S0 H0 S H σ env) (g : Grow W p S H S1 H1) (n : NewS K W p H S1 H1 v s) : Sv K W p S0 H0 S1 H1 (σ.set i (some v)) (env.set i s) := by
  refine ⟨h.g.trans g, Ev.setS h.st h.ev g n, fun j ds a e1 e2 => ?_⟩
  rcases set_get e1 with ⟨rfl, z, hl⟩ | ⟨hj, e1'⟩
  · subst z
    obtain ⟨q, vs, rfl, n1, _⟩ := n
    rw [List.getElem?_set_self (h.ev.sat hl)] at e2
    cases e2
    have hp : a ≠ p := by
      obtain ⟨o, e, _⟩ := h.st.src
      exact fun z => by rw [z, e] at n1; cases n1
    exact h.g.dead a hp n1
  · rw [List.getElem?_set_ne hj] at e2
    exact h.own j ds a e1' e2
end
section
variable {X : Cx} {W : Wc} {E : XK} {e : Expr} {te : TE} {dl : DSl} {pos : Pos}
/-- x = e -/
def dSetS (dl : DSl) (i : Nat) : DS := fun DD xp env => dl env xp fun s => DD.nx (env.set i s)
theorem ss_setS {K : PySem.W.Frag} {i : Nat} (h : SSl K W E te dl) : SS K W E (tAsg te (gName i)) (dSetS dl i) := fun p S0 H0 S H σ env xp sv xo D DD q k =>
  h p S H σ env xp sv.st sv.ev (sv.xo xo) _ _ q fun v s S1 H1 q1 g1 n => k.nx S1 H1 _ _ g1.ex (sv.setS g1 n) q1
theorem pds_setS (i : Nat) {x : Str} {pos' : Pos} (hN : X.N.Nodup) (he : PDSl X W E e te dl) (hi : X.N[i]? = some x := by rfl) (hx : Loc X.env.scope x := by first | exact Or.inl rfl | exact Or.inr rfl) (hs : swapsWith e (some (.Name x pos')) pos.line X.env = pure false := by rfl)
    (hf : X.fn x = true ∨ X.env.scope.names.lookup x = some .local := by first | exact .inl rfl | exact .inr rfl | assumption) : PDS X W E (.Assign [.Name x pos'] e pos) (tAsg te (gName i)) (dSetS dl i) :=
  ⟨ps_set hN hi hx he.pe hs hf, ss_setS he.se⟩
/-- x, y = e1, e2 -/
def dParS (i j : Nat) (d1 d2 : DSl) : DS := fun DD xp env => d1 env xp fun s1 => d2 env xp fun s2 => DD.nx ((env.set i s1).set j s2)
theorem NewS.later {K : PySem.W.Frag} {p : Addr} {S H S1 H1 S2 H2 : Hp} {v : V} {s : Sl} (st : Stt W p S H) (n : NewS K W p H S1 H1 v s) (g : Grow W p S1 H1 S2 H2) : NewS K W p H S2 H2 v s := by
  cases s with
  | sh d => exact R.mono g.ex _ _ n
  | ow ds =>
    obtain ⟨q, vs, rfl, n1, n2, n3, n4⟩ := n
    have hp : q ≠ p := by
      obtain ⟨o, e, _⟩ := st.src
      exact fun z => by rw [z, e] at n1; cases n1
    exact ⟨q, vs, rfl, n1, g.fr q (by rw [n3]; simp) n2, g.keep q _ hp n3, RA.mono g.ex _ _ n4⟩
  | un => exact n
  | ex a dx c fs => exact n
  | is a => exact n
/-- two, the second one newer than the first one -/
theorem Sv.setS2 {K : PySem.W.Frag} {p : Addr} {S0 H0 S H S1 H1 S2 H2 : Hp} {σ : L2.St} {env : SEnv} {i j : Nat} {v w : V} {s u : Sl} (h : Sv K W p S0 H0 S H σ env) (g1 : Grow W p S H S1 H1) (n1 : NewS K W p H S1 H1 v s) (g2 : Grow W p S1 H1 S2 H2) (n2 : NewS K W p H1 S2 H2 w u) :
    Sv K W p S0 H0 S2 H2 ((σ.set i (some v)).set j (some w)) ((env.set i s).set j u) := (h.setS g1 n1).setS g2 n2
theorem ss_parS {K : PySem.W.Frag} {i j : Nat} {t1 t2 : TE} {d1 d2 : DSl} (h1 : SSl K W E t1 d1) (h2 : SSl K W E t2 d2) : SS K W E (tPar i j (tCons t1 (tCons t2 tNil))) (dParS i j d1 d2) := fun p S0 H0 S H σ env xp sv xo D DD q k =>
  h1 p S H σ env xp sv.st sv.ev (sv.xo xo) _ _ q fun v s S1 H1 q1 g1 n1 => h2 p S1 H1 σ env xp g1.st (sv.ev.mono g1) ((sv.xo xo).mono g1) _ _ q1 fun w u S2 H2 q2 g2 n2 =>
    ⟨v, w, rfl, k.nx S2 H2 _ _ (g1.ex.trans g2.ex) (sv.setS2 g1 n1 g2 n2) q2⟩
theorem pds_parS (i j : Nat) {x y : Str} {a b : Expr} {t1 t2 : TE} {d1 d2 : DSl} {px py pt : Pos} {kt k2 pt2} (hc : X.calm = true) (hN : X.N.Nodup) (ha : PDSl X W E a t1 d1) (hb : PDSl X W E b t2 d2) (hij : i ≠ j := by decide) (hi : X.N[i]? = some x := by rfl) (hj : X.N[j]? = some y := by rfl)
    (hx : X.env.scope.names.lookup x = some .local := by rfl) (hy : X.env.scope.names.lookup y = some .local := by rfl)
    (hw : swappedStores [.Tuple [.Name x px, .Name y py] kt pt] (.Tuple [a, b] k2 pt2) X.env = pure (some [x, y]) := by rfl)
    (hs : swapsWithSole [.Tuple [.Name x px, .Name y py] kt pt] (.Tuple [a, b] k2 pt2) pos.line X.env = pure false := by rfl)
    (h1 : starEach [a, b] X.env = (false, eval a X.env) :: starEach [b] X.env := by rfl) (h2 : starEach [b] X.env = (false, eval b X.env) :: starEach [] X.env := by rfl) :
    PDS X W E (.Assign [.Tuple [.Name x px, .Name y py] kt pt] (.Tuple [a, b] k2 pt2) pos) (tPar i j (tCons t1 (tCons t2 tNil))) (dParS i j d1 d2) := ⟨ps_par hc hN hi hj hij hx hy (pa_cons ha.pe (pa_cons hb.pe pa_nil h2) h1) hw hs, ss_parS ha.se hb.se⟩
end

/-! ### handed out -/
section
variable {K : PySem.W.Frag} {W : Wc} {p q : Addr} {S0 H0 S H : Hp} {σ : L2.St} {env : SEnv} {vs ws : List V}
theorem Grow.show (g : Grow W p S0 H0 S H) (h0 : H0 q = none) (hS : S q = none) (hp : q ≠ p) (hH : H q = some (.lst vs)) : Grow W p S0 H0 (upd S q (.lst vs)) H := by
  have ex := Ex.new (o := HO.lst vs) hS
  refine ⟨g.ex.trans ex, ⟨tb_tell g.st.tabs nofun, fun b u z => ?_, ?_, ?_⟩, g.kp, fun b n z => ?_⟩
  · by_cases hb : b = q
    · subst hb; rw [upd_same] at z; cases z; exact hH
    · rw [upd_ne hb] at z; exact g.st.ex b u z
  · rw [upd_ne (Ne.symm hp)]; exact g.st.hid
  · obtain ⟨o', e', s⟩ := g.st.src
    exact ⟨o', e', W.mono _ _ _ ex s⟩
  · have : b ≠ q := fun y => n (y ▸ h0)
    rw [upd_ne this]; exact g.fr b n z
theorem Stt.show (st : Stt W p S H) (hS : S q = Option.none) (hp : q ≠ p) (hH : H q = some (.lst vs)) : Stt W p (upd S q (.lst vs)) H := by
  have ex := Ex.new (o := HO.lst vs) hS
  refine ⟨tb_tell st.tabs nofun, fun b u z => ?_, ?_, ?_⟩
  · by_cases hb : b = q
    · subst hb; rw [upd_same] at z; cases z; exact hH
    · rw [upd_ne hb] at z; exact st.ex b u z
  · rw [upd_ne (Ne.symm hp)]; exact st.hid
  · obtain ⟨o', e', s⟩ := st.src
    exact ⟨o', e', W.mono _ _ _ ex s⟩
/-- a list that only the def holds, changed -/
theorem Grow.chg (g : Grow W p S0 H0 S H) (h0 : H0 q = none) (hS : S q = none) (hp : q ≠ p) (hH : H q = some (.lst vs)) : Grow W p S0 H0 S (upd H q (.lst ws)) := by
  refine ⟨g.ex, ⟨tabs_put g.st.tabs hH nt_lst, fun b u z => ?_, g.st.hid, ?_⟩, fun b o n z => ?_, g.fr⟩
  · have : b ≠ q := fun y => by rw [y, hS] at z; cases z
    rw [upd_ne this]; exact g.st.ex b u z
  · obtain ⟨o, e, s⟩ := g.st.src
    exact ⟨o, by rw [upd_ne (Ne.symm hp)]; exact e, s⟩
  · have : b ≠ q := fun y => by rw [y, h0] at z; cases z
    rw [upd_ne this]; exact g.kp b o n z
theorem Ev.chg {i : Nat} {ds es : List D} (ev : Ev K W p S H σ env) (e : env[i]? = some (.ow ds)) (hs : σ[i]? = some (some (.ref q))) (hS : S q = none) (hp : q ≠ p) (hH : H q = some (.lst vs)) (r : RA K W p S ws es) : Ev K W p S (upd H q (.lst ws)) σ (env.set i (.ow es)) := by
  refine ⟨fun j s e1 => ?_, fun j k as bs nj e1 e2 => ?_⟩
  · rcases set_get e1 with ⟨rfl, rfl, hl⟩ | ⟨hj, e1'⟩
    · exact ⟨_, hs, q, ws, rfl, hS, hp, upd_same, r⟩
    · obtain ⟨o, h1, h2⟩ := ev.at_ j s e1'
      refine ⟨o, h1, ?_⟩
      cases s with
      | un => trivial
      | sh d => exact h2
      | is b => exact h2
      | ow as =>
        obtain ⟨b, us, rfl, z2, z3, z4, z5⟩ := h2
        have : b ≠ q := fun z => by
          subst z
          exact ev.dis i j ds as hj e e1' (hs.trans h1.symm)
        exact ⟨b, us, rfl, z2, z3, by rw [upd_ne this]; exact z4, z5⟩
      | ex b d c fs =>
        obtain ⟨z1, gs2, z2, z3, z4⟩ := h2
        have : d ≠ q := fun z => by rw [z, hH] at z2; cases z2
        exact ⟨z1, gs2, by rw [upd_ne this]; exact z2, z3, z4⟩
  · rcases set_get e1 with ⟨rfl, _, _⟩ | ⟨hj, e1'⟩
    · rcases set_get e2 with ⟨rfl, _, _⟩ | ⟨hk, e2'⟩
      · exact absurd rfl nj
      · exact ev.dis i k ds bs nj e e2'
    · rcases set_get e2 with ⟨rfl, _, _⟩ | ⟨hk, e2'⟩
      · exact ev.dis j i as ds nj e1' e
      · exact ev.dis j k as bs nj e1' e2'
theorem Sv.chg {i : Nat} {ds es : List D} (sv : Sv K W p S0 H0 S H σ env) (e : env[i]? = some (.ow ds)) (hs : σ[i]? = some (some (.ref q))) (hS : S q = none) (hp : q ≠ p) (hH : H q = some (.lst vs)) (r : RA K W p S ws es) : Sv K W p S0 H0 S (upd H q (.lst ws)) σ (env.set i (.ow es)) := by
  refine ⟨sv.g.chg (sv.own i ds q e hs) hS hp hH, sv.ev.chg e hs hS hp hH r, fun j as a e1 e2 => ?_⟩
  rcases set_get e1 with ⟨rfl, _, _⟩ | ⟨hj, e1'⟩
  · exact sv.own i ds a e e2
  · exact sv.own j as a e1' e2
/-- what an owned slot says -/
theorem Ev.ow {i : Nat} {ds : List D} (ev : Ev K W p S H σ env) (e : env[i]? = some (.ow ds)) : ∃ q vs, σ[i]? = some (some (.ref q)) ∧ S q = none ∧ q ≠ p ∧ H q = some (.lst vs) ∧ RA K W p S vs ds := by
  obtain ⟨o, h1, q, vs, rfl, h2, h3, h4, h5⟩ := ev.at_ i _ e
  exact ⟨q, vs, h1, h2, h3, h4, h5⟩
end
section
variable {X : Cx} {W : Wc} {E : XK} {e : Expr} {te : TE} {de : DE} {pos : Pos}
/-- return x, x a list that only the def holds -/
def dRetO (i : Nat) : DS := fun DD _ env => ∃ ds, env[i]? = some (.ow ds) ∧ DD.rt (.lst ds)
theorem ss_retO {K : PySem.W.Frag} {i : Nat} : SS K W E (tRet (tVar i)) (dRetO i) := fun p S0 H0 S H σ env xp sv xo D DD ⟨ds, e, q⟩ k => by
  obtain ⟨a, vs, hs, hS, hp, hH, r⟩ := sv.ev.ow e
  have ex := Ex.new (o := HO.lst vs) hS
  exact ⟨.ref a, hs, k.rt (upd S a (.lst vs)) H (.ref a) (.lst ds) ex (sv.g.show (sv.own i ds a e hs) hS hp hH) (by unfold DL.R; exact ⟨a, vs, rfl, upd_same, RA.mono ex _ _ r⟩) q⟩
theorem pds_retO (i : Nat) {x : Str} {np : Pos} (hi : X.N[i]? = some x := by rfl) (hv : Vis X.env.scope x := by first | exact Or.inl rfl | exact Or.inr (Or.inl rfl) | exact Or.inr (Or.inr rfl)) (hd : (x == ("__debug__" : Str)) = false := by decide) (hcd : (x == ("__classdict__" : Str)) = false := by decide) :
    PDS X W E (.Return (some (.Name x np)) pos) (tRet (tVar i)) (dRetO i) := ⟨ps_ret (pe_var hi hv hd hcd), ss_retO⟩
/-- x.append(e) -/
def dApp (i : Nat) (de : DE) : DS := fun DD xp env => ∃ ds, env[i]? = some (.ow ds) ∧ ds.length < 10000000 ∧ de env xp fun d => DD.nx (env.set i (.ow (ds ++ [d])))
theorem ss_app {K : PySem.W.Frag} {i : Nat} (h : SE K W E te de) : SS K W E (tDrop (tBM K "list" rAppend (tVar i) (tCons te tNil))) (dApp i de) := fun p S0 H0 S H σ env xp sv xo D DD ⟨ds, e, hl, q⟩ k => by
  obtain ⟨a, vs, hs, hS, hp, hH, r⟩ := sv.ev.ow e
  refine ⟨.ref a, hs, .inl ⟨rfl, vs, SqL.of hH⟩, ?_⟩
  refine h p S H σ env xp sv.st sv.ev (sv.xo xo) _ _ q fun v d S1 H1 q1 g1 r1 => ?_
  have hH1 := g1.keep a _ hp hH
  have hS1 := g1.fr a (by rw [hH]; simp) hS
  have r0 := RA.mono g1.ex _ _ r
  refine ⟨a, vs, v, rfl, rfl, hH1, by rw [RA.length r, sizeLine_eq]; omega, ?_⟩
  exact k.nx S1 _ _ _ g1.ex ((sv.mono g1).chg e hs hS1 hp hH1 (r0.append (RA.cons r1 RA.nil))) q1
end
end DL

set_option Elab.async false
set_option linter.all false
set_option maxRecDepth 100000
set_option maxHeartbeats 1000000
/-! more of lists that only the def holds: append(pop), readings -/
namespace DL
open PySem L2

theorem seqAt {m n : Nat} (h : m < n) : seqIndex? (m : Int) n = some m := by
  have e1 : ¬ ((m : Int) < 0) := by omega
  have e2 : (m : Int) < (n : Int) := by omega
  have e3 : (0 : Int) ≤ (m : Int) := by omega
  simp [seqIndex?, e1, e2, e3]
theorem RA.erase {K : PySem.W.Frag} {W : Wc} {p : Addr} {S : Hp} : ∀ (m : Nat) {ds : List D} {vs : List V}, RA K W p S vs ds → RA K W p S (vs.eraseIdx m) (ds.eraseIdx m)
  | _, [], vs, h => by
    unfold RA at h; subst h
    simp; exact RA.nil
  | 0, d :: ds, vs, h => by
    unfold RA at h
    obtain ⟨y, ys, rfl, h1, h2⟩ := h
    simpa using h2
  | m + 1, d :: ds, vs, h => by
    unfold RA at h
    obtain ⟨y, ys, rfl, h1, h2⟩ := h
    simpa using RA.cons h1 (RA.erase m h2)
section
variable {X : Cx} {W : Wc} {E : XK} {e : Expr} {te : TE} {de : DE} {pos : Pos}
/-- x.append(y.pop(e)) -/
def dAppPop (i j : Nat) (de : DE) : DS := fun DD xp env => ∃ as bs, env[i]? = some (.ow as) ∧ env[j]? = some (.ow bs) ∧ i ≠ j ∧ as.length < 10000000 ∧ bs.length < 10000000 ∧
  de env xp fun d => ∃ m : Nat, d = .int m ∧ ∃ y, bs[m]? = some y ∧ DD.nx ((env.set j (.ow (bs.eraseIdx m))).set i (.ow (as ++ [y])))
theorem ss_appPop {K : PySem.W.Frag} {i j : Nat} (h : SE K W E te de) : SS K W E (tDrop (tBM K "list" rAppend (tVar i) (tCons (tBM K "list" rPopAt (tVar j) (tCons te tNil)) tNil))) (dAppPop i j de) := fun p S0 H0 S H σ env xp sv xo D DD ⟨as, bs, ei, ej, hij, la, lb, q⟩ k => by
  obtain ⟨a, vs, hs, hS, hp, hH, r⟩ := sv.ev.ow ei
  obtain ⟨b, ws, hs2, hS2, hp2, hH2, r2⟩ := sv.ev.ow ej
  have hab : a ≠ b := fun z => by
    subst z
    exact sv.ev.dis i j as bs hij ei ej (hs.trans hs2.symm)
  refine ⟨.ref a, hs, .inl ⟨rfl, vs, SqL.of hH⟩, ?_⟩
  refine ⟨.ref b, hs2, .inl ⟨rfl, ws, SqL.of hH2⟩, ?_⟩
  refine h p S H σ env xp sv.st sv.ev (sv.xo xo) _ _ q fun v d S1 H1 ⟨m, ed, y, ey, q1⟩ g1 rv => ?_
  subst ed
  obtain rfl : v = V.int m := rv
  have hHa := g1.keep a _ hp hH
  have hSa := g1.fr a (by rw [hH]; simp) hS
  have hHb := g1.keep b _ hp2 hH2
  have hSb := g1.fr b (by rw [hH2]; simp) hS2
  have ra := RA.mono g1.ex _ _ r
  have rb := RA.mono g1.ex _ _ r2
  obtain ⟨z, ez, rz⟩ := rb.at ey
  have hm : m < ws.length := (List.getElem?_eq_some_iff.mp ez).1
  have hl := RA.length rb
  refine ⟨b, ws, (m : Int), m, z, rfl, rfl, hHb, by omega, by omega, seqAt hm, ez, ?_⟩
  refine ⟨a, vs, z, rfl, rfl, by rw [upd_ne hab]; exact hHa, by rw [RA.length r, sizeLine_eq]; omega, ?_⟩
  have sv2 := (sv.mono g1).chg ej hs2 hSb hp2 hHb (RA.erase m rb)
  have ei2 : (env.set j (.ow (bs.eraseIdx m)))[i]? = some (.ow as) := by rw [List.getElem?_set_ne (Ne.symm hij)]; exact ei
  exact k.nx S1 _ _ _ g1.ex (sv2.chg ei2 hs hSa hp (by rw [upd_ne hab]; exact hHa) (ra.append (RA.cons rz RA.nil))) q1

/-! ### readings of such a list by an operation whose answer is plain -/
theorem plain_any {K : PySem.W.Frag} {p : Addr} {S S' : Hp} {v : V} {d : D} (h : DL.R K W p S v d) (hp : plainD d = true) : DL.R K W p S' v d := by
  cases d <;> simp only [plainD, Bool.false_eq_true] at hp <;> unfold DL.R at h ⊢ <;> exact h
theorem Grow.back {p q : Addr} {S H S' H' : Hp} {vs : List V} (st : Stt W p S H) (hS : S q = none) (g : Grow W p (upd S q (.lst vs)) H S' H') (hst : Stt W p S H') : Grow W p S H S H' := ⟨Ex.refl S, hst, fun b o n e => g.kp b o n e, fun b _ n => n⟩
/-- an operation that keeps the heap and answers a plain value -/
def RBp (K : PySem.W.Frag) (W : Wc) (r : R2) (b : D → D → (D → Prop) → Prop) : Prop :=
  ∀ p S H x y d e (Q : VK) (post : D → Prop), Stt W p S H → DL.R K W p S x d → DL.R K W p S y e → b d e post → (∀ v d', post d' → plainD d' = true → DL.R K W p S v d' → Q v H) → r x y H Q
def dOpO1 (b : D → D → (D → Prop) → Prop) (i : Nat) (de : DE) : DE := fun env xp post => ∃ ds, env[i]? = some (.ow ds) ∧ de env xp fun y => b (.lst ds) y post
def dOpO2 (b : D → D → (D → Prop) → Prop) (de : DE) (i : Nat) : DE := fun env xp post => ∃ ds, env[i]? = some (.ow ds) ∧ de env xp fun x => b x (.lst ds) post
theorem se_opO1 {K : PySem.W.Frag} {r : R2} {b : D → D → (D → Prop) → Prop} {i : Nat} (hr : RBp K W r b) (h : SE K W E te de) : SE K W E (tOp r (tVar i) te) (dOpO1 b i de) := fun p S H σ env xp st ev xo Q post ⟨ds0, e0, q⟩ k => by
  obtain ⟨a, vs, hs, hS, hp, hH, ra⟩ := ev.ow e0
  refine ⟨.ref a, hs, h p S H σ env xp st ev xo _ _ q fun v d S1 H1 q1 g1 rv => ?_⟩
  have hH1 := g1.keep a _ hp hH
  have hS1 := g1.fr a (by rw [hH]; simp) hS
  have ex := Ex.new (o := HO.lst vs) hS1
  have st2 := g1.st.show hS1 hp hH1
  exact hr p _ H1 (.ref a) v (.lst ds0) d Q post st2 (by unfold DL.R; exact ⟨a, vs, rfl, upd_same, RA.mono (g1.ex.trans ex) _ _ ra⟩) (R.mono ex _ _ rv) q1 fun u d' q2 pl ru => k u d' S1 H1 q2 g1 (plain_any ru pl)
theorem se_opO2 {K : PySem.W.Frag} {r : R2} {b : D → D → (D → Prop) → Prop} {i : Nat} (hr : RBp K W r b) (h : SE K W E te de) : SE K W E (tOp r te (tVar i)) (dOpO2 b de i) := fun p S H σ env xp st ev xo Q post ⟨ds0, e0, q⟩ k => by
  obtain ⟨a, vs, hs, hS, hp, hH, ra⟩ := ev.ow e0
  refine h p S H σ env xp st ev xo _ _ q fun v d S1 H1 q1 g1 rv => ⟨.ref a, hs, ?_⟩
  have hH1 := g1.keep a _ hp hH
  have hS1 := g1.fr a (by rw [hH]; simp) hS
  have ex := Ex.new (o := HO.lst vs) hS1
  have st2 := g1.st.show hS1 hp hH1
  exact hr p _ H1 v (.ref a) d (.lst ds0) Q post st2 (R.mono ex _ _ rv) (by unfold DL.R; exact ⟨a, vs, rfl, upd_same, RA.mono (g1.ex.trans ex) _ _ ra⟩) q1 fun u d' q2 pl ru => k u d' S1 H1 q2 g1 (plain_any ru pl)
/-- len(x) and its like -/
def RCbp (K : PySem.W.Frag) (W : Wc) (r : List V → Hp → VK → Prop) (o : List D → (D → Prop) → Prop) : Prop :=
  ∀ p S H vs ds (Q : VK) (post : D → Prop), Stt W p S H → RA K W p S vs ds → o ds post → (∀ v d', post d' → plainD d' = true → DL.R K W p S v d' → Q v H) → r vs H Q
def dCBO (o : List D → (D → Prop) → Prop) (i : Nat) : DE := fun env _ post => ∃ ds, env[i]? = some (.ow ds) ∧ o [.lst ds] post
theorem se_cbO {K : PySem.W.Frag} {r : List V → Hp → VK → Prop} {o : List D → (D → Prop) → Prop} {i : Nat} (hr : RCbp K W r o) : SE K W E (tCB r (tCons (tVar i) tNil)) (dCBO o i) := fun p S H σ env xp st ev xo Q post ⟨ds0, e0, q⟩ k => by
  obtain ⟨a, vs, hs, hS, hp, hH, ra⟩ := ev.ow e0
  have ex := Ex.new (o := HO.lst vs) hS
  exact ⟨.ref a, hs, hr p _ H [.ref a] [.lst ds0] Q post (st.show hS hp hH) (RA.cons (by unfold DL.R; exact ⟨a, vs, rfl, upd_same, RA.mono ex _ _ ra⟩) RA.nil) q fun u d' q2 pl ru => k u d' S H q2 (Grow.refl st) (plain_any ru pl)⟩
theorem rbp_eq {K : PySem.W.Frag} : RBp K W (rEqD K) bEq := fun p S H x y d e Q post st r1 r2 q k =>
  ⟨toPy d, toPy e, R.dp st.ex d x q.1.1 r1, R.dp st.ex e y q.2.1.1 r2, q.1.2, q.2.1.2, k _ _ q.2.2 rfl rfl⟩
theorem rbp_ne {K : PySem.W.Frag} : RBp K W (rNeD K) bNe := fun p S H x y d e Q post st r1 r2 q k =>
  ⟨toPy d, toPy e, R.dp st.ex d x q.1.1 r1, R.dp st.ex e y q.2.1.1 r2, q.1.2, q.2.1.2, k _ _ q.2.2 rfl rfl⟩
end
end DL

set_option Elab.async false
set_option linter.all false
set_option maxRecDepth 100000
set_option maxHeartbeats 1000000
/-! in a list, index: by data -/
namespace DL
open PySem L2

/-- e in ds, by == -/
def inD (d : D) (ds : List D) : Bool := ds.any fun z => eqD z d
theorem toPyA_any (f : PyData → Bool) : ∀ ds : List D, (toPyA ds).any f = ds.any fun z => f (toPy z)
  | [] => rfl
  | d :: ds => by
    show (f (toPy d) || (toPyA ds).any f) = _
    rw [toPyA_any f ds]
    rfl
theorem toPyA_len : ∀ ds : List D, (toPyA ds).length = ds.length
  | [] => rfl
  | d :: ds => by
    show (toPyA ds).length + 1 = ds.length + 1
    rw [toPyA_len ds]
theorem toPyA_get : ∀ (ds : List D) (j : Nat), (toPyA ds)[j]? = (ds[j]?).map toPy
  | [], j => by simp [toPyA]
  | d :: ds, 0 => by simp [toPyA]
  | d :: ds, j + 1 => by simpa [toPyA] using toPyA_get ds j
def bInL : D → D → (D → Prop) → Prop
  | d, .lst es, k => pyOk d ∧ pyOk (.lst es) ∧ k (.bl (inD d es))
  | _, _, _ => False
def bNotInL : D → D → (D → Prop) → Prop
  | d, .lst es, k => pyOk d ∧ pyOk (.lst es) ∧ k (.bl (!inD d es))
  | _, _, _ => False
section
variable {K : PySem.W.Frag} {W : Wc}
theorem rbp_in : RBp K W (rInD K) bInL := fun p S H x y d e Q post st r1 r2 q k => by
  unfold bInL at q
  split at q
  · rename_i es
    refine ⟨toPy d, toPyA es, R.dp st.ex d x q.1.1 r1, R.dp st.ex (.lst es) y q.2.1.1 r2, q.1.2, q.2.1.2, k (.bl _) (.bl ((toPyA es).any fun z => PyData.eqv z (toPy d))) ?_ rfl rfl⟩
    rw [toPyA_any]
    exact q.2.2
  · exact q.elim
theorem rbp_notIn : RBp K W (rNotInD K) bNotInL := fun p S H x y d e Q post st r1 r2 q k => by
  unfold bNotInL at q
  split at q
  · rename_i es
    refine ⟨toPy d, toPyA es, R.dp st.ex d x q.1.1 r1, R.dp st.ex (.lst es) y q.2.1.1 r2, q.1.2, q.2.1.2, k (.bl _) (.bl (!(toPyA es).any fun z => PyData.eqv z (toPy d))) ?_ rfl rfl⟩
    rw [toPyA_any]
    exact q.2.2
  · exact q.elim
theorem RBp.rb {r : R2} {b : D → D → (D → Prop) → Prop} (h : RBp K W r b) : RB K W r b := fun p S H x y d e Q post st r1 r2 q k => h p S H x y d e Q post st r1 r2 q fun v d' q2 _ rv => k v d' S H q2 (Grow.refl st) rv
end
/-- ds.index(e): the first place -/
def oIdx : D → List D → (D → Prop) → Prop
  | .lst es, [d], k => pyOk d ∧ pyOk (.lst es) ∧ ∃ j z, es[j]? = some z ∧ eqD z d = true ∧ (∀ m z', m < j → es[m]? = some z' → eqD z' d = false) ∧ k (.int (j : Nat))
  | _, _, _ => False
theorem rm_idx {K : PySem.W.Frag} {W : Wc} : RMt K W "list" (rIndexD K) oIdx := fun p S H x d vs ds Q post st r1 r2 q k => by
  unfold oIdx at q
  split at q
  · rename_i es d0
    obtain ⟨o1, o2, j, z, ez, e1, e2, q⟩ := q
    obtain ⟨y, rfl, ry⟩ := r2.one
    have r0 := r1
    unfold DL.R at r1
    obtain ⟨a, xs, rfl, h1, h2⟩ := r1
    refine ⟨a, y, toPy d0, toPyA es, j, toPy z, rfl, rfl, R.dp st.ex (.lst es) _ o2.1 r0, R.dp st.ex d0 y o1.1 ry, o2.2, o1.2, by rw [toPyA_get, ez]; rfl, e1, fun m z' hm hz => ?_, k _ _ S H q (Grow.refl st) rfl⟩
    rw [toPyA_get] at hz
    cases ew : es[m]? with
    | none => rw [ew] at hz; cases hz
    | some w =>
      rw [ew] at hz
      cases hz
      exact e2 m w hm ew
  · exact q.elim
theorem op_inK (K : PySem.W.Frag) {X : Cx} (hu : X.A.units + 65 < cLine) (hK : X.K = K := by rfl) : OpR X (compareOp .In) (rInD K) := by
  subst hK
  exact op_inD hu
theorem op_notInK (K : PySem.W.Frag) {X : Cx} (hu : X.A.units + 65 < cLine) (hK : X.K = K := by rfl) : OpR X (compareOp .NotIn) (rNotInD K) := by
  subst hK
  exact op_notInD hu
theorem mt_idxK (K : PySem.W.Frag) {X : Cx} (hu : X.A.units + 65 < cLine) (hK : X.K = K := by rfl) : MtR X "list.index" (rIndexD K) := by
  subst hK
  exact mt_indexD hu
/-! ### e is None -/
def isNon : D → Bool
  | .non => true
  | _ => false
def dIsN (de : DE) : DE := fun env xp post => de env xp fun d => post (.bl (isNon d))
def dNotN (de : DE) : DE := fun env xp post => de env xp fun d => post (.bl (!isNon d))
theorem R.isN {K : PySem.W.Frag} {W : Wc} {p : Addr} {S : Hp} {v : V} {d : D} (h : DL.R K W p S v d) : decide (v = .non) = isNon d := by
  cases d <;> unfold DL.R at h
  case non => subst h; rfl
  case bl => subst h; rfl
  case int => subst h; rfl
  case str => subst h; rfl
  case tok => subst h; rfl
  case lst => obtain ⟨a, xs, rfl, _⟩ := h; rfl
  case tup => obtain ⟨a, xs, rfl, _⟩ := h; rfl
  case obj => obtain ⟨a, C, dx, gs, rfl, _⟩ := h; rfl
  case ety => obtain ⟨a, rfl, _⟩ := h; rfl
  case dct => obtain ⟨_, a, _, rfl, _⟩ := h; rfl
section
variable {X : Cx} {W : Wc} {E : XK} {e : Expr} {te : TE} {de : DE} {pos pos' : Pos} {j : Nat}
theorem se_isN {K : PySem.W.Frag} (h : SE K W E te de) : SE K W E (tIsN te) (dIsN de) := fun p S H σ env xp st ev xo Q post q k => h p S H σ env xp st ev xo _ _ q fun v d S1 H1 q1 g1 r1 => k _ _ S1 H1 q1 g1 (by rw [r1.isN]; rfl)
theorem se_notN {K : PySem.W.Frag} (h : SE K W E te de) : SE K W E (tNotN te) (dNotN de) := fun p S H σ env xp st ev xo Q post q k => h p S H σ env xp st ev xo _ _ q fun v d S1 H1 q1 g1 r1 => k _ _ S1 H1 q1 g1 (by rw [r1.isN]; rfl)
theorem pd_isN (h : PD X W E e te de) : PD X W E (.Compare e [.Is] [.Constant .none j pos'] pos) (tIsN te) (dIsN de) := ⟨pe_cmp (pc_isN h.pe), se_isN h.se⟩
theorem pd_notN (h : PD X W E e te de) : PD X W E (.Compare e [.IsNot] [.Constant .none j pos'] pos) (tNotN te) (dNotN de) := ⟨pe_cmp (pc_notN h.pe), se_notN h.se⟩
end
end DL

set_option Elab.async false
set_option linter.all false
set_option maxRecDepth 100000
set_option maxHeartbeats 1000000
/-! own classes by name: what the defs that use them are told -/
namespace DL
open PySem L2 DX

/-- the class of this number -/
def tC1 (W : Wc) (c : Nat) (te : Addr → TE) : TE := fun σ H Q => ∃ C, W.M c = some C ∧ te C σ H Q
def tC1S (W : Wc) (c : Nat) (ts : Addr → TS) : TS := fun D σ H => ∃ C, W.M c = some C ∧ ts C D σ H
section
variable {X : Cx} {W : Wc} {E : XK} {e : Expr} {st : Stmt} {c : Nat} {C : Addr}
theorem pd_c1 {te : Addr → TE} {de : DE} (hM : W.M c = some C) (h : PD X W E e (te C) de) : PD X W E e (tC1 W c te) de :=
  ⟨⟨fun pins s σ H Q I ⟨C', h1, q⟩ => by
    obtain rfl : C' = C := Option.some.inj (h1.symm.trans hM)
    exact h.pe.run pins s σ H Q I q⟩, fun p S H σ env xp sv ev xo Q post q k => ⟨C, hM, h.se p S H σ env xp sv ev xo Q post q k⟩⟩
theorem pds_c1 {ts : Addr → TS} {ds : DS} (hM : W.M c = some C) (h : PDS X W E st (ts C) ds) : PDS X W E st (tC1S W c ts) ds :=
  ⟨⟨fun pins s σ H D I ⟨C', h1, q⟩ => by
    obtain rfl : C' = C := Option.some.inj (h1.symm.trans hM)
    exact h.pe.run pins s σ H D I q⟩, fun p S0 H0 S H σ env xp sv xo D DD q k => ⟨C, hM, h.se p S0 H0 S H σ env xp sv xo D DD q k⟩⟩
end
section
variable (P : Program) (w : World) (K : PySem.W.Frag) (W : Wc) (mg : Str → Option Value) (base : Heap)
/-- C(e, ..) with so many arguments; the rest are the defaults -/
structure NewOk (k : Nat) (x : Str) (c : Nat) (df : DF) (dvs : List V) (dds : List D) : Prop where
  ex : ∃ (C f : Addr) (fd : FuncData) (ps : List Str) (ds : List Value), W.M c = some C ∧ Mk K C f ∧ FnOk P w K mg base (L2.CX P w) k f fd ps (spI K W c df) ∧ mg x = some (.ref C) ∧ Binds K fd ps ds ∧ Vals dvs ds ∧ ∀ p S, RA K W p S dvs dds
structure MethOk (k c : Nat) (m : Str) (df : DF) (dvs : List V) (dds : List D) : Prop where
  ex : ∃ (C f : Addr) (fd : FuncData) (ps : List Str) (ds : List Value), W.M c = some C ∧ Cls K C ∧ Meth K C m f ∧ FnOk P w K mg base (L2.CX P w) k f fd ps (spD K W df) ∧ Binds K fd ps ds ∧ Vals dvs ds ∧ ∀ p S, RA K W p S dvs dds
structure PrOk (k c : Nat) (m : Str) (df : DF) : Prop where
  ex : ∃ (C q g : Addr) (fd : FuncData) (ps : List Str), W.M c = some C ∧ Cls K C ∧ PropOf K C m q g ∧ FnOk P w K mg base (L2.CX P w) k g fd ps (spD K W df) ∧ Binds K fd ps []
structure OpOk (k c : Nat) (op : Operator) (df : DF) : Prop where
  ex : ∃ (C f : Addr) (fd : FuncData) (ps : List Str), W.M c = some C ∧ OwnOp K C f op ∧ FnOk P w K mg base (L2.CX P w) k f fd ps (spD K W df) ∧ Binds K fd ps []
/-- an own error that keeps one field -/
structure ErrOk (x : Str) (c : Nat) (fl : Str) : Prop where
  ex : ∃ (C fI : Addr) (fd : FuncData), W.M c = some C ∧ ValCls P K C fI fl fl fd ∧ mg x = some (.ref C)
/-- a field of a class -/
structure FldOk (c : Nat) (f : Str) : Prop where
  ex : ∃ C, W.M c = some C ∧ Cls K C ∧ NoAttr K C f
end
section
variable {X : Cx} {W : Wc} {E : XK} {e o l r : Expr} {es : List Expr} {tr : TA} {dr : DA} {pos p apos pos2 : Pos} {te tl tq : TE} {de dl dq : DE} {P : Program} {w : World} {K : PySem.W.Frag} {mg : Str → Option Value} {base : Heap} {j k c : Nat} {x m fl : Str} {df : DF} {dvs : List V} {dds : List D} {op : Operator}
theorem pd_newD (F : NewOk P w K W mg base j x c df dvs dds) (hx : Passes (L2.CX X.prog X.w) X E) (ha : PDA X W E (e :: es) tr dr)
    (hX : X.prog = P ∧ X.w = w ∧ X.K = K ∧ X.mg = mg ∧ X.base = base := by exact ⟨rfl, rfl, rfl, rfl, rfl⟩) (hr : Room k X.A := by assumption) (hj : j + 1 ≤ k := by decide) (hg : Gl X x := by rfl)
    (hdb : (x == ("__debug__" : Str)) = false := by decide) (he : starEach (e :: es) X.env = (false, eval e X.env) :: starEach es X.env := by rfl) (hpl : (backTo pos (starEach es X.env)).any (·.1) = false := by rfl) :
    PD X W E (.Call (.Name x p) (e :: es) [] pos) (tC1 W c fun C => tMake C (spI K W c df) dvs E tr) (dCall df dds dr) := by
  obtain ⟨rfl, rfl, rfl, rfl, rfl⟩ := hX
  obtain ⟨C, f, fd, ps, ds, hM, M, F, hm, hb, hd, hdd⟩ := F.ex
  exact pd_c1 hM (pd_make hM M F (hr.mono hj) hg hm hb hd hdd hx ha hdb he hpl)
theorem pd_methD {pl : Sem Bool} (F : MethOk P w K W mg base j c m df dvs dds) (hx : Passes (L2.CX X.prog X.w) X E) (ho : PD X W E o te de) (ha : PDA X W E (e :: es) tr dr)
    (hX : X.prog = P ∧ X.w = w ∧ X.K = K ∧ X.mg = mg ∧ X.base = base := by exact ⟨rfl, rfl, rfl, rfl, rfl⟩) (hr : Room k X.A := by assumption) (hj : j ≤ k := by decide)
    (ht : eval (.Call (.Attribute o m apos) (e :: es) [] pos) X.env = (do
      let ov ← eval o X.env
      standAt apos.atName
      let (f, first) ← holding [ov] (getMethod ov m pl)
      callWith pos f first (backTo pos (starEach (e :: es) X.env)) (backToKw pos (keywordEach [] X.env))) := by rfl)
    (he : starEach (e :: es) X.env = (false, eval e X.env) :: starEach es X.env := by rfl) (hpl : (backTo pos (starEach es X.env)).any (·.1) = false := by rfl) :
    PD X W E (.Call (.Attribute o m apos) (e :: es) [] pos) (tC1 W c fun C => tMeth C m (spD K W df) dvs E te tr) (dMeth c m df dds de dr) := by
  obtain ⟨rfl, rfl, rfl, rfl, rfl⟩ := hX
  obtain ⟨C, f, fd, ps, ds, hM, cl, hm, F, hb, hd, hdd⟩ := F.ex
  exact pd_c1 hM (pd_meth hM cl hm F (hr.mono hj) hb hd hdd hx ho ha ht he hpl)
theorem pd_propD (F : PrOk P w K W mg base j c m df) (ho : PD X W E o te de)
    (hX : X.prog = P ∧ X.w = w ∧ X.K = K ∧ X.mg = mg ∧ X.base = base := by exact ⟨rfl, rfl, rfl, rfl, rfl⟩) (hr : Room k X.A := by assumption) (hj : j + 1 ≤ k := by decide)
    (hab : attributeBase o m X.env (eval o X.env) = eval o X.env := by rfl) : PD X W E (.Attribute o m pos) (tC1 W c fun C => tProp C (spD K W df) [] (fun _ _ _ => False) te) (dProp c df de) := by
  obtain ⟨rfl, rfl, rfl, rfl, rfl⟩ := hX
  obtain ⟨C, q, g, fd, ps, hM, cl, hp, F, hb⟩ := F.ex
  exact pd_c1 hM (pd_prop hM cl hp F (hr.mono hj) hb ho hab)
theorem pd_opD (F : OpOk P w K W mg base j c op df) (hx : Passes (L2.CX X.prog X.w) X E) (hl : PD X W E l tl dl) (hrr : PD X W E r tq dq)
    (hX : X.prog = P ∧ X.w = w ∧ X.K = K ∧ X.mg = mg ∧ X.base = base := by exact ⟨rfl, rfl, rfl, rfl, rfl⟩) (hr : Room k X.A := by assumption) (hj : j ≤ k := by decide) : PD X W E (.BinOp l op r pos) (tC1 W c fun C => tOwn C (spD K W df) E tl tq) (dOwn c df dl dq) := by
  obtain ⟨rfl, rfl, rfl, rfl, rfl⟩ := hX
  obtain ⟨C, f, fd, ps, hM, O, F, hb⟩ := F.ex
  exact pd_c1 hM (pd_own hM O F (hr.mono hj) hb hx hl hrr)
theorem pd_fldD (F : FldOk K W c m) (ho : PD X W E o te de) (hX : X.K = K := by rfl) (hb : attributeBase o m X.env (eval o X.env) = eval o X.env := by rfl) : PD X W E (.Attribute o m pos) (tFld K te m) (dFld c m de) := by
  subst hX
  obtain ⟨C, hM, cl, n⟩ := F.ex
  exact pd_fld hM cl n ho hb
theorem pds_raiseD (F : ErrOk P K W mg x c fl) (hc : X.calm = true) (tk : Takes X (fun cls d _ H => E cls d H)) (hs : mg "super" = none) (ha : PDA X W E (e :: es) tr dr)
    (hX : X.prog = P ∧ X.K = K ∧ X.mg = mg := by exact ⟨rfl, rfl, rfl⟩) (hr : Room k X.A := by assumption) (hj : 2 ≤ k := by decide) (hg : Gl X x := by rfl)
    (hdb : (x == ("__debug__" : Str)) = false := by decide) (he : starEach (e :: es) X.env = (false, eval e X.env) :: starEach es X.env := by rfl) (hpl : (backTo pos (starEach es X.env)).any (·.1) = false := by rfl) :
    PDS X W E (.Raise (some (.Call (.Name x p) (e :: es) [] pos)) none pos2) (tC1S W c fun C => tRaiseV C fl E tr) (dRaise c fl dr) := by
  obtain ⟨rfl, rfl, rfl⟩ := hX
  obtain ⟨C, fI, fd, hM, T, hm⟩ := F.ex
  exact pds_c1 hM (pds_raise hc tk T hs (hr.mono hj) hM hg hm ha hdb he hpl)
end
/-- the class that a clause names, of number c0: which classes it takes, and its instances' field -/
structure CatchOk (W : Wc) (K : PySem.W.Frag) (mg : Str → Option Value) (x : Str) (c0 : Nat) (bt : Nat → Bool) : Prop where
  ex : ∃ C, W.M c0 = some C ∧ mg x = some (.ref C) ∧ ∀ c C', W.M c = some C' → PySem.W.exmOne K (.ref C') (.ref C) = some (bt c)
structure XfOk (W : Wc) (K : PySem.W.Frag) (c : Nat) (fl : Str) : Prop where
  ex : ∃ C, W.M c = some C ∧ XfC K C ∧ PySem.W.findIn K (.ref C) fl = some none
theorem passes_ew {X : Cx} {N : Nat} {Wx : WX} {pn : List (Addr × Obj)} {xe : Value → Shared → Prop} (tk : Takes (X.tr pn xe) (fun cls d _ H => EW N Wx cls d H)) : Passes (L2.CX X.prog X.w) (X.tr pn xe) (EW N Wx) := passes_call tk fun _ _ _ _ h => h
section
variable {X : Cx} {W : Wc} {E E0 : XK} {K : PySem.W.Frag} {mg : Str → Option Value} {x n : Str} {c0 i N : Nat} {bt : Nat → Bool} {body suite : List Stmt} {b0 : Stmt} {np pos pos' : Pos} {tb : WX → TS} {db : DS} {ts : Addr → Value → Option Addr → TS} {dsu : Addr → Value → Option Addr → DS}
theorem pds_tryD (F : CatchOk W K mg x c0 bt) (hs : X.stack = X.env :: X.outer) (hf : X.env.frame = some X.env.locals) (hN : X.N.Nodup) (tk : Takes X (fun cls d _ H => E cls d H))
    (hb : ∀ (Wx : WX) (pn : List (Addr × Obj)) (xe : Value → Shared → Prop), Takes (X.tr pn xe) (fun cls d _ H => EW N Wx cls d H) → PDSs (X.tr pn xe) W (EW N Wx) body (tb Wx) db)
    (hsu : ∀ (a : Addr) (oe : Obj) (cls : Value) (d : Option Addr) (pn : List (Addr × Obj)), Zc cls d oe → (∃ vs, oe.data = .fields vs) → PDSs (X.suite a ((a, oe) :: pn)) W E0 (b0 :: suite) (ts a cls d) (dsu a cls d))
    (hX : X.K = K ∧ X.mg = mg := by exact ⟨rfl, rfl⟩) (hl : N = X.N.length := by rfl) (hi : X.N[i]? = some n := by rfl) (hln : X.env.kindOf n = some .local := by rfl) (hg : Gl X x := by rfl) (hdb : (x == ("__debug__" : Str)) = false := by decide) :
    PDS X W E (.Try body [.ExceptHandler (some (.Name x np)) (some n) (b0 :: suite) pos'] [] [] pos) (tC1S W c0 fun C D σ H => tb (wAs K (.ref C) i ts (fun cls d _ H => E cls d H) D) D σ H) (dTry W N i bt db dsu) := by
  obtain ⟨rfl, rfl⟩ := hX
  subst hl
  obtain ⟨C, hM, hm, hbt⟩ := F.ex
  exact pds_c1 (ts := fun C D σ H => tb (wAs X.K (.ref C) i ts (fun cls d _ H => E cls d H) D) D σ H) hM (pds_try hs hf hN hi hln ⟨hg, hdb, .inl hm⟩ tk hbt hb hsu)
/-- e.f in the suite -/
theorem pd_exvD {a : Addr} {oe : Obj} {cls : Value} {d : Option Addr} {pn : List (Addr × Obj)} {c : Nat} {fl : Str} (F : XfOk W K c fl) (hz : Zc cls d oe) (hf : ∃ vs, oe.data = .fields vs) (hX : X.K = K := by rfl)
    (hi : X.N[i]? = some n := by rfl) (hv : Vis X.env.scope n := by first | exact Or.inl rfl | exact Or.inr (Or.inl rfl) | exact Or.inr (Or.inr rfl)) (hb : attributeBase (.Name n np) fl X.env (eval (.Name n np) X.env) = eval (.Name n np) X.env := by rfl)
    (hd : (n == ("__debug__" : Str)) = false := by decide) (hcd : (n == ("__classdict__" : Str)) = false := by decide) :
    PD (X.suite a ((a, oe) :: pn)) W E (.Attribute (.Name n np) fl pos) (tC1 W c fun C => tXf a cls d C fl (tVar i)) (dExV W a cls d c i fl) := by
  subst hX
  obtain ⟨C, hM, T, hno⟩ := F.ex
  exact pd_c1 (te := fun C => tXf a cls d C fl (tVar i)) hM (pd_exv T hno hM hz hf hi hv hb hd hcd)
end
/-! ### the text of an __init__ -/
section
variable {X : Cx} {W : Wc} {E : XK} {K : PySem.W.Frag} {c : Nat} {st : Stmt} {rest : List Stmt} {ts us : TS} {ds : DS} {r : DBI} {di : DI} {e : Expr} {tv : TE} {de : DE} {x f : Str} {np pos pos' : Pos}
structure PIB (X : Cx) (K : PySem.W.Frag) (W : Wc) (E : XK) (c : Nat) (sts : List Stmt) (ts : TS) (r : DBI) : Prop where
  pe : PSs X sts ts
  se : SIB K W E c ts r
structure PIT (X : Cx) (K : PySem.W.Frag) (W : Wc) (c : Nat) (sts : List Stmt) (ts : TS) (di : DI) : Prop where
  pe : PSs X sts ts
  se : SInit K W c ts di
theorem pib_cons (h1 : PDS X W E st ts ds) (h2 : PIB X K W E c rest us r) (hK : X.K = K := by rfl) : PIB X K W E c (st :: rest) (tSeq ts us) (bSeq ds r) := by
  subst hK
  exact ⟨pss_cons h1.pe h2.pe, sib_seq h1.se h2.se⟩
theorem pib_tail (h : PIT X K W c rest us di) : PIB X K W E c rest us (bTail di) := ⟨h.pe, sib_tail h.se⟩
theorem pit_nil : PIT X K W c [] tNext (diEnd c) := ⟨pss_nil, si_end⟩
theorem pit_cons (hn : FldOk K W c f) (he : PD X W (fun _ _ _ => False) e tv de) (h : PIT X K W c rest us di) (hK : X.K = K := by rfl) (hN : X.N[0]? = some x := by rfl) (hv : Vis X.env.scope x := by first | exact Or.inl rfl | exact Or.inr (Or.inl rfl) | exact Or.inr (Or.inr rfl))
    (hs : swapsWith e (some (.Attribute (.Name x np) f pos')) pos.line X.env = pure false := by rfl) (hd : (x == ("__debug__" : Str)) = false := by decide) (hcd : (x == ("__classdict__" : Str)) = false := by decide) :
    PIT X K W c (.Assign [.Attribute (.Name x np) f pos'] e pos :: rest) (tSeq (sFld K (tVar 0) tv f) us) (diSet f de di) := by
  subst hK
  refine ⟨pss_cons (ps_fld (pe_var hN hv hd hcd) he.pe hs) h.pe, si_set (fun C hM => ?_) he.se h.se⟩
  obtain ⟨C', h1, _, n⟩ := hn.ex
  obtain rfl : C' = C := Option.some.inj (h1.symm.trans hM)
  exact n
end
end DL

set_option Elab.async false
set_option linter.all false
set_option maxRecDepth 100000
set_option maxHeartbeats 1000000
/-! repr of None, a bool, an int, a text -/
namespace DL
open PySem L2
def reprV : V → Option Str
  | .non => some "None"
  | .bl b => some (if b then "True" else "False")
  | .int i => if i.natAbs.log2 < 1920 then some (Str.ofString (toString i)) else none
  | .str x => if (reprText x).length ≤ sizeLine then some (reprText x) else none
  | _ => none
def reprD : D → Option Str
  | .non => some "None"
  | .bl b => some (if b then "True" else "False")
  | .int i => if i.natAbs.log2 < 1920 then some (Str.ofString (toString i)) else none
  | .str x => if (reprText x).length ≤ sizeLine then some (reprText x) else none
  | _ => none
abbrev rReprP : List V → Hp → VK → Prop := fun xs H Q => ∃ v t, xs = [v] ∧ reprV v = some t ∧ Q (.str t) H
theorem cr_reprP {X : Cx} : CallR X (.builtin "repr") rReprP := by
  intro pins s σ H xs us Q I rv h
  obtain ⟨v, t, rfl, e, q⟩ := h
  obtain ⟨u, rfl, r⟩ := vals1 rv
  cases v
  case non =>
    cases (show u = Value.none from r)
    cases e
    exact PySem.P.repr_of_none ⟨.str _, H, I.tok _, ⟨_, rfl⟩, q⟩
  case bl b =>
    cases (show u = Value.bool b from r)
    cases e
    exact PySem.P.repr_of_bool ⟨.str _, H, I.tok _, ⟨_, rfl⟩, q⟩
  case int i =>
    obtain ⟨k, rfl⟩ := (show ∃ k, u = Value.int i k from r)
    unfold reprV at e
    by_cases hz : i.natAbs.log2 < 1920
    · simp only [hz, if_true, Option.some.injEq] at e
      subst e
      exact PySem.P.repr_of_int hz ⟨.str _, H, I.tok _, ⟨_, rfl⟩, q⟩
    · simp [hz] at e
  case str x =>
    obtain ⟨k, rfl⟩ := (show ∃ k, u = Value.str x k from r)
    unfold reprV at e
    by_cases hz : (reprText x).length ≤ sizeLine
    · simp only [hz, if_true, Option.some.injEq] at e
      subst e
      exact PySem.P.repr_of_str ⟨.str _, H, I.tok _, ⟨_, rfl⟩, q⟩ hz
    · simp [hz] at e
  all_goals cases e
def bReprP : List D → (D → Prop) → Prop
  | [d], k => ∃ t, reprD d = some t ∧ k (.str t)
  | _, _ => False
theorem rc_reprP {K : PySem.W.Frag} {W : Wc} : RCb K W rReprP bReprP := fun p S H vs ds Q post st ra q k => by
  unfold bReprP at q
  split at q
  · rename_i d
    obtain ⟨t, e, q⟩ := q
    obtain ⟨v, rfl, r⟩ := ra.one
    refine ⟨v, t, rfl, ?_, k (.str t) (.str t) S H q (Grow.refl st) rfl⟩
    cases d <;> unfold DL.R at r <;> first
      | (subst r; exact e)
      | cases e
  · exact q.elim
end DL

set_option Elab.async false
set_option linter.all false
set_option maxRecDepth 100000
set_option maxHeartbeats 1000000
/-! list of a text; a text times a number -/
namespace DL
open PySem L2
abbrev sgV (x : Str) : List V := x.cps.toList.map fun c => V.str ⟨#[c]⟩
theorem vals_of {ys : List V} {us : List Value} (hl : us.length = ys.length) (h : ∀ (j : Nat) (v : Value), us[j]? = some v → ∃ y, ys[j]? = some y ∧ RelV y v) : Vals ys us := by
  induction ys generalizing us with
  | nil => cases us with
    | nil => exact .nil
    | cons _ _ => cases hl
  | cons y ys ih => cases us with
    | nil => cases hl
    | cons u us =>
      obtain ⟨y', e, r⟩ := h 0 u rfl
      cases e
      exact .cons r (ih (by simpa using hl) fun j v hv => by simpa using h (j + 1) v (by simpa using hv))
theorem call_list_txt {X : Cx} (hc : X.calm = true) : CallR X (.type "list") (fun xs H Q => ∃ x, xs = [.str x] ∧ x.length ≤ sizeLine ∧ ∀ l, H l = none → Q (.ref l) (upd H l (.lst (sgV x)))) := by
  intro pins s σ H xs us Q I rv h
  obtain ⟨x, rfl, hz, q⟩ := h
  obtain ⟨u, rfl, t, rfl⟩ := vals1 rv
  refine call_list_str (I.ok.hd hc) x t (hn := hz) fun h' tk acc' c' hk hS' hacc => ?_
  have hl : acc'.toList.length = (sgV x).length := by
    have := hacc.1
    simp only [Array.length_toList, sgV, List.length_map]
    simpa using this
  refine ⟨.ref s.heap.objs.size, _, I.laid (t' := tk) hk (Nat.le_refl _) (show ObjOk X.prog X.w _ h' _ (.lst (sgV x)) from ⟨by rw [show (sgV x).length = x.cps.size by simp [sgV]]; exact hz, acc'.toList, c', vals_of hl fun j v hv => ?_, by simpa using hS'⟩), rfl, q _ (I.hok.fresh (Nat.le_refl _))⟩
  obtain ⟨c, u, hc, rfl⟩ := hacc.2 j v (by simpa using hv)
  exact ⟨.str ⟨#[c]⟩, by simp [sgV, hc], _, rfl⟩
def sgD (x : Str) : List D := x.cps.toList.map fun c => D.str ⟨#[c]⟩
theorem RA.sg {K : PySem.W.Frag} {W : Wc} {p : Addr} {S : Hp} (x : Str) : RA K W p S (sgV x) (sgD x) := by
  unfold sgV sgD
  induction x.cps.toList with
  | nil => exact RA.nil
  | cons c l ih => exact RA.cons (show DL.R K W p S (.str ⟨#[c]⟩) (.str ⟨#[c]⟩) from by unfold DL.R; rfl) ih
section
variable {X : Cx} {W : Wc} {E : XK} {e : Expr} {te : TE} {de : DE} {p pos : Pos}
/-- list(text), list(list) -/
def dListT (de : DE) : DA := fun env xp post => de env xp fun d => ∃ x, d = .str x ∧ x.length ≤ 100000 ∧ post (sgD x)
def dListL (de : DE) : DA := fun env xp post => de env xp fun d => ∃ ds, (d = .lst ds ∨ d = .tup ds) ∧ post ds
theorem pdn_listT (hc : X.calm = true) (hg : Gl X "list") (hm : X.mg "list" = none) (hv : bootBuiltins "list" = some (.type "list")) (he : PD X W E e te de) (hs : starEach [e] X.env = (false, eval e X.env) :: starEach [] X.env := by rfl) :
    PDN X W E (.Call (.Name "list" p) [e] [] pos) (tCB (fun xs H Q => ∃ x, xs = [.str x] ∧ x.length ≤ sizeLine ∧ ∀ l, H l = none → Q (.ref l) (upd H l (.lst (sgV x)))) (tCons te tNil)) (dListT de) :=
  ⟨pe_callTy (he := hs) (call_list_txt hc) hg hm hv (pa_cons he.pe pa_nil hs), fun p S H σ env xp st ev xo Q post q k => he.se p S H σ env xp st ev xo _ _ q fun v d S1 H1 ⟨x, ed, hl, q1⟩ g1 r1 => by
    subst ed
    obtain rfl : v = V.str x := r1
    refine ⟨x, rfl, by rw [sizeLine_eq]; omega, fun l hl => ?_⟩
    have hp : l ≠ p := by
      obtain ⟨o, e, _⟩ := g1.st.src
      exact fun z => by rw [z, e] at hl; cases hl
    have hS : S1 l = none := by
      cases z : S1 l with
      | none => rfl
      | some u => rw [g1.st.ex l u z] at hl; cases hl
    have hH : H l = none := g1.dead l hp hl
    exact k l _ _ S1 _ q1 (g1.trans (Grow.hide g1.st hl)) hH hS upd_same (RA.sg x)⟩
theorem pdn_listL (K : PySem.W.Frag) (hg : Gl X "list") (hm : X.mg "list" = none) (hv : bootBuiltins "list" = some (.type "list")) (he : PD X W E e te de) (hs : starEach [e] X.env = (false, eval e X.env) :: starEach [] X.env := by rfl) (hK : X.K = K := by rfl) :
    PDN X W E (.Call (.Name "list" p) [e] [] pos) (tCB (fun xs H Q => ∃ p ys, xs = [.ref p] ∧ (SqL K H p ys ∨ SqT K H p ys) ∧ ∀ l, H l = none → Q (.ref l) (upd H l (.lst ys))) (tCons te tNil)) (dListL de) := by
  subst hK
  refine ⟨pe_callTy (he := hs) call_list_of hg hm hv (pa_cons he.pe pa_nil hs), fun p S H σ env xp st ev xo Q post q k => he.se p S H σ env xp st ev xo _ _ q fun v d S1 H1 ⟨ds, ed, q1⟩ g1 r1 => ?_⟩
  have fin : ∀ (a : Addr) (ys : List V), RA X.K W p S1 ys ds → ∀ l, H1 l = none → Q (.ref l) (upd H1 l (.lst ys)) := fun a ys ra l hl => by
    have hp : l ≠ p := by
      obtain ⟨o, e, _⟩ := g1.st.src
      exact fun z => by rw [z, e] at hl; cases hl
    have hS : S1 l = none := by
      cases z : S1 l with
      | none => rfl
      | some u => rw [g1.st.ex l u z] at hl; cases hl
    have hH : H l = none := g1.dead l hp hl
    exact k l _ _ S1 _ q1 (g1.trans (Grow.hide g1.st hl)) hH hS upd_same ra
  rcases ed with rfl | rfl
  · unfold DL.R at r1
    obtain ⟨a, ys, rfl, h1, h2⟩ := r1
    exact ⟨a, ys, rfl, .inl (SqL.of (g1.st.ex _ _ h1)), fin a ys h2⟩
  · unfold DL.R at r1
    obtain ⟨a, ys, rfl, h1, h2⟩ := r1
    exact ⟨a, ys, rfl, .inr (Ex.t g1.st.ex h1), fin a ys h2⟩
end
end DL

set_option Elab.async false
set_option linter.all false
set_option maxRecDepth 100000
set_option maxHeartbeats 1000000
/-! rules for the text of defs that hold lists of their own -/
namespace DL
open PySem L2
theorem rcp_len {K : PySem.W.Frag} {W : Wc} : RCbp K W (rLenA K) bLen := fun p S H vs ds Q post st ra q k => by
  unfold bLen at q
  split at q
  · obtain ⟨v, rfl, r⟩ := ra.one
    unfold DL.R at r
    obtain ⟨a, xs, rfl, h1, h2⟩ := r
    exact .inl ⟨a, xs, rfl, .inl (SqL.of (st.ex _ _ h1)), k _ _ q rfl (by rw [RA.length h2]; rfl)⟩
  · obtain ⟨v, rfl, r⟩ := ra.one
    unfold DL.R at r
    obtain ⟨a, xs, rfl, h1, h2⟩ := r
    exact .inl ⟨a, xs, rfl, .inr (Ex.t st.ex h1), k _ _ q rfl (by rw [RA.length h2]; rfl)⟩
  · obtain ⟨v, rfl, r⟩ := ra.one
    exact .inr ⟨_, by rw [show v = _ from r], sz_of q.1, k _ _ q.2 rfl rfl⟩
  · exact q.elim
section
variable {X : Cx} {W : Wc} {E : XK} {a b e : Expr} {ta tb te : TE} {da db de : DE} {pos p apos cpos np np2 apos2 cpos2 : Pos} {x y : Str}
theorem pd_cmpO1 (i : Nat) {op : CmpOp} {r : R2} {o : D → D → (D → Prop) → Prop} (ho : OpR X (compareOp op) r) (hr : RBp X.K W r o) (hb : PD X W E b tb db) (hm : behindInMarks op b = false) (hi : X.N[i]? = some x := by rfl) (hv : Vis X.env.scope x := by first | exact Or.inl rfl | exact Or.inr (Or.inl rfl) | exact Or.inr (Or.inr rfl))
    (hd : (x == ("__debug__" : Str)) = false := by decide) (hcd : (x == ("__classdict__" : Str)) = false := by decide) : PD X W E (.Compare (.Name x np) [op] [b] pos) (tOp r (tVar i) tb) (dOpO1 o i db) := ⟨pe_cmpR ho (pe_var hi hv hd hcd) hb.pe hm, se_opO1 hr hb.se⟩
theorem pd_cmpO2 (i : Nat) {op : CmpOp} {r : R2} {o : D → D → (D → Prop) → Prop} (ho : OpR X (compareOp op) r) (hr : RBp X.K W r o) (ha : PD X W E a ta da) (hm : behindInMarks op (.Name x np) = false) (hi : X.N[i]? = some x := by rfl) (hv : Vis X.env.scope x := by first | exact Or.inl rfl | exact Or.inr (Or.inl rfl) | exact Or.inr (Or.inr rfl))
    (hd : (x == ("__debug__" : Str)) = false := by decide) (hcd : (x == ("__classdict__" : Str)) = false := by decide) : PD X W E (.Compare a [op] [.Name x np] pos) (tOp r ta (tVar i)) (dOpO2 o da i) := ⟨pe_cmpR ho ha.pe (pe_var hi hv hd hcd) hm, se_opO2 hr ha.se⟩
theorem pdt_cmpO1 (i : Nat) {op : CmpOp} {r : R2} {o : D → D → (D → Prop) → Prop} (ho : OpR X (compareOp op) r) (hr : RBp X.K W r o) (hb : PD X W E b tb db) (hm : behindInMarks op b = false) (hi : X.N[i]? = some x := by rfl) (hv : Vis X.env.scope x := by first | exact Or.inl rfl | exact Or.inr (Or.inl rfl) | exact Or.inr (Or.inr rfl))
    (hd : (x == ("__debug__" : Str)) = false := by decide) (hcd : (x == ("__classdict__" : Str)) = false := by decide) : PDT X W E (.Compare (.Name x np) [op] [b] pos) (tTest (tOp r (tVar i) tb)) (dTest (dOpO1 o i db)) := ⟨pt_cmpR ho (pe_var hi hv hd hcd) hb.pe hm, st_test (se_opO1 hr hb.se)⟩
theorem pdt_cmpO2 (i : Nat) {op : CmpOp} {r : R2} {o : D → D → (D → Prop) → Prop} (ho : OpR X (compareOp op) r) (hr : RBp X.K W r o) (ha : PD X W E a ta da) (hm : behindInMarks op (.Name x np) = false) (hi : X.N[i]? = some x := by rfl) (hv : Vis X.env.scope x := by first | exact Or.inl rfl | exact Or.inr (Or.inl rfl) | exact Or.inr (Or.inr rfl))
    (hd : (x == ("__debug__" : Str)) = false := by decide) (hcd : (x == ("__classdict__" : Str)) = false := by decide) : PDT X W E (.Compare a [op] [.Name x np] pos) (tTest (tOp r ta (tVar i))) (dTest (dOpO2 o da i)) := ⟨pt_cmpR ho ha.pe (pe_var hi hv hd hcd) hm, st_test (se_opO2 hr ha.se)⟩
theorem pd_lenO (K : PySem.W.Frag) (i : Nat) (hg : Gl X "len") (hm : X.mg "len" = none) (hv : bootBuiltins "len" = some (.builtin "len")) (hi : X.N[i]? = some x := by rfl) (hx : Vis X.env.scope x := by first | exact Or.inl rfl | exact Or.inr (Or.inl rfl) | exact Or.inr (Or.inr rfl))
    (hd : (x == ("__debug__" : Str)) = false := by decide) (hcd : (x == ("__classdict__" : Str)) = false := by decide) (he : starEach [.Name x np] X.env = (false, eval (.Name x np) X.env) :: starEach [] X.env := by rfl) (hK : X.K = K := by rfl) :
    PD X W E (.Call (.Name "len" p) [.Name x np] [] pos) (tCB (rLenA K) (tCons (tVar i) tNil)) (dCBO bLen i) := by
  subst hK
  exact ⟨pe_callB (he := he) (cr_len X.K) hg hm hv (pa_cons (pe_var hi hx hd hcd) pa_nil he), se_cbO rcp_len⟩
theorem pds_app (K : PySem.W.Frag) (i : Nat) (he : PD X W E e te de) (hi : X.N[i]? = some x := by rfl) (hv : Vis X.env.scope x := by first | exact Or.inl rfl | exact Or.inr (Or.inl rfl) | exact Or.inr (Or.inr rfl)) (hd : (x == ("__debug__" : Str)) = false := by decide) (hcd : (x == ("__classdict__" : Str)) = false := by decide)
    (hbase : attributeBase (.Name x np) "append" X.env (eval (.Name x np) X.env) = eval (.Name x np) X.env := by rfl) (hline : (apos.endLine == cpos.line) = true := by rfl) (hs : starEach [e] X.env = (false, eval e X.env) :: starEach [] X.env := by rfl) (hsw : swapsWith (.Call (.Attribute (.Name x np) "append" apos) [e] [] cpos) none pos.line X.env = pure false := by rfl)
    (hfew : ((backTo cpos (starEach [e] X.env)).all (fun x => !x.1) && (backToKw cpos (keywordEach [] X.env)).all (fun x => x.1.isSome) && decide (([e] : List Expr).length + ([] : List Keyword).length + (if ([] : List Keyword).isEmpty then 0 else 1) < 30)) = true := by rfl) (hK : X.K = K := by rfl) :
    PDS X W E (.Expr (.Call (.Attribute (.Name x np) "append" apos) [e] [] cpos) pos) (tDrop (tBM K "list" rAppend (tVar i) (tCons te tNil))) (dApp i de) := by
  subst hK
  exact ⟨ps_expr (pe_bm PySem.F.plainAttrs_list PySem.F.slot_list_append PySem.F.type_list_append mt_append (pe_var hi hv hd hcd) (pa_cons he.pe pa_nil hs) hbase hfew hline hs) hsw, ss_app he.se⟩
theorem pds_appPop (K : PySem.W.Frag) (i j : Nat) (he : PD X W E e te de) (hi : X.N[i]? = some x := by rfl) (hv : Vis X.env.scope x := by first | exact Or.inl rfl | exact Or.inr (Or.inl rfl) | exact Or.inr (Or.inr rfl)) (hd : (x == ("__debug__" : Str)) = false := by decide) (hcd : (x == ("__classdict__" : Str)) = false := by decide)
    (hj : X.N[j]? = some y := by rfl) (hw : Vis X.env.scope y := by first | exact Or.inl rfl | exact Or.inr (Or.inl rfl) | exact Or.inr (Or.inr rfl)) (hd2 : (y == ("__debug__" : Str)) = false := by decide) (hcd2 : (y == ("__classdict__" : Str)) = false := by decide)
    (hbase : attributeBase (.Name x np) "append" X.env (eval (.Name x np) X.env) = eval (.Name x np) X.env := by rfl) (hline : (apos.endLine == cpos.line) = true := by rfl)
    (hs : starEach [.Call (.Attribute (.Name y np2) "pop" apos2) [e] [] cpos2] X.env = (false, eval (.Call (.Attribute (.Name y np2) "pop" apos2) [e] [] cpos2) X.env) :: starEach [] X.env := by rfl)
    (hsw : swapsWith (.Call (.Attribute (.Name x np) "append" apos) [.Call (.Attribute (.Name y np2) "pop" apos2) [e] [] cpos2] [] cpos) none pos.line X.env = pure false := by rfl)
    (hfew : ((backTo cpos (starEach [.Call (.Attribute (.Name y np2) "pop" apos2) [e] [] cpos2] X.env)).all (fun x => !x.1) && (backToKw cpos (keywordEach [] X.env)).all (fun x => x.1.isSome) && decide (([.Call (.Attribute (.Name y np2) "pop" apos2) [e] [] cpos2] : List Expr).length + ([] : List Keyword).length + (if ([] : List Keyword).isEmpty then 0 else 1) < 30)) = true := by rfl)
    (hbase2 : attributeBase (.Name y np2) "pop" X.env (eval (.Name y np2) X.env) = eval (.Name y np2) X.env := by rfl) (hline2 : (apos2.endLine == cpos2.line) = true := by rfl) (hs2 : starEach [e] X.env = (false, eval e X.env) :: starEach [] X.env := by rfl)
    (hfew2 : ((backTo cpos2 (starEach [e] X.env)).all (fun x => !x.1) && (backToKw cpos2 (keywordEach [] X.env)).all (fun x => x.1.isSome) && decide (([e] : List Expr).length + ([] : List Keyword).length + (if ([] : List Keyword).isEmpty then 0 else 1) < 30)) = true := by rfl) (hK : X.K = K := by rfl) :
    PDS X W E (.Expr (.Call (.Attribute (.Name x np) "append" apos) [.Call (.Attribute (.Name y np2) "pop" apos2) [e] [] cpos2] [] cpos) pos) (tDrop (tBM K "list" rAppend (tVar i) (tCons (tBM K "list" rPopAt (tVar j) (tCons te tNil)) tNil))) (dAppPop i j de) := by
  subst hK
  exact ⟨ps_expr (pe_bm PySem.F.plainAttrs_list PySem.F.slot_list_append PySem.F.type_list_append mt_append (pe_var hi hv hd hcd) (pa_cons (pe_bm PySem.F.plainAttrs_list PySem.F.slot_list_pop PySem.F.type_list_pop mt_popAt (pe_var hj hw hd2 hcd2) (pa_cons he.pe pa_nil hs2) hbase2 hfew2 hline2 hs2) pa_nil hs) hbase hfew hline hs) hsw, ss_appPop he.se⟩
end
end DL

set_option Elab.async false
set_option linter.all false
set_option maxRecDepth 100000
set_option maxHeartbeats 1000000
/-! a text times a number -/
namespace DL
open PySem L2
def mulS (x : Str) (n : Int) : Str := if n < 1 then Str.empty else if (n == 1 || x.length == 0) = true then x else ⟨(List.replicate n.toNat x.cps).foldl (· ++ ·) #[]⟩
theorem foldl_size (c : Array Nat) : ∀ (k : Nat) (acc : Array Nat), ((List.replicate k c).foldl (· ++ ·) acc).size = acc.size + k * c.size
  | 0, acc => by simp
  | k + 1, acc => by
    rw [List.replicate_succ, List.foldl_cons, foldl_size c k, Array.size_append, Nat.succ_mul]
    omega
def rMulS : R2 := fun x y H Q => ∃ z n, x = .str z ∧ y = .int n ∧ 0 ≤ n ∧ n ≤ 1000 ∧ z.length ≤ 1000 ∧ Q (.str (mulS z n)) H
theorem op_mulS {X : Cx} : OpR X (binaryOp .Mult) rMulS := by
  intro pins s σ H x y v u Q I rx ry h
  obtain ⟨z, n, rfl, rfl, h1, h2, h3, q⟩ := h
  obtain ⟨t, rfl⟩ := rx
  obtain ⟨t', rfl⟩ := ry
  refine PySem.P.mul_str ?_ ?_ ?_ ?_
  · have a1 : ¬ n < -(2 ^ 63 : Int) := by omega
    have a2 : ¬ n ≥ 2 ^ 63 := by omega
    rw [decide_eq_false a1, decide_eq_false a2]; rfl
  · intro h4 _
    have : (2 ^ 63 - 1 : Int) / n ≥ 1000 := by
      apply Int.le_ediv_of_mul_le (by omega)
      omega
    omega
  · intro h4 _
    have a1 : n.toNat ≤ 1000 := by omega
    have a2 : z.length * n.toNat ≤ 1000 * 1000 := Nat.mul_le_mul h3 a1
    show decide (z.length * n.toNat > sizeLine) = false
    rw [sizeLine_eq]
    exact decide_eq_false (by omega)
  · unfold mulS at q
    by_cases c1 : n < 1
    · rw [if_pos c1] at q ⊢
      exact ⟨by decide, .str _, H, I.tok _, ⟨_, rfl⟩, q⟩
    · rw [if_neg c1] at q ⊢
      by_cases c2 : (n == 1 || z.length == 0) = true
      · rw [if_pos c2] at q ⊢
        exact ⟨.str _, H, I, ⟨_, rfl⟩, q⟩
      · rw [if_neg c2] at q ⊢
        refine ⟨?_, .str _, H, I.tok _, ⟨_, rfl⟩, q⟩
        have a1 : n.toNat ≤ 1000 := by omega
        have a2 : n.toNat * z.cps.size ≤ 1000 * 1000 := Nat.mul_le_mul a1 h3
        show ((List.replicate n.toNat z.cps).foldl (· ++ ·) #[]).size ≤ sizeLine
        rw [foldl_size, sizeLine_eq]
        simp only [List.size_toArray, List.length_nil]
        omega
def bMulS : D → D → (D → Prop) → Prop
  | .str z, .int n, k => 0 ≤ n ∧ n ≤ 1000 ∧ z.length ≤ 1000 ∧ k (.str (mulS z n))
  | _, _, _ => False
theorem rb_mulS {K : PySem.W.Frag} {W : Wc} : RB K W rMulS bMulS := fun p S H x y d e Q post st r1 r2 q k => by
  unfold bMulS at q
  split at q
  · rename_i z n
    exact ⟨z, n, r1, r2, q.1, q.2.1, q.2.2.1, k _ _ S H q.2.2.2 (Grow.refl st) (by unfold DL.R; rfl)⟩
  · exact q.elim
end DL

set_option Elab.async false
set_option linter.all false
set_option maxRecDepth 100000
set_option maxHeartbeats 1000000
/-! slices of a list: xs[:n], xs[n:] -/
namespace DL
open PySem L2
section
variable {X : Cx} {W : Wc} {E : XK} {e n : Expr} {te tn : TE} {de dn : DE} {pos p2 : Pos}
/-- a list that is new stands apart from what is known -/
theorem newL {K : PySem.W.Frag} {p l : Addr} {S H S1 H1 : Hp} {ys : List V} {ds : List D} {Q : VK} {post : List D → Prop} (g : Grow W p S H S1 H1) (ra : RA K W p S1 ys ds) (q : post ds) (hl : H1 l = none)
    (k : ∀ q vs ds S' H', post ds → Grow W p S H S' H' → H q = none → S' q = none → H' q = some (.lst vs) → RA K W p S' vs ds → Q (.ref q) H') : Q (.ref l) (upd H1 l (.lst ys)) := by
  have hp : l ≠ p := by
    obtain ⟨o, e, _⟩ := g.st.src
    exact fun z => by rw [z, e] at hl; cases hl
  have hS : S1 l = none := by
    cases z : S1 l with
    | none => rfl
    | some u => rw [g.st.ex l u z] at hl; cases hl
  have hH : H l = none := g.dead l hp hl
  exact k l _ _ S1 _ q (g.trans (Grow.hide g.st hl)) hH hS upd_same ra
def dTo (de dn : DE) : DA := fun env xp post => de env xp fun d => ∃ ds, d = .lst ds ∧ dn env xp fun m => ∃ k : Nat, m = .int k ∧ post (ds.take k)
def dFrom (de dn : DE) : DA := fun env xp post => de env xp fun d => ∃ ds, d = .lst ds ∧ dn env xp fun m => ∃ k : Nat, m = .int k ∧ post (ds.drop k)
theorem pdn_to (K : PySem.W.Frag) (he : PD X W E e te de) (hn : PD X W E n tn dn) (hK : X.K = K := by rfl) : PDN X W E (.Subscript e (.Slice none (some n) none p2) pos) (tSl (rSlL K) te tNoPart (tPart tn)) (dTo de dn) := by
  subst hK
  refine ⟨pe_slice sl_list he.pe po_none (po_some hn.pe), fun p S H σ env xp st ev xo Q post q k => he.se p S H σ env xp st ev xo _ _ q fun v d S1 H1 ⟨ds, ed, q1⟩ g1 r1 => ?_⟩
  subst ed
  show tn σ H1 fun x H2 => ∃ i, x = .int i ∧ rSlL X.K v none (some i) H2 Q
  refine hn.se p S1 H1 σ env xp g1.st (ev.mono g1) (xo.mono g1) _ _ q1 fun u m S2 H2 ⟨j, em, q2⟩ g2 r2 => ?_
  subst em
  obtain rfl : u = V.int j := r2
  have r3 := R.mono g2.ex _ _ r1
  unfold DL.R at r3
  obtain ⟨a, ys, rfl, h1, h2⟩ := r3
  refine ⟨(j : Int), rfl, a, ys, rfl, SqL.of (g2.st.ex _ _ h1), fun l hl => ?_⟩
  have hc : cutV ys none (some (j : Int)) = ys.take j := by
    unfold cutV
    rw [HT.sIx_none, HT.sIx_nat, List.drop_zero, Nat.sub_zero]
    by_cases hj : j ≤ ys.length
    · rw [Nat.min_eq_left hj]
    · rw [Nat.min_eq_right (by omega), List.take_length, List.take_of_length_le (by omega)]
  rw [hc]
  exact newL (g1.trans g2) (RA.take j h2) q2 hl k
theorem pdn_from (K : PySem.W.Frag) (he : PD X W E e te de) (hn : PD X W E n tn dn) (hK : X.K = K := by rfl) : PDN X W E (.Subscript e (.Slice (some n) none none p2) pos) (tSl (rSlL K) te (tPart tn) tNoPart) (dFrom de dn) := by
  subst hK
  refine ⟨pe_slice sl_list he.pe (po_some hn.pe) po_none, fun p S H σ env xp st ev xo Q post q k => he.se p S H σ env xp st ev xo _ _ q fun v d S1 H1 ⟨ds, ed, q1⟩ g1 r1 => ?_⟩
  subst ed
  refine hn.se p S1 H1 σ env xp g1.st (ev.mono g1) (xo.mono g1) _ _ q1 fun u m S2 H2 ⟨j, em, q2⟩ g2 r2 => ?_
  subst em
  obtain rfl : u = V.int j := r2
  have r3 := R.mono g2.ex _ _ r1
  unfold DL.R at r3
  obtain ⟨a, ys, rfl, h1, h2⟩ := r3
  refine ⟨(j : Int), rfl, a, ys, rfl, SqL.of (g2.st.ex _ _ h1), fun l hl => ?_⟩
  have hc : cutV ys (some (j : Int)) none = ys.drop j := by
    unfold cutV
    rw [HT.sIx_none, HT.sIx_nat]
    by_cases hj : j ≤ ys.length
    · rw [Nat.min_eq_left hj]
      exact List.take_of_length_le (by rw [List.length_drop]; omega)
    · rw [Nat.min_eq_right (by omega), Nat.sub_self, List.take_zero, List.drop_eq_nil_of_le (by omega)]
  rw [hc]
  exact newL (g1.trans g2) (RA.drop j h2) q2 hl k
end
end DL

set_option Elab.async false
set_option linter.all false
set_option maxRecDepth 100000
set_option maxHeartbeats 1000000
/-! x = [.. for ..] -/
namespace DL
open PySem L2
section
variable {X : Cx} {W : Wc} {E : XK} {pos spos py : Pos} {y : Str}
theorem pds_setLc (i : Nat) {elt tg iter : Expr} {ifs : List Expr} {scope : Scope} {own : List (Str × Nat)} {wi : TI} {g : TG} {tt : TT} {te : TE} {di : DA} {dg : DG} {dt : DT} {de : DE} {vs : List Nat} (hc : X.calm = true) (hN : X.N.Nodup) (hi : PDI X W E tg iter wi di) (ok : BlkOk X.N X.env.scope scope own)
    (hg : ∀ (s : Shared) (H : Hp) (C : Addr) (cl : List (Str × Addr)) (fp : List Addr), PDG (X.blk s H scope (compEnvC scope cl C X.env) fp) W tg g dg vs) (ht : ∀ (s : Shared) (H : Hp) (C : Addr) (cl : List (Str × Addr)) (fp : List Addr), PDTs (X.blk s H scope (compEnvC scope cl C X.env) fp) W E0 ifs tt dt)
    (he : ∀ (s : Shared) (H : Hp) (C : Addr) (cl : List (Str × Addr)) (fp : List Addr), PD (X.blk s H scope (compEnvC scope cl C X.env) fp) W E0 elt te de) (hv : ∀ i ∈ vs, i ∈ own.map (·.2) := by decide) (hs : ∀ x, foldedSetIterable iter X.env x = pure x := by intro _; rfl) (s0 : Shared)
    (hy : X.N[i]? = some y := by rfl) (hyl : X.env.scope.names.lookup y = some .local := by rfl) (hsw : swapsWith (.ListComp elt [⟨tg, iter, ifs, 0⟩] scope pos) (some (.Name y py)) spos.line X.env = pure true := by rfl) :
    PDS X W E (.Assign [.Name y py] (.ListComp elt [⟨tg, iter, ifs, 0⟩] scope pos) spos) (tAsg (tLc wi g tt te (own.map (·.2))) (gName i)) (dAsg (dLst (dLc di dg dt de (own.map (·.2)))) (dgName i)) :=
  ⟨ps_setLc hc hN hy hyl hsw hi.pe ok (fun s H C cl fp => (hg s H C cl fp).pe) (fun s H C cl fp => (ht s H C cl fp).pe) (fun s H C cl fp => (he s H C cl fp).pe) hs,
    ss_asg (PDN.pd (pdn_lc (pos := pos) hc hN hi ok hg ht he hv hs s0)).se (sg_name i)⟩
end
end DL

set_option Elab.async false
set_option linter.all false
set_option maxRecDepth 100000
set_option maxHeartbeats 1000000
/-! what the ends of laws with classes use: facts of classes from the written part -/
namespace DL
open PySem L2 DX PyProof.Rows
theorem val_mk {prog : Program} {K : PySem.W.Frag} {C f1 cc cda B : Addr} {nm q name qual msg : Str} {N : Addr} {bs : List Value} {sn : List Str} {sub : List Value} {ab : Bool} {col : Option Bool} {dd : Option Addr} {m0 m1 m2 m3 m5 : Option Value} {n : Nat} {p0 p1 p2 p3 p4 p5 q1 q2 q3 q4 r1 r2 : Pos}
    {oc ccl cl kV doc pm ct : Value} {od cdd cld an : Option Addr} {osl ccs csl : Array (Option Value)} {vs : Array Value} {file : Str} {tf : Tok}
    (xL : K.lookup C = some (excClassObj nm q C N bs [.ref B, .type "ValueError", .type "Exception", .type "BaseException", .type "object"] true sn sub ab col dd m0 m1 m2 m3 m5 "ValueError.__new__"))
    (sa : PySem.W.findIn K (.ref C) "__setattr__" = some (some (.builtin "object.__setattr__"))) (nv : PySem.W.findIn K (.ref C) "value" = some none)
    (iC : PySem.W.findIn K (.ref C) "__init__" = some (some (.ref f1))) (tI : PySem.W.typeIn K (.ref f1) = some (.type "function"))
    (l1 : K.lookup f1 = some ⟨oc, od, .func (PySem.W.fnX name qual { posonlyargs := [], args := [{ arg := "self", annotation := none, pos := r1 }, { arg := "value", annotation := none, pos := r2 }], vararg := none, kwonlyargs := [], kw_defaults := [], kwarg := none, defaults := [] }
      (inB "value" "value" msg n p0 p1 p2 p3 p4 p5 q1 q2 q3 q4)
      { kind := .function, names := [("self", .local), ("value", .local), ("__class__", .free), ("super", .globalImplicit)], isGenerator := false, isCoroutine := false, more := [] } [("__class__", cc)] .none kV doc pm an (.ref cda) ct), osl⟩)
    (c1 : PySem.W.codeIn K (.ref cda) qual = true) (lc : K.lookup cda = some ⟨ccl, cdd, .fields vs, ccs⟩) (hp : (p2.endLine == p4.line) = true) (hv : vs[2]? = some (.str file tf)) (hf : ((prog.main.file : Str) == file) = true)
    (lcc : K.lookup cc = some ⟨cl, cld, .cell (some (.ref C)), csl⟩)
    (kC : PySem.W.keepIn K (.ref C) = true) (eC : PySem.W.subIn K (.ref C) (.type "BaseException") = some true) (tC : PySem.W.typeIn K (.ref C) = some (.type "type"))
    (sup : PySem.W.ks_superIn K C C "__init__" = some (some (.builtin "ValueError.__init__"))) (sb : PySem.W.subIn K (.ref C) (.type "ValueError") = some true) (any : PySem.W.nsIn K cStatics "thirdparty.any" = some none) (self : PySem.W.mroIn K C (.ref C) = some true)
    (top : (prog.main.scope.names.lookup ("super" : Str)).isSome = false) :
    ValCls prog K C f1 "value" "value" (PySem.W.fnX name qual { posonlyargs := [], args := [{ arg := "self", annotation := none, pos := r1 }, { arg := "value", annotation := none, pos := r2 }], vararg := none, kwonlyargs := [], kw_defaults := [], kwarg := none, defaults := [] }
      (inB "value" "value" msg n p0 p1 p2 p3 p4 p5 q1 q2 q3 q4)
      { kind := .function, names := [("self", .local), ("value", .local), ("__class__", .free), ("super", .globalImplicit)], isGenerator := false, isCoroutine := false, more := [] } [("__class__", cc)] .none kV doc pm an (.ref cda) ct) := by
  have hbm : PySem.HandSPX.refsVE [.ref B, .type "ValueError", .type "Exception", .type "BaseException", .type "object"] = true := by
    show PySem.HandSPX.refsVE [.type "ValueError", .type "Exception", .type "BaseException", .type "object"] = true
    decide +kernel
  exact ⟨⟨⟨nm, q, N, bs, _, sn, sub, ab, col, dd, m0, m1, m2, m3, m5, xL, hbm⟩, sa, eC, tC, kC⟩, nv, iC, tI,
    ⟨F.excBase_ValueError, PySem.W.kxs_ValueError, ⟨oc, od, osl, l1⟩, ⟨name, qual, msg, n, p0, p1, p2, p3, p4, p5, q1, q2, q3, q4, r1, r2, .none, kV, doc, pm, ct, an, cc, cda, rfl, hp, c1, ⟨ccl, cdd, vs, ccs, file, tf, lc, hv, hf⟩, ⟨cl, cld, csl, lcc⟩⟩,
      ⟨by decide, by decide, by decide, by decide⟩, sup, sb, any, self, top, ⟨nm, q, N, bs, _, true, sn, sub, ab, col, dd, m0, m1, m2, m3, m5, xL, fun Y => PySem.HandSPX.refsVE_contains Y _ hbm⟩⟩,
    fun s us hK hl => match us, hl with | [_, _], _ => .of_eq (by first | rfl | kernel_rfl)⟩

/-- the classes by number, as a list of addresses -/
def Mof (l : List Addr) : MM := ⟨fun n => l[n]?, none, false⟩
def MofT (P : Addr) (l : List Addr) : MM := ⟨fun n => l[n]?, some P, false⟩
def MofP (l : List Addr) : MM := ⟨fun n => l[n]?, none, true⟩
/-- an __init__ that has defaults, all its parameters given -/
theorem binds_full {K : PySem.W.Frag} {x qual : Str} {pp : Arguments} {bb : List Stmt} {ss : Scope} {kV doc pm cdv ct : Value} {an : Option Addr} {T : Addr} {oT : Obj} {its : Array Value} {n : Nat} {ps : List Str} (lT : K.lookup T = some oT) (oD : oT.data = .seq its n)
    (h : ∀ us : List Value, us.length = ps.length → ∃ k, bindArgs (PySem.W.fnOf x qual pp bb ss (.ref T) kV doc pm an cdv ct) ⟨us, []⟩ = seqItems? (.ref T) >>= k ∧ k (some its) = pure (ps.zip us)) : Binds K (PySem.W.fnOf x qual pp bb ss (.ref T) kV doc pm an cdv ct) ps [] := fun s us X hl => by
  rw [List.append_nil] at hl ⊢
  obtain ⟨k, e1, e2⟩ := h us hl
  refine BindsTo.of_looks fun M => ?_
  rw [e1]
  exact looks_items X lT oD (.of_pure e2)
section
variable {X : Cx} {W : Wc} {E : XK} {e : Expr} {te : TE} {de : DE} {pos pos' : Pos} {j : Nat}
theorem pdt_isN (h : PD X W E e te de) : PDT X W E (.Compare e [.Is] [.Constant .none j pos'] pos) (tB (tIsN te)) (dTest (dIsN de)) := ⟨pt_cmp (pc_isN h.pe), st_test (se_isN h.se)⟩
theorem pdt_notN (h : PD X W E e te de) : PDT X W E (.Compare e [.IsNot] [.Constant .none j pos'] pos) (tB (tNotN te)) (dTest (dNotN de)) := ⟨pt_cmp (pc_notN h.pe), st_test (se_notN h.se)⟩
end
end DL

set_option Elab.async false
set_option linter.all false
set_option maxRecDepth 100000
set_option maxHeartbeats 1000000
/-! mathematics of readings: equations -/
namespace DL
open PySem L2
theorem dcomp_map_E {one : D → (Option D → Prop) → Prop} {g : D → D} : ∀ {ds : List D} {k : List D → Prop}, (∀ d ∈ ds, ∀ k, one d k = k (some (g d))) → dcomp one ds k = k (ds.map g)
  | [], k, _ => rfl
  | d :: ds, k, h => by
    unfold dcomp
    rw [h d (by simp)]
    simp only [List.map_cons]
    rw [dcomp_map_E fun d hd => h d (by simp [hd])]
theorem dcomp_filter_E {one : D → (Option D → Prop) → Prop} {f : D → Bool} {g : D → D} : ∀ {ds : List D} {k : List D → Prop}, (∀ d ∈ ds, ∀ k, one d k = k (if f d then some (g d) else none)) → dcomp one ds k = k ((ds.filter f).map g)
  | [], k, _ => rfl
  | d :: ds, k, h => by
    unfold dcomp
    rw [h d (by simp)]
    cases e : f d with
    | true => simp only [e, List.filter_cons_of_pos, List.map_cons, if_true]; rw [dcomp_filter_E fun d hd => h d (by simp [hd])]
    | false => simp only [e, List.filter_cons_of_neg, Bool.false_eq_true, not_false_eq_true, if_false]; rw [dcomp_filter_E fun d hd => h d (by simp [hd])]
theorem dcomp_any_E {one : D → (Option D → Prop) → Prop} {P : D → Prop} : ∀ {ds : List D} {k : List D → Prop}, (∀ d ∈ ds, ∀ k : Option D → Prop, (∀ e, P e → k (some e)) → one d k) → (∀ es, es.length = ds.length → (∀ e ∈ es, P e) → k es) → dcomp one ds k := dcomp_any
theorem ite_E {A B : Prop} {b : Bool} (hT : b = true → A) (hF : b = false → B) : if b = true then A else B := by
  cases b
  · exact iteF (hF rfl)
  · exact iteT (hT rfl)
/-- a draw -/
theorem draw_E {n : Int} {xp : XP} {post : D → Prop} (h1 : 0 < n) (h2 : n ≤ 100000) : fDraw [.tok, .int n] xp post = ∀ r, 0 ≤ r → r < n → post (.int r) := by
  have h3 : n.natAbs.log2 < 9000 := by
    have h1 : n.natAbs ≤ 100000 := by omega
    have h2 : n.natAbs.log2 ≤ n.natAbs := Nat.log2_le_self _
    have h3 : n.natAbs < 2 ^ 17 := by omega
    have h4 := (Nat.log2_lt (by omega : n.natAbs ≠ 0)).mpr h3
    omega
  refine propext ⟨fun ⟨m, e, _, _, h⟩ => ?_, fun h => ⟨n, rfl, h1, h3, h⟩⟩
  cases e
  exact h
theorem atI_nat {α : Type} {xs : List α} {k : Nat} (h : k < xs.length) : atI xs (k : Int) = some xs[k] := by
  unfold atI ixN
  rw [if_pos (by omega), if_pos (by omega)]
  simp [h]
theorem atI_mem' {α : Type} {xs : List α} {r : Int} (h0 : 0 ≤ r) (h1 : r < (xs.length : Nat)) : ∃ d, d ∈ xs ∧ atI xs r = some d := by
  have hl : r.toNat < xs.length := by omega
  refine ⟨xs[r.toNat], List.getElem_mem hl, ?_⟩
  unfold atI ixN
  rw [if_pos h0, if_pos h1]
  simp [hl]

/-! equality -/
def eqA : List D → List D → Bool
  | [], [] => true
  | x :: xs, y :: ys => eqD x y && eqA xs ys
  | _, _ => false
theorem eqA_E : ∀ xs ys : List D, PyData.eqvAll (toPyA xs) (toPyA ys) = eqA xs ys
  | [], [] => rfl
  | [], _ :: _ => rfl
  | _ :: _, [] => rfl
  | x :: xs, y :: ys => by
    show (PyData.eqv (toPy x) (toPy y) && PyData.eqvAll (toPyA xs) (toPyA ys)) = _
    rw [eqA_E xs ys]
    rfl
@[simp] theorem eqD_int {i j : Int} : eqD (.int i) (.int j) = decide (i = j) := by simp [eqD, toPy, PyData.eqv]; rfl
@[simp] theorem eqD_str {i j : Str} : eqD (.str i) (.str j) = (i == j) := rfl
@[simp] theorem eqD_bl {i j : Bool} : eqD (.bl i) (.bl j) = (i == j) := rfl
@[simp] theorem eqD_lst {xs ys : List D} : eqD (.lst xs) (.lst ys) = eqA xs ys := eqA_E xs ys
@[simp] theorem eqD_tup {xs ys : List D} : eqD (.tup xs) (.tup ys) = eqA xs ys := eqA_E xs ys
@[simp] theorem eqD_nn : eqD .non .non = true := rfl
@[simp] theorem eqD_ni {i : Int} : eqD .non (.int i) = false := rfl
@[simp] theorem eqD_in {i : Int} : eqD (.int i) .non = false := rfl
@[simp] theorem eqD_ns {i : Str} : eqD .non (.str i) = false := rfl
@[simp] theorem eqD_sn {i : Str} : eqD (.str i) .non = false := rfl
@[simp] theorem eqD_lt {xs ys : List D} : eqD (.lst xs) (.tup ys) = false := rfl
@[simp] theorem eqD_tl {xs ys : List D} : eqD (.tup xs) (.lst ys) = false := rfl
@[simp] theorem eqD_nt {xs : List D} : eqD .non (.tup xs) = false := rfl
@[simp] theorem eqD_tn {xs : List D} : eqD (.tup xs) .non = false := rfl
@[simp] theorem eqA_nil : eqA [] [] = true := rfl
@[simp] theorem eqA_cons {x y : D} {xs ys : List D} : eqA (x :: xs) (y :: ys) = (eqD x y && eqA xs ys) := rfl
@[simp] theorem eqA_nc {y : D} {ys : List D} : eqA [] (y :: ys) = false := rfl
@[simp] theorem eqA_cn {y : D} {ys : List D} : eqA (y :: ys) [] = false := rfl
/-- what can be compared, nested at most n deep -/
def pyB (n : Nat) (d : D) : Bool := isPy d && PyData.canLay0 (toPy d) && decide ((toPy d).depth ≤ n)
theorem pyOk_B {d : D} : pyOk d ↔ pyB 64 d = true := by
  unfold pyOk pyB SeqAt.shaped
  simp [and_assoc]
theorem pyB_all (n : Nat) : ∀ ds : List D, (isPyA ds && PyData.canLayAll0 (toPyA ds) && decide (PyData.depthAll (toPyA ds) ≤ n)) = ds.all (pyB n)
  | [] => by simp [isPyA, toPyA, PyData.canLayAll0, PyData.depthAll]
  | d :: ds => by
    rw [List.all_cons, ← pyB_all n ds, Bool.eq_iff_iff]
    simp only [isPyA, toPyA, PyData.canLayAll0, PyData.depthAll, pyB, Bool.and_eq_true, decide_eq_true_eq]
    constructor
    · rintro ⟨⟨⟨a, b⟩, c, e⟩, f⟩
      exact ⟨⟨⟨a, c⟩, by omega⟩, ⟨b, e⟩, by omega⟩
    · rintro ⟨⟨⟨a, c⟩, f⟩, ⟨b, e⟩, g⟩
      exact ⟨⟨⟨a, b⟩, c, e⟩, by omega⟩
@[simp] theorem pyB_lst {n : Nat} {ds : List D} : pyB (n + 1) (.lst ds) = ds.all (pyB n) := by
  rw [← pyB_all n ds]
  simp [pyB, isPy, toPy, PyData.canLay0, PyData.depth]
@[simp] theorem pyB_tup {n : Nat} {ds : List D} : pyB (n + 1) (.tup ds) = ds.all (pyB n) := by
  rw [← pyB_all n ds]
  simp [pyB, isPy, toPy, PyData.canLay0, PyData.depth]
@[simp] theorem pyB_int {n : Nat} {i : Int} : pyB n (.int i) = true := by simp [pyB, isPy, toPy, PyData.canLay0, PyData.depth]
@[simp] theorem pyB_bl {n : Nat} {i : Bool} : pyB n (.bl i) = true := by simp [pyB, isPy, toPy, PyData.canLay0, PyData.depth]
@[simp] theorem pyB_non {n : Nat} : pyB n .non = true := by simp [pyB, isPy, toPy, PyData.canLay0, PyData.depth]
@[simp] theorem pyB_str {n : Nat} {x : Str} : pyB n (.str x) = PyData.strOk x := by simp [pyB, isPy, toPy, PyData.canLay0, PyData.depth]
theorem pyOk_lst {ds : List D} : pyOk (.lst ds) ↔ ds.all (pyB 63) = true := by rw [pyOk_B, pyB_lst]
theorem pyOk_tup {ds : List D} : pyOk (.tup ds) ↔ ds.all (pyB 63) = true := by rw [pyOk_B, pyB_tup]
@[simp] theorem pyOk_int {i : Int} : pyOk (.int i) := ⟨rfl, rfl⟩
@[simp] theorem pyOk_non : pyOk .non := ⟨rfl, rfl⟩
@[simp] theorem pyOk_bl {i : Bool} : pyOk (.bl i) := ⟨rfl, rfl⟩
theorem pyOk_str {x : Str} : pyOk (.str x) ↔ PyData.strOk x = true := by rw [pyOk_B, pyB_str]
/-- the field of what was caught -/
theorem exv_E {M : MM} {a C dx : Addr} {c i n : Nat} {fl : Str} {d : D} {xp : XP} {post : D → Prop} (hi : i < n) (hM : M.m c = some C) : dExV (WcOf M) a (.ref C) (some dx) c i fl ((unS n).set i (.ex a dx c [(fl, d)])) xp post = post d := by
  have e : ((unS n).set i (.ex a dx c [(fl, d)]))[i]? = some (.ex a dx c [(fl, d)]) := List.getElem?_set_self (by simpa [unS] using hi)
  refine propext ⟨fun ⟨dx', dfs, v, e1, e2, _, e4, k⟩ => ?_, fun k => ⟨dx, _, d, e, rfl, ⟨C, hM, rfl⟩, by simp [List.lookup], k⟩⟩
  rw [e] at e1
  cases e1
  simp [List.lookup] at e4
  rw [e4]
  exact k
theorem iteN {c A B : Prop} [Decidable c] (hc : ¬ c) (h : B) : if c then A else B := by rw [if_neg hc]; exact h
theorem iteY {c A B : Prop} [Decidable c] (hc : c) (h : A) : if c then A else B := by rw [if_pos hc]; exact h
end DL

set_option Elab.async false
set_option linter.all false
set_option maxRecDepth 100000
set_option maxHeartbeats 1000000
/-! == and != by an own __eq__ -/
namespace DL
open PySem PySem.W PySem.Calls PyProof.Rows L2
section
variable {K : Frag} {prog : Program} {w : World} {A : Around} {E : Value → Shared → Prop} {s : Shared} {h₀ : Heap} {L x C f : Addr} {m : Str → Option Value} {ox : Obj} {od : Option Obj} {b tb : Value}
theorem ifBound_slot {B : String} {name : Str} {id : String} {args : List Value} {Q : Option Value → Shared → Prop} (X : K.In s.heap) (I : InstAt s.heap x ox C od) (hs : findIn K (.ref C) name = some (some (.builtin id))) (S : Slot B name id)
    (h : wpAny (model prog w) A (call (.builtin id) (.ref x :: args)) (fun v => Q (some v)) E s) : wpAny (model prog w) A (callSpecialIfBound? (.ref x) name args) Q E s := by
  simp only [callSpecialIfBound?, bindSpecialIfBound?]
  refine wpAny_holding (wpAny_bind (wpAny_bind (wpAny_bind (I.type.here ((looks_findIn X hs).here ?_)))))
  simp only [S.bind]
  refine wpAny_bind (wpAny_askSetting (wpAny_ite ?_))
  have fin : wpAny (model prog w) A (call (.builtin id) ([.ref x] ++ args) >>= fun v => pure (some v)) Q E s := wpAny_bind (wpAny_mono h (fun v s' h' => wpAny_pure h') fun _ _ h' => h')
  split
  · exact wpAny_bind (wpAny_pure (wpAny_pure fin))
  · exact wpAny_tryCatch (wpAny_bind (wpAny_pure (wpAny_pure fin)))
theorem cmpNe_K {Q : Value → Shared → Prop} (hu : A.units + 1 < cLine) (F : Fr h₀ L s.heap m) (X₀ : K.In h₀) (I : InstAt s.heap x ox C od) (hb : Looks (model prog w) s.heap (typeOf b) tb) (hn : notFirst K C tb = true)
    (hs : findIn K (.ref C) "__eq__" = some (some (.ref f))) (hne : findIn K (.ref C) "__ne__" = some (some (.builtin "object.__ne__"))) (hob : subIn K (.ref C) (.type "object") = some true) (hf : isFn K (.ref f) = true)
    (h : wpAny (model prog w) A.in1 (call (.ref f) [.ref x, b]) (fun v s' => ∃ c, v = .bool c ∧ Q (.bool (!c)) s') E s) : wpAny (model prog w) A (richCompare .NotEq (.ref x) b) Q E s := by
  have X := X₀.keeps F.keep
  have inst : Looks (model prog w) s.heap (isInstance (.ref x) (.type "object")) true := I.type.andThen (looks_subIn X hob)
  have one : wpAny (model prog w) A (tryCompare (.ref x) "__ne__" b) (fun r s' => ∃ v, r = some v ∧ Q v s') E s := by
    unfold tryCompare
    refine wpAny_bind (ifBound_slot X I hne PySem.F.cmp_object.ne (wpAny_call (codeAny_call_builtin PySem.F.cmp_object.ne.plain PySem.F.cmpEntry_ne (check_slot PySem.F.cmpKind_ne PySem.F.cmpSplit_ne inst (PySem.F.cmpArgs_ne _ _) ?_))))
    unfold Builtin.«object.__ne__»
    repeat (first
      | with_reducible refine wpAny_cRoomFor (show A.in1.units < cLine from hu) ?_
      | (refine wpAny_bind (m := callSpecialIfBound? (.ref x) (Str.ofString "__eq__") [b]) (ifBound_K X I hs hf (wpAny_mono h (fun r s' hr => by
          obtain ⟨c, rfl, hq⟩ := hr
          repeat (first | exact ⟨_, rfl, hq⟩ | exact wpAny_pure ⟨_, rfl, hq⟩ | (refine wpAny_bind (m := truthy (.bool _)) (wpAny_truthy_bool ?_)) | wp_step)) fun _ _ e => e)))
      | wp_step)
  unfold richCompare
  simp only [oneThing_ref]
  refine wpAny_holding (wpAny_bind (wpAny_cRoomFor (Nat.lt_of_succ_lt hu) ?_))
  rw [cmpInfo_NotEq]
  dsimp only
  refine wpAny_bind (I.type.here (wpAny_bind (hb.here ?_)))
  split
  · rename_i q
    have e : subIn K tb (.ref C) = some false := by
      rcases Bool.or_eq_true_iff.mp hn with e | e
      · rw [beq_iff_eq.mp e] at q; simp at q
      · exact beq_iff_eq.mp e
    refine wpAny_bind ((looks_subIn X e).here ?_)
    simp only [Bool.false_eq_true, if_false]
    refine wpAny_bind (wpAny_mono one (fun r s' z => ?_) fun _ _ e => e)
    obtain ⟨v, rfl, hq⟩ := z
    exact wpAny_pure hq
  · refine wpAny_bind (wpAny_pure ?_)
    simp only [Bool.false_eq_true, if_false]
    refine wpAny_bind (wpAny_mono one (fun r s' z => ?_) fun _ _ e => e)
    obtain ⟨v, rfl, hq⟩ := z
    exact wpAny_pure hq
end

/-- what the written part says of a class with its own ==, and no own != -/
structure OwnEq (K : Frag) (C f : Addr) : Prop where
  hs : findIn K (.ref C) "__eq__" = some (some (.ref f))
  hf : isFn K (.ref f) = true
  ne : findIn K (.ref C) "__ne__" = some (some (.builtin "object.__ne__"))
  ob : subIn K (.ref C) (.type "object") = some true
  rt : ∀ T ∈ ["NoneType", "bool", "int", "str", "list", "tuple", "dict"], subIn K (.type T) (.ref C) = some false
/-- the kind of the right operand -/
inductive KTy (K : Frag) (C : Addr) (H : Hp) : V → Prop
  | plain {v : V} (h : (tyV v).isSome = true) : KTy K C H v
  | lst {a : Addr} {xs : List V} (h : H a = some (.lst xs)) : KTy K C H (.ref a)
  | tup {a : Addr} {xs : List V} (h : SqT K H a xs) : KTy K C H (.ref a)
  | dct {a : Addr} {kvs : List (Key × V)} (h : Rd H a (.dK kvs)) : KTy K C H (.ref a)
  | ins {a dx : Addr} {fs : List (Str × V)} (h : H a = some (.ins C dx fs)) : KTy K C H (.ref a)
theorem tyV_mem {v : V} {T : String} (h : tyV v = some T) : T ∈ ["NoneType", "bool", "int", "str", "list", "tuple", "dict"] := by
  cases v <;> simp only [tyV, Option.some.injEq, reduceCtorEq] at h <;> subst h <;> simp
section
variable {X : Cx} {pins : List (Addr × Obj)} {σ : L2.St} {H : Hp} {s : Shared} {C f : Addr}
theorem KTy.looks {y : V} {u : Value} (O : OwnEq X.K C f) (I : Inv X pins σ H s) (ry : RelV y u) (h : KTy X.K C H y) : ∃ tb, Looks (model X.prog X.w) s.heap (typeOf u) tb ∧ notFirst X.K C tb = true := by
  have bt : ∀ T ∈ ["NoneType", "bool", "int", "str", "list", "tuple", "dict"], notFirst X.K C (.type T) = true := fun T hT => by
    unfold notFirst
    rw [O.rt T hT]
    simp
  cases h with
  | plain h =>
    obtain ⟨T, hT⟩ := Option.isSome_iff_exists.mp h
    exact ⟨.type T, Looks.of_pure (tyV_of hT ry), bt T (tyV_mem hT)⟩
  | @lst a xs h =>
    obtain rfl : u = Value.ref a := ry
    obtain ⟨z, its, k, r, e⟩ := I.hok a _ h
    exact ⟨.type "list", (Looks.ld e).andThen .now, bt _ (by simp)⟩
  | @tup a xs h =>
    obtain rfl : u = Value.ref a := ry
    obtain ⟨its, r, ⟨o, e, hc, _⟩, z⟩ := I.tuple h
    exact ⟨.type "tuple", hc ▸ (Looks.ld e).andThen .now, bt _ (by simp)⟩
  | @dct a kvs h =>
    obtain rfl : u = Value.ref a := ry
    obtain ⟨_, _, vs, _, o, es, ep, e, ⟨hc, _⟩, _⟩ := dk_rd I.hok h
    exact ⟨.type "dict", hc ▸ (Looks.ld e).andThen .now, bt _ (by simp)⟩
  | @ins a dx fs h =>
    obtain rfl : u = Value.ref a := ry
    obtain ⟨mA, J, _⟩ := ins_get I.hok h
    obtain ⟨od, J, _⟩ := J.look
    exact ⟨.ref C, J.type, by unfold notFirst; simp⟩
variable {k : Nat} {fd : FuncData} {ps : List Str} {sp : Sp} {E : XK}
def rOwnEq (K : Frag) (C : Addr) (sp : Sp) (E : XK) (neg : Bool) : R2 := fun x y H Q => ∃ a dx fs, x = .ref a ∧ H a = some (.ins C dx fs) ∧ KTy K C H y ∧ sp [x, y] H (fun v H' => ∃ b, v = .bl b ∧ Q (.bl (b != neg)) H') E
theorem op_ownEq {CX : CXT} (O : OwnEq X.K C f) (F : FnOk X.prog X.w X.K X.mg X.base CX k f fd ps sp) (hr : Room k X.A) (hb : Binds X.K fd ps []) (hx : Passes CX X E) : OpR X (compareOp .Eq) (rOwnEq X.K C sp E false) := by
  intro pins s σ H x y v u Q I rx ry ⟨a, dx, fs, ex, ea, ty, q2⟩
  subst ex
  obtain rfl : v = Value.ref a := rx
  obtain ⟨tb, lb, nf⟩ := ty.looks O I ry
  obtain ⟨mA, J, _⟩ := ins_get I.hok ea
  obtain ⟨od, J, _⟩ := J.look
  obtain ⟨m, fr⟩ := I.fr
  show wpAny (model X.prog X.w) X.A (richCompare .Eq (.ref a) u) (EP X pins σ Q) X.xe s
  refine cmp_K (op := .Eq) hr.units0 fr I.ok.mod.kin J lb nf O.hs O.hf ?_
  refine wpAny_mono (run_fn (us := [.ref a, u]) (vs := [.ref a, y]) F hr hb .nil hx I (.cons (show RelV (.ref a) (.ref a) from rfl) (.cons ry .nil)) q2) (fun v' s' hv => ?_) fun _ _ z => z
  obtain ⟨v0, H3, I3, rv, b, e, q3⟩ := hv
  subst e
  refine notNI rv ⟨.bl b, H3, I3, rv, ?_⟩
  simpa using q3
theorem op_ownNe {CX : CXT} (O : OwnEq X.K C f) (F : FnOk X.prog X.w X.K X.mg X.base CX k f fd ps sp) (hr : Room (k + 1) X.A) (hb : Binds X.K fd ps []) (hx : Passes CX X E) : OpR X (compareOp .NotEq) (rOwnEq X.K C sp E true) := by
  intro pins s σ H x y v u Q I rx ry ⟨a, dx, fs, ex, ea, ty, q2⟩
  subst ex
  obtain rfl : v = Value.ref a := rx
  obtain ⟨tb, lb, nf⟩ := ty.looks O I ry
  obtain ⟨mA, J, _⟩ := ins_get I.hok ea
  obtain ⟨od, J, _⟩ := J.look
  obtain ⟨m, fr⟩ := I.fr
  have hl := F.len _ _ _ _ q2
  show wpAny (model X.prog X.w) X.A (richCompare .NotEq (.ref a) u) (EP X pins σ Q) X.xe s
  refine cmpNe_K (by have := hr.un; omega) fr I.ok.mod.kin J lb nf O.hs O.ne O.ob O.hf ?_
  have e0 : Env0 X.prog X.w X.K X.mg X.base X.A.in1 X.stack s H := by
    have e := I.env0
    exact ⟨e.frames, e.mod, e.bs, e.bsz, e.funs, e.frf, e.hok, e.bare⟩
  have r2 : Vals [V.ref a, y] [Value.ref a, u] := .cons rfl (.cons ry .nil)
  refine wpAny_call (codeAny_mono (F.run X.A.in1 X.stack s H ⟨[.ref a, u], []⟩ [.ref a, u] [.ref a, y] _ E hr.in1 e0 (by
    have := hb s [.ref a, u] I.kIn (by simpa using hl)
    simpa using this) r2 q2) fun r s' hq => ?_)
  cases r with
  | error e => exact hx pins σ H s e s' I hq
  | ok fl =>
    cases fl with
    | ret w =>
      obtain ⟨z, H', I', rz, b, ez, q3⟩ := I.after hq
      subst ez
      obtain rfl : w = Value.bool b := rz
      exact ⟨b, rfl, .bl (!b), H', I', rfl, by simpa using q3⟩
    | next => exact False.elim hq
    | brk => exact False.elim hq
    | cont => exact False.elim hq
end
/-! ### by data -/
def kindD (c : Nat) : D → Bool
  | .non => true
  | .bl _ => true
  | .int _ => true
  | .str _ => true
  | .lst _ => true
  | .tup _ => true
  | .ety => true
  | .dct _ => true
  | .obj c' _ => c' == c
  | .tok => false
def bOwnEq (c : Nat) (f : DF) (neg : Bool) : D → D → (D → Prop) → Prop := fun d e post => (∃ fs, d = .obj c fs) ∧ kindD c e = true ∧ f [d, e] noX fun r => ∃ b, r = .bl b ∧ post (.bl (b != neg))
theorem kty_of {K : Frag} {W : Wc} {C p : Addr} {S H : Hp} {c : Nat} {v : V} {d : D} (hM : W.M c = some C) (ex : Ex S H) (r : DL.R K W p S v d) (h : kindD c d = true) : KTy K C H v := by
  cases d <;> simp only [kindD, Bool.false_eq_true] at h <;> unfold DL.R at r
  case non => subst r; exact .plain rfl
  case bl => subst r; exact .plain rfl
  case int => subst r; exact .plain rfl
  case str => subst r; exact .plain rfl
  case lst => obtain ⟨a, xs, rfl, e, _⟩ := r; exact .lst (ex _ _ e)
  case tup => obtain ⟨a, xs, rfl, e, _⟩ := r; exact .tup (ex.t e)
  case ety => obtain ⟨a, rfl, e⟩ := r; exact .dct (ex.rd e.rd)
  case dct => obtain ⟨_, a, _, rfl, e, _⟩ := r; exact .dct (ex.rd e.rd)
  case obj c' fs =>
    obtain ⟨a, C', dx, gs, rfl, e, e2, _⟩ := r
    obtain rfl : c' = c := beq_iff_eq.mp h
    obtain rfl : C' = C := Option.some.inj (e2.symm.trans hM)
    exact .ins (ex _ _ e)
theorem rb_ownEq {K : Frag} {W : Wc} {C : Addr} {c : Nat} {f : DF} {neg : Bool} (hM : W.M c = some C) : RB K W (rOwnEq K C (spD K W f) (fun _ _ _ => False) neg) (bOwnEq c f neg) := fun p S H x y d e Q post st r1 r2 q k => by
  obtain ⟨⟨fs, rfl⟩, hk, q⟩ := q
  have r3 := r1
  unfold DL.R at r3
  obtain ⟨a, C', dx, gs, rfl, ea, hC, rf⟩ := r3
  obtain rfl : C' = C := Option.some.inj (hC.symm.trans hM)
  refine ⟨a, dx, gs, rfl, st.ex _ _ ea, kty_of hM st.ex r2 hk, p, S, _, _, noX, st, RA.cons r1 (RA.cons r2 RA.nil), q, fun v d S3 H3 ⟨b, hb, q4⟩ g3 r4 => ?_, fun _ _ _ _ _ _ _ h => h.elim⟩
  subst hb
  exact ⟨b, r4, k _ _ S3 H3 q4 g3 rfl⟩
variable (P : Program) (w : World) (K : Frag) (W : Wc) (mg : Str → Option Value) (base : Heap)
structure EqOk (k c : Nat) (df : DF) : Prop where
  ex : ∃ (C f : Addr) (fd : FuncData) (ps : List Str), W.M c = some C ∧ OwnEq K C f ∧ FnOk P w K mg base (L2.CX P w) k f fd ps (spD K W df) ∧ Binds K fd ps []
variable {P w K W mg base}
/-- the comparison, the class by name -/
def rOwnEqC (K : Frag) (W : Wc) (c : Nat) (f : DF) (neg : Bool) : R2 := fun x y H Q => ∃ C, W.M c = some C ∧ rOwnEq K C (spD K W f) (fun _ _ _ => False) neg x y H Q
theorem rb_ownEqC {K : Frag} {W : Wc} {c : Nat} {f : DF} {neg : Bool} (hC : ∃ C, W.M c = some C) : RB K W (rOwnEqC K W c f neg) (bOwnEq c f neg) := fun p S H x y d e Q post st r1 r2 q k => by
  obtain ⟨C, hM⟩ := hC
  exact ⟨C, hM, rb_ownEq hM p S H x y d e Q post st r1 r2 q k⟩
theorem op_eqD {X : Cx} {j k c : Nat} {df : DF} (F : EqOk P w K W mg base j c df) (hX : X.prog = P ∧ X.w = w ∧ X.K = K ∧ X.mg = mg ∧ X.base = base := by exact ⟨rfl, rfl, rfl, rfl, rfl⟩) (hr : Room k X.A := by assumption) (hj : j ≤ k := by decide) : OpR X (compareOp .Eq) (rOwnEqC K W c df false) := by
  obtain ⟨rfl, rfl, rfl, rfl, rfl⟩ := hX
  obtain ⟨C, f, fd, ps, hM, O, F, hb⟩ := F.ex
  intro pins s σ H x y v u Q I rx ry ⟨C', hM', q⟩
  obtain rfl : C' = C := Option.some.inj (hM'.symm.trans hM)
  exact op_ownEq O F (hr.mono hj) hb passes_no pins s σ H x y v u Q I rx ry q
theorem op_neD {X : Cx} {j k c : Nat} {df : DF} (F : EqOk P w K W mg base j c df) (hX : X.prog = P ∧ X.w = w ∧ X.K = K ∧ X.mg = mg ∧ X.base = base := by exact ⟨rfl, rfl, rfl, rfl, rfl⟩) (hr : Room k X.A := by assumption) (hj : j + 1 ≤ k := by decide) : OpR X (compareOp .NotEq) (rOwnEqC K W c df true) := by
  obtain ⟨rfl, rfl, rfl, rfl, rfl⟩ := hX
  obtain ⟨C, f, fd, ps, hM, O, F, hb⟩ := F.ex
  intro pins s σ H x y v u Q I rx ry ⟨C', hM', q⟩
  obtain rfl : C' = C := Option.some.inj (hM'.symm.trans hM)
  exact op_ownNe O F (hr.mono hj) hb passes_no pins s σ H x y v u Q I rx ry q
end DL

set_option Elab.async false
set_option linter.all false
set_option maxRecDepth 100000
set_option maxHeartbeats 1000000
/-! defs that ask what is under way (a repr of lists and tuples): promises for calls outside of every repr -/
namespace DL
open PySem PySem.W PySem.Calls PyProof.Rows L2

/-- a def's promise where no repr is under way -/
structure FnG (P : Program) (w : World) (K : Frag) (mg : Str → Option Value) (base : Heap) (CX : CXT) (k : Nat) (f : Addr) (fd : FuncData) (ps : List Str) (sp : Sp) : Prop where
  ln : ∀ vs H Q E, sp vs H Q E → vs.length = ps.length
  go : ∀ (A : Around), A.guards = some [] → ∀ (outer : List PySem.Env) (s : Shared) (H : Hp) (args : Args) (us : List Value) (vs : List V) (Q : VK) (E : XK), Room k A → Env0 P w K mg base A outer s H →
    BindsTo s fd args (ps.zip us) → Vals vs us → sp vs H Q E → codeAny (model P w) A (.call (.ref f) args) (CR CX outer P w H s Q E) s
section
variable {P : Program} {w : World} {K : Frag} {mg : Str → Option Value} {base : Heap} {CX : CXT} {k : Nat} {f : Addr} {ps N : List Str} {sp : Sp}
theorem FnG.up {j : Nat} {fd : FuncData} (F : FnG P w K mg base CX j f fd ps sp) (h : j ≤ k) : FnG P w K mg base CX k f fd ps sp :=
  ⟨F.ln, fun A g outer s H args us vs Q E r => F.go A g outer s H args us vs Q E (r.mono h)⟩
/-- the code object of a def -/
def IsCd (fd : FuncData) (x qual : Str) (st : Stmt) (cdv : Value) : Prop := ∃ kV doc pm an ct, fd = PySem.W.fnOf x qual (defArgs st) (defBody st) (defScope st) .none kV doc pm an cdv ct
/-- from its body, at each place outside of every repr -/
theorem fnG_of {x qual : Str} {st : Stmt} {fd : FuncData} (F : Fun K x qual st f fd) (Sc : FnScope N ps (defScope st)) (hl : ∀ vs H Q E, sp vs H Q E → vs.length = ps.length)
    (hb : ∀ (cdv : Value), IsCd fd x qual st cdv → ∀ (A : Around), A.guards = some [] → ∀ (outer : List PySem.Env) (s : Shared) (H : Hp) (vs : List V) (Q : VK) (E : XK), Room k (A.deeper (envOfC qual (defScope st) s.heap.objs.size f cdv)) → sp vs H Q E →
      ∃ t, PSs (cxOf CX P w K mg base N qual (defScope st) f cdv A outer s H E) (defBody st) t ∧ t { nx := fun _ H' => Q .non H', rt := Q } (L2.start N vs) H) : FnG P w K mg base CX (k + 1) f fd ps sp := by
  obtain ⟨oc, od, kV, doc, pm, an, cdv, ct, osl, rfl, lk, hcd⟩ := F.ex
  refine ⟨hl, fun A g outer s H args us vs Q E r e0 bt rv q => ?_⟩
  refine StX.run_bnd lk hcd Sc r e0 (G := fun ws H2 => ws = vs ∧ H2 = H) (fun A' Ex Q' go => ?_) fun s2 H2 ws ⟨e1, e2⟩ r2 => ?_
  · exact bt _ _ _ _ (go s H vs us e0 (Un.refl) rfl (fun _ _ z => z) rv (hl _ _ _ _ q) ⟨rfl, rfl⟩)
  · subst e1 e2
    exact hb cdv ⟨_, _, _, _, _, rfl⟩ A g outer s2 _ _ Q E r2 q
end
section
variable {X : Cx} {CX : CXT} {k : Nat} {f : Addr} {fd : FuncData} {ps : List Str} {sp : Sp} {x : Str} {p pos : Pos} {e : Expr} {es : List Expr} {t : TA} {E : XK}
theorem pe_callG (F : FnG X.prog X.w X.K X.mg X.base CX k f fd ps sp) (hA : X.A.guards = some []) (hr : Room k X.A) (hg : Gl X x) (hm : X.mg x = some (.ref f)) (hk : keepIn X.K (.ref f) = true) (hb : Binds X.K fd ps []) (hx : Passes CX X E) (ha : PA X (e :: es) t)
    (hdb : (x == ("__debug__" : Str)) = false := by decide) (he : starEach (e :: es) X.env = (false, eval e X.env) :: starEach es X.env := by rfl) (hpl : (backTo pos (starEach es X.env)).any (·.1) = false := by rfl) :
    PE X (.Call (.Name x p) (e :: es) [] pos) (tCall sp [] E t) := ⟨fun pins s σ H Q I h => by
  refine wpAny_Call_Name_kw (ld_glob I hg hm (callWith_K (h₀ := X.base) I.ok.mod.kin hk (thn (ha.run pos pins s σ H _ I h) fun us s1 ⟨vs, H1, I1, r, q⟩ => ⟨I1.kIn, ?_⟩) he hpl) hdb)
  have q : sp (vs ++ []) H1 Q E := q
  rw [List.append_nil] at q
  have hl : us.length = ps.length := r.length.symm.trans (F.ln _ _ _ _ q)
  have bt := hb s1 us I1.kIn (by simpa using hl)
  rw [List.append_nil] at bt
  refine wpAny_call (codeAny_mono (F.go X.A hA X.stack s1 H1 ⟨us, []⟩ us vs Q E hr I1.env0 bt r q) fun r2 s2 z => ?_)
  match r2, z with
  | .error e, z => exact hx pins σ H1 s1 e s2 I1 z
  | .ok (.ret u), z => exact I1.after z
  | .ok .next, z => exact z.elim
  | .ok .brk, z => exact z.elim
  | .ok .cont, z => exact z.elim⟩
end

/-! ### the law itself -/
section
variable {P : Program} {w : World} {K : Frag} {mg mb : Str → Option Value} {fa a : Addr} {s₁ : Shared} {vs : List Value} {ns : List Int}
/-- what is tracked where the law is called: the script, unless it is one of the module's own objects -/
def scriptH (K : Frag) (a : Addr) (vs : List Value) (ns : List Int) : Hp := fun b => if b = a ∧ K.lookup a = none then some (.frz { cls := .type "list", data := .seq vs.toArray } (.lst (ns.map V.int))) else none
theorem scriptH_at {b : Addr} (h : scriptH K a vs ns b ≠ none) : b = a ∧ K.lookup a = none := by
  unfold scriptH at h
  split at h
  · assumption
  · exact absurd rfl h
theorem scriptH_eq {b : Addr} {o : HO} (h : scriptH K a vs ns b = some o) : (b = a ∧ K.lookup a = none) ∧ o = .frz { cls := .type "list", data := .seq vs.toArray } (.lst (ns.map V.int)) := by
  have z := scriptH_at (K := K) (a := a) (vs := vs) (ns := ns) (b := b) (by rw [h]; simp)
  unfold scriptH at h
  rw [if_pos z] at h
  exact ⟨z, (Option.some.inj h).symm⟩
/-- the law's def, called by the claim: from its run over the one heap that tells the script -/
theorem law_callG {k : Nat} (KX : K.In s₁.heap) (hns : s₁.heap.Ns mainGlobals mg) (hb : s₁.heap.Ns builtinsNs mb) (hbb : ∀ x : Str, x ≠ "__name__" → mb x = bootBuiltins x) (hlim : s₁.heap.NoLimit) (hg : s₁.gens = #[])
    (ha : s₁.heap.get? a = some { cls := .type "list", data := .seq vs.toArray }) (hi : IntsAre vs ns) (hl : ns.length ≤ sizeLine) (hr : Room k callerA)
    {fd : FuncData} (hbind : ∀ (s : Shared) (u : Value), BindsTo s fd ⟨[u], []⟩ [("script", u)]) {sp : Sp}
    (F : ∀ base : Heap, K.In base → base.Ns mainGlobals mg → FnG P w K mg base (L2.CX P w) k fa fd ["script"] sp)
    (hsp : ∀ H : Hp, SqL K H a (ns.map V.int) → sp [.ref a] H (fun v _ => v = .bl true) fun _ _ _ => False) :
    codeAny (model P w) callerA (.call (.ref fa) ⟨[.ref a], []⟩) (fun r s' => r = .ok (.ret (.bool true)) ∧ OldK s₁.heap s'.heap ∧ s'.os = s₁.os ∧ AllBare s'.gens) s₁ := by
  have rv := vals_ints hi
  generalize hT : scriptH K a vs ns = T
  have tA : ∀ {b : Addr}, T b ≠ none → b = a ∧ K.lookup a = none := fun {b} h => scriptH_at (K := K) (a := a) (vs := vs) (ns := ns) (b := b) (by rw [hT]; exact h)
  have tE : ∀ {b : Addr} {o : HO}, T b = some o → (b = a ∧ K.lookup a = none) ∧ o = .frz { cls := .type "list", data := .seq vs.toArray } (.lst (ns.map V.int)) := fun {b o} h => scriptH_eq (K := K) (a := a) (vs := vs) (ns := ns) (b := b) (by rw [hT]; exact h)
  have bare : ∀ {b : Addr} {o : Obj}, s₁.heap.get? b = some o → (b = a → K.lookup a = none → False) → (hidT s₁.heap T).get? b = some o := fun {b o} e n => hidT_get e (by
    cases z : T b with
    | none => rfl
    | some u =>
      obtain ⟨z1, z2⟩ := tA (b := b) (by rw [z]; simp)
      exact (n z1 z2).elim)
  have nsB : ∀ {b : Addr} {m : Str → Option Value}, s₁.heap.Ns b m → (hidT s₁.heap T).Ns b m := fun {b m} ⟨o, es, ep, e, d, r⟩ => ⟨o, es, ep, bare e (fun z _ => by
    subst z
    have e2 := Option.some.inj (ha.symm.trans e)
    subst e2
    exact nomatch d), d, r⟩
  have kB : K.In (hidT s₁.heap T) := fun b o e => bare (KX b o e) fun z z2 => by
    subst z
    rw [z2] at e
    exact nomatch e
  have hS : SqL K T a (ns.map V.int) := by
    cases hk : K.lookup a with
    | none => exact .inl (.inr ⟨_, by rw [← hT]; exact if_pos ⟨rfl, hk⟩⟩)
    | some o =>
      have e := Option.some.inj (ha.symm.trans (KX a o hk))
      subst e
      exact .inr ⟨_, vs.toArray, _, hk, rfl, rfl, rfl, by rw [List.size_toArray, hi.length]; exact hl, by simpa using rv⟩
  have e0 : Env0 P w K mg (hidT s₁.heap T) callerA [] s₁ T := ⟨rfl, ⟨kB, nsB hns, ⟨mb, nsB hb, hbb⟩, let ⟨mc, h1, h2⟩ := hlim; ⟨mc, nsB h1, h2⟩⟩, fun b o e => of_hidT e, Nat.le_of_eq (hidT_size _ _), trivial, (fun b q => nomatch q),
    (fun b u z => by
      obtain ⟨⟨z1, _⟩, z3⟩ := tE z
      subst z1 z3
      exact ⟨ha, by rw [List.length_map]; exact hl, vs, _, rv, ha⟩), .of_eq hg⟩
  refine codeAny_mono ((F _ kB (nsB hns)).go callerA rfl [] s₁ T ⟨[.ref a], []⟩ [.ref a] [.ref a] _ _ hr e0 (hbind s₁ (.ref a)) (.cons rfl .nil) (hsp T hS)) fun r s' h => ?_
  match r, h with
  | .error e, ⟨_, _, _, _, _, _, _, _, _, _, _, _, z⟩ => exact z.elim
  | .ok .next, h => exact h.elim
  | .ok .brk, h => exact h.elim
  | .ok .cont, h => exact h.elim
  | .ok (.ret u), ⟨v, H', os, br, un, ok', rr, q⟩ =>
    have q' : v = .bl true := q
    subst q'
    have ru : u = Value.bool true := rr
    subst ru
    refine ⟨rfl, OldK.of_keep fun b o e => ?_, os, br⟩
    cases z : T b with
    | none => exact un.keep b o e z (fun q => nomatch q) (fun q => nomatch q)
    | some u =>
      obtain ⟨⟨z1, _⟩, z3⟩ := tE z
      subst z1 z3
      have e2 := un.frzs _ _ _ z
      obtain ⟨e3, _⟩ := ok' _ _ e2
      rw [e3, ← ha, e]
end
end DL

set_option Elab.async false
set_option linter.all false
set_option maxRecDepth 100000
set_option maxHeartbeats 1000000
/-! repr of lists and tuples; defs by name outside of every repr -/
namespace DL
open PySem PySem.W PySem.Calls PyProof.Rows L2

/-- repr of a list or tuple of plain things -/
def rReprT (K : Frag) : List V → Hp → VK → Prop := fun xs H Q => ∃ (a : Addr) (d : PyData), xs = [.ref a] ∧ Dp K H (.ref a) d ∧ d.showable = true ∧ d.hasDict = false ∧ d.depth ≤ 64 ∧ d.shown.length ≤ sizeLine ∧ Q (.str d.shown) H
abbrev rReprG (K : Frag) : List V → Hp → VK → Prop := fun xs H Q => rReprP xs H Q ∨ rReprT K xs H Q
theorem cr_reprT (K : Frag) {X : Cx} (hA : X.A.guards = some []) (hu : X.A.units + 66 < cLine) (hK : X.K = K := by rfl) : CallR X (.builtin "repr") (rReprT K) := by
  subst hK
  intro pins s σ H xs us Q I rv ⟨a, d, ex, dp, h1, h2, h3, h4, q⟩
  subst ex
  obtain ⟨u, rfl, r⟩ := vals1 rv
  obtain rfl : u = Value.ref a := r
  obtain ⟨as, rd⟩ := Dp.reads I d (.ref a) (.ref a) dp rfl
  exact repr_of_reads' rd h1 (fun e => by rw [h2] at e; cases e) hA (by omega) (fun _ _ e => e) (fun h' u tk hk => ⟨.str d.shown, H, I.kept (t' := tk) hk, ⟨_, rfl⟩, q⟩) h4
theorem cr_reprG (K : Frag) {X : Cx} (hA : X.A.guards = some []) (hu : X.A.units + 66 < cLine) (hK : X.K = K := by rfl) : CallR X (.builtin "repr") (rReprG K) := CallR.or cr_reprP (cr_reprT K hA hu hK)
/-- what repr is asked of, and its text -/
def shB (d : D) : Bool := isPy d && (toPy d).showable && !(toPy d).hasDict && decide ((toPy d).depth ≤ 64) && decide ((toPy d).shown.length ≤ 100000)
def shD (d : D) : Str := (toPy d).shown
def bReprG : List D → (D → Prop) → Prop
  | [d], k => shB d = true ∧ k (.str (shD d))
  | _, _ => False
theorem rc_reprG {K : Frag} {W : Wc} : RCb K W (rReprG K) bReprG := fun p S H vs ds Q post st ra q k => by
  match ds, q with
  | [d], ⟨h, q⟩ =>
    obtain ⟨v, rfl, r⟩ := RA.one ra
    simp only [shB, Bool.and_eq_true, Bool.not_eq_true', decide_eq_true_eq] at h
    obtain ⟨⟨⟨⟨h1, h2⟩, h3⟩, h4⟩, h5⟩ := h
    have dp := R.dp st.ex d v h1 r
    have fin : Q (.str (shD d)) H := k _ _ S H q (Grow.refl st) rfl
    have sz : (toPy d).shown.length ≤ sizeLine := sz_of h5
    cases d with
    | non => exact .inl ⟨v, _, rfl, by unfold DL.R at r; subst r; rfl, fin⟩
    | bl b =>
      refine .inl ⟨v, _, rfl, ?_, fin⟩
      unfold DL.R at r
      subst r
      rfl
    | int i =>
      refine .inl ⟨v, _, rfl, ?_, fin⟩
      unfold DL.R at r
      subst r
      have e : i.natAbs.log2 < 1920 := by simpa [toPy, PyData.showable] using h2
      show (if i.natAbs.log2 < 1920 then some _ else none) = _
      rw [if_pos e]
      rfl
    | str x =>
      refine .inl ⟨v, _, rfl, ?_, fin⟩
      unfold DL.R at r
      subst r
      show (if (reprText x).length ≤ sizeLine then some _ else none) = _
      rw [if_pos (show (reprText x).length ≤ sizeLine from sz)]
      rfl
    | lst xs =>
      have r2 := r
      unfold DL.R at r2
      obtain ⟨a, ys, rfl, _⟩ := r2
      exact .inr ⟨a, _, rfl, dp, h2, h3, h4, sz, fin⟩
    | tup xs =>
      have r2 := r
      unfold DL.R at r2
      obtain ⟨a, ys, rfl, _⟩ := r2
      exact .inr ⟨a, _, rfl, dp, h2, h3, h4, sz, fin⟩
    | obj c fs => exact nomatch h1
    | tok => exact nomatch h1
    | ety => exact nomatch h1
    | dct _ => exact nomatch h1

/-! ### defs by name -/
structure DefG (P : Program) (w : World) (K : Frag) (W : Wc) (mg : Str → Option Value) (base : Heap) (k : Nat) (nm : Str) (ps : List Str) (df : DF) : Prop where
  ex : ∃ (f : Addr) (fd : FuncData), FnG P w K mg base (L2.CX P w) k f fd ps (spD K W df) ∧ mg nm = some (.ref f) ∧ keepIn K (.ref f) = true ∧ L2.Binds K fd ps []
section
variable {P : Program} {w : World} {K : Frag} {W : Wc} {mg : Str → Option Value} {base : Heap}
theorem pd_callG {X : Cx} {E : XK} {j k : Nat} {x : Str} {ps : List Str} {df : DF} {p pos : Pos} {e : Expr} {es : List Expr} {tr : TA} {dr : DA} (F : DefG P w K W mg base j x ps df) (hA : X.A.guards = some []) (hx : Passes (L2.CX X.prog X.w) X E) (ha : PDA X W E (e :: es) tr dr)
    (hX : X.prog = P ∧ X.w = w ∧ X.K = K ∧ X.mg = mg ∧ X.base = base := by exact ⟨rfl, rfl, rfl, rfl, rfl⟩) (hr : Room k X.A := by assumption) (hj : j ≤ k := by decide) (hg : Gl X x := by rfl)
    (hdb : (x == ("__debug__" : Str)) = false := by decide) (he : starEach (e :: es) X.env = (false, eval e X.env) :: starEach es X.env := by rfl) (hpl : (backTo pos (starEach es X.env)).any (·.1) = false := by rfl) :
    PD X W E (.Call (.Name x p) (e :: es) [] pos) (tCall (spD K W df) [] E tr) (dCall df [] dr) := by
  obtain ⟨rfl, rfl, rfl, rfl, rfl⟩ := hX
  obtain ⟨f, fd, F, hm, hk, hb⟩ := F.ex
  exact ⟨pe_callG F hA (hr.mono hj) hg hm hk hb hx ha.pe hdb he hpl, se_call (fun _ _ => RA.nil) ha.se⟩
/-- a def by its body, outside of every repr -/
theorem okDG {x qual : Str} {st : Stmt} {f : Addr} {fd : FuncData} {N ps : List Str} {k : Nat} {body : DS} (F : Fun K x qual st f fd) (Sc : FnScope N ps (defScope st))
    (hb : ∀ (cdv : Value) (A : Around), A.guards = some [] → ∀ (outer : List PySem.Env) (s : Shared) (H : Hp) (E : XK), Room k (A.deeper (PyProof.Rows.envOfC qual (defScope st) s.heap.objs.size f cdv)) →
      ∃ ts, PDSs (cxOf (L2.CX P w) P w K mg base N qual (defScope st) f cdv A outer s H E) W E (defBody st) ts body) : FnG P w K mg base (L2.CX P w) (k + 1) f fd ps (spD K W (runF N.length ps.length body)) := by
  refine fnG_of F Sc (fun vs H Q E h => ?_) (fun cdv _ A g outer s H vs Q E hr h => ?_)
  · obtain ⟨p, S, ds, post, xp, _, r, ⟨h1, _⟩, _⟩ := h
    rw [RA.length r, h1]
  · obtain ⟨p, S, ds, post, xp, stt, r, ⟨h1, q⟩, k1, xo⟩ := h
    obtain ⟨ts, pe, se⟩ := hb cdv A g outer s H E hr
    refine ⟨ts, pe, se p S H S H (L2.start N vs) _ xp ⟨Grow.refl stt, ?_, fun i ds' a e1 e2 => ?_⟩ xo.s _ _ q ⟨fun S' H' σ' env' _ sv q => k1 .non .non S' H' q sv.g rfl, fun S' H' v d _ g r q => k1 v d S' H' q g r, fun _ _ _ _ _ _ q => q.elim, fun _ _ _ _ _ _ q => q.elim⟩⟩
    · have := r.begins (H := H) (N := N)
      rw [RA.length r, h1] at this
      exact this
    · exfalso
      by_cases hi : i < ds.length
      · rw [List.getElem?_append_left (by simpa using hi), List.getElem?_map] at e1
        cases hd : ds[i]? with
        | none => rw [hd] at e1; cases e1
        | some d => rw [hd] at e1; cases e1
      · rw [List.getElem?_append_right (by simpa using hi), List.getElem?_replicate] at e1
        split at e1 <;> cases e1
end
end DL

set_option Elab.async false
set_option linter.all false
set_option maxRecDepth 100000
set_option maxHeartbeats 1000000
/-! the law outside of every repr; isinstance of own classes; lists times numbers -/
namespace DL
open PySem PySem.W PySem.Calls PyProof.Rows L2
section
variable {P : Program} {w : World} {K : Frag} {W : Wc} {mg : Str → Option Value} {base : Heap}
theorem okLawT {x qual : Str} {st : Stmt} {f : Addr} {fd : FuncData} {N : List Str} {k : Nat} {M : MM} {ds : DS} (hk : M.pk = false) (F : Fun K x qual st f fd) (Sc : FnScope N ["script"] (defScope st)) (hN : 2 ≤ N.length)
    (hb : ∀ (cdv : Value), IsCd fd x qual st cdv → ∀ (A : Around), A.guards = some [] → ∀ (outer : List PySem.Env) (s : Shared) (H : Hp) (E : XK), Room k (A.deeper (PyProof.Rows.envOfC qual (defScope st) s.heap.objs.size f cdv)) →
      ∃ ts, PSs (cxOf (L2.CX P w) P w K mg base N qual (defScope st) f cdv A outer s H E) (defBody st) (tSeq (tAsg (tCall (spBegin K) [] E0 (tCons (tVar 0) tNil)) (gName 1)) ts) ∧ SS K (WcOf M) E ts ds)
    (hd : ds { nx := fun _ => False, rt := fun d => d = .bl true } noX (.un :: .sh .tok :: List.replicate (N.length - 2) .un)) : FnG P w K mg base (L2.CX P w) (k + 1) f fd ["script"] (spLaw K M) := by
  refine fnG_of F Sc (fun vs H Q E h => ?_) (fun cdv hcv A g outer s H vs Q E hr h => ?_)
  · obtain ⟨a, ns, rfl, _⟩ := h
    rfl
  · obtain ⟨a, ns, rfl, hs, _, hT, k⟩ := h
    obtain ⟨ts, pe, se⟩ := hb cdv hcv A g outer s H E hr
    refine ⟨_, pe, ?_⟩
    obtain ⟨m, hm⟩ : ∃ m, N.length = m + 2 := ⟨N.length - 2, by omega⟩
    have e1 : L2.start N [.ref a] = some (.ref a) :: none :: List.replicate m none := by
      unfold L2.start
      rw [hm]
      show [some (V.ref a)] ++ List.replicate (m + 2 - 1) none = _
      rw [show m + 2 - 1 = m + 1 by omega, List.replicate_succ]
      rfl
    rw [e1]
    refine ⟨.ref a, rfl, a, ns, rfl, hs, fun p c ms H' npc hc hp hx => ?_⟩
    show ts _ (some (V.ref a) :: some (V.ref p) :: List.replicate m none) H'
    have st : Stt (WcOf M) p (upd (fun _ => none) c (.lst (ms.map V.int))) H' := by
      refine ⟨⟨hT.ext hx, fun b ps e => by
        by_cases hb : b = c
        · rw [hb, upd_same] at e; cases e
        · rw [upd_ne hb] at e; cases e⟩, fun b o e => ?_, by rw [upd_ne npc], _, hp, (SrcM.o hk).mpr ⟨c, ms, 0, 0, 7, rfl, upd_same, by decide, by decide, by decide, by decide⟩⟩
      by_cases hb : b = c
      · subst hb
        rw [upd_same] at e
        cases e
        exact hc
      · rw [upd_ne hb] at e
        cases e
    rw [hm] at hd
    have hd' : ds { nx := fun _ => False, rt := fun d => d = .bl true } noX (.un :: .sh .tok :: List.replicate m .un) := hd
    refine se p (upd (fun _ => none) c (.lst (ms.map V.int))) H' _ H' _ _ noX ⟨Grow.refl st, ⟨fun i s e => ?_, fun i j as bs n e1 e2 => ?_⟩, fun i as b e1 e2 => ?_⟩ XOkS.no _ _ hd' ⟨fun _ _ _ _ _ _ q => q.elim, fun S2 H2 v d _ _ r q => ?_, fun _ _ _ _ _ _ q => q.elim, fun _ _ _ _ _ _ q => q.elim⟩
    · match i, e with
      | 0, e =>
        have e' : Sl.un = s := Option.some.inj e
        subst e'
        exact ⟨_, rfl, trivial⟩
      | 1, e =>
        have e' : Sl.sh .tok = s := Option.some.inj e
        subst e'
        exact ⟨_, rfl, .ref p, rfl, rfl⟩
      | i + 2, e =>
        have e' : (List.replicate m Sl.un)[i]? = some s := e
        rw [List.getElem?_replicate] at e'
        split at e'
        · rename_i hi
          cases e'
          refine ⟨none, ?_, trivial⟩
          show (List.replicate m (none : Option V))[i]? = some none
          rw [List.getElem?_replicate, if_pos hi]
        · cases e'
    · exfalso
      match i, e1 with
      | 0, e => cases e
      | 1, e => cases e
      | i + 2, e =>
        have e' : (List.replicate m Sl.un)[i]? = some (.ow as) := e
        rw [List.getElem?_replicate] at e'
        split at e' <;> cases e'
    · exfalso
      match i, e1 with
      | 0, e => cases e
      | 1, e => cases e
      | i + 2, e =>
        have e' : (List.replicate m Sl.un)[i]? = some (.ow as) := e
        rw [List.getElem?_replicate] at e'
        split at e' <;> cases e'
    · have q' : d = .bl true := q
      subst q'
      rw [show v = V.bl true from r]
      exact k H2

theorem okLawG {x qual : Str} {st : Stmt} {f : Addr} {fd : FuncData} {N : List Str} {k : Nat} {M : MM} {ds : DS} (hk : M.pk = false) (F : Fun K x qual st f fd) (Sc : FnScope N ["script"] (defScope st)) (hN : 2 ≤ N.length)
    (hb : ∀ (cdv : Value) (A : Around), A.guards = some [] → ∀ (outer : List PySem.Env) (s : Shared) (H : Hp) (E : XK), Room k (A.deeper (PyProof.Rows.envOfC qual (defScope st) s.heap.objs.size f cdv)) →
      ∃ ts, PSs (cxOf (L2.CX P w) P w K mg base N qual (defScope st) f cdv A outer s H E) (defBody st) (tSeq (tAsg (tCall (spBegin K) [] E0 (tCons (tVar 0) tNil)) (gName 1)) ts) ∧ SS K (WcOf M) E ts ds)
    (hd : ds { nx := fun _ => False, rt := fun d => d = .bl true } noX (.un :: .sh .tok :: List.replicate (N.length - 2) .un)) : FnG P w K mg base (L2.CX P w) (k + 1) f fd ["script"] (spLaw K M) :=
  okLawT hk F Sc hN (fun cdv _ => hb cdv) hd
end
theorem walkG {l : OpenLaw} {k : Nat}  {q : Program} {loose : List Str} {XP : (Str → Option Value) → Heap → Prop} {YP : World → Heap → Prop} {d : DefRec} {K : Params → Frag} (hn : l.most = some 63) (hdf : d.params.defaults = []) (hr : Room k callerA)
    (hY : ∀ (w : World) (h : Heap), YP w h → (K w.params).In h)
    (F : ∀ (w : World) (mg : Str → Option Value) (fa : Addr) (h : Heap), (K w.params).In h → h.Ns mainGlobals mg → mg d.name = some (.ref fa) →
      ∃ (fd : FuncData) (M : MM), M.tb = none ∧ (∀ (s : Shared) (u : Value), BindsTo s fd ⟨[u], []⟩ [("script", u)]) ∧ ∀ base : Heap, (K w.params).In base → base.Ns mainGlobals mg → FnG l.prog w (K w.params) mg base (L2.CX l.prog w) k fa fd ["script"] (spLaw (K w.params) M)) :
    WalkO q loose XP YP l.row.toRowW d [] (fun f vs => PySem.call f vs) := by
  refine Att.attach_call hn hdf fun w s₀ s₁ mg mb fa o pm cd doc a vs ns G Y ho hd hcd hmg hobj hints hlen hg => ?_
  obtain ⟨fd, M, hM, hb, hF⟩ := F w mg fa _ (hY w _ Y) G.T.g hmg
  exact law_callG (hY w _ Y) G.T.g G.T.b G.T.builtins G.T.nolimit hg hobj hints (Nat.le_trans hlen (by decide)) hr hb hF fun H hS => ⟨a, ns, rfl, hS, hlen, (by unfold tabsOf; rw [hM]; exact fun p hp => nomatch hp), fun _ => rfl⟩

/-! ### isinstance(x, C), C an own class -/
/-- what the written part says: C's own instances and values of built-in types -/
structure IsOk (K : Frag) (W : Wc) (mg : Str → Option Value) (x : Str) (c : Nat) : Prop where
  ex : ∃ C, W.M c = some C ∧ mg x = some (.ref C) ∧ (∀ T ∈ ["NoneType", "bool", "int", "str", "list", "tuple", "dict"], kitOne K (.type T) (.ref C) = some false) ∧
    Cls K C ∧ findIn K (.ref C) "__class__" = some (some (.builtin "object.__class__")) ∧ specialIn K (.builtin "object.__class__") "__get__" = some (some (.builtin "getset_descriptor.__get__")) ∧
    takesIn K (.builtin "object.__class__") = some true ∧ mroIn K C (.type "object") = some true
def isObj (c : Nat) : D → Bool
  | .obj c' _ => c' == c
  | _ => false
def dIsC (c : Nat) (da : DE) : DE := fun env xp post => da env xp fun d => kindD c d = true ∧ post (.bl (isObj c d))
def tIsC (K : Frag) (W : Wc) (c : Nat) (ta : TE) : TE := fun σ H Q => ∃ C, W.M c = some C ∧ tCB (rIsi K) (tCons ta (tCons (tC (.ref C)) tNil)) σ H Q
theorem tyN_mem {d : D} {n : String} (h : tyN d = some n) (ho : ∀ c fs, d ≠ .obj c fs) : n ∈ ["NoneType", "bool", "int", "str", "list", "tuple", "dict"] := by
  cases d <;> simp only [tyN, Option.some.injEq, reduceCtorEq] at h <;> first | (subst h; simp) | exact absurd rfl (ho _ _)
theorem pd_isC (K : Frag) {X : Cx} {W : Wc} {E : XK} {mg : Str → Option Value} {a : Expr} {ta : TE} {da : DE} {x : Str} {c : Nat} {p p' pos : Pos} (O : IsOk K W mg x c) (hg : Gl X "isinstance") (hm : mg "isinstance" = none) (ha : PD X W E a ta da)
    (hX : X.K = K ∧ X.mg = mg := by exact ⟨rfl, rfl⟩) (hgx : Gl X x := by rfl) (hd : (x == ("__debug__" : Str)) = false := by decide)
    (h1 : starEach [a, .Name x p'] X.env = (false, eval a X.env) :: starEach [.Name x p'] X.env := by rfl) (h2 : starEach [.Name x p'] X.env = (false, eval (.Name x p') X.env) :: starEach [] X.env := by rfl)
    (hpl : (backTo pos (starEach [.Name x p'] X.env)).any (·.1) = false := by rfl) :
    PD X W E (.Call (.Name "isinstance" p) [a, .Name x p'] [] pos) (tIsC K W c ta) (dIsC c da) := by
  obtain ⟨rfl, rfl⟩ := hX
  obtain ⟨C, hM, hmx, ht, cl, i1, i2, i3, i4⟩ := O.ex
  refine ⟨⟨fun pins s σ H Q I ⟨C', hM', q⟩ => ?_⟩, fun p S H σ env xp st ev xo Q post q k => ⟨C, hM, ha.se p S H σ env xp st ev xo _ _ q fun v d S1 H1 ⟨hk, q1⟩ g1 r1 => ?_⟩⟩
  · obtain rfl : C' = C := Option.some.inj (hM'.symm.trans hM)
    exact (pe_callB call_isi hg hm (by decide +kernel) (pa_cons ha.pe (pa_cons (pe_glob (v := .ref _) hgx hmx (show RelV (.ref _) (.ref _) from rfl) hd) pa_nil h2) h1) (by decide) (by decide) h1 hpl).run pins s σ H Q I q
  · have fin := k _ _ S1 H1 q1 g1 rfl
    cases d with
    | obj c' fs =>
      obtain rfl : c' = c := beq_iff_eq.mp hk
      unfold DL.R at r1
      obtain ⟨b, C', dx, gs, rfl, e, e2, _⟩ := r1
      obtain rfl : C' = C := Option.some.inj (e2.symm.trans hM)
      refine ⟨.ref b, .ref C', .ref C', .ref C', true, rfl, .own C', .base (.ins (g1.st.ex _ _ e) cl i1 i2 i3 i4), ?_, ?_⟩
      · unfold kitOne
        rw [if_pos (by simp)]
      · simpa [isObj] using fin
    | tok => exact nomatch hk
    | _ => exact ⟨v, .ref C, _, .ref C, false, rfl, .own C, r1.ty g1.st.ex rfl, ht _ (by simp), fin⟩

/-! ### isinstance(e, C), e the error that was caught, with its field -/
structure ExcK (K : Frag) (C : Addr) : Prop where
  cl : (clsIn K C).isSome = true
  ga : findIn K (.ref C) "__getattribute__" = some (some (.builtin "BaseException.__getattribute__"))
  gg : findIn K (.ref C) "__getattr__" = some none
  sb : subIn K (.ref C) (.type "BaseException") = some true
  ca : findIn K (.ref C) "__class__" = some (some (.builtin "object.__class__"))
  gs : specialIn K (.builtin "object.__class__") "__get__" = some (some (.builtin "getset_descriptor.__get__"))
  tk : takesIn K (.builtin "object.__class__") = some true
  mr : mroIn K C (.type "object") = some true
def rIsX (K : Frag) (C C2 a dx : Addr) : List V → Hp → VK → Prop := fun xs H Q => ∃ (b : Bool) (fs : List (Str × V)), xs = [.ref a, .ref C2] ∧ H dx = some (.xd fs) ∧ kitOne K (.ref C) (.ref C2) = some b ∧ Q (.bl b) H
theorem call_isX {X : Cx} {a C C2 dx : Addr} {oe : Obj} {pn : List (Addr × Obj)} (T : ExcK X.K C) (hz : Zc (.ref C) (some dx) oe) (hf : ∃ vs, oe.data = .fields vs) : CallR (X.suite a ((a, oe) :: pn)) (.builtin "isinstance") (rIsX X.K C C2 a dx) := by
  intro pins s σ H xs us Q I r ⟨b, fs, ex, hdx, e, q⟩
  subst ex
  match us, r with
  | _, .cons ra (.cons rc .nil) =>
    cases ra
    cases rc
    obtain ⟨hget, _⟩ := I.pin (a, oe) (List.mem_append.mpr (.inl List.mem_cons_self))
    obtain ⟨vs, hv⟩ := hf
    obtain ⟨mA, hns, hr⟩ : ObjOk X.prog X.w H s.heap dx (.xd fs) := I.hok dx _ hdx
    obtain ⟨od, ho, hl⟩ := lookIn_ns hns
    have J : InstAt s.heap a oe C (some od) := ⟨hget, hz.1, by unfold notCls; rw [hv], by rw [hz.2]; exact ho⟩
    exact kia_one (kitx_exc T.cl T.ga T.gg T.sb T.ca T.gs T.tk T.mr) I.kIn J e (fun z => nomatch z) fun tk => ⟨.bl b, H, I.kept (t' := tk) fun _ _ z => z, rfl, q⟩
/-- which of the classes of errors (er) are C's (tb) -/
structure IsXOk (K : Frag) (W : Wc) (mg : Str → Option Value) (x : Str) (er tb : Nat → Bool) : Prop where
  ex : ∃ C2, mg x = some (.ref C2) ∧ ∀ c C, W.M c = some C → er c = true → ExcK K C ∧ kitOne K (.ref C) (.ref C2) = some (tb c)
def dIsX (W : Wc) (a : Addr) (cls : Value) (d : Option Addr) (i : Nat) (er tb : Nat → Bool) : DE := fun env _ post => ∃ dx c dfs, env[i]? = some (.ex a dx c dfs) ∧ d = some dx ∧ (∃ C, W.M c = some C ∧ cls = .ref C) ∧ er c = true ∧ post (.bl (tb c))
def tIsX (K : Frag) (a : Addr) (cls : Value) (d : Option Addr) (C2 : Addr) (i : Nat) : TE := fun σ H Q => ∃ C dx, cls = .ref C ∧ d = some dx ∧ ExcK K C ∧ σ[i]? = some (some (.ref a)) ∧ rIsX K C C2 a dx [.ref a, .ref C2] H Q
theorem pd_isX (K : Frag) {X : Cx} {W : Wc} {E : XK} {mg : Str → Option Value} {n x : Str} {a : Addr} {oe : Obj} {cls : Value} {d : Option Addr} {pn : List (Addr × Obj)} {er tb : Nat → Bool} {i : Nat} {p p' np pos : Pos} (O : IsXOk K W mg x er tb) (hz : Zc cls d oe) (hf : ∃ vs, oe.data = .fields vs)
    (hm : mg "isinstance" = none) (hX : X.K = K ∧ X.mg = mg := by exact ⟨rfl, rfl⟩) (hi : X.N[i]? = some n := by rfl) (hv : Vis X.env.scope n := by first | exact Or.inl rfl | exact Or.inr (Or.inl rfl) | exact Or.inr (Or.inr rfl))
    (hg : Gl (X.suite a ((a, oe) :: pn)) "isinstance" := by rfl) (hgx : Gl (X.suite a ((a, oe) :: pn)) x := by rfl) (hd : (x == ("__debug__" : Str)) = false := by decide) (hd2 : (n == ("__debug__" : Str)) = false := by decide) (hcd : (n == ("__classdict__" : Str)) = false := by decide)
    (h1 : starEach [.Name n np, .Name x p'] (X.suite a ((a, oe) :: pn)).env = (false, eval (.Name n np) (X.suite a ((a, oe) :: pn)).env) :: starEach [.Name x p'] (X.suite a ((a, oe) :: pn)).env := by rfl) (h2 : starEach [.Name x p'] (X.suite a ((a, oe) :: pn)).env = (false, eval (.Name x p') (X.suite a ((a, oe) :: pn)).env) :: starEach [] (X.suite a ((a, oe) :: pn)).env := by rfl)
    (hpl : (backTo pos (starEach [.Name x p'] (X.suite a ((a, oe) :: pn)).env)).any (·.1) = false := by rfl) :
    PD (X.suite a ((a, oe) :: pn)) W E (.Call (.Name "isinstance" p) [.Name n np, .Name x p'] [] pos) (fun σ H Q => ∃ C2, mg x = some (.ref C2) ∧ tIsX K a cls d C2 i σ H Q) (dIsX W a cls d i er tb) := by
  obtain ⟨rfl, rfl⟩ := hX
  obtain ⟨C2, hmx, ht⟩ := O.ex
  refine ⟨⟨fun pins s σ H Q I ⟨C2', hmx', C, dx, ec, ed, T, hs, q⟩ => ?_⟩, fun p S H σ env xp st ev xo Q post ⟨dx, c, dfs, e1, e2, ⟨C, hM, e3⟩, he, q⟩ k => ?_⟩
  · obtain rfl : C2' = C2 := by have := hmx'.symm.trans hmx; simpa using this
    subst ec ed
    exact (pe_callB (call_isX (C2 := C2') T hz hf) hg hm (by decide +kernel) (pa_cons (pe_var (X := X.suite a ((a, oe) :: pn)) hi hv hd2 hcd) (pa_cons (pe_glob (v := .ref _) hgx hmx (show RelV (.ref _) (.ref _) from rfl) hd) pa_nil h2) h1) (by decide) (by decide) h1 hpl).run pins s σ H Q I ⟨_, hs, q⟩
  · obtain ⟨o, h1, h2, gs, h3, h4, h5⟩ := ev.at_ i _ e1
    subst h2
    obtain ⟨T, hk⟩ := ht c C hM he
    exact ⟨C2, hmx, C, dx, e3, e2, T, h1, tb c, gs, rfl, h3, hk, k _ _ S H q (Grow.refl st) rfl⟩

/-! ### list * n -/
theorem RA.rep {K : Frag} {W : Wc} {p : Addr} {S : Hp} {xs : List V} {ds : List D} (r : RA K W p S xs ds) : ∀ n : Nat, RA K W p S (List.replicate n xs).flatten (List.replicate n ds).flatten
  | 0 => by simp; exact RA.nil
  | n + 1 => by
    rw [List.replicate_succ, List.replicate_succ, List.flatten_cons, List.flatten_cons]
    exact r.append (RA.rep r n)
def dRep (de dn : DE) : DA := fun env xp post => de env xp fun d => ∃ ds, d = .lst ds ∧ dn env xp fun m => ∃ k : Int, m = .int k ∧ -(2 ^ 62) ≤ k ∧ k < 2 ^ 62 ∧ ds.length * k.toNat ≤ 100000 ∧ post (List.replicate k.toNat ds).flatten
theorem pdn_rep {X : Cx} {W : Wc} {E : XK} {e n : Expr} {te tn : TE} {de dn : DE} {pos : Pos} (he : PD X W E e te de) (hn : PD X W E n tn dn) : PDN X W E (.BinOp e .Mult n pos) (tOp rRep te tn) (dRep de dn) := by
  refine ⟨pe_op op_rep he.pe hn.pe, fun p S H σ env xp st ev xo Q post q k => he.se p S H σ env xp st ev xo _ _ q fun v d S1 H1 ⟨ds, ed, q1⟩ g1 r1 => ?_⟩
  subst ed
  refine hn.se p S1 H1 σ env xp g1.st (ev.mono g1) (xo.mono g1) _ _ q1 fun u m S2 H2 ⟨j, em, b1, b2, b3, q2⟩ g2 r2 => ?_
  subst em
  obtain rfl : u = V.int j := r2
  have r3 := R.mono g2.ex _ _ r1
  unfold DL.R at r3
  obtain ⟨a, ys, rfl, h1, h2⟩ := r3
  refine ⟨a, j, ys, rfl, rfl, g2.st.ex _ _ h1, by omega, by omega, by rw [RA.length h2]; exact sz_of b3, fun l hl => ?_⟩
  exact newL (g1.trans g2) (RA.rep h2 _) q2 hl k
end DL

set_option Elab.async false
set_option linter.all false
set_option maxRecDepth 100000
set_option maxHeartbeats 1000000
/-! classes whose __init__ takes *v; arguments and displays with *e -/
namespace DL
open PySem PySem.W PySem.Calls PyProof.Rows L2
/-- m parameters, then what is left over as a tuple -/
def starSp (m : Nat) (sp : Sp) : Sp := fun vs H Q E => ∃ ws rest, vs = ws ++ rest ∧ ws.length = m ∧ rest.length ≤ sizeLine ∧ ∀ p, H p = none → sp (ws ++ [V.ref p]) (upd H p (.tup rest)) Q E
/-- .. or all but the last of the m, whose default is None -/
def starSpD (m : Nat) (sp : Sp) : Sp := fun vs H Q E => starSp m sp vs H Q E ∨ (vs.length + 1 = m ∧ ∀ p, H p = none → sp (vs ++ [V.non, V.ref p]) (upd H p (.tup [])) Q E)
section
variable {P : Program} {w : World} {K : Frag} {mg : Str → Option Value} {base : Heap} {k : Nat} {f T : Addr} {name qual : Str} {params : Arguments} {body : List Stmt} {scope : Scope} {kV doc pm cdv ct oc : Value} {an od : Option Addr} {osl : Array (Option Value)} {N ps : List Str} {sp : Sp} {pv : Str}
theorem fnR_starD (lk : K.lookup f = some ⟨oc, od, .func (fnOf name qual params body scope (.ref T) kV doc pm an cdv ct), osl⟩) (hcd : codeIn K cdv qual = true) (Sc : FnScope N (ps ++ [pv]) scope) {tc : Value} {td : Option Addr} {tn : Nat} {ts : Array (Option Value)}
    (lT : K.lookup T = some ⟨tc, td, .seq #[.none] tn, ts⟩)
    (hb : ∀ us rest : List Value, us.length = ps.length → ∃ g, bindArgs (fnOf name qual params body scope (.ref T) kV doc pm an cdv ct) ⟨us ++ rest, []⟩ = seqItems? (.ref T) >>= g ∧ g (some #[.none]) = (newTuple rest >>= fun t => pure (ps.zip us ++ [(pv, t)])))
    (hb0 : ∀ us : List Value, us.length + 1 = ps.length → ∃ g, bindArgs (fnOf name qual params body scope (.ref T) kV doc pm an cdv ct) ⟨us, []⟩ = seqItems? (.ref T) >>= g ∧ g (some #[.none]) = (newTuple [] >>= fun t => pure (ps.zip (us ++ [.none]) ++ [(pv, t)])))
    (hbody : ∀ (A : Around) (outer : List PySem.Env) (s : Shared) (H : Hp) (vs : List V) (Q : VK) (E : XK), Room k (A.deeper (envOfC qual scope s.heap.objs.size f cdv)) → sp vs H Q E →
      ∃ t, PSs (cxOf (L2.CX P w) P w K mg base N qual scope f cdv A outer s H E) body t ∧ t { nx := fun _ H' => Q .non H', rt := Q } (L2.start N vs) H) :
    FnR P w K mg base (L2.CX P w) (k + 1) f (starSpD ps.length sp) := by
  intro A outer s H us vs Q E hr e0 r hsp
  have hn : H s.heap.objs.size = none := e0.hok.fresh (Nat.le_refl _)
  have hT := (e0.bs T _ (e0.mod.kin T _ lT)).1
  have core : ∀ (ws rest : List V) (u1 u2 : List Value) (g : Option (Array Value) → Sem (List (Str × Value))), Vals ws u1 → Vals rest u2 → ws.length = ps.length → rest.length ≤ sizeLine → (∀ p, H p = none → sp (ws ++ [V.ref p]) (upd H p (.tup rest)) Q E) →
      bindArgs (fnOf name qual params body scope (.ref T) kV doc pm an cdv ct) ⟨us, []⟩ = seqItems? (.ref T) >>= g → g (some #[.none]) = (newTuple u2 >>= fun t => pure (ps.zip u1 ++ [(pv, t)])) →
      codeAny (model P w) A (.call (.ref f) ⟨us, []⟩) (CR (L2.CX P w) outer P w H s Q E) s := by
    intro ws rest u1 u2 g r1 r2 hl hz hq e1 e2
    refine StX.run_bnd lk hcd Sc hr e0 (G := fun xs H2 => ∃ p, H p = none ∧ xs = ws ++ [V.ref p] ∧ H2 = upd H p (.tup rest)) (fun A' Ex Q' go => ?_) fun s2 H2 xs ⟨p, hp, ex, eH⟩ hr' => ?_
    · rw [e1]
      refine wpAny_bind (wpAny_seqItems hT rfl ?_)
      rw [e2]
      have z2 : u2.length ≤ sizeLine := by rw [← r2.length]; exact hz
      refine wpAny_bind (wpAny_newTuple (wpAny_pure ?_) z2)
      have un := StX.un_laid (fs := frs outer) (s := s) (o := ({ cls := .type "tuple", data := .seq u2.toArray } : Obj)) (u := .tup rest) hn
      have z := go _ _ (ws ++ [V.ref s.heap.objs.size]) (u1 ++ [Value.ref s.heap.objs.size]) (StX.env0_laid (o := ({ cls := .type "tuple", data := .seq u2.toArray } : Obj)) (u := .tup rest) e0 ⟨hz, u2, r2, ⟨_, Heap.get?_push_size _ rfl, rfl, _, rfl⟩⟩) un rfl
        (fun e s' => StX.cxUp outer s H _ _ E e s' un (fun b o q => Heap.get?_push_of_some _ q) rfl) (r1.append (.cons rfl .nil)) (by rw [List.length_append, List.length_append, hl]; rfl) ⟨_, hn, rfl, rfl⟩
      rw [List.zip_append (by rw [← r1.length]; exact hl.symm)] at z
      exact z
    · subst ex eH
      exact hbody A outer s2 _ _ Q E hr' (hq p hp)
  rcases hsp with ⟨ws, rest, ev, hl, hz, hq⟩ | ⟨hl, hq⟩
  · subst ev
    obtain ⟨u1, u2, eu, r1, r2⟩ := StX.vals_split r
    subst eu
    obtain ⟨g, e1, e2⟩ := hb u1 u2 (by rw [← r1.length]; exact hl)
    exact core ws rest u1 u2 g r1 r2 hl hz hq e1 e2
  · obtain ⟨g, e1, e2⟩ := hb0 us (by rw [← r.length]; exact hl)
    refine core (vs ++ [.non]) [] (us ++ [.none]) [] g (r.append (.cons (show RelV V.non Value.none from rfl) .nil)) .nil (by rw [List.length_append]; exact hl) (Nat.zero_le _) (fun p hp => ?_) e1 e2
    rw [List.append_assoc]
    exact hq p hp
end
/-! ### C(..), by data -/
def starF (m : Nat) (dflt : Bool) (g : DF) : DF := fun ds xp post => (m ≤ ds.length ∧ ds.length ≤ 100000 ∧ g (ds.take m ++ [.tup (ds.drop m)]) xp post) ∨ (dflt = true ∧ ds.length + 1 = m ∧ g (ds ++ [.non, .tup []]) xp post)
section
variable {X : Cx} {W : Wc} {E : XK} {tr : TA} {dr : DA} {c : Nat}
theorem RA.split {K : Frag} {p : Addr} {S : Hp} {vs : List V} {ds : List D} (m : Nat) (r : RA K W p S vs ds) : RA K W p S (vs.take m) (ds.take m) ∧ RA K W p S (vs.drop m) (ds.drop m) := ⟨RA.take m r, RA.drop m r⟩
theorem upd_comm {H : Hp} {a b : Addr} {o u : HO} (h : a ≠ b) : upd (upd H a o) b u = upd (upd H b u) a o := by
  funext x
  by_cases ha : x = a
  · subst ha; rw [upd_ne h, upd_same, upd_same]
  · by_cases hb : x = b
    · subst hb; rw [upd_same, upd_ne ha, upd_same]
    · rw [upd_ne hb, upd_ne ha, upd_ne ha, upd_ne hb]
theorem se_makeS {K : Frag} {C : Addr} {m : Nat} {b : Bool} {g : DF} {sp' : Sp} (hM : W.M c = some C) (hsp : ∀ vs H Q E, (starSp (m + 1) (spI K W c g) vs H Q E ∨ (b = true ∧ vs.length + 1 = m + 1 ∧ ∀ p, H p = none → spI K W c g (vs ++ [V.non, V.ref p]) (upd H p (.tup [])) Q E)) → sp' vs H Q E) (h : SA K W E tr dr) :
    SE K W E (StX.tMakeR C sp' E tr) (dCall (starF m b g) [] dr) := fun p S H σ env xp st ev xo Q post q k => h p S H σ env xp st ev xo _ _ q fun vs ds S1 H1 q1 g1 r1 x dx hx hdx hne => by
  have one : ∀ (ws rest : List V) (es ss : List D), RA K W p S1 ws es → RA K W p S1 rest ss → g (es ++ [.tup ss]) xp post → ∀ t, (upd (upd H1 dx (.own x)) x (.ins C dx [])) t = none →
      spI K W c g (V.ref x :: ws ++ [V.ref t]) (upd (upd (upd H1 dx (.own x)) x (.ins C dx [])) t (.tup rest)) (fun v H2 => v = .non ∧ Q (.ref x) H2) E := by
    intro ws rest es ss ra rb q2 t ht
    have tx : t ≠ x := fun z => by rw [z, upd_same] at ht; cases ht
    have td : t ≠ dx := fun z => by rw [z, upd_ne hne, upd_same] at ht; cases ht
    have h1 : H1 t = none := by rw [upd_ne tx, upd_ne td] at ht; exact ht
    have g2 := Grow.new (o := .tup rest) g1.st h1
    refine ⟨p, upd S1 t (.tup rest), upd H1 t (.tup rest), x, dx, C, ws ++ [V.ref t], es ++ [.tup ss], post, xp, rfl, hM, g2.st, by rw [upd_ne (Ne.symm tx)]; exact hx, by rw [upd_ne (Ne.symm td)]; exact hdx, hne, ?_, ?_, q2, ?_, xo.mono (g1.trans g2)⟩
    · rw [upd_comm (Ne.symm tx), upd_comm (Ne.symm td)]
    · refine (RA.mono g2.ex _ _ ra).append (RA.cons ?_ RA.nil)
      unfold DL.R
      exact ⟨t, rest, rfl, .inl (.inl upd_same), RA.mono g2.ex _ _ rb⟩
    · intro fs gs S2 H2 q3 g3 hS hp hi r2
      obtain ⟨g4, r3⟩ := R.made hM g3 (by rw [upd_ne (Ne.symm tx)]; exact hx) hS hp hi r2
      exact ⟨rfl, k _ _ _ H2 q3 ((g1.trans g2).trans g4) r3⟩
  have q1' : starF m b g ds xp post := by
    have z : starF m b g (ds ++ []) xp post := q1
    rwa [List.append_nil] at z
  refine hsp _ _ _ _ ?_
  rcases q1' with ⟨l1, l2, q2⟩ | ⟨hb, l1, q2⟩
  · refine .inl ⟨V.ref x :: vs.take m, vs.drop m, ?_, ?_, ?_, fun t ht => ?_⟩
    · rw [List.cons_append, List.take_append_drop]
    · rw [List.length_cons, List.length_take, RA.length r1]; omega
    · rw [List.length_drop, RA.length r1]; exact sz_of (by omega)
    · exact one _ _ _ _ (RA.take m r1) (RA.drop m r1) q2 t ht
  · refine .inr ⟨hb, ?_, fun t ht => ?_⟩
    · rw [List.length_cons, RA.length r1]; omega
    · have z := one (vs ++ [V.non]) [] (ds ++ [.non]) [] (r1.append (RA.cons (v := V.non) (d := .non) (by unfold DL.R; rfl) RA.nil)) RA.nil (by rw [List.append_assoc]; exact q2) t ht
      simpa using z
variable {k : Nat} {C f : Addr} {x : Str} {e : Expr} {es : List Expr} {p pos : Pos} {sp : Sp} {t : TA}
/-- C(e, .., *v) -/
theorem pe_makeS2 (M : Mk X.K C f) (F : FnR X.prog X.w X.K X.mg X.base (L2.CX X.prog X.w) k f sp) (hr : Room (k + 1) X.A) (hg : Gl X x) (hm : X.mg x = some (.ref C)) (hx : Passes (L2.CX X.prog X.w) X E) (ha : PA X (e :: es) t) (hdb : (x == ("__debug__" : Str)) = false := by decide)
    (he : starEach (e :: es) X.env = (false, eval e X.env) :: starEach es X.env := by rfl) (hst : (backTo pos (starEach es X.env)).any (·.1) = true := by rfl) : PE X (.Call (.Name x p) (e :: es) [] pos) (StX.tMakeR C sp E t) :=
  ⟨fun pins s σ H Q I h => wpAny_Call_Name_kw (ld_glob I hg hm (callWith_S2 (h₀ := X.base) I.ok.mod.kin M.kp (thn (ha.run pos pins s σ H _ I h) fun us s1 ⟨vs, H1, I1, r, q⟩ => ⟨I1.kIn, StX.run_makeR M F hr hx I1 r q⟩) he hst) hdb)⟩
end
/-- *e among arguments or in a display -/
def dStar (de : DE) (dr : DA) : DA := fun env xp post => de env xp fun d => ∃ xs, (d = .lst xs ∨ d = .tup xs) ∧ dr env xp fun ds => post (xs ++ ds)
theorem pda_star (K : Frag) {X : Cx} {W : Wc} {E : XK} {e : Expr} {es : List Expr} {te : TE} {t : TA} {de : DE} {dr : DA} {p : Pos} (he : PD X W E e te de) (hr : PDA X W E es t dr) (hs : starEach (.Starred e p :: es) X.env = (true, eval e X.env) :: starEach es X.env := by rfl) (hK : X.K = K := by rfl) :
    PDA X W E (.Starred e p :: es) (StX.tStar K te t) (dStar de dr) := by
  subst hK
  refine ⟨StX.pa_star he.pe hr.pe hs, fun p S H σ env xp st ev xo Q post q k => he.se p S H σ env xp st ev xo _ _ q fun v d S1 H1 ⟨xs, hd, q1⟩ g1 r1 => ?_⟩
  obtain ⟨a, ys, rfl, h1, h2⟩ : ∃ a ys, v = V.ref a ∧ (SqT X.K H1 a ys ∨ SqL X.K H1 a ys) ∧ RA X.K W p S1 ys xs := by
    rcases hd with rfl | rfl
    · unfold DL.R at r1
      obtain ⟨a, ys, rfl, z1, z2⟩ := r1
      exact ⟨a, ys, rfl, .inr (SqL.of (g1.st.ex _ _ z1)), z2⟩
    · unfold DL.R at r1
      obtain ⟨a, ys, rfl, z1, z2⟩ := r1
      exact ⟨a, ys, rfl, .inl (g1.st.ex.t z1), z2⟩
  exact ⟨a, ys, rfl, h1, hr.se p S1 H1 σ env xp g1.st (ev.mono g1) (xo.mono g1) _ _ q1 fun vs ds S2 H2 q2 g2 r2 => k _ _ S2 H2 q2 (g1.trans g2) ((RA.mono g2.ex _ _ h2).append r2)⟩
end DL

set_option Elab.async false
set_option linter.all false
set_option maxRecDepth 100000
set_option maxHeartbeats 1000000
/-! an __init__ with *v by its body; own lists that are handed out -/
namespace DL
open PySem PySem.W PySem.Calls PyProof.Rows L2
section
variable {P : Program} {w : World} {K : Frag} {W : Wc} {mg : Str → Option Value} {base : Heap}
theorem initB {qual n0 : Str} {st : Stmt} {f : Addr} {N ps : List Str} {k c : Nat} {body : DBI} {cdv : Value} (hcl : ∀ C, W.M c = some C → Cls K C)
    (hb : ∀ (A : Around) (outer : List PySem.Env) (s : Shared) (H : Hp) (E : XK), Room k (A.deeper (PyProof.Rows.envOfC qual (defScope st) s.heap.objs.size f cdv)) →
      ∃ ts, PSs (cxOf (L2.CX P w) P w K mg base (n0 :: N) qual (defScope st) f cdv A outer s H E) (defBody st) ts ∧ SIB K W E c ts body)
    (A : Around) (outer : List PySem.Env) (s : Shared) (H : Hp) (vs : List V) (Q : VK) (E : XK) (hr : Room k (A.deeper (envOfC qual (defScope st) s.heap.objs.size f cdv))) (h : spI K W c (runI (N.length + 1) ps.length body) vs H Q E) :
    ∃ t, PSs (cxOf (L2.CX P w) P w K mg base (n0 :: N) qual (defScope st) f cdv A outer s H E) (defBody st) t ∧ t { nx := fun _ H' => Q .non H', rt := Q } (L2.start (n0 :: N) vs) H := by
  obtain ⟨p, S, H0, a, dx, C, ws, ds, post, xp, rfl, hM, stt, ha, hdx, hne, rfl, r, ⟨h1, q⟩, k1, xo⟩ := h
  obtain ⟨ts, pe, se⟩ := hb A outer s _ E hr
  refine ⟨ts, pe, ?_⟩
  have g1 := Grow.hide (o := .own a) stt hdx
  have ha2 : (upd H0 dx (.own a)) a = none := by rw [upd_ne (Ne.symm hne)]; exact ha
  have g2 := g1.trans (Grow.hide (o := .ins C dx []) g1.st ha2)
  have hp : a ≠ p := by
    obtain ⟨o, e, _⟩ := stt.src
    exact fun z => by rw [← z, ha] at e; cases e
  have hS : S a = none := by
    cases z : S a with
    | none => rfl
    | some u => rw [stt.ex a u z] at ha; cases ha
  have es : L2.start (n0 :: N) (V.ref a :: ws) = some (V.ref a) :: L2.start N ws := by simp [L2.start]
  rw [es]
  have ev0 : Ev K W p S (upd (upd H0 dx (.own a)) a (.ins C dx [])) (L2.start N ws) (ds.map Sl.sh ++ List.replicate (N.length - ws.length) .un) := r.begins
  rw [RA.length r, h1] at ev0
  refine se p a dx C S (upd (upd H0 dx (.own a)) a (.ins C dx [])) S _ _ _ xp hM (hcl C hM) hp hS upd_same ⟨Grow.refl g2.st, ev0.cons, fun i as b e1 e2 => ?_⟩ (XOk.s (xo.mono g2)) post _ (by simpa using q a) fun fs gs' S' H' σ' q2 b2 n2 e2 r2 => ?_
  · exfalso
    cases i with
    | zero => exact nomatch (show some (Sl.is a) = some (.ow as) by simpa using e1)
    | succ i =>
      have e1' : (ds.map Sl.sh ++ List.replicate (N.length - ps.length) .un)[i]? = some (.ow as) := by simpa using e1
      by_cases hi : i < ds.length
      · rw [List.getElem?_append_left (by simpa using hi), List.getElem?_map] at e1'
        cases hd : ds[i]? with
        | none => rw [hd] at e1'; cases e1'
        | some d => rw [hd] at e1'; cases e1'
      · rw [List.getElem?_append_right (by simpa using hi), List.getElem?_replicate] at e1'
        split at e1' <;> cases e1'
  · refine k1 fs gs' S' H' q2 ⟨b2.ex, b2.st, fun b o n e => ?_, fun b n e => ?_⟩ n2 hp e2 r2
    · have nb : b ≠ a := fun z => by rw [z, ha] at e; cases e
      have nd : b ≠ dx := fun z => by rw [z, hdx] at e; cases e
      exact b2.kp b o n nb (by rw [upd_ne nb, upd_ne nd]; exact e)
    · refine b2.fr b ?_ e
      have nb : b ≠ a := fun z => n (by rw [z, ha])
      have nd : b ≠ dx := fun z => n (by rw [z, hdx])
      rw [upd_ne nb, upd_ne nd]; exact n
/-- what making C(.., *v) wants: m arguments and more, or (b) one less -/
def spS (K : Frag) (W : Wc) (c m : Nat) (b : Bool) (g : DF) : Sp := fun vs H Q E => starSp (m + 1) (spI K W c g) vs H Q E ∨ (b = true ∧ vs.length + 1 = m + 1 ∧ ∀ p, H p = none → spI K W c g (vs ++ [V.non, V.ref p]) (upd H p (.tup [])) Q E)
/-- C(.., *v): what a text that makes it is told -/
structure MakeS (P : Program) (w : World) (K : Frag) (W : Wc) (mg : Str → Option Value) (base : Heap) (k : Nat) (x : Str) (c m : Nat) (b : Bool) (g : DF) : Prop where
  ex : ∃ (C f : Addr), W.M c = some C ∧ Mk K C f ∧ FnR P w K mg base (L2.CX P w) k f (spS K W c m b g) ∧ mg x = some (.ref C)
variable {X : Cx} {E : XK} {j k c m : Nat} {x : Str} {b : Bool} {g : DF} {p pos : Pos} {e : Expr} {es : List Expr} {tr : TA} {dr : DA}
/-- C(e, ..) -/
theorem pd_newS (F : MakeS P w K W mg base j x c m b g) (hx : Passes (L2.CX X.prog X.w) X E) (ha : PDA X W E (e :: es) tr dr)
    (hX : X.prog = P ∧ X.w = w ∧ X.K = K ∧ X.mg = mg ∧ X.base = base := by exact ⟨rfl, rfl, rfl, rfl, rfl⟩) (hr : Room k X.A := by assumption) (hj : j + 1 ≤ k := by decide) (hg : Gl X x := by rfl) (hdb : (x == ("__debug__" : Str)) = false := by decide)
    (he : starEach (e :: es) X.env = (false, eval e X.env) :: starEach es X.env := by rfl) (hpl : (backTo pos (starEach es X.env)).any (·.1) = false := by rfl) :
    PD X W E (.Call (.Name x p) (e :: es) [] pos) (tC1 W c fun C => StX.tMakeR C (spS K W c m b g) E tr) (dCall (starF m b g) [] dr) := by
  obtain ⟨rfl, rfl, rfl, rfl, rfl⟩ := hX
  obtain ⟨C, f, hM, M, F, hm⟩ := F.ex
  exact pd_c1 (te := fun C => StX.tMakeR C (spS X.K W c m b g) E tr) hM ⟨StX.pe_makeR M F (hr.mono hj) hg hm hx ha.pe hdb he hpl, se_makeS hM (fun _ _ _ _ h => h) ha.se⟩
/-- C(e, .., *v) -/
theorem pd_newS2 (F : MakeS P w K W mg base j x c m b g) (hx : Passes (L2.CX X.prog X.w) X E) (ha : PDA X W E (e :: es) tr dr)
    (hX : X.prog = P ∧ X.w = w ∧ X.K = K ∧ X.mg = mg ∧ X.base = base := by exact ⟨rfl, rfl, rfl, rfl, rfl⟩) (hr : Room k X.A := by assumption) (hj : j + 1 ≤ k := by decide) (hg : Gl X x := by rfl) (hdb : (x == ("__debug__" : Str)) = false := by decide)
    (he : starEach (e :: es) X.env = (false, eval e X.env) :: starEach es X.env := by rfl) (hst : (backTo pos (starEach es X.env)).any (·.1) = true := by rfl) :
    PD X W E (.Call (.Name x p) (e :: es) [] pos) (tC1 W c fun C => StX.tMakeR C (spS K W c m b g) E tr) (dCall (starF m b g) [] dr) := by
  obtain ⟨rfl, rfl, rfl, rfl, rfl⟩ := hX
  obtain ⟨C, f, hM, M, F, hm⟩ := F.ex
  exact pd_c1 (te := fun C => StX.tMakeR C (spS X.K W c m b g) E tr) hM ⟨pe_makeS2 M F (hr.mono hj) hg hm hx ha.pe hdb he hst, se_makeS hM (fun _ _ _ _ h => h) ha.se⟩
/-- what such an __init__ promises, from its body: with a default None of its last parameter -/
theorem okIS {qual n0 pv : Str} {st : Stmt} {f T : Addr} {N ps : List Str} {k c : Nat} {body : DBI} {name : Str} {kV doc pm cdv ct oc : Value} {an od : Option Addr} {osl : Array (Option Value)} {tc : Value} {td : Option Addr} {tn : Nat} {ts : Array (Option Value)}
    (lk : K.lookup f = some ⟨oc, od, .func (fnOf name qual (defArgs st) (defBody st) (defScope st) (.ref T) kV doc pm an cdv ct), osl⟩) (hcd : codeIn K cdv qual = true) (lT : K.lookup T = some ⟨tc, td, .seq #[.none] tn, ts⟩)
    (Sc : FnScope (n0 :: N) ((n0 :: ps) ++ [pv]) (defScope st)) (hcl : ∀ C, W.M c = some C → Cls K C)
    (hb1 : ∀ us rest : List Value, us.length = (n0 :: ps).length → ∃ g, bindArgs (fnOf name qual (defArgs st) (defBody st) (defScope st) (.ref T) kV doc pm an cdv ct) ⟨us ++ rest, []⟩ = seqItems? (.ref T) >>= g ∧ g (some #[.none]) = (newTuple rest >>= fun t => pure ((n0 :: ps).zip us ++ [(pv, t)])))
    (hb0 : ∀ us : List Value, us.length + 1 = (n0 :: ps).length → ∃ g, bindArgs (fnOf name qual (defArgs st) (defBody st) (defScope st) (.ref T) kV doc pm an cdv ct) ⟨us, []⟩ = seqItems? (.ref T) >>= g ∧ g (some #[.none]) = (newTuple [] >>= fun t => pure ((n0 :: ps).zip (us ++ [.none]) ++ [(pv, t)])))
    (hb : ∀ (A : Around) (outer : List PySem.Env) (s : Shared) (H : Hp) (E : XK), Room k (A.deeper (PyProof.Rows.envOfC qual (defScope st) s.heap.objs.size f cdv)) →
      ∃ ts, PSs (cxOf (L2.CX P w) P w K mg base (n0 :: N) qual (defScope st) f cdv A outer s H E) (defBody st) ts ∧ SIB K W E c ts body) :
    FnR P w K mg base (L2.CX P w) (k + 1) f (spS K W c ps.length true (runI (N.length + 1) (ps ++ [pv]).length body)) := fun A outer s H us vs Q E hr e0 r hsp =>
  fnR_starD (sp := spI K W c (runI (N.length + 1) (ps ++ [pv]).length body)) (ps := n0 :: ps) (pv := pv) lk hcd Sc lT hb1 hb0 (fun A outer s H vs Q E hr h => initB (ps := ps ++ [pv]) hcl hb A outer s H vs Q E hr h) A outer s H us vs Q E hr e0 r
    (hsp.imp id fun ⟨_, h1, h2⟩ => ⟨h1, h2⟩)
/-- .. without defaults -/
theorem okIS0 {qual n0 pv : Str} {st : Stmt} {f : Addr} {N ps : List Str} {k c : Nat} {body : DBI} {name : Str} {kV doc pm cdv ct oc : Value} {an od : Option Addr} {osl : Array (Option Value)}
    (lk : K.lookup f = some ⟨oc, od, .func (fnOf name qual (defArgs st) (defBody st) (defScope st) .none kV doc pm an cdv ct), osl⟩) (hcd : codeIn K cdv qual = true)
    (Sc : FnScope (n0 :: N) ((n0 :: ps) ++ [pv]) (defScope st)) (hcl : ∀ C, W.M c = some C → Cls K C)
    (hb1 : ∀ us rest : List Value, us.length = (n0 :: ps).length → bindArgs (fnOf name qual (defArgs st) (defBody st) (defScope st) .none kV doc pm an cdv ct) ⟨us ++ rest, []⟩ = (newTuple rest >>= fun t => pure ((n0 :: ps).zip us ++ [(pv, t)])))
    (hb : ∀ (A : Around) (outer : List PySem.Env) (s : Shared) (H : Hp) (E : XK), Room k (A.deeper (PyProof.Rows.envOfC qual (defScope st) s.heap.objs.size f cdv)) →
      ∃ ts, PSs (cxOf (L2.CX P w) P w K mg base (n0 :: N) qual (defScope st) f cdv A outer s H E) (defBody st) ts ∧ SIB K W E c ts body) :
    FnR P w K mg base (L2.CX P w) (k + 1) f (spS K W c ps.length false (runI (N.length + 1) (ps ++ [pv]).length body)) := fun A outer s H us vs Q E hr e0 r hsp =>
  StX.fn_star (sp := spI K W c (runI (N.length + 1) (ps ++ [pv]).length body)) (ps := n0 :: ps) (pv := pv) lk hcd Sc StX.cxUp hb1 (fun A outer s H vs Q E hr h => initB (ps := ps ++ [pv]) hcl hb A outer s H vs Q E hr h) A outer s H us vs Q E hr e0 r
    (hsp.resolve_right fun ⟨z, _⟩ => nomatch z)
end
/-! ### a list that only the def holds, handed out from here on -/
section
variable {X : Cx} {W : Wc} {E : XK} {sts : List Stmt} {ts : TS} {ds : DS}
def dShare (i : Nat) (ds : DS) : DS := fun DD xp env => ∃ xs, env[i]? = some (.ow xs) ∧ ds DD xp (env.set i (.sh (.lst xs)))
theorem ss_share {K : Frag} {i : Nat} (h : SS K W E ts ds) : SS K W E ts (dShare i ds) := fun p S0 H0 S H σ env xp sv xo D DD ⟨xs, e, q⟩ k => by
  obtain ⟨a, vs, hs, hS, hp, hH, r⟩ := sv.ev.ow e
  have ex := Ex.new (o := HO.lst vs) hS
  have g := sv.g.show (sv.own i xs a e hs) hS hp hH
  have st := g.st
  have hl : i < env.length := by
    by_cases hl : i < env.length
    · exact hl
    · rw [List.getElem?_eq_none (by omega)] at e; cases e
  have gS : ∀ {o : Option V} {s : Sl}, RSl K W p S H o s → (∀ ys, s = .ow ys → o ≠ some (.ref a)) → RSl K W p (upd S a (.lst vs)) H o s := fun {o s} z ne => by
    cases s with
    | un => trivial
    | sh d => exact let ⟨v, e, r⟩ := z; ⟨v, e, R.mono ex _ _ r⟩
    | ow ys =>
      obtain ⟨b, us, e2, z1, z2, z3, z4⟩ := z
      have : b ≠ a := fun y => ne ys rfl (by rw [e2, y])
      exact ⟨b, us, e2, by rw [upd_ne this]; exact z1, z2, z3, RA.mono ex _ _ z4⟩
    | ex b d c fs => exact let ⟨e, gs, z1, z2, z3⟩ := z; ⟨e, gs, z1, z2, RF.mono ex _ _ z3⟩
    | is b => exact z
  refine h p S0 H0 (upd S a (.lst vs)) H σ (env.set i (.sh (.lst xs))) xp ⟨g, ⟨fun j s e1 => ?_, fun j k2 as bs nj e1 e2 => ?_⟩, fun j ys b e1 e2 => ?_⟩ (xo.ex ex) D DD q (k.mono ex)
  · rcases set_get e1 with ⟨rfl, rfl, _⟩ | ⟨hj, e1'⟩
    · refine ⟨_, hs, .ref a, rfl, ?_⟩
      unfold DL.R
      exact ⟨a, vs, rfl, upd_same, RA.mono ex _ _ r⟩
    · obtain ⟨o, h1, h2⟩ := sv.ev.at_ j s e1'
      refine ⟨o, h1, gS h2 fun ys es eo => ?_⟩
      subst es
      exact sv.ev.dis i j xs ys hj e e1' (by rw [hs, h1, eo])
  · rcases set_get e1 with ⟨_, z, _⟩ | ⟨hj, e1'⟩
    · cases z
    · rcases set_get e2 with ⟨_, z, _⟩ | ⟨hk, e2'⟩
      · cases z
      · exact sv.ev.dis j k2 as bs nj e1' e2'
  · rcases set_get e1 with ⟨_, z, _⟩ | ⟨hj, e1'⟩
    · cases z
    · exact sv.own j ys b e1' e2
theorem pdss_share (i : Nat) (h : PDSs X W E sts ts ds) : PDSs X W E sts ts (dShare i ds) := ⟨h.pe, ss_share h.se⟩
end
end DL

set_option Elab.async false
set_option linter.all false
set_option maxRecDepth 100000
set_option maxHeartbeats 1000000
/-! facts of classes for isinstance -/
namespace DL
open PySem PySem.W PySem.Calls PyProof.Rows L2
theorem cls_some {K : Frag} {C : Addr} (h : hasDictIn K C = true) : (clsIn K C).isSome = true := by
  obtain ⟨cd, hc, _⟩ := any_some h
  rw [hc]
  rfl
theorem kit_sub {K : Frag} {C : Addr} {t : Value} {b : Bool} (h : hasDictIn K C = true) (ht : typeIn K (.ref C) = some (.type "type")) (hs : subIn K t (.ref C) = some b) (hn : b = true ∨ (t == .ref C) = false) : kitOne K t (.ref C) = some b := by
  unfold kitOne
  by_cases e : (t == Value.ref C) = true
  · rw [if_pos e]
    rcases hn with z | z
    · rw [z]
    · rw [z] at e; cases e
  · rw [if_neg e]
    unfold kitCls
    dsimp only
    rw [if_pos (by rw [cls_some h, ht]; rfl)]
    exact hs
end DL

set_option Elab.async false
set_option linter.all false
set_option maxRecDepth 100000
set_option maxHeartbeats 1000000
/-! a, b, c = a list -/
namespace DL
open PySem L2
def dgLst (n : Nat) (dr : DGs) : DG := fun d env post => match d with
  | .lst ds => ds.length = n ∧ dr ds env post
  | _ => False
theorem pdg_lst (K : PySem.W.Frag) {X : Cx} {W : Wc} {pos : Pos} {es : List Expr} {k : Nat} {gs : TGs} {dr : DGs} {vs : List Nat} {n : Nat} (hc : X.calm = true) (h : PDGs X W es gs dr vs) (hn : (assignEach es X.env).length = n := by rfl) (hst : (assignEach es X.env).findIdx? (·.1) = none := by rfl) (hK : X.K = K := by rfl) :
    PDG X W (.Tuple es k pos) (gLst K n gs) (dgLst n dr) vs := by
  subst hK
  exact ⟨pg_lst hc h.pe hn hst, fun p S H σ env v d st ev r Q post q k => by
  cases d with
  | lst ds =>
    unfold DL.R at r
    obtain ⟨a, xs, rfl, hS, ra⟩ := r
    exact ⟨a, xs, rfl, SqL.of (st.ex _ _ hS), by rw [RA.length ra]; exact q.1, h.se p S H σ env xs ds st ev ra Q post q.2 k⟩
  | _ => exact (show False from q).elim⟩
end DL

set_option Elab.async false
set_option linter.all false
set_option maxRecDepth 100000
set_option maxHeartbeats 1000000
/-! several clauses `except C as n`, one name -/
namespace DL
open PySem PySem.Spec PyProof.Rows L2

/-- the ends of a suite whose slot i falls -/
abbrev endsAs (i : Nat) (D : Ends) : Ends := { nx := fun σ' H' => D.nx (σ'.set i none) H', rt := D.rt, bk := fun σ' H' => D.bk (σ'.set i none) H', ct := fun σ' H' => D.ct (σ'.set i none) H' }
/-- what the clauses wish of an exception, one after the other -/
def wAll (K : PySem.W.Frag) (Wout : WX) (D : Ends) (i : Nat) : List (Value × (Addr → Value → Option Addr → TS)) → WX
  | [] => Wout
  | (c, ts) :: r => fun cls d σ H => ∃ b, PySem.W.exmOne K cls c = some b ∧ (b = true → ∀ a, H a = none → ts a cls d (endsAs i D) (σ.set i (some (.ref a))) H) ∧ (b = false → wAll K Wout D i r cls d σ H)
inductive AllOk (X : Cx) (n : Str) : List ExceptHandler → List (Value × (Addr → Value → Option Addr → TS)) → Prop
  | nil : AllOk X n [] []
  | cons {x : Str} {c : Value} {ts : Addr → Value → Option Addr → TS} {b₀ : Stmt} {suite : List Stmt} {np pos' : Pos} {hds : List ExceptHandler} {l : List (Value × (Addr → Value → Option Addr → TS))} (hc : Names X x c)
      (hsu : ∀ (a : Addr) (oe : Obj) (cls : Value) (d : Option Addr) (pn : List (Addr × Obj)), Zc cls d oe → (∃ vs, oe.data = .fields vs) → PSs (X.suite a ((a, oe) :: pn)) (b₀ :: suite) (ts a cls d)) (r : AllOk X n hds l) :
      AllOk X n (.ExceptHandler (some (.Name x np)) (some n) (b₀ :: suite) pos' :: hds) ((c, ts) :: l)
section
variable {X : Cx} {n : Str} {i : Nat} {body : List Stmt} {h₀ : ExceptHandler} {hds : List ExceptHandler} {l : List (Value × (Addr → Value → Option Addr → TS))} {pos : Pos} {tb : WX → TS} {Wout : WX}
theorem ps_try_all (hs : X.stack = X.env :: X.outer) (hf : X.env.frame = some X.env.locals) (hN : X.N.Nodup) (hi : X.N[i]? = some n) (hln : X.env.kindOf n = some .local) (tk : Takes X Wout)
    (hb : ∀ (W : WX) (pn : List (Addr × Obj)) (xe : Value → Shared → Prop), Takes (X.tr pn xe) W → PassesOwn (model X.prog X.w) X.A X.env xe → PSs (X.tr pn xe) body (tb W))
    (hh : AllOk X n (h₀ :: hds) l) : PS X (.Try body (h₀ :: hds) [] [] pos) (fun D σ H => tb (wAll X.K Wout D i l) D σ H) := by
  refine ⟨fun pins s σ H D I h => ?_⟩
  have ok := I.ok
  have hfr : X.A.frames = some (X.env :: X.outer) := by rw [ok.frames, hs]
  refine wpAny_Try_except ?_
  refine wpAny_mono ((hb (wAll X.K Wout D i l) (X.pn ++ pins) (fun e s₁ => wpAny (model X.prog X.w) X.A (noteFrame e X.env) (fun _ s₂ => wpAny (model X.prog X.w) X.A (setFlight e none) (fun _ s₃ =>
    wpAny (model X.prog X.w) X.A (handleBy e X.env (h₀ :: hds)) (SP X pins D) X.xe s₃) X.xe s₂) X.xe s₁) (fun u s' xx => ?_) PassesOwn.looking).run [] s σ H D (I.toTry _) h) (fun f s1 hsp => ?_) (fun e s1 he => he)
  · obtain ⟨a, B, sI, pins', σ', H', cls, d, rfl, J', nb, up, sky, na, os, ag, w⟩ := xx
    have J : Inv X pins σ' H' sI := J'.ofTry ok
    have sky' : Sky B (X.env :: X.outer) a (Zc cls d) X.env.locals s'.heap := by rw [← hs]; exact sky
    show wpAny (model X.prog X.w) X.A (noteFrame (.ref a) X.env) _ _ _
    refine Sky.land Zc.steady hfr hf sky' fun h3 fl3 up3 => ?_
    have J3 : Inv X pins σ' H' { s' with heap := h3 } := J.landed nb fl3.1 (up.trans up3) os ag
    obtain ⟨oe3, vs3, he3, hz3, hd3⟩ := fl3.there
    have nfr : a ∉ frs (X.env :: X.outer) := fun hm => by
      obtain ⟨_, o', e', hnf⟩ := fl3.2.2.1.mem hm
      rw [he3] at e'; cases e'
      exact hnf _ hd3
    have nL : a ≠ X.env.locals := fun z => nfr (List.mem_filterMap.mpr ⟨X.env, List.mem_cons_self, by rw [hf, z]⟩)
    have nF : a ∉ X.fs := fun hm => by
      obtain ⟨e, he, q⟩ := List.mem_filterMap.mp hm
      exact nfr (List.mem_filterMap.mpr ⟨e, List.mem_cons_of_mem _ he, q⟩)
    have S3 := J3.suite he3 hd3 na nL nF
    have go : ∀ {hds' : List ExceptHandler} {l' : List (Value × (Addr → Value → Option Addr → TS))}, AllOk X n hds' l' → wAll X.K Wout D i l' cls d σ' H' →
        wpAny (model X.prog X.w) X.A (handleBy (.ref a) X.env hds') (SP X pins D) X.xe { s' with heap := h3 } := by
      intro hds' l' hk
      induction hk with
      | nil =>
        intro w
        refine wpAny_handleBy_nil ?_
        obtain ⟨k1, k2, k3, oe, vs, T, oT, ts', he, hz, hd, h1, hr⟩ := id fl3
        unfold PySem.passOn
        refine wpAny_bind (wpAny_field he hd h1 ?_)
        rw [if_neg (show ¬ ((Value.ref T == Value.none) = true) from by simp)]
        have fin : wpAny (model X.prog X.w) X.A (setFlight (.ref a) X.env.frame) (fun _ s4 => wpAny (model X.prog X.w) X.A (throw (.ref a) : Sem Flow) (SP X pins D) X.xe s4) X.xe { s' with heap := h3 } := by
          rw [hf]
          refine HandSPX.setFlight_upZ fl3 fun h4 hh4 up4 => wpAny_throw (tk _ _ ?_)
          exact ⟨a, B, sI, pins, σ', H', cls, d, rfl, J, nb, (up.trans up3).trans up4, .inr (.inr (by rw [hs]; exact hh4)), na, os, ag, w⟩
        first
          | exact wpAny_bind (wpAny_pure (wpAny_bind fin))
          | exact wpAny_bind fin
      | @cons x c ts b₀ suite np pos' hds2 l2 hc hsu r ih =>
        intro w
        obtain ⟨b, hb1, hyes, hno⟩ := w
        refine wpAny_handleBy_cons (codeAny_handlers_test ?_) (by intro q; cases q)
        have LT : PySem.W.Looks (model X.prog X.w) h3 (typeOf (.ref a)) cls := fun A Q E s k q => wpAny_typeOf_ref (k _ _ he3) (by rw [hz3.1]; exact q)
        have LM := PySem.W.exm_one (M := model X.prog X.w) (J3.kIn) LT hb1
        have test : ∀ {Q : Value → Shared → Prop} {E : Value → Shared → Prop}, Q c { s' with heap := h3 } → wpAny (model X.prog X.w) (X.A.mark (some (.ref a))) (eval (.Name x np) X.env) Q E { s' with heap := h3 } := fun {Q E} q => by
          obtain ⟨hg, hdbg, hm | ⟨hm, hv, hnn⟩⟩ := hc
          · exact ld_glob (X := X.suite a ((a, oe3) :: (X.pn ++ pins))) S3 hg hm q hdbg
          · exact ld_blt (X := X.suite a ((a, oe3) :: (X.pn ++ pins))) S3 hg hm hv q hnn hdbg
        refine test (LM.here ?_)
        cases b with
        | true =>
          refine codeAny_handlers_suite_as ?_
          refine HandSPX.lands_againZ fl3 fun h4 fl4 up4 => ?_
          have J4 : Inv X pins σ' H' { s' with heap := h4 } := J.landed nb fl4.1 ((up.trans up3).trans up4) os ag
          obtain ⟨oe4, vs4, he4, hz4, hd4⟩ := fl4.there
          have S4 := J4.suite he4 hd4 na nL nF
          refine store_ok (X := X.suite a ((a, oe4) :: (X.pn ++ pins))) (v := .ref a) S4 hN hi (.inl hln) rfl (fun s5 S5 => ?_) (.inr hln)
          refine wpAny_mono ((hsu a oe4 cls d (X.pn ++ pins) hz4 ⟨_, hd4⟩).run [] s5 _ H' _ S5 (hyes rfl a na)) (fun f s6 hsp => ?_) (fun _ _ z => False.elim z)
          have end_ : ∀ {σ6 : L2.St} {H6 : Hp} {Q : Shared → Prop}, Inv (X.suite a ((a, oe4) :: (X.pn ++ pins))) [] σ6 H6 s6 → (∀ s7, Inv X pins (σ6.set i none) H6 s7 → Q s7) →
              wpAny (model X.prog X.w) X.A (do bindName X.env n .none; unbindBehindTheSuite X.env n pos') (fun _ s7 => Q s7) X.xe s6 := fun {σ6 H6 Q} S6 hq => gone_ok (S6.unsuite ok) hN hi hln hq
          cases f with
          | next =>
            obtain ⟨σ6, H6, S6, q6⟩ := hsp
            exact end_ S6 fun s7 J7 => ⟨_, _, J7, q6⟩
          | brk =>
            obtain ⟨σ6, H6, S6, q6⟩ := hsp
            exact end_ S6 fun s7 J7 => ⟨_, _, J7, q6⟩
          | cont =>
            obtain ⟨σ6, H6, S6, q6⟩ := hsp
            exact end_ S6 fun s7 J7 => ⟨_, _, J7, q6⟩
          | ret u =>
            obtain ⟨v6, σ6, H6, S6, r6, q6⟩ := hsp
            exact end_ S6 fun s7 J7 => ⟨_, _, _, J7, r6, q6⟩
        | false =>
          show wpAny _ X.A (handleBy (.ref a) X.env hds2) _ _ _
          exact ih (hno rfl)
    exact go hh w
  · cases f with
    | next =>
      obtain ⟨σ', H', J', q⟩ := hsp
      exact wpAny_execs_nil ⟨σ', H', J'.ofTry ok, q⟩
    | brk =>
      obtain ⟨σ', H', J', q⟩ := hsp
      exact ⟨σ', H', J'.ofTry ok, q⟩
    | cont =>
      obtain ⟨σ', H', J', q⟩ := hsp
      exact ⟨σ', H', J'.ofTry ok, q⟩
    | ret u =>
      obtain ⟨v, σ', H', J', r, q⟩ := hsp
      exact ⟨v, σ', H', J'.ofTry ok, r, q⟩
end
end DL

set_option Elab.async false
set_option linter.all false
set_option maxRecDepth 100000
set_option maxHeartbeats 1000000
namespace DL
open PySem PySem.Spec PyProof.Rows L2
abbrev DEx := Addr → Value → Option Addr → DS
abbrev endsD (i : Nat) (DD : DEnds) : DEnds := { nx := fun env' => DD.nx (env'.set i .un), rt := DD.rt, bk := fun env' => DD.bk (env'.set i .un), ct := fun env' => DD.ct (env'.set i .un) }
def dAll (W : Wc) (N i : Nat) (DD : DEnds) (xp : XP) : List ((Nat → Bool) × DEx) → XP
  | [] => xp
  | (bt, ds) :: r => fun c dfs => (bt c = true ∧ ∀ a dx C, W.M c = some C → ds a (.ref C) (some dx) (endsD i DD) noX ((unS N).set i (.ex a dx c dfs))) ∨ (bt c = false ∧ dAll W N i DD xp r c dfs)
def dTryAll (W : Wc) (N i : Nat) (db : DS) (cl : List ((Nat → Bool) × DEx)) : DS := fun DD xp env => db DD (dAll W N i DD xp cl) env
inductive ClsOk (X : Cx) (W : Wc) (n : Str) : List ExceptHandler → List (Value × (Addr → Value → Option Addr → TS)) → List ((Nat → Bool) × DEx) → Prop
  | nil : ClsOk X W n [] [] []
  | cons {x : Str} {c : Value} {bt : Nat → Bool} {ts : Addr → Value → Option Addr → TS} {dsu : DEx} {b₀ : Stmt} {suite : List Stmt} {np pos' : Pos} {hds : List ExceptHandler} {l : List (Value × (Addr → Value → Option Addr → TS))} {cl : List ((Nat → Bool) × DEx)} (E0 : XK)
      (hc : Names X x c) (hbt : ∀ k C, W.M k = some C → PySem.W.exmOne X.K (.ref C) c = some (bt k))
      (hsu : ∀ (a : Addr) (oe : Obj) (cls : Value) (d : Option Addr) (pn : List (Addr × Obj)), Zc cls d oe → (∃ vs, oe.data = .fields vs) → PDSs (X.suite a ((a, oe) :: pn)) W E0 (b₀ :: suite) (ts a cls d) (dsu a cls d)) (r : ClsOk X W n hds l cl) :
      ClsOk X W n (.ExceptHandler (some (.Name x np)) (some n) (b₀ :: suite) pos' :: hds) ((c, ts) :: l) ((bt, dsu) :: cl)
section
variable {X : Cx} {W : Wc} {E : XK} {n : Str} {i N : Nat} {hds : List ExceptHandler} {l : List (Value × (Addr → Value → Option Addr → TS))} {cl : List ((Nat → Bool) × DEx)}
theorem ClsOk.all (h : ClsOk X W n hds l cl) : AllOk X n hds l := by
  induction h with
  | nil => exact .nil
  | cons E0 hc hbt hsu r ih => exact .cons hc (fun a oe cls d pn z v => (hsu a oe cls d pn z v).pe) ih

theorem ClsOk.wish (h : ClsOk X W n hds l cl) {p : Addr} {S0 H0 S S' H' : Hp} {xp : XP} {D : Ends} {DD : DEnds} {σ' : L2.St} (xo : XOkS X.K W p S0 H0 S xp E) (k : EOk X.K W p S0 H0 S D DD) (hσ : σ'.length = N) {c : Nat} {dfs : List (Str × DL.D)} {C x : Addr} {gs : List (Str × V)}
    (hx : dAll W N i DD xp cl c dfs) (hM : W.M c = some C) (hne : x ≠ p) (ex : Ex S S') (g' : Grow W p S0 H0 S' H') (e : H' x = some (.xd gs)) (r : RF X.K W p S' gs dfs) :
    wAll X.K (fun cls d _ H => E cls d H) D i l (.ref C) (some x) σ' H' := by
  induction h with
  | nil => exact xo c dfs C x gs S' H' hx hM hne ex g' e r
  | @cons y cv bt ts dsu b₀ suite np pos' hds l cl E0 hc hbt hsu rest ih =>
    rcases hx with ⟨h1, h2⟩ | ⟨h1, h2⟩
    · refine ⟨true, by rw [hbt c C hM, h1], fun _ a ha => ?_, fun z => Bool.noConfusion z⟩
      have ev := Ev.ex (K := X.K) (W := W) (p := p) (S := S') (H := H') (i := i) (a := a) (c := c) hσ e hne r
      refine (hsu a { cls := .ref C, dict := some x, data := .fields #[] } (.ref C) (some x) [] ⟨rfl, rfl⟩ ⟨_, rfl⟩).se p S0 H0 S' H' _ _ noX ⟨g', ev, fun j ds b e1 e2 => ?_⟩ XOkS.no _ _ (h2 a x C hM) ⟨?_, ?_, ?_, ?_⟩
      · exfalso
        by_cases hj : i = j
        · subst hj
          have hlt : i < (unS N).length := by
            have := (List.getElem?_eq_some_iff.mp e1).1
            rwa [List.length_set] at this
          rw [List.getElem?_set_self hlt] at e1
          cases e1
        · rw [List.getElem?_set_ne hj] at e1
          cases unS_get e1
      · exact fun S2 H2 σ2 env2 x2 sv2 q2 => k.nx S2 H2 _ _ (ex.trans x2) (sv2.unset i) q2
      · exact fun S2 H2 v d x2 g2 r2 q2 => k.rt S2 H2 v d (ex.trans x2) g2 r2 q2
      · exact fun S2 H2 σ2 env2 x2 sv2 q2 => k.bk S2 H2 _ _ (ex.trans x2) (sv2.unset i) q2
      · exact fun S2 H2 σ2 env2 x2 sv2 q2 => k.ct S2 H2 _ _ (ex.trans x2) (sv2.unset i) q2
    · exact ⟨false, by rw [hbt c C hM, h1], fun z => Bool.noConfusion z, fun _ => ih h2⟩
variable {body : List Stmt} {h₀ : ExceptHandler} {pos : Pos} {tb : WX → TS} {db : DS}
theorem pds_tryAll (hk : ClsOk X W n (h₀ :: hds) l cl) (hs : X.stack = X.env :: X.outer) (hf : X.env.frame = some X.env.locals) (hN : X.N.Nodup) (tk : Takes X (fun cls d _ H => E cls d H))
    (hb : ∀ (Wx : WX) (pn : List (Addr × Obj)) (xe : Value → Shared → Prop), Takes (X.tr pn xe) (fun cls d _ H => EW N Wx cls d H) → PDSs (X.tr pn xe) W (EW N Wx) body (tb Wx) db)
    (hl : N = X.N.length := by rfl) (hi : X.N[i]? = some n := by rfl) (hln : X.env.kindOf n = some .local := by rfl) :
    PDS X W E (.Try body (h₀ :: hds) [] [] pos) (fun D σ H => tb (wAll X.K (fun cls d _ H => E cls d H) D i l) D σ H) (dTryAll W N i db cl) := by
  subst hl
  refine ⟨ps_try_all hs hf hN hi hln tk (fun Wx pn xe tkx pw => (hb Wx pn xe (takes_ew tkx rfl)).pe) hk.all, fun p S0 H0 S H σ env xp sv xo D DD q k => ?_⟩
  refine (hb (wAll X.K (fun cls d _ H => E cls d H) D i l) [] (fun _ _ => True) (fun _ _ _ => True.intro)).se p S0 H0 S H σ env _ sv (fun c dfs C x gs S' H' hx hM hne ex g' e r => ?_) D DD q k
  exact fun σ' hσ => hk.wish xo k hσ hx hM hne ex g' e r
/-- a class by its number -/
def Cv (W : Wc) (c : Nat) : Value := match W.M c with
  | some C => .ref C
  | none => .none
theorem ClsOk.consD {K : PySem.W.Frag} {mg : Str → Option Value} {x : Str} {c0 : Nat} {bt : Nat → Bool} {ts : Addr → Value → Option Addr → TS} {dsu : DEx} {b₀ : Stmt} {suite : List Stmt} {np pos' : Pos} (E0 : XK) (F : CatchOk W K mg x c0 bt)
    (hsu : ∀ (a : Addr) (oe : Obj) (cls : Value) (d : Option Addr) (pn : List (Addr × Obj)), Zc cls d oe → (∃ vs, oe.data = .fields vs) → PDSs (X.suite a ((a, oe) :: pn)) W E0 (b₀ :: suite) (ts a cls d) (dsu a cls d)) (r : ClsOk X W n hds l cl)
    (hX : X.K = K ∧ X.mg = mg := by exact ⟨rfl, rfl⟩) (hg : Gl X x := by rfl) (hdb : (x == ("__debug__" : Str)) = false := by decide) :
    ClsOk X W n (.ExceptHandler (some (.Name x np)) (some n) (b₀ :: suite) pos' :: hds) ((Cv W c0, ts) :: l) ((bt, dsu) :: cl) := by
  obtain ⟨rfl, rfl⟩ := hX
  obtain ⟨C, hM, hm, hbt⟩ := F.ex
  have e : Cv W c0 = .ref C := by unfold Cv; rw [hM]
  rw [e]
  exact .cons E0 ⟨hg, hdb, .inl hm⟩ hbt hsu r
end
end DL

set_option Elab.async false
set_option linter.all false
set_option maxRecDepth 100000
set_option maxHeartbeats 1000000
/-! f(lambda: e): the making, with all that it leaves told -/
namespace DL
open PySem PySem.Spec PyProof.Rows L2 LamX
/-- what making the lambda leaves: its code object, the table, nothing else -/
structure Lm (H : Hp) (P : Addr) (q : Str) (c' : Addr) (H1 : Hp) : Prop where
  co : H1 c' = some (CodeO c' q)
  tab : TabS H1 P q
  how : H1 = H ∨ ∃ ps qs, H c' = none ∧ H P = some (.tbl ps) ∧ P ≠ c' ∧ H1 = upd (upd H P (.tbl qs)) c' (CodeO c' q)
section
variable {X : Cx} {pins : List (Addr × Obj)} {σ : L2.St} {H : Hp} {s : Shared}
theorem lam_mk {c P : Addr} {params : Arguments} {body : Expr} {scope : Scope} {pos : Pos} {E : Value → Shared → Prop} {Q : Value → Shared → Prop} (I : Inv X pins σ H s) (TB : TabB X.base X.mg c P) (hcode : X.env.code = .ref c)
    (hT : TabS H P (X.env.qual ++ "<lambda>")) (hdef : defaultsOf params X.env = ([], [])) (hfree : ∀ y ∈ scope.names, y.2 = .free → ∃ c, X.env.cells.lookup y.1 = some c)
    (h : ∀ (f c' : Addr) (pm ctv : Value) (H1 : Hp) (s' : Shared), Inv X pins σ H1 s' → Lm H P (X.env.qual ++ "<lambda>") c' H1 →
      s'.heap.get? f = some (PySem.W.kla_obj "<lambda>" (X.env.qual ++ "<lambda>") params body scope (cloFrom X.env.cells scope.names []) pm c' ctv) → H1 f = none → f ∉ frs X.stack → Q (.ref f) s') :
    wpAny (model X.prog X.w) X.A (eval (.Lambda params body scope pos) X.env) Q E s := by
  obtain ⟨ps, hP, ht, ha⟩ := hT
  refine PySem.W.kla_eval hdef ?_
  have bP : s.heap.BuiltinsAt X.mg P := TB.bm.keeps I.bk
  have hP' : s.heap.get? P = some { cls := .none, data := .fields ps } := I.hok P _ hP
  have nofr : ∀ f, s.heap.objs.size ≤ f → f ∉ frs X.stack := fun f hf z => by
    rcases List.mem_cons.mp (I.stkSub _ z) with e | e
    · have h1 := I.lt
      rw [← e] at h1
      exact Nat.lt_irrefl _ (Nat.lt_of_lt_of_le h1 hf)
    · exact I.nofs hf e
  cases hc : codeAmong pos ps.toList with
  | none =>
    refine PySem.W.kla_makeFunction (mg := X.mg) (c := c) (P := P) (ps := ps) (closure_ok hfree) I.ok.glob (I.mod.glob.keeps I.bk) hcode (TB.code.keeps I.bk) hP' ht hc TB.gP bP fun c' ctv h' tk hx hge hlt hrec htb => ?_
    obtain ⟨c2, oc, vs, t, e2, hoc, hd, hv⟩ := hrec
    cases e2
    have nC : H c' = none := I.hok.fresh hge
    have nPc : P ≠ c' := ne_of_none hP nC
    have I1 := inv_table (t' := tk) (more := #[rawInt pos.line, rawInt pos.col, .ref c']) (h' := h'.push (PySem.W.kla_obj "<lambda>" (X.env.qual ++ "<lambda>") params body scope (cloFrom X.env.cells scope.names []) ((X.mg "__name__").getD .none) c' ctv)) I hP
      (fun b o hb e => Heap.get?_push_of_some _ (hx b o hb e)) (Heap.get?_push_of_some _ htb) hge ⟨oc, vs, t, Heap.get?_push_of_some _ hoc, hd, hv⟩
    have eL : (ps ++ #[rawInt pos.line, rawInt pos.col, .ref c']).toList = ps.toList ++ [rawInt pos.line, rawInt pos.col, .ref c'] := by simp
    refine h h'.objs.size c' _ ctv _ _ I1 ⟨upd_same, ⟨_, by rw [upd_ne nPc, upd_same], by rw [eL]; exact PySem.TriplesOk_snoc _ _ _ _ ht, fun p' cv hcv => ?_⟩, .inr ⟨ps, _, nC, hP, nPc, rfl⟩⟩ (Heap.get?_push_size _ rfl) ?_ (nofr _ (Nat.le_trans hge (Nat.le_of_lt hlt)))
    · rw [eL] at hcv
      rcases among_app _ ht hcv with z | z
      · obtain ⟨c0, e1, e2⟩ := ha p' cv z
        have n0 : c0 ≠ c' := ne_of_none e2 nC
        have n1 : c0 ≠ P := fun z => by
          rw [z, hP] at e2
          exact codeO_ne _ (Option.some.inj e2).symm
        exact ⟨c0, e1, by rw [upd_ne n0, upd_ne n1]; exact e2⟩
      · exact ⟨c', z, upd_same⟩
    · have n1 : h'.objs.size ≠ c' := Nat.ne_of_gt hlt
      have n2 : h'.objs.size ≠ P := Nat.ne_of_gt (Nat.lt_of_lt_of_le (Heap.lt_size hP') (Nat.le_trans hge (Nat.le_of_lt hlt)))
      rw [upd_ne n1, upd_ne n2]
      exact I.hok.fresh (Nat.le_trans hge (Nat.le_of_lt hlt))
  | some cv =>
    obtain ⟨c', e, hco⟩ := ha pos cv hc
    subst e
    refine PySem.W.kla_makeFunctionHit (mg := X.mg) (c := c) (P := P) (ps := ps) (closure_ok hfree) I.ok.glob (I.mod.glob.keeps I.bk) hcode (TB.code.keeps I.bk) hP' ht hc bP fun ctv h' tk hx hsz => ?_
    have I1 : Inv X pins σ H { s with heap := h'.push (PySem.W.kla_obj "<lambda>" (X.env.qual ++ "<lambda>") params body scope (cloFrom X.env.cells scope.names []) ((X.mg "__name__").getD .none) c' ctv), toks := tk } := I.kept fun b o e => Heap.get?_push_of_some _ (hx b o e)
    exact h h'.objs.size c' _ ctv H _ I1 ⟨hco, ⟨ps, hP, ht, ha⟩, .inl rfl⟩ (Heap.get?_push_size _ rfl) (I.hok.fresh hsz) (nofr _ hsz)
end
/-- the reading of x(lambda: e) by the hand layer -/
def tLam2 (P : Addr) (q : Str) (TT : Addr → Addr → (XK → Hp → VK → Prop) → Hp → VK → Prop) (t : XK → TE) : TE := fun σ H Q => TabS H P q ∧ ∀ f c' H1, Lm H P q c' H1 → H1 f = none → TT f c' (fun E H' Q' => t E σ H' Q') H1 Q
/-- the def that gets the lambda -/
def Takes1 (X : Cx) (Ng : List Str) (x : Str) (sg : Scope) (g : Addr) (cdg : Value) (bg : List Stmt) (a q : Str) (TT : Addr → Addr → (XK → Hp → VK → Prop) → Hp → VK → Prop) : Prop :=
  ∀ (f c' : Addr) (s : Shared) (H : Hp) (Q : VK) (tl : XK → Hp → VK → Prop),
    (∀ (W : WX) (pn : List (Addr × Obj)) (xe : Value → Shared → Prop) (E : XK) (p1 p2 : Pos), Takes ((cxOf C8.CX0 X.prog X.w X.K X.mg X.base Ng x sg g cdg X.A X.stack s H C8.E0).tr pn xe) W → (∀ cls d σ' H', E cls d H' → W cls d σ' H') →
      PE ((cxOf C8.CX0 X.prog X.w X.K X.mg X.base Ng x sg g cdg X.A X.stack s H C8.E0).tr pn xe) (.Call (.Name a p1) [] [] p2) (fun σZ HZ Q => σZ[0]? = some (some (.ref f)) ∧ HZ c' = some (CodeO c' q) ∧ tl E HZ Q)) →
    TT f c' tl H Q →
    ∃ t, PSs (cxOf C8.CX0 X.prog X.w X.K X.mg X.base Ng x sg g cdg X.A X.stack s H C8.E0).nox bg t ∧ t { nx := fun _ H' => Q .non H', rt := Q } (L2.start Ng [.ref f]) H
section
variable {X : Cx}
theorem pe_lam2 {TT : Addr → Addr → (XK → Hp → VK → Prop) → Hp → VK → Prop} {x a : Str} {g c P : Addr} {k : Nat} {pg : Arguments} {bg : List Stmt} {sg : Scope} {dV kV doc pm cdv ct oc : Value} {an od : Option Addr} {osl : Array (Option Value)} {Ng : List Str}
    {params : Arguments} {body : Expr} {scope : Scope} {t : XK → TE} {p lpos pos : Pos} (hg : Gl X x) (hm : X.mg x = some (.ref g)) (hk : PySem.W.keepIn X.K (.ref g) = true)
    (lk : X.K.lookup g = some ⟨oc, od, .func (PySem.W.fnOf x x pg bg sg dV kV doc pm an cdv ct), osl⟩) (hcg : PySem.W.codeIn X.K cdv x = true) (hb : L2.Binds X.K (PySem.W.fnOf x x pg bg sg dV kV doc pm an cdv ct) [a] []) (Sg : FnScope Ng [a] sg) (hNg : Ng[0]? = some a) (hva : Vis sg a)
    (hG : Takes1 X Ng x sg g cdv bg a (X.env.qual ++ "<lambda>") TT)
    (TB : TabB X.base X.mg c P) (hcode : X.env.code = .ref c) (hr : Room (k + 2) X.A) (L : LamS X.env.scope scope) (hdef : defaultsOf params X.env = ([], []))
    (hbind : ∀ (q : Str) (cl : List (Str × Addr)) (pm cv ctv : Value), bindArgs (PySem.W.kla_fn "<lambda>" q params body scope cl pm cv ctv) ⟨[], []⟩ = pure [])
    (hbody : ∀ (A : Around) (outer : List Env) (s : Shared) (H : Hp) (E : XK) (f c' : Addr), Room k (A.deeper (lamEnv X scope s.heap.objs.size f c')) → PE (lamCx X A outer s H E scope f c') body (t E))
    (hdb : (x == ("__debug__" : Str)) = false := by decide) (hd : (a == ("__debug__" : Str)) = false := by decide) (hcd : (a == ("__classdict__" : Str)) = false := by decide) :
    PE X (.Call (.Name x p) [.Lambda params body scope lpos] [] pos) (tLam2 P (X.env.qual ++ "<lambda>") TT t) := by
  refine ⟨fun pins s σ H Q I h => ?_⟩
  obtain ⟨hT, h⟩ := h
  refine wpAny_Call_Name_kw (ld_glob I hg hm ?_ hdb)
  refine PySem.W.callWith_K (h₀ := X.base) I.ok.mod.kin hk ?_ (by rfl) (by rfl)
  show wpAny _ _ (spliced ((false, eval (.Lambda params body scope lpos) X.env) :: backTo pos (starEach [] X.env))) _ _ s
  refine Calls.spliced_cons (lam_mk I TB hcode hT hdef (L.has I.ok) fun f c' pm' ctv H1 s' I1 lm hf hfn hfr => ?_)
  refine Calls.spliced_nil ⟨I1.kIn, ?_⟩
  have rc : codeAny (model X.prog X.w) X.A (.call (.ref g) ⟨[.ref f], []⟩) (CR C8.CX0 X.stack X.prog X.w H1 s' Q C8.E0) s' := by
    refine run_ofS (N := Ng) (ps := [a]) (us := [.ref f]) (vs := [.ref f]) lk hcg Sg hr I1.env0 (hb s' [.ref f] I1.kIn rfl) (.cons rfl .nil) rfl fun hr' => ?_
    obtain ⟨t', ht', hq'⟩ := hG f c' s' H1 Q (fun E H' Q' => t E σ H' Q') (fun W pn xe E p1 p2 tk hW => pe_act (i := 0) I1 L hf hfn hfr (hbind _ _ _ _ _) tk hW hr' (fun A outer s H hr2 => hbody A outer s H E f c' hr2) hNg hva hd hcd) (h f c' H1 lm hfn)
    exact ⟨t', ht'.nox, hq'⟩
  refine wpAny_call (codeAny_mono rc fun r s2 hq => ?_)
  match r, hq with
  | .error e, hq => exact (show False from hq).elim
  | .ok (.ret u), hq => exact I1.after hq
  | .ok .next, hq => exact hq.elim
  | .ok .brk, hq => exact hq.elim
  | .ok .cont, hq => exact hq.elim
end
end DL

set_option Elab.async false
set_option linter.all false
set_option maxRecDepth 100000
set_option maxHeartbeats 1000000
/-! f(lambda: e), by data -/
namespace DL
open PySem PySem.Spec PyProof.Rows L2 LamX
mutual
/-- nothing of the hidden source in it -/
def ntD : D → Bool
  | .tok => false
  | .lst ds => ntA ds
  | .tup ds => ntA ds
  | .obj _ fs => ntF fs
  | .dct ks => ntK ks
  | _ => true
def ntA : List D → Bool
  | [] => true
  | d :: ds => ntD d && ntA ds
def ntF : List (Str × D) → Bool
  | [] => true
  | (_, d) :: fs => ntD d && ntF fs
def ntK : List (Key × D) → Bool
  | [] => true
  | (_, d) :: fs => ntD d && ntK fs
end
section
variable {K : PySem.W.Frag} {W W' : Wc} {p p' : Addr} {S : Hp}
mutual
theorem R.pp (hM : ∀ c, W.M c = W'.M c) : ∀ (d : D) (v : V), ntD d = true → R K W p S v d → R K W' p' S v d
  | .non, _, _, h => h
  | .bl _, _, _, h => h
  | .int _, _, _, h => h
  | .str _, _, _, h => h
  | .lst ds, v, n, h => by
    unfold R at h ⊢
    unfold ntD at n
    obtain ⟨a, xs, rfl, h1, h2⟩ := h
    exact ⟨a, xs, rfl, h1, RA.pp hM ds xs n h2⟩
  | .tup ds, v, n, h => by
    unfold R at h ⊢
    unfold ntD at n
    obtain ⟨a, xs, rfl, h1, h2⟩ := h
    exact ⟨a, xs, rfl, h1, RA.pp hM ds xs n h2⟩
  | .obj c fs, v, n, h => by
    unfold R at h ⊢
    unfold ntD at n
    obtain ⟨a, C, dx, gs, rfl, h1, h2, h3⟩ := h
    exact ⟨a, C, dx, gs, rfl, h1, by rw [← hM]; exact h2, RF.pp hM fs gs n h3⟩
  | .tok, _, n, _ => by unfold ntD at n; cases n
  | .ety, v, _, h => by
    unfold R at h ⊢
    exact h
  | .dct ks, v, n, h => by
    unfold R at h ⊢
    unfold ntD at n
    obtain ⟨h0, a, kvs, rfl, h1, h2⟩ := h
    exact ⟨h0, a, kvs, rfl, h1, RK.pp hM ks kvs n h2⟩
theorem RA.pp (hM : ∀ c, W.M c = W'.M c) : ∀ (ds : List D) (xs : List V), ntA ds = true → RA K W p S xs ds → RA K W' p' S xs ds
  | [], _, _, h => h
  | d :: ds, xs, n, h => by
    unfold RA at h ⊢
    unfold ntA at n
    rw [Bool.and_eq_true] at n
    obtain ⟨y, ys, rfl, h1, h2⟩ := h
    exact ⟨y, ys, rfl, R.pp hM d y n.1 h1, RA.pp hM ds ys n.2 h2⟩
theorem RF.pp (hM : ∀ c, W.M c = W'.M c) : ∀ (ds : List (Str × D)) (xs : List (Str × V)), ntF ds = true → RF K W p S xs ds → RF K W' p' S xs ds
  | [], _, _, h => h
  | (n, d) :: ds, xs, nt, h => by
    unfold RF at h ⊢
    unfold ntF at nt
    rw [Bool.and_eq_true] at nt
    obtain ⟨y, ys, rfl, h1, h2⟩ := h
    exact ⟨y, ys, rfl, R.pp hM d y nt.1 h1, RF.pp hM ds ys nt.2 h2⟩
theorem RK.pp (hM : ∀ c, W.M c = W'.M c) : ∀ (ds : List (Key × D)) (xs : List (Key × V)), ntK ds = true → RK K W p S xs ds → RK K W' p' S xs ds
  | [], _, _, h => h
  | (n, d) :: ds, xs, nt, h => by
    unfold RK at h ⊢
    unfold ntK at nt
    rw [Bool.and_eq_true] at nt
    obtain ⟨y, ys, rfl, h1, h2⟩ := h
    exact ⟨y, ys, rfl, R.pp hM d y nt.1 h1, RK.pp hM ds ys nt.2 h2⟩
end
mutual
theorem R.wm (hM : ∀ c, W.M c = W'.M c) : ∀ (d : D) (v : V), R K W p S v d → R K W' p S v d
  | .non, _, h => h
  | .bl _, _, h => h
  | .int _, _, h => h
  | .str _, _, h => h
  | .lst ds, v, h => by
    unfold R at h ⊢
    obtain ⟨a, xs, rfl, h1, h2⟩ := h
    exact ⟨a, xs, rfl, h1, RA.wm hM ds xs h2⟩
  | .tup ds, v, h => by
    unfold R at h ⊢
    obtain ⟨a, xs, rfl, h1, h2⟩ := h
    exact ⟨a, xs, rfl, h1, RA.wm hM ds xs h2⟩
  | .obj c fs, v, h => by
    unfold R at h ⊢
    obtain ⟨a, C, dx, gs, rfl, h1, h2, h3⟩ := h
    exact ⟨a, C, dx, gs, rfl, h1, by rw [← hM]; exact h2, RF.wm hM fs gs h3⟩
  | .tok, _, h => h
  | .ety, v, h => by
    unfold R at h ⊢
    exact h
  | .dct ks, v, h => by
    unfold R at h ⊢
    obtain ⟨h0, a, kvs, rfl, h1, h2⟩ := h
    exact ⟨h0, a, kvs, rfl, h1, RK.wm hM ks kvs h2⟩
theorem RA.wm (hM : ∀ c, W.M c = W'.M c) : ∀ (ds : List D) (xs : List V), RA K W p S xs ds → RA K W' p S xs ds
  | [], _, h => h
  | d :: ds, xs, h => by
    unfold RA at h ⊢
    obtain ⟨y, ys, rfl, h1, h2⟩ := h
    exact ⟨y, ys, rfl, R.wm hM d y h1, RA.wm hM ds ys h2⟩
theorem RF.wm (hM : ∀ c, W.M c = W'.M c) : ∀ (ds : List (Str × D)) (xs : List (Str × V)), RF K W p S xs ds → RF K W' p S xs ds
  | [], _, h => h
  | (n, d) :: ds, xs, h => by
    unfold RF at h ⊢
    obtain ⟨y, ys, rfl, h1, h2⟩ := h
    exact ⟨y, ys, rfl, R.wm hM d y h1, RF.wm hM ds ys h2⟩
theorem RK.wm (hM : ∀ c, W.M c = W'.M c) : ∀ (ds : List (Key × D)) (xs : List (Key × V)), RK K W p S xs ds → RK K W' p S xs ds
  | [], _, h => h
  | (n, d) :: ds, xs, h => by
    unfold RK at h ⊢
    obtain ⟨y, ys, rfl, h1, h2⟩ := h
    exact ⟨y, ys, rfl, R.wm hM d y h1, RK.wm hM ds ys h2⟩
end
end
/-- the surroundings while a lambda made at S0 may be called -/
def Wx (W : Wc) (S0 : Hp) (c' : Addr) (q : Str) : Wc where
  M := W.M
  Sr := fun S o => W.Sr S o ∧ Ex S0 S
  mono := fun S S' o e h => ⟨W.mono S S' o e h.1, h.2.trans e⟩
  nt := fun S o h => W.nt S o h.1
  Th := fun H => W.Th H ∧ H c' = some (CodeO c' q)
  th := fun H H' e h => ⟨W.th H H' e h.1, e _ _ h.2 (.inr ⟨_, _, rfl⟩)⟩
section
variable {K : PySem.W.Frag} {W : Wc} {S0 : Hp} {c' : Addr} {q : Str} {p : Addr} {S H S1 H1 : Hp}
theorem Stt.x (s : Stt W p S H) (e : Ex S0 S) (h : H c' = some (CodeO c' q)) : Stt (Wx W S0 c' q) p S H := by
  obtain ⟨o, e1, e2⟩ := s.src
  exact ⟨⟨⟨s.tabs.1, h⟩, s.tabs.2⟩, s.ex, s.hid, o, e1, e2, e⟩
theorem Stt.ox (s : Stt (Wx W S0 c' q) p S H) : Stt W p S H ∧ Ex S0 S ∧ H c' = some (CodeO c' q) := by
  obtain ⟨o, e1, e2, e3⟩ := s.src
  exact ⟨⟨⟨s.tabs.1.1, s.tabs.2⟩, s.ex, s.hid, o, e1, e2⟩, e3, s.tabs.1.2⟩
theorem Grow.ox (g : Grow (Wx W S0 c' q) p S H S1 H1) : Grow W p S H S1 H1 := ⟨g.ex, g.st.ox.1, g.kp, g.fr⟩
theorem Grow.x (s : Stt (Wx W S0 c' q) p S H) (g : Grow W p S H S1 H1) : Grow (Wx W S0 c' q) p S H S1 H1 := by
  obtain ⟨_, e, h⟩ := s.ox
  refine ⟨g.ex, g.st.x (e.trans g.ex) ?_, g.kp, g.fr⟩
  have n : c' ≠ p := fun z => by
    obtain ⟨o, e1, e2⟩ := s.src
    rw [z, e1] at h
    exact ((Wx W S0 c' q).nt _ _ e2).2 _ _ (Option.some.inj h)
  exact g.keep c' _ n h (fun ps z => codeO_ne ps z)
theorem R.ox {v : V} {d : D} (r : R K (Wx W S0 c' q) p S v d) : R K W p S v d := R.wm (W := Wx W S0 c' q) (W' := W) (fun _ => rfl) d v r
theorem R.x {v : V} {d : D} (r : R K W p S v d) : R K (Wx W S0 c' q) p S v d := R.wm (W := W) (W' := Wx W S0 c' q) (fun _ => rfl) d v r
theorem XOk.ox {xp : XP} {E : XK} (s : Stt (Wx W S0 c' q) p S H) (x : XOk K (Wx W S0 c' q) p S H xp E) : XOk K W p S H xp E :=
  fun c dfs C y gs S' H' a b n g e r => x c dfs C y gs S' H' a b n (g.x s) e (RF.wm (W := W) (W' := Wx W S0 c' q) (fun _ => rfl) dfs gs r)
end
/-- a lambda by data -/
abbrev DLam := XP → (D → Prop) → Prop
/-- a(), a the lambda that the def got -/
def dAct (f : Addr) (lam : DLam) : DE := fun env xp post => env[0]? = some (.is f) ∧ lam xp post
/-- the def that gets it -/
def runL (n : Nat) (b : DE → DS) : DLam → (D → Prop) → Prop := fun lam post => ∀ f : Addr, b (dAct f lam) { nx := fun _ => post .non, rt := post } noX (.is f :: List.replicate (n - 1) .un)
def safe (env : SEnv) : SEnv := env.map fun s => match s with
  | .sh d => if ntD d = true then .sh d else .un
  | _ => .un
/-- x(lambda: e) -/
def dLam (g : DLam → (D → Prop) → Prop) (de : DE) : DE := fun env _ post => g (fun xp' post' => de (safe env) xp' post') post
def LamOk (K : PySem.W.Frag) (W : Wc) (S0 : Hp) (c' : Addr) (q : Str) (tl : XK → Hp → VK → Prop) (lam : DLam) : Prop :=
  ∀ p S H, Stt (Wx W S0 c' q) p S H → ∀ (E : XK) (xp : XP) (post : D → Prop) (Q : VK), lam xp post → XOk K (Wx W S0 c' q) p S H xp E →
    (∀ v d S' H', post d → Grow (Wx W S0 c' q) p S H S' H' → R K (Wx W S0 c' q) p S' v d → Q v H') → tl E H Q
/-- what the def that gets the lambda is told -/
def TTd (K : PySem.W.Frag) (W : Wc) (q : Str) (n : Nat) (b : DE → DS) (f c' : Addr) (tl : XK → Hp → VK → Prop) (H : Hp) (Q : VK) : Prop :=
  ∃ (p : Addr) (S : Hp) (lam : DLam) (post : D → Prop), Stt (Wx W S c' q) p S H ∧ LamOk K W S c' q tl lam ∧ runL n b lam post ∧
    ∀ v d S' H', post d → Grow (Wx W S c' q) p S H S' H' → R K (Wx W S c' q) p S' v d → Q v H'
section
variable {K : PySem.W.Frag} {W : Wc} {S0 : Hp} {c' f : Addr} {q : Str} {tl : XK → Hp → VK → Prop} {lam : DLam}
theorem se_act (h : LamOk K W S0 c' q tl lam) (E : XK) : SE K (Wx W S0 c' q) E (fun σZ HZ Q => σZ[0]? = some (some (.ref f)) ∧ HZ c' = some (CodeO c' q) ∧ tl E HZ Q) (dAct f lam) := fun p S H σ env xp st ev xo Q post ⟨e, l⟩ k => by
  obtain ⟨o, h1, h2⟩ := ev.at_ 0 _ e
  have h3 : o = some (.ref f) := h2
  exact ⟨by rw [h1, h3], st.ox.2.2, h p S H st E xp post Q l xo k⟩
/-- the lambda's body, told from the law's slots -/
theorem lam_ok {p : Addr} {S H : Hp} {σ : L2.St} {env : SEnv} {t : XK → TE} {de : DE} (hse : ∀ E, SE K W E (t E) de) (ev : Ev K W p S H σ env) : LamOk K W S c' q (fun E H' Q' => t E σ H' Q') (fun xp post => de (safe env) xp post) := by
  intro p2 S2 H2 st E xp post Q l xo k
  obtain ⟨st2, ex, _⟩ := st.ox
  have slot : ∀ {i : Nat} {s : Sl}, (safe env)[i]? = some s → (s = .un ∧ ∃ s0, env[i]? = some s0) ∨ ∃ d, s = .sh d ∧ ntD d = true ∧ env[i]? = some (.sh d) := fun {i s} e => by
    unfold safe at e
    rw [List.getElem?_map] at e
    cases e0 : env[i]? with
    | none => rw [e0] at e; cases e
    | some s0 =>
      rw [e0] at e
      have e := Option.some.inj e
      cases s0 with
      | sh d =>
        have e : (if ntD d = true then Sl.sh d else Sl.un) = s := e
        by_cases hd : ntD d = true
        · rw [if_pos hd] at e
          exact .inr ⟨d, e.symm, hd, rfl⟩
        · rw [if_neg hd] at e
          exact .inl ⟨e.symm, _, rfl⟩
      | _ => exact .inl ⟨e.symm, _, rfl⟩
  refine hse E p2 S2 H2 σ (safe env) xp st2 ⟨fun i s e => ?_, fun i j ds es n e1 e2 => ?_⟩ (xo.ox st) Q post l fun v d S' H' hp g r => k v d S' H' hp (g.x st) r.x
  · rcases slot e with ⟨rfl, s0, e0⟩ | ⟨d, rfl, hd, e0⟩
    · obtain ⟨o, h1, _⟩ := ev.at_ i _ e0
      exact ⟨o, h1, trivial⟩
    · obtain ⟨o, h1, v, h2, h3⟩ := ev.at_ i _ e0
      exact ⟨o, h1, v, h2, R.pp (fun _ => rfl) d v hd (R.mono ex d v h3)⟩
  · rcases slot e1 with ⟨z, _⟩ | ⟨_, z, _⟩ <;> cases z
end
section
variable {X : Cx} {W : Wc} {E : XK} {x a : Str} {g c P : Addr} {k : Nat} {pg : Arguments} {bg : List Stmt} {sg : Scope} {dV kV doc pm cdv ct oc : Value} {an od : Option Addr} {osl : Array (Option Value)} {Ng : List Str}
    {params : Arguments} {body : Expr} {scope : Scope} {t : XK → TE} {de : DE} {p lpos pos : Pos} {b : DE → DS}
/-- the def by its body: it may call what it got -/
theorem takesL {q : Str}
    (hb : ∀ (S0 : Hp) (c' : Addr) (s : Shared) (H : Hp) (tc : XK → TE) (dc : DE),
      (∀ (E : XK) (pn : List (Addr × Obj)) (xe : Value → Shared → Prop) (p1 p2 : Pos), Takes ((cxOf C8.CX0 X.prog X.w X.K X.mg X.base Ng x sg g cdv X.A X.stack s H C8.E0).tr pn xe) (fun cls d _ H => E cls d H) → PD ((cxOf C8.CX0 X.prog X.w X.K X.mg X.base Ng x sg g cdv X.A X.stack s H C8.E0).tr pn xe)  (Wx W S0 c' q) E (.Call (.Name a p1) [] [] p2) (tc E) dc) →
      ∃ ts, PDSs (cxOf C8.CX0 X.prog X.w X.K X.mg X.base Ng x sg g cdv X.A X.stack s H C8.E0).nox  (Wx W S0 c' q) C8.E0 bg ts (b dc)) :
    Takes1 X Ng x sg g cdv bg a q (TTd X.K W q Ng.length b) := by
  intro f c' s H Q tl act ⟨p, S, lam, post, st, hl, hr, k⟩
  obtain ⟨ts, pe, se⟩ := hb S c' s H (fun E (σZ : L2.St) HZ Q => σZ[0]? = some (some (V.ref f)) ∧ HZ c' = some (CodeO c' q) ∧ tl E HZ Q) (dAct f lam) fun E pn xe p1 p2 tk => ⟨act _ pn xe E p1 p2 tk (fun _ _ _ _ h => h), se_act hl E⟩
  refine ⟨ts, pe, ?_⟩
  have hs : L2.start Ng [V.ref f] = some (.ref f) :: List.replicate (Ng.length - 1) none := rfl
  rw [hs]
  refine se p S H S H _ _ noX ⟨Grow.refl st, ⟨fun i s e => ?_, fun i j ds es n e1 e2 => ?_⟩, fun i ds a e1 e2 => ?_⟩ XOkS.no _ _ (hr f) ⟨fun S' H' σ' env' _ sv q => k .non .non S' H' q sv.g rfl, fun S' H' v d _ g r q => k v d S' H' q g r, fun _ _ _ _ _ _ q => q.elim, fun _ _ _ _ _ _ q => q.elim⟩
  · match i, e with
    | 0, e =>
      have e' : Sl.is f = s := Option.some.inj e
      subst e'
      exact ⟨_, rfl, rfl⟩
    | i + 1, e =>
      have e' : (List.replicate (Ng.length - 1) Sl.un)[i]? = some s := e
      rw [List.getElem?_replicate] at e'
      split at e'
      · rename_i hi
        cases e'
        refine ⟨none, ?_, trivial⟩
        show (List.replicate (Ng.length - 1) (none : Option V))[i]? = some none
        rw [List.getElem?_replicate, if_pos hi]
      · cases e'
  · match i, e1 with
    | 0, e1 => exact nomatch e1
    | i + 1, e1 =>
      have e1' : (List.replicate (Ng.length - 1) Sl.un)[i]? = some (.ow ds) := e1
      rw [List.getElem?_replicate] at e1'
      split at e1' <;> cases e1'
  · match i, e1 with
    | 0, e1 => exact nomatch e1
    | i + 1, e1 =>
      have e1' : (List.replicate (Ng.length - 1) Sl.un)[i]? = some (.ow ds) := e1
      rw [List.getElem?_replicate] at e1'
      split at e1' <;> cases e1'
/-- the lambda's own text, wherever it is called -/
structure LamB (X : Cx) (W : Wc) (scope : Scope) (body : Expr) (k : Nat) (t : XK → TE) (de : DE) : Prop where
  pe : ∀ (A : Around) (outer : List Env) (s : Shared) (H : Hp) (E : XK) (f c' : Addr), Room k (A.deeper (lamEnv X scope s.heap.objs.size f c')) → PE (lamCx X A outer s H E scope f c') body (t E)
  se : ∀ E, SE X.K W E (t E) de
theorem lamB_of (hr : Room (k + 1) X.A) (h : ∀ (A : Around) (outer : List Env) (s : Shared) (H : Hp) (E : XK) (f c' : Addr), Room k (A.deeper (lamEnv X scope s.heap.objs.size f c')) → PD (lamCx X A outer s H E scope f c') W E body (t E) de) : LamB X W scope body k t de :=
  ⟨fun A outer s H E f c' r => (h A outer s H E f c' r).pe, fun E => (h X.A X.outer X.s_0 X.H_0 E 0 0 (hr.deeper _)).se⟩
/-- the def that gets the lambda, by name -/
structure LDef (X : Cx) (W : Wc) (k : Nat) (x : Str) (n : Nat) (b : DE → DS) : Prop where
  ex : ∃ (g : Addr) (pg : Arguments) (bg : List Stmt) (sg : Scope) (dV kV doc pm cdv ct oc : Value) (an od : Option Addr) (osl : Array (Option Value)) (Ng : List Str) (a : Str), X.mg x = some (.ref g) ∧ PySem.W.keepIn X.K (.ref g) = true ∧
    X.K.lookup g = some ⟨oc, od, .func (PySem.W.fnOf x x pg bg sg dV kV doc pm an cdv ct), osl⟩ ∧ PySem.W.codeIn X.K cdv x = true ∧ L2.Binds X.K (PySem.W.fnOf x x pg bg sg dV kV doc pm an cdv ct) [a] [] ∧ FnScope Ng [a] sg ∧ Ng[0]? = some a ∧ Vis sg a ∧
    (a == ("__debug__" : Str)) = false ∧ (a == ("__classdict__" : Str)) = false ∧ Ng.length = n ∧ Takes1 X Ng x sg g cdv bg a (X.env.qual ++ "<lambda>") (TTd X.K W (X.env.qual ++ "<lambda>") n b)
theorem pd_lam {n : Nat} (G : LDef X W k x n b) (hg : Gl X x) (TB : TabB X.base X.mg c P) (hcode : X.env.code = .ref c) (hT : ∀ H, W.Th H → TabS H P (X.env.qual ++ "<lambda>")) (hr : Room (k + 2) X.A) (L : LamS X.env.scope scope) (hbd : LamB X W scope body k t de)
    (hTh : ∀ H c' H1, W.Th H → Lm H P (X.env.qual ++ "<lambda>") c' H1 → W.Th H1)
    (hdef : defaultsOf params X.env = ([], []) := by rfl)
    (hbind : ∀ (q : Str) (cl : List (Str × Addr)) (pm cv ctv : Value), bindArgs (PySem.W.kla_fn "<lambda>" q params body scope cl pm cv ctv) ⟨[], []⟩ = pure [] := by intros; rfl)
    (hdb : (x == ("__debug__" : Str)) = false := by decide) :
    ∃ te, PD X W E (.Call (.Name x p) [.Lambda params body scope lpos] [] pos) te (dLam (runL n b) de) := by
  obtain ⟨g, pg, bg, sg, dV, kV, doc, pm, cdv, ct, oc, an, od, osl, Ng, a, hm, hk, lk, hcg, hb, Sg, hNg, hva, hd, hcd, rfl, hG⟩ := G.ex
  refine ⟨_, pe_lam2 hg hm hk lk hcg hb Sg hNg hva hG TB hcode hr L hdef hbind hbd.pe hdb hd hcd, fun p S H σ env xp st ev xo Q post q kk => ⟨hT H st.tabs.1, fun f c' H1 lm hf => ?_⟩⟩
  have g01 : Grow W p S H S H1 := by
    rcases lm.how with rfl | ⟨ps, qs, hc, hP, hPc, rfl⟩
    · exact Grow.refl st
    · have ne : ∀ {b : Addr} {o : HO}, H b = some o → b ≠ c' := fun e => ne_of_none e hc
      have nP : ∀ {b : Addr} {o : HO}, H b = some o → (∀ ps, o ≠ .tbl ps) → b ≠ P := fun e n z => by
        rw [z, hP] at e
        exact n ps (Option.some.inj e).symm
      have sP : ∀ {b : Addr} {o : HO}, S b = some o → ∀ ps, o ≠ .tbl ps := fun {b o} e ps z => st.tabs.2 b ps (by rw [e, z])
      refine ⟨Ex.refl S, ⟨⟨hTh H c' _ st.tabs.1 lm, st.tabs.2⟩, fun b o e => ?_, st.hid, ?_⟩, fun b o n e => ?_, fun _ _ h => h⟩
      · have e' := st.ex b o e
        rw [upd_ne (ne e'), upd_ne (nP e' (sP e))]
        exact e'
      · obtain ⟨o, e1, e2⟩ := st.src
        exact ⟨o, by rw [upd_ne (ne e1), upd_ne (nP e1 (W.nt _ _ e2).1)]; exact e1, e2⟩
      · by_cases hb : b = P
        · subst hb
          rw [hP] at e
          cases e
          exact .inr ⟨ps, qs, rfl, by rw [upd_ne hPc, upd_same]⟩
        · exact .inl (by rw [upd_ne (ne e), upd_ne hb]; exact e)
  exact ⟨p, S, fun xp' post' => de (safe env) xp' post', post, g01.st.x (Ex.refl S) lm.co, lam_ok hbd.se ev, q, fun v d S' H' hp g r => kk v d S' H' hp (g01.trans g.ox) r.ox⟩
end
end DL

set_option Elab.async false
set_option linter.all false
set_option maxRecDepth 100000
set_option maxHeartbeats 1000000
/-! the end of a law that makes lambdas -/
namespace DL
open PySem PySem.W PySem.Calls PyProof.Rows L2 LamX
section
variable {P : Program} {w : World} {K : Frag} {mg mb : Str → Option Value} {fa a c Pt : Addr} {s₁ : Shared} {vs : List Value} {ns : List Int}
/-- what is tracked: the law's empty table, the script unless it is the module's own -/
def tabH (K : Frag) (Pt a : Addr) (vs : List Value) (ns : List Int) : Hp := fun b => if b = Pt then some (.tbl #[]) else scriptH K a vs ns b
theorem law_callGT {k : Nat} (KX : K.In s₁.heap) (hns : s₁.heap.Ns mainGlobals mg) (hb : s₁.heap.Ns builtinsNs mb) (hbb : ∀ x : Str, x ≠ "__name__" → mb x = bootBuiltins x) (hlim : s₁.heap.NoLimit) (hg : s₁.gens = #[])
    (hP : s₁.heap.get? Pt = some { cls := .none, data := .fields #[] }) (nP : K.lookup Pt = none) (C : CodeHd s₁.heap c Pt)
    (hbm : ∃ (bm : Addr) (ob : Obj), mg "__builtins__" = some (.ref bm) ∧ bm ≠ builtinsNs ∧ s₁.heap.get? bm = some ob ∧ ob.cls = .type "module" ∧ ob.dict = some builtinsNs ∧ ob.data = .plain)
    (ha : s₁.heap.get? a = some { cls := .type "list", data := .seq vs.toArray }) (hi : IntsAre vs ns) (hl : ns.length ≤ sizeLine) (hr : Room k callerA)
    {fd : FuncData} (hbind : ∀ (s : Shared) (u : Value), BindsTo s fd ⟨[u], []⟩ [("script", u)]) {sp : Sp}
    (F : ∀ base : Heap, K.In base → base.Ns mainGlobals mg → TabB base mg c Pt → FnG P w K mg base (L2.CX P w) k fa fd ["script"] sp)
    (hsp : ∀ H : Hp, H Pt = some (.tbl #[]) → SqL K H a (ns.map V.int) → sp [.ref a] H (fun v _ => v = .bl true) fun _ _ _ => False) :
    codeAny (model P w) callerA (.call (.ref fa) ⟨[.ref a], []⟩) (fun r s' => r = .ok (.ret (.bool true)) ∧ OldK s₁.heap s'.heap ∧ s'.os = s₁.os ∧ AllBare s'.gens) s₁ := by
  have rv := vals_ints hi
  have aP : a ≠ Pt := fun z => by
    rw [z, hP] at ha
    have e := congrArg Obj.data (Option.some.inj ha)
    exact nomatch e
  generalize hT : tabH K Pt a vs ns = T
  have tP : T Pt = some (.tbl #[]) := by rw [← hT]; exact if_pos rfl
  have tE : ∀ {b : Addr} {o : HO}, T b = some o → (b = Pt ∧ o = .tbl #[]) ∨ ((b = a ∧ K.lookup a = none) ∧ o = .frz { cls := .type "list", data := .seq vs.toArray } (.lst (ns.map V.int))) := fun {b o} h => by
    rw [← hT] at h
    unfold tabH at h
    split at h
    · exact .inl ⟨by assumption, (Option.some.inj h).symm⟩
    · exact .inr (scriptH_eq h)
  have bare : ∀ {b : Addr} {o : Obj}, s₁.heap.get? b = some o → b ≠ Pt → (b = a → K.lookup a = none → False) → (hidT s₁.heap T).get? b = some o := fun {b o} e n1 n => hidT_get e (by
    cases z : T b with
    | none => rfl
    | some u =>
      rcases tE z with ⟨z1, _⟩ | ⟨⟨z1, z2⟩, _⟩
      · exact (n1 z1).elim
      · exact (n z1 z2).elim)
  have notP : ∀ {b : Addr} {o : Obj}, s₁.heap.get? b = some o → o.data ≠ .fields #[] → b ≠ Pt := fun {b o} e n z => by
    rw [z, hP] at e
    exact n (congrArg Obj.data (Option.some.inj e)).symm
  have notA : ∀ {b : Addr} {o : Obj}, s₁.heap.get? b = some o → (∀ us n, o.data ≠ .seq us n) → b = a → K.lookup a = none → False := fun {b o} e n z _ => by
    rw [z, ha] at e
    exact n _ _ (congrArg Obj.data (Option.some.inj e)).symm
  have nsB : ∀ {b : Addr} {m : Str → Option Value}, s₁.heap.Ns b m → (hidT s₁.heap T).Ns b m := fun {b m} ⟨o, es, ep, e, d, r⟩ => ⟨o, es, ep, bare e (notP e (by rw [d]; nofun)) (notA e (by rw [d]; nofun)), d, r⟩
  have kB : K.In (hidT s₁.heap T) := fun b o e => bare (KX b o e) (fun z => by rw [z, nP] at e; exact nomatch e) fun z z2 => by
    subst z
    rw [z2] at e
    exact nomatch e
  have TB : TabB (hidT s₁.heap T) mg c Pt := by
    refine ⟨?_, ?_, fun z => ?_⟩
    · obtain ⟨o, us, file, tf, flags, tg, inF, text, tt, e1, r1, r2, r3, r⟩ := C
      exact ⟨o, us, file, tf, flags, tg, inF, text, tt, bare e1 (notP e1 fun z => by
        rw [r2] at z
        cases z
        exact nomatch r3) (notA e1 (by rw [r2]; nofun)), r1, r2, r3, r⟩
    · obtain ⟨bm, ob, b1, b2, b3, b4, b5, b6⟩ := hbm
      refine ⟨bm, ob, b1, b2, fun q => ?_, notP b3 (by rw [b6]; nofun), bare b3 (notP b3 (by rw [b6]; nofun)) (notA b3 (by rw [b6]; nofun)), b4, b5, b6⟩
      obtain ⟨o, es, ep, e, hd, _⟩ := hns
      rw [q, e] at b3
      cases b3
      rw [hd] at b6
      exact nomatch b6
    · obtain ⟨o, es, ep, e, hd, _⟩ := hns
      rw [z, hP] at e
      cases e
      exact nomatch hd
  have hS : SqL K T a (ns.map V.int) := by
    cases hk : K.lookup a with
    | none => exact .inl (.inr ⟨_, by rw [← hT]; exact (if_neg aP).trans (if_pos ⟨rfl, hk⟩)⟩)
    | some o =>
      have e := Option.some.inj (ha.symm.trans (KX a o hk))
      subst e
      exact .inr ⟨_, vs.toArray, _, hk, rfl, rfl, rfl, by rw [List.size_toArray, hi.length]; exact hl, by simpa using rv⟩
  have e0 : Env0 P w K mg (hidT s₁.heap T) callerA [] s₁ T := ⟨rfl, ⟨kB, nsB hns, ⟨mb, nsB hb, hbb⟩, let ⟨mc, h1, h2⟩ := hlim; ⟨mc, nsB h1, h2⟩⟩, fun b o e => of_hidT e, Nat.le_of_eq (hidT_size _ _), trivial, (fun b q => nomatch q),
    (fun b u z => by
      rcases tE z with ⟨z1, z3⟩ | ⟨⟨z1, _⟩, z3⟩
      · subst z1 z3
        exact hP
      · subst z1 z3
        exact ⟨ha, by rw [List.length_map]; exact hl, vs, _, rv, ha⟩), .of_eq hg⟩
  refine codeAny_mono ((F _ kB (nsB hns) TB).go callerA rfl [] s₁ T ⟨[.ref a], []⟩ [.ref a] [.ref a] _ _ hr e0 (hbind s₁ (.ref a)) (.cons rfl .nil) (hsp T tP hS)) fun r s' h => ?_
  match r, h with
  | .error e, ⟨_, _, _, _, _, _, _, _, _, _, _, _, z⟩ => exact z.elim
  | .ok .next, h => exact h.elim
  | .ok .brk, h => exact h.elim
  | .ok .cont, h => exact h.elim
  | .ok (.ret u), ⟨v, H', os, br, un, ok', rr, q⟩ =>
    have q' : v = .bl true := q
    subst q'
    have ru : u = Value.bool true := rr
    subst ru
    have old : ∀ b o, b ≠ Pt → s₁.heap.get? b = some o → s'.heap.get? b = some o := fun b o nb e => by
      cases z : T b with
      | none => exact un.keep b o e z (fun q => nomatch q) (fun q => nomatch q)
      | some u =>
        rcases tE z with ⟨z1, _⟩ | ⟨⟨z1, _⟩, z3⟩
        · exact (nb z1).elim
        · subst z1 z3
          have e2 := un.frzs _ _ _ z
          obtain ⟨e3, _⟩ := ok' _ _ e2
          rw [e3, ← ha, e]
    obtain ⟨more, z⟩ := un.tbls Pt #[] tP
    have hm : s'.heap.get? Pt = some { cls := .none, data := .fields (#[] ++ more) } := ok' Pt _ z
    refine ⟨rfl, ⟨fun b o e => ?_, fun b o e => ?_⟩, os, br⟩
    · by_cases hb : b = Pt
      · subst hb
        rw [hP] at e
        cases e
        exact .inr (.inl ⟨(C.tab hP).isCodeTable, rfl, #[], more, rfl, hm⟩)
      · exact .inl (old b o hb e)
    · by_cases hb : b = Pt
      · subst hb
        exact ⟨_, hm⟩
      · exact ⟨o, old b o hb e⟩
end
theorem tabs_one {M : MM} {Pt : Addr} (hM : M.tb = some Pt) {H : Hp} (h : H Pt = some (.tbl #[])) : LamX.Tabs (tabsOf M) H := by
  unfold tabsOf
  rw [hM]
  intro p hp
  obtain rfl := List.mem_singleton.mp hp
  exact TabS.nil h
theorem walkGT {l : OpenLaw} {k : Nat} {q : Program} {loose : List Str} {ts : List Addr} {XP : (Str → Option Value) → Heap → Prop} {YP : World → Heap → Prop} {d : DefRec} {K : Params → Frag} (hn : l.most = some 63) (hdf : d.params.defaults = []) (hr : Room k callerA)
    (hY : ∀ (w : World) (h : Heap), YP w h → (K w.params).In h) (hY2 : ∀ (w : World) (h : Heap), YP w h → ∀ P ∈ ts, h.get? P = some { cls := .none, data := .fields #[] })
    (F : ∀ (w : World) (mg : Str → Option Value) (fa : Addr) (h : Heap), (K w.params).In h → h.Ns mainGlobals mg → mg d.name = some (.ref fa) →
      ∃ (fd : FuncData) (c Pt : Addr) (M : MM), Pt ∈ ts ∧ (K w.params).lookup Pt = none ∧ codeHdIn (K w.params) c Pt = true ∧ M.tb = some Pt ∧ (∀ (s : Shared) (u : Value), BindsTo s fd ⟨[u], []⟩ [("script", u)]) ∧
        ∀ base : Heap, (K w.params).In base → base.Ns mainGlobals mg → TabB base mg c Pt → FnG l.prog w (K w.params) mg base (L2.CX l.prog w) k fa fd ["script"] (spLaw (K w.params) M)) :
    WalkO q loose XP YP l.row.toRowW d [] (fun f vs => PySem.call f vs) := by
  refine Att.attach_callB hn hdf fun w s₀ s₁ mg mb fa o pm cd doc a vs ns G Y ho hd hcd hmg hobj hints hlen hbits hg => ?_
  obtain ⟨fd, c, Pt, M, h1, h2, h3, h4, hb, hF⟩ := F w mg fa _ (hY w _ Y) G.T.g hmg
  exact law_callGT (hY w _ Y) G.T.g G.T.b G.T.builtins G.T.nolimit hg (hY2 w _ Y Pt h1) h2 (codeHd_of_K (hY w _ Y) h3) G.T.bmain hobj hints (Nat.le_trans hlen (by decide)) hr hb hF fun H hP hS => ⟨a, ns, rfl, hS, hlen, tabs_one h4 hP, fun _ => rfl⟩
end DL

set_option Elab.async false
set_option linter.all false
set_option maxRecDepth 100000
set_option maxHeartbeats 1000000
namespace DL
open PySem PySem.W PySem.Calls PyProof.Rows L2 LamX
theorem passLam {X : Cx} {A : Around} {outer : List PySem.Env} {s : Shared} {H : Hp} {E : XK} {scope : Scope} {f c' : Addr} : Passes (L2.CX (lamCx X A outer s H E scope f c').prog (lamCx X A outer s H E scope f c').w) (lamCx X A outer s H E scope f c') E :=
  passes_call (X := lamCx X A outer s H E scope f c') (takes_of rfl rfl rfl rfl) fun _ _ _ _ h => h
/-! ### isinstance(e, T), T a class of Python's own -/
structure IsYOk (K : Frag) (W : Wc) (T : String) (er tb : Nat → Bool) : Prop where
  ex : ∀ c C, W.M c = some C → er c = true → ExcK K C ∧ kitOne K (.ref C) (.type T) = some (tb c)
def rIsY (K : Frag) (C : Addr) (T : String) (a dx : Addr) : List V → Hp → VK → Prop := fun xs H Q => ∃ (b : Bool) (fs : List (Str × V)), xs = [.ref a, .ty T] ∧ H dx = some (.xd fs) ∧ kitOne K (.ref C) (.type T) = some b ∧ Q (.bl b) H
theorem call_isY {X : Cx} {a C dx : Addr} {T : String} {oe : Obj} {pn : List (Addr × Obj)} (Z : ExcK X.K C) (hz : Zc (.ref C) (some dx) oe) (hf : ∃ vs, oe.data = .fields vs) : CallR (X.suite a ((a, oe) :: pn)) (.builtin "isinstance") (rIsY X.K C T a dx) := by
  intro pins s σ H xs us Q I r ⟨b, fs, ex, hdx, e, q⟩
  subst ex
  match us, r with
  | _, .cons ra (.cons rc .nil) =>
    cases ra
    cases rc
    obtain ⟨hget, _⟩ := I.pin (a, oe) (List.mem_append.mpr (.inl List.mem_cons_self))
    obtain ⟨vs, hv⟩ := hf
    obtain ⟨mA, hns, hr⟩ : ObjOk X.prog X.w H s.heap dx (.xd fs) := I.hok dx _ hdx
    obtain ⟨od, ho, hl⟩ := lookIn_ns hns
    have J : InstAt s.heap a oe C (some od) := ⟨hget, hz.1, by unfold notCls; rw [hv], by rw [hz.2]; exact ho⟩
    exact kia_one (kitx_exc Z.cl Z.ga Z.gg Z.sb Z.ca Z.gs Z.tk Z.mr) I.kIn J e (fun z => nomatch z) fun tk => ⟨.bl b, H, I.kept (t' := tk) fun _ _ z => z, rfl, q⟩
def tIsY (K : Frag) (a : Addr) (cls : Value) (d : Option Addr) (T : String) (i : Nat) : TE := fun σ H Q => ∃ C dx, cls = .ref C ∧ d = some dx ∧ ExcK K C ∧ σ[i]? = some (some (.ref a)) ∧ rIsY K C T a dx [.ref a, .ty T] H Q
theorem pd_isY (K : Frag) {X : Cx} {W : Wc} {E : XK} {mg : Str → Option Value} {n x : Str} {T : String} {a : Addr} {oe : Obj} {cls : Value} {d : Option Addr} {pn : List (Addr × Obj)} {er tb : Nat → Bool} {i : Nat} {p p' np pos : Pos} (O : IsYOk K W T er tb) (hz : Zc cls d oe) (hf : ∃ vs, oe.data = .fields vs)
    (hm : mg "isinstance" = none) (hmx : mg x = none) (hbx : bootBuiltins x = some (.type T)) (hX : X.K = K ∧ X.mg = mg := by exact ⟨rfl, rfl⟩) (hi : X.N[i]? = some n := by rfl) (hv : Vis X.env.scope n := by first | exact Or.inl rfl | exact Or.inr (Or.inl rfl) | exact Or.inr (Or.inr rfl))
    (hg : Gl (X.suite a ((a, oe) :: pn)) "isinstance" := by rfl) (hgx : Gl (X.suite a ((a, oe) :: pn)) x := by rfl) (hn : x ≠ "__name__" := by decide) (hd : (x == ("__debug__" : Str)) = false := by decide) (hd2 : (n == ("__debug__" : Str)) = false := by decide) (hcd : (n == ("__classdict__" : Str)) = false := by decide)
    (h1 : starEach [.Name n np, .Name x p'] (X.suite a ((a, oe) :: pn)).env = (false, eval (.Name n np) (X.suite a ((a, oe) :: pn)).env) :: starEach [.Name x p'] (X.suite a ((a, oe) :: pn)).env := by rfl) (h2 : starEach [.Name x p'] (X.suite a ((a, oe) :: pn)).env = (false, eval (.Name x p') (X.suite a ((a, oe) :: pn)).env) :: starEach [] (X.suite a ((a, oe) :: pn)).env := by rfl)
    (hpl : (backTo pos (starEach [.Name x p'] (X.suite a ((a, oe) :: pn)).env)).any (·.1) = false := by rfl) :
    PD (X.suite a ((a, oe) :: pn)) W E (.Call (.Name "isinstance" p) [.Name n np, .Name x p'] [] pos) (tIsY K a cls d T i) (dIsX W a cls d i er tb) := by
  obtain ⟨rfl, rfl⟩ := hX
  refine ⟨⟨fun pins s σ H Q I ⟨C, dx, ec, ed, Z, hs, q⟩ => ?_⟩, fun p S H σ env xp st ev xo Q post ⟨dx, c, dfs, e1, e2, ⟨C, hM, e3⟩, he, q⟩ k => ?_⟩
  · subst ec ed
    exact (pe_callB (call_isY (T := T) Z hz hf) hg hm (by decide +kernel) (pa_cons (pe_var (X := X.suite a ((a, oe) :: pn)) hi hv hd2 hcd) (pa_cons (pe_bltn (v := .ty T) hgx hmx hbx (show RelV (.ty T) (.type T) from rfl) hn hd) pa_nil h2) h1) (by decide) (by decide) h1 hpl).run pins s σ H Q I ⟨_, hs, q⟩
  · obtain ⟨o, h1, h2, gs, h3, h4, h5⟩ := ev.at_ i _ e1
    subst h2
    obtain ⟨Z, hk⟩ := O.ex c C hM he
    exact ⟨C, dx, e3, e2, Z, h1, tb c, gs, rfl, h3, hk, k _ _ S H q (Grow.refl st) rfl⟩
/-! ### the def that gets a lambda, from its text -/
theorem Wx.cat {K : Frag} {W : Wc} {mg : Str → Option Value} {x : Str} {c0 : Nat} {bt : Nat → Bool} {S0 : Hp} {c' : Addr} {q : Str} (F : CatchOk W K mg x c0 bt) : CatchOk (Wx W S0 c' q) K mg x c0 bt := ⟨F.ex⟩
theorem Wx.xf {K : Frag} {W : Wc} {c : Nat} {fl : Str} {S0 : Hp} {c' : Addr} {q : Str} (F : XfOk W K c fl) : XfOk (Wx W S0 c' q) K c fl := ⟨F.ex⟩
theorem Wx.isx {K : Frag} {W : Wc} {mg : Str → Option Value} {x : Str} {er tb : Nat → Bool} {S0 : Hp} {c' : Addr} {q : Str} (F : IsXOk K W mg x er tb) : IsXOk K (Wx W S0 c' q) mg x er tb := ⟨F.ex⟩
theorem Wx.isy {K : Frag} {W : Wc} {T : String} {er tb : Nat → Bool} {S0 : Hp} {c' : Addr} {q : Str} (F : IsYOk K W T er tb) : IsYOk K (Wx W S0 c' q) T er tb := ⟨F.ex⟩
section
variable {X : Cx} {W : Wc} {K : Frag} {mg : Str → Option Value} {x a : Str} {g : Addr} {fd : FuncData} {st : Stmt} {Ng : List Str} {b : DE → DS} {k : Nat}
theorem ldef_of (F : Fun K x x st g fd) (Sc : FnScope Ng [a] (defScope st)) (hN0 : Ng[0]? = some a) (hva : Vis (defScope st) a) (hm : mg x = some (.ref g)) (hk : keepIn K (.ref g) = true) (hb : Binds K fd [a] [])
    (h : ∀ (cdv : Value) (S0 : Hp) (c' : Addr) (s : Shared) (H : Hp) (tc : XK → TE) (dc : DE),
      (∀ (E : XK) (pn : List (Addr × Obj)) (xe : Value → Shared → Prop) (p1 p2 : Pos), Takes ((cxOf C8.CX0 X.prog X.w K mg X.base Ng x (defScope st) g cdv X.A X.stack s H C8.E0).tr pn xe) (fun cls d _ H => E cls d H) → PD ((cxOf C8.CX0 X.prog X.w K mg X.base Ng x (defScope st) g cdv X.A X.stack s H C8.E0).tr pn xe) (Wx W S0 c' (X.env.qual ++ "<lambda>")) E (.Call (.Name a p1) [] [] p2) (tc E) dc) →
      ∃ ts, PDSs (cxOf C8.CX0 X.prog X.w K mg X.base Ng x (defScope st) g cdv X.A X.stack s H C8.E0).nox (Wx W S0 c' (X.env.qual ++ "<lambda>")) C8.E0 (defBody st) ts (b dc))
    (hX : X.K = K ∧ X.mg = mg) (hd : (a == ("__debug__" : Str)) = false := by decide) (hcd : (a == ("__classdict__" : Str)) = false := by decide) : LDef X W k x Ng.length b := by
  obtain ⟨rfl, rfl⟩ := hX
  obtain ⟨oc, od, kV, doc, pm, an, cdv, ct, osl, rfl, lk, hcdv⟩ := F.ex
  refine ⟨g, _, _, _, _, kV, doc, pm, cdv, ct, oc, an, od, osl, Ng, a, hm, hk, lk, hcdv, hb, Sc, hN0, hva, hd, hcd, rfl, ?_⟩
  exact takesL fun S0 c' s H tc dc hc => h cdv S0 c' s H tc dc hc
end
end DL

set_option Elab.async false
set_option linter.all false
set_option maxRecDepth 100000
set_option maxHeartbeats 1000000
namespace DL
open PySem PySem.W PySem.Calls PyProof.Rows L2 LamX
theorem tabs_get {M : MM} {Pt : Addr} (hM : M.tb = some Pt) {H : Hp} (t : (WcOf M).Th H) : TabS H Pt "law.<locals>.<lambda>" := by
  have t' : LamX.Tabs (tabsOf M) H := t
  unfold tabsOf at t'
  rw [hM] at t'
  exact t' (Pt, "law.<locals>.<lambda>") List.mem_cons_self
theorem tabs_lm {M : MM} {Pt : Addr} (hM : M.tb = some Pt) {H H1 : Hp} {c' : Addr} (l : Lm H Pt "law.<locals>.<lambda>" c' H1) : (WcOf M).Th H1 := by
  show LamX.Tabs (tabsOf M) H1
  unfold tabsOf
  rw [hM]
  intro p hp
  obtain rfl := List.mem_singleton.mp hp
  exact l.tab
theorem lamq : ("law" ++ ".<locals>." ++ "<lambda>" : Str) = "law.<locals>.<lambda>" := by decide +kernel
/-- f(lambda: e) in the law -/
theorem pd_lamL {X : Cx} {M : MM} {E : XK} {x : Str} {c Pt : Addr} {k n : Nat} {params : Arguments} {body : Expr} {scope : Scope} {t : XK → TE} {de : DE} {p lpos pos : Pos} {b : DE → DS} {K : Frag} {mg : Str → Option Value} {base : Heap} (G : LDef X (WcOf M) k x n b) (hbd : LamB X (WcOf M) scope body k t de) (TB : TabB base mg c Pt) (hM : M.tb = some Pt) (hr : Room (k + 2) X.A)
    (hX : X.K = K ∧ X.mg = mg ∧ X.base = base := by exact ⟨rfl, rfl, rfl⟩) (hq : X.env.qual = "law" ++ ".<locals>." := by rfl) (hcode : X.env.code = .ref c := by rfl) (hg : Gl X x := by rfl) (L : lamSB X.env.scope scope = true := by rfl)
    (hdef : defaultsOf params X.env = ([], []) := by rfl)
    (hbind : ∀ (q : Str) (cl : List (Str × Addr)) (pm cv ctv : Value), bindArgs (PySem.W.kla_fn "<lambda>" q params body scope cl pm cv ctv) ⟨[], []⟩ = pure [] := by intros; rfl)
    (hdb : (x == ("__debug__" : Str)) = false := by decide) :
    ∃ te, PD X (WcOf M) E (.Call (.Name x p) [.Lambda params body scope lpos] [] pos) te (dLam (runL n b) de) := by
  obtain ⟨rfl, rfl, rfl⟩ := hX
  have e : X.env.qual ++ "<lambda>" = ("law.<locals>.<lambda>" : Str) := by rw [hq, lamq]
  exact pd_lam G hg TB hcode (fun H t => by rw [e]; exact tabs_get hM t) hr (lamS_by L) hbd (fun H c' H1 _ l => by rw [e] at l; exact tabs_lm hM l) hdef hbind hdb
/-- .. with its reading by the hand layer put away -/
noncomputable def someT {X : Cx} {W : Wc} {E : XK} {e : Expr} {de : DE} (h : ∃ te, PD X W E e te de) : TE := Classical.choose h
theorem pd_some {X : Cx} {W : Wc} {E : XK} {e : Expr} {de : DE} (h : ∃ te, PD X W E e te de) : PD X W E e (someT h) de := Classical.choose_spec h
def tabIn (K : Frag) (c : Addr) : Option Value := match K.lookup c with
  | some ⟨_, _, .fields vs, _⟩ => vs[11]?
  | _ => none
/-- an __init__ that has one default, which stands -/
theorem binds_last {K : PySem.W.Frag} {x qual : Str} {pp : Arguments} {bb : List Stmt} {ss : Scope} {kV doc pm cdv ct v : Value} {an : Option Addr} {T : Addr} {oT : Obj} {n : Nat} {ps : List Str} (lT : K.lookup T = some oT) (oD : oT.data = .seq #[v] n)
    (h : ∀ us : List Value, us.length + 1 = ps.length → ∃ k, bindArgs (PySem.W.fnOf x qual pp bb ss (.ref T) kV doc pm an cdv ct) ⟨us, []⟩ = seqItems? (.ref T) >>= k ∧ k (some #[v]) = pure (ps.zip (us ++ [v]))) : Binds K (PySem.W.fnOf x qual pp bb ss (.ref T) kV doc pm an cdv ct) ps [v] := fun s us X hl => by
  obtain ⟨k, e1, e2⟩ := h us (by simpa using hl)
  refine BindsTo.of_looks fun M => ?_
  rw [e1]
  exact looks_items X lT oD (.of_pure e2)
end DL

set_option Elab.async false
set_option linter.all false
set_option maxRecDepth 100000
set_option maxHeartbeats 1000000
/-! o[k], len(o), x in o by own methods -/
namespace DL
open PySem PySem.W PySem.Calls PyProof.Rows L2

section
variable {X : Cx} {pins : List (Addr × Obj)} {σ : L2.St} {H : Hp} {s : Shared} {f : Addr} {k : Nat} {fd : FuncData} {ps : List Str} {sp : Sp} {E : XK} {CX : CXT}
/-- a def called one level deeper -/
theorem run_fn1 {Q : VK} {vs : List V} {us : List Value} (F : FnOk X.prog X.w X.K X.mg X.base CX k f fd ps sp) (hr : Room (k + 1) X.A) (hb : L2.Binds X.K fd ps []) (hx : Passes CX X E) (I : Inv X pins σ H s) (r2 : Vals vs us) (q2 : sp vs H Q E) :
    wpAny (model X.prog X.w) X.A.in1 (call (.ref f) us) (EP X pins σ Q) X.xe s := by
  have hl := F.len _ _ _ _ q2
  have e0 : Env0 X.prog X.w X.K X.mg X.base X.A.in1 X.stack s H := by
    have e := I.env0
    exact ⟨e.frames, e.mod, e.bs, e.bsz, e.funs, e.frf, e.hok, e.bare⟩
  refine wpAny_call (codeAny_mono (F.run X.A.in1 X.stack s H ⟨us, []⟩ us vs _ E hr.in1 e0 (by
    have := hb s us I.kIn (by rw [List.append_nil, ← r2.length]; exact hl)
    simpa using this) r2 q2) fun r s' hq => ?_)
  cases r with
  | error e => exact hx pins σ H s e s' I hq
  | ok fl =>
    cases fl with
    | ret w => exact I.after hq
    | next => exact False.elim hq
    | brk => exact False.elim hq
    | cont => exact False.elim hq
end

/-! ### o[k] -/
structure OwnSub (K : Frag) (C f : Addr) : Prop where
  hs : findIn K (.ref C) "__getitem__" = some (some (.ref f))
  hf : fnIn K f = true
  hfn : isFn K (.ref f) = true
def tOSub (C : Addr) (sp : Sp) (E : XK) (tl tr : TE) : TE := fun σ H Q => tl σ H fun x H1 => tr σ H1 fun y H2 => ∃ a dx fs, x = .ref a ∧ H2 a = some (.ins C dx fs) ∧ sp [x, y] H2 Q E
def dOSub (c : Nat) (f : DF) (dl dr : DE) : DE := fun env xp post => dl env xp fun x => dr env xp fun y => (∃ fs, x = .obj c fs) ∧ f [x, y] xp post
section
variable {X : Cx} {W : Wc} {E : XK} {l r : Expr} {pos : Pos} {tl tr : TE} {dl dr : DE} {c : Nat}
theorem pe_osub {CX : CXT} {k : Nat} {C f : Addr} {fd : FuncData} {ps : List Str} {sp : Sp} (O : OwnSub X.K C f) (F : FnOk X.prog X.w X.K X.mg X.base CX k f fd ps sp) (hr : Room (k + 1) X.A) (hb : L2.Binds X.K fd ps []) (hx : Passes CX X E) (hl : PE X l tl) (hrr : PE X r tr)
    (hsl : ∀ o i, subscripted r true o i = runValue (.builtin "lifetime.subscript" ⟨[o, i], []⟩) := by exact fun _ _ => rfl) : PE X (.Subscript l r pos) (tOSub C sp E tl tr) := by
  refine ⟨fun pins s σ H Q I h => ?_⟩
  refine Subscript_ (binT hl hrr I h fun v u s2 x y H2 I2 rx ry q => ?_)
  obtain ⟨a, dx, fs, ex, ea, q2⟩ := q
  subst ex
  obtain rfl : v = Value.ref a := rx
  obtain ⟨mA, J, _⟩ := ins_get I2.hok ea
  obtain ⟨od, J, _⟩ := J.look
  obtain ⟨m, fr⟩ := I2.fr
  exact sub_K fr I2.ok.mod.kin J O.hs O.hf O.hfn (run_fn1 F hr hb hx I2 (.cons (show RelV (.ref a) (.ref a) from rfl) (.cons ry .nil)) q2) (hsl _ _)
theorem se_osub {K : Frag} {C : Addr} {f : DF} (hM : W.M c = some C) (hl : SE K W E tl dl) (hr : SE K W E tr dr) : SE K W E (tOSub C (spD K W f) E tl tr) (dOSub c f dl dr) :=
  fun p S H σ env xp st ev xo Q post q k => hl p S H σ env xp st ev xo _ _ q fun v d S1 H1 q1 g1 r1 => hr p S1 H1 σ env xp g1.st (ev.mono g1) (xo.mono g1) _ _ q1 fun v2 d2 S2 H2 ⟨⟨fs, ed⟩, q2⟩ g2 r2 => by
    subst ed
    have r0 := R.mono g2.ex _ _ r1
    have r3 := r0
    unfold DL.R at r3
    obtain ⟨a, C', dx, gs, rfl, ea, hC, rf⟩ := r3
    obtain rfl : C' = C := Option.some.inj (hC.symm.trans hM)
    exact ⟨a, dx, gs, rfl, g2.st.ex _ _ ea, p, S2, _, post, xp, g2.st, RA.cons r0 (RA.cons r2 RA.nil), q2, fun v d S3 H3 q4 g3 r4 => k v d S3 H3 q4 ((g1.trans g2).trans g3) r4, xo.mono (g1.trans g2)⟩
end
section
variable (P : Program) (w : World) (K : Frag) (W : Wc) (mg : Str → Option Value) (base : Heap)
structure SubOk (k c : Nat) (df : DF) : Prop where
  ex : ∃ (C f : Addr) (fd : FuncData) (ps : List Str), W.M c = some C ∧ OwnSub K C f ∧ FnOk P w K mg base (L2.CX P w) k f fd ps (spD K W df) ∧ L2.Binds K fd ps []
variable {P w K W mg base}
theorem pd_subD {X : Cx} {E : XK} {l r : Expr} {pos : Pos} {tl tr : TE} {dl dr : DE} {j k c : Nat} {df : DF} (F : SubOk P w K W mg base j c df) (hx : Passes (L2.CX X.prog X.w) X E) (hl : PD X W E l tl dl) (hrr : PD X W E r tr dr)
    (hX : X.prog = P ∧ X.w = w ∧ X.K = K ∧ X.mg = mg ∧ X.base = base := by exact ⟨rfl, rfl, rfl, rfl, rfl⟩) (hr : Room k X.A := by assumption) (hj : j + 1 ≤ k := by decide)
    (hsl : ∀ o i, subscripted r true o i = runValue (.builtin "lifetime.subscript" ⟨[o, i], []⟩) := by exact fun _ _ => rfl) : PD X W E (.Subscript l r pos) (tC1 W c fun C => tOSub C (spD K W df) E tl tr) (dOSub c df dl dr) := by
  obtain ⟨rfl, rfl, rfl, rfl, rfl⟩ := hX
  obtain ⟨C, f, fd, ps, hM, O, F, hb⟩ := F.ex
  exact pd_c1 (te := fun C => tOSub C (spD X.K W df) E tl tr) hM ⟨pe_osub O F (hr.mono hj) hb hx hl.pe hrr.pe hsl, se_osub hM hl.se hrr.se⟩
end

/-! ### len(o) -/
structure OwnLen (K : Frag) (C f : Addr) : Prop where
  hs : findIn K (.ref C) "__len__" = some (some (.ref f))
  hf : isFn K (.ref f) = true
section
variable {X : Cx} {E : XK}
def rOLen (K : Frag) (C : Addr) (sp : Sp) (E : XK) : List V → Hp → VK → Prop := fun xs H Q => ∃ a dx fs, xs = [.ref a] ∧ H a = some (.ins C dx fs) ∧ sp [.ref a] H (fun v H' => ∃ n : Int, v = .int n ∧ (0 ≤ n ∧ n < 2 ^ 63) ∧ Q (.int n) H') E
theorem cr_olen {CX : CXT} {k : Nat} {C f : Addr} {fd : FuncData} {ps : List Str} {sp : Sp} (O : OwnLen X.K C f) (F : FnOk X.prog X.w X.K X.mg X.base CX k f fd ps sp) (hr : Room (k + 1) X.A) (hb : L2.Binds X.K fd ps []) (hx : Passes CX X E) : CallR X (.builtin "len") (rOLen X.K C sp E) := by
  intro pins s σ H xs us Q I rv ⟨a, dx, fs, ex, ea, q2⟩
  subst ex
  obtain ⟨u, rfl, r⟩ := vals1 rv
  obtain rfl : u = Value.ref a := r
  obtain ⟨mA, J, _⟩ := ins_get I.hok ea
  obtain ⟨od, J, _⟩ := J.look
  obtain ⟨m, fr⟩ := I.fr
  refine len_K fr I.ok.mod.kin J O.hs O.hf (wpAny_mono (run_fn1 F hr hb hx I (.cons (show RelV (.ref a) (.ref a) from rfl) .nil) q2) (fun v' s' hv => ?_) fun _ _ z => z)
  obtain ⟨v0, H3, I3, rv, n, e, hn, q3⟩ := hv
  subst e
  obtain ⟨t, rfl⟩ := rv
  exact ⟨hn, .int n, H3, I3.tok _, ⟨_, rfl⟩, q3⟩
end
section
variable (P : Program) (w : World) (K : Frag) (W : Wc) (mg : Str → Option Value) (base : Heap)
structure LenOk (k c : Nat) (df : DF) : Prop where
  ex : ∃ (C f : Addr) (fd : FuncData) (ps : List Str), W.M c = some C ∧ OwnLen K C f ∧ FnOk P w K mg base (L2.CX P w) k f fd ps (spD K W df) ∧ L2.Binds K fd ps []
variable {P w K W mg base}
def rOLenC (K : Frag) (W : Wc) (c : Nat) (f : DF) : List V → Hp → VK → Prop := fun xs H Q => ∃ C, W.M c = some C ∧ rOLen K C (spD K W f) (fun _ _ _ => False) xs H Q
def bOLen (c : Nat) (f : DF) : List D → (D → Prop) → Prop := fun ds post => ∃ fs, ds = [.obj c fs] ∧ f ds noX fun r => ∃ n : Int, r = .int n ∧ (0 ≤ n ∧ n < 2 ^ 63) ∧ post (.int n)
theorem cr_olenD {X : Cx} {j k c : Nat} {df : DF} (F : LenOk P w K W mg base j c df) (hX : X.prog = P ∧ X.w = w ∧ X.K = K ∧ X.mg = mg ∧ X.base = base := by exact ⟨rfl, rfl, rfl, rfl, rfl⟩) (hr : Room k X.A := by assumption) (hj : j + 1 ≤ k := by decide) : CallR X (.builtin "len") (rOLenC K W c df) := by
  obtain ⟨rfl, rfl, rfl, rfl, rfl⟩ := hX
  obtain ⟨C, f, fd, ps, hM, O, F, hb⟩ := F.ex
  intro pins s σ H xs us Q I rv ⟨C', hM', q⟩
  obtain rfl : C' = C := Option.some.inj (hM'.symm.trans hM)
  exact cr_olen O F (hr.mono hj) hb passes_no pins s σ H xs us Q I rv q
theorem rc_olen {c : Nat} {f : DF} (hC : ∃ C, W.M c = some C) : RCb K W (rOLenC K W c f) (bOLen c f) := fun p S H vs ds Q post st ra q k => by
  obtain ⟨C, hM⟩ := hC
  obtain ⟨fs, rfl, q⟩ := q
  obtain ⟨v, rfl, r⟩ := ra.one
  have r0 := r
  unfold DL.R at r
  obtain ⟨a, C', dx, gs, rfl, ea, hC, rf⟩ := r
  obtain rfl : C' = C := Option.some.inj (hC.symm.trans hM)
  refine ⟨C', hM, a, dx, gs, rfl, st.ex _ _ ea, p, S, _, _, noX, st, RA.cons r0 RA.nil, q, fun v d S3 H3 ⟨n, hn, h2, q4⟩ g3 r4 => ?_, fun _ _ _ _ _ _ _ h => h.elim⟩
  subst hn
  exact ⟨n, r4, h2, k _ _ S3 H3 q4 g3 rfl⟩
end

/-! ### x in o -/
structure OwnIn (K : Frag) (C f : Addr) : Prop where
  hs : findIn K (.ref C) "__contains__" = some (some (.ref f))
  hf : isFn K (.ref f) = true
def rOIn (K : Frag) (C : Addr) (sp : Sp) (E : XK) (neg : Bool) : R2 := fun x y H Q => ∃ a dx fs, y = .ref a ∧ H a = some (.ins C dx fs) ∧ sp [y, x] H (fun v H' => ∃ b, v = .bl b ∧ Q (.bl (b != neg)) H') E
section
variable {X : Cx} {E : XK} {CX : CXT} {k : Nat} {C f : Addr} {fd : FuncData} {ps : List Str} {sp : Sp}
theorem op_oin (O : OwnIn X.K C f) (F : FnOk X.prog X.w X.K X.mg X.base CX k f fd ps sp) (hr : Room k X.A) (hb : L2.Binds X.K fd ps []) (hx : Passes CX X E) : OpR X (compareOp .In) (rOIn X.K C sp E false) := by
  intro pins s σ H x y v u Q I rx ry ⟨a, dx, fs, ex, ea, q2⟩
  subst ex
  obtain rfl : u = Value.ref a := ry
  obtain ⟨mA, J, _⟩ := ins_get I.hok ea
  obtain ⟨od, J, _⟩ := J.look
  obtain ⟨m, fr⟩ := I.fr
  refine in_K fr I.ok.mod.kin J O.hs O.hf (wpAny_mono (run_fn (us := [.ref a, v]) (vs := [.ref a, x]) F hr hb .nil hx I (.cons (show RelV (.ref a) (.ref a) from rfl) (.cons rx .nil)) q2) (fun v' s' hv => ?_) fun _ _ z => z)
  obtain ⟨v0, H3, I3, rv, b, e, q3⟩ := hv
  subst e
  obtain rfl : v' = Value.bool b := rv
  exact wpAny_truthy_bool ⟨.bl b, H3, I3, rfl, by simpa using q3⟩
theorem op_oni (O : OwnIn X.K C f) (F : FnOk X.prog X.w X.K X.mg X.base CX k f fd ps sp) (hr : Room k X.A) (hb : L2.Binds X.K fd ps []) (hx : Passes CX X E) : OpR X (compareOp .NotIn) (rOIn X.K C sp E true) := by
  intro pins s σ H x y v u Q I rx ry ⟨a, dx, fs, ex, ea, q2⟩
  subst ex
  obtain rfl : u = Value.ref a := ry
  obtain ⟨mA, J, _⟩ := ins_get I.hok ea
  obtain ⟨od, J, _⟩ := J.look
  obtain ⟨m, fr⟩ := I.fr
  refine notIn_K fr I.ok.mod.kin J O.hs O.hf (wpAny_mono (run_fn (us := [.ref a, v]) (vs := [.ref a, x]) F hr hb .nil hx I (.cons (show RelV (.ref a) (.ref a) from rfl) (.cons rx .nil)) q2) (fun v' s' hv => ?_) fun _ _ z => z)
  obtain ⟨v0, H3, I3, rv, b, e, q3⟩ := hv
  subst e
  obtain rfl : v' = Value.bool b := rv
  exact wpAny_truthy_bool ⟨.bl (!b), H3, I3, rfl, by simpa using q3⟩
end
section
variable (P : Program) (w : World) (K : Frag) (W : Wc) (mg : Str → Option Value) (base : Heap)
structure InOk (k c : Nat) (df : DF) : Prop where
  ex : ∃ (C f : Addr) (fd : FuncData) (ps : List Str), W.M c = some C ∧ OwnIn K C f ∧ FnOk P w K mg base (L2.CX P w) k f fd ps (spD K W df) ∧ L2.Binds K fd ps []
variable {P w K W mg base}
def rOInC (K : Frag) (W : Wc) (c : Nat) (f : DF) (neg : Bool) : R2 := fun x y H Q => ∃ C, W.M c = some C ∧ rOIn K C (spD K W f) (fun _ _ _ => False) neg x y H Q
def bOIn (c : Nat) (f : DF) (neg : Bool) : D → D → (D → Prop) → Prop := fun x o post => (∃ fs, o = .obj c fs) ∧ f [o, x] noX fun r => ∃ b, r = .bl b ∧ post (.bl (b != neg))
theorem op_inD {X : Cx} {j k c : Nat} {df : DF} (F : InOk P w K W mg base j c df) (hX : X.prog = P ∧ X.w = w ∧ X.K = K ∧ X.mg = mg ∧ X.base = base := by exact ⟨rfl, rfl, rfl, rfl, rfl⟩) (hr : Room k X.A := by assumption) (hj : j ≤ k := by decide) : OpR X (compareOp .In) (rOInC K W c df false) := by
  obtain ⟨rfl, rfl, rfl, rfl, rfl⟩ := hX
  obtain ⟨C, f, fd, ps, hM, O, F, hb⟩ := F.ex
  intro pins s σ H x y v u Q I rx ry ⟨C', hM', q⟩
  obtain rfl : C' = C := Option.some.inj (hM'.symm.trans hM)
  exact op_oin O F (hr.mono hj) hb passes_no pins s σ H x y v u Q I rx ry q
theorem op_niD {X : Cx} {j k c : Nat} {df : DF} (F : InOk P w K W mg base j c df) (hX : X.prog = P ∧ X.w = w ∧ X.K = K ∧ X.mg = mg ∧ X.base = base := by exact ⟨rfl, rfl, rfl, rfl, rfl⟩) (hr : Room k X.A := by assumption) (hj : j ≤ k := by decide) : OpR X (compareOp .NotIn) (rOInC K W c df true) := by
  obtain ⟨rfl, rfl, rfl, rfl, rfl⟩ := hX
  obtain ⟨C, f, fd, ps, hM, O, F, hb⟩ := F.ex
  intro pins s σ H x y v u Q I rx ry ⟨C', hM', q⟩
  obtain rfl : C' = C := Option.some.inj (hM'.symm.trans hM)
  exact op_oni O F (hr.mono hj) hb passes_no pins s σ H x y v u Q I rx ry q
theorem rb_oin {c : Nat} {f : DF} {neg : Bool} (hC : ∃ C, W.M c = some C) : RB K W (rOInC K W c f neg) (bOIn c f neg) := fun p S H x y d e Q post st r1 r2 q k => by
  obtain ⟨C, hM⟩ := hC
  obtain ⟨⟨fs, rfl⟩, q⟩ := q
  have r3 := r2
  unfold DL.R at r3
  obtain ⟨a, C', dx, gs, rfl, ea, hC, rf⟩ := r3
  obtain rfl : C' = C := Option.some.inj (hC.symm.trans hM)
  refine ⟨C', hM, a, dx, gs, rfl, st.ex _ _ ea, p, S, _, _, noX, st, RA.cons r2 (RA.cons r1 RA.nil), q, fun v d S3 H3 ⟨b, hb, q4⟩ g3 r4 => ?_, fun _ _ _ _ _ _ _ h => h.elim⟩
  subst hb
  exact ⟨b, r4, k _ _ S3 H3 q4 g3 rfl⟩
end
end DL

set_option Elab.async false
set_option linter.all false
set_option maxRecDepth 100000
set_option maxHeartbeats 1000000
/-! tuple(x) -/
namespace DL
open PySem L2
def dTupL (de : DE) : DE := fun env xp post => de env xp fun d => ∃ ds, (d = .lst ds ∨ d = .tup ds) ∧ post (.tup ds)
section
variable {X : Cx} {W : Wc} {E : XK} {e : Expr} {te : TE} {de : DE} {p pos : Pos}
theorem pd_tupL (K : PySem.W.Frag) (hg : Gl X "tuple") (hm : X.mg "tuple" = none) (he : PD X W E e te de) (hs : starEach [e] X.env = (false, eval e X.env) :: starEach [] X.env := by rfl) (hK : X.K = K := by rfl) :
    PD X W E (.Call (.Name "tuple" p) [e] [] pos) (tThen te (kTup K)) (dTupL de) := by
  subst hK
  refine ⟨pe_tupleOf hg hm he.pe hs, fun p S H σ env xp st ev xo Q post q k => he.se p S H σ env xp st ev xo _ _ q fun v d S1 H1 ⟨ds, ed, q1⟩ g1 r1 => ?_⟩
  rcases ed with rfl | rfl
  · unfold DL.R at r1
    obtain ⟨a, ys, rfl, h1, h2⟩ := r1
    refine .inl ⟨a, ys, rfl, SqL.of (g1.st.ex _ _ h1), fun l hl => ?_⟩
    have hS := g1.st.none hl
    refine k _ _ _ _ q1 (g1.trans (Grow.new g1.st hl)) ?_
    unfold DL.R
    exact ⟨l, ys, rfl, SqT.of upd_same, RA.mono (Ex.new hS) _ _ h2⟩
  · have r2 := r1
    unfold DL.R at r1
    obtain ⟨a, ys, rfl, h1, h2⟩ := r1
    exact .inr ⟨a, ys, rfl, Ex.t g1.st.ex h1, k _ _ S1 H1 q1 g1 r2⟩
/-- .. of a list that only the def holds -/
def dTupO (i : Nat) : DE := fun env xp post => ∃ ds, env[i]? = some (.ow ds) ∧ post (.tup ds)
theorem pd_tupO (K : PySem.W.Frag) (i : Nat) {x : Str} {p' : Pos} (hg : Gl X "tuple") (hm : X.mg "tuple" = none) (hN : X.N[i]? = some x := by rfl) (hv : Vis X.env.scope x := by first | exact Or.inl rfl | exact Or.inr (Or.inl rfl) | exact Or.inr (Or.inr rfl)) (hd : (x == ("__debug__" : Str)) = false := by decide)
    (hcd : (x == ("__classdict__" : Str)) = false := by decide) (hs : starEach [.Name x p'] X.env = (false, eval (.Name x p') X.env) :: starEach [] X.env := by rfl) (hK : X.K = K := by rfl) :
    PD X W E (.Call (.Name "tuple" p) [.Name x p'] [] pos) (tThen (tVar i) (kTup K)) (dTupO i) := by
  subst hK
  refine ⟨pe_tupleOf hg hm (pe_var hN hv hd hcd) hs, fun p S H σ env xp st ev xo Q post ⟨ds, e0, q1⟩ k => ?_⟩
  obtain ⟨a, vs, hs, hS, hp, hH, ra⟩ := ev.ow e0
  refine ⟨.ref a, hs, .inl ⟨a, vs, rfl, SqL.of hH, fun l hl => ?_⟩⟩
  have hS2 := st.none hl
  refine k _ _ _ _ q1 (Grow.new st hl) ?_
  unfold DL.R
  exact ⟨l, vs, rfl, SqT.of upd_same, RA.mono (Ex.new hS2) _ _ ra⟩
end
end DL

set_option Elab.async false
set_option linter.all false
set_option maxRecDepth 100000
set_option maxHeartbeats 1000000
/-! equations for simp -/
namespace DL
open PySem L2
theorem isNon_non : isNon .non = true := rfl
theorem isNon_bl {b : Bool} : isNon (.bl b) = false := rfl
theorem isNon_int {b : Int} : isNon (.int b) = false := rfl
theorem isNon_str {b : Str} : isNon (.str b) = false := rfl
theorem isNon_lst {b : List D} : isNon (.lst b) = false := rfl
theorem isNon_tup {b : List D} : isNon (.tup b) = false := rfl
theorem isNon_obj {c : Nat} {fs : List (Str × D)} : isNon (.obj c fs) = false := rfl
theorem isNon_ety : isNon .ety = false := rfl
theorem isNon_dct {ks : List (Key × D)} : isNon (.dct ks) = false := rfl
theorem isObj_non {c : Nat} : isObj c .non = false := rfl
theorem isObj_bl {c : Nat} {b : Bool} : isObj c (.bl b) = false := rfl
theorem isObj_int {c : Nat} {b : Int} : isObj c (.int b) = false := rfl
theorem isObj_str {c : Nat} {b : Str} : isObj c (.str b) = false := rfl
theorem isObj_lst {c : Nat} {b : List D} : isObj c (.lst b) = false := rfl
theorem isObj_tup {c : Nat} {b : List D} : isObj c (.tup b) = false := rfl
theorem isObj_obj {c : Nat} {fs : List (Str × D)} : isObj c (.obj c fs) = true := by simp [isObj]
theorem isObj_ety {c : Nat} : isObj c .ety = false := rfl
theorem isObj_dct {c : Nat} {ks : List (Key × D)} : isObj c (.dct ks) = false := rfl
theorem atI_0 {α : Type} {x : α} {xs : List α} : atI (x :: xs) 0 = some x := by
  show (if (0 : Int) ≤ 0 then _ else _ : Option Nat).bind _ = _
  simp
theorem atI_1 {α : Type} {x y : α} {xs : List α} : atI (x :: y :: xs) 1 = some y := by
  have : (1 : Int) < ((x :: y :: xs).length : Nat) := by simp; omega
  unfold atI ixN
  rw [if_pos (by decide), if_pos this]
  rfl
theorem atI_2 {α : Type} {x y z : α} {xs : List α} : atI (x :: y :: z :: xs) 2 = some z := by
  have : (2 : Int) < ((x :: y :: z :: xs).length : Nat) := by simp; omega
  unfold atI ixN
  rw [if_pos (by decide), if_pos this]
  rfl
theorem someD {d : D} {p : D → Prop} : (∃ e, some d = some e ∧ p e) = p d := by simp
theorem oneD {d : D} {p : D → Prop} : (∃ e, [d] = [e] ∧ p e) = p d := by simp
end DL

set_option Elab.async false
set_option linter.all false
set_option maxRecDepth 100000
set_option maxHeartbeats 1000000
/-! slots as a lambda sees them; odd values -/
namespace DL
open PySem L2
def safe1 : Sl → Sl
  | .sh d => if ntD d = true then .sh d else .un
  | _ => .un
theorem safe_at {env : SEnv} {i : Nat} : (safe env)[i]? = env[i]?.map safe1 := by
  unfold safe
  rw [List.getElem?_map]
  congr 1
theorem safe1_sh {d : D} (h : ntD d = true) : safe1 (.sh d) = .sh d := by
  show (if ntD d = true then Sl.sh d else Sl.un) = _
  rw [if_pos h]
theorem ntd_non : ntD .non = true := rfl
theorem ntd_bl {b : Bool} : ntD (.bl b) = true := rfl
theorem ntd_int {b : Int} : ntD (.int b) = true := rfl
theorem ntd_str {b : Str} : ntD (.str b) = true := rfl
theorem ntd_lst {ds : List D} : ntD (.lst ds) = ntA ds := rfl
theorem ntd_tup {ds : List D} : ntD (.tup ds) = ntA ds := rfl
theorem ntd_obj {c : Nat} {fs : List (Str × D)} : ntD (.obj c fs) = ntF fs := rfl
theorem ntA_nil : ntA [] = true := rfl
theorem ntA_cons {d : D} {ds : List D} : ntA (d :: ds) = (ntD d && ntA ds) := rfl
theorem ntd_dct {ks : List (Key × D)} : ntD (.dct ks) = ntK ks := rfl
theorem ntK_nil : ntK [] = true := rfl
theorem ntK_cons {n : Key} {d : D} {ds : List (Key × D)} : ntK ((n, d) :: ds) = (ntD d && ntK ds) := rfl
theorem ntF_nil : ntF [] = true := rfl
theorem ntF_cons {n : Str} {d : D} {ds : List (Str × D)} : ntF ((n, d) :: ds) = (ntD d && ntF ds) := rfl
theorem ntA_map {α : Type} {f : α → D} (h : ∀ x, ntD (f x) = true) : ∀ xs : List α, ntA (xs.map f) = true
  | [] => rfl
  | x :: xs => by rw [List.map_cons, ntA_cons, h, ntA_map h xs]; rfl
theorem ntA_all : ∀ {ds : List D}, (∀ d ∈ ds, ntD d = true) → ntA ds = true
  | [], _ => rfl
  | d :: ds, h => by rw [ntA_cons, h d (by simp), ntA_all fun e he => h e (by simp [he])]; rfl
/-- a field that is there -/
def optP (o : Option D) (p : D → Prop) : Prop := match o with
  | some v => p v
  | none => False
theorem optP_some {v : D} {p : D → Prop} : optP (some v) p = p v := rfl
theorem fld_E {fs : List (Str × D)} {f : Str} {p : D → Prop} : (∃ gs v, fs = gs ∧ List.lookup f gs = some v ∧ p v) = optP (List.lookup f fs) p := by
  refine propext ⟨fun ⟨gs, v, e, h, q⟩ => ?_, fun h => ?_⟩
  · subst e
    rw [h]; exact q
  · cases e : List.lookup f fs with
    | none => rw [e] at h; exact h.elim
    | some v => rw [e] at h; exact ⟨fs, v, rfl, e, h⟩
theorem seqL_E {xs : List D} {p : List D → Prop} : (∃ ds, (D.lst xs = .lst ds ∨ D.lst xs = .tup ds) ∧ p ds) = p xs := by
  refine propext ⟨fun ⟨ds, e, q⟩ => ?_, fun q => ⟨xs, .inl rfl, q⟩⟩
  rcases e with e | e
  · cases e; exact q
  · cases e
theorem seqT_E {xs : List D} {p : List D → Prop} : (∃ ds, (D.tup xs = .lst ds ∨ D.tup xs = .tup ds) ∧ p ds) = p xs := by
  refine propext ⟨fun ⟨ds, e, q⟩ => ?_, fun q => ⟨xs, .inr rfl, q⟩⟩
  rcases e with e | e
  · cases e
  · cases e; exact q
theorem olen_E {c : Nat} {f : DF} {fs : List (Str × D)} {q : D → Prop} : bOLen c f [.obj c fs] q = f [.obj c fs] noX fun r => ∃ n : Int, r = .int n ∧ (0 ≤ n ∧ n < 2 ^ 63) ∧ q (.int n) := by
  refine propext ⟨fun ⟨gs, e, q⟩ => q, fun q => ⟨fs, rfl, q⟩⟩
inductive Fa2 {α β : Type} (P : α → β → Prop) : List α → List β → Prop
  | nil : Fa2 P [] []
  | cons {x : α} {y : β} {xs : List α} {ys : List β} (h : P x y) (t : Fa2 P xs ys) : Fa2 P (x :: xs) (y :: ys)
theorem dcomp_rel {one : D → (Option D → Prop) → Prop} {α β : Type} {f : α → D} {g : β → D} {P : α → β → Prop} : ∀ (ws : List α) (k : List D → Prop), (∀ w ∈ ws, ∀ k' : Option D → Prop, (∀ y, P w y → k' (some (g y))) → one (f w) k') → (∀ ys : List β, Fa2 P ws ys → k (ys.map g)) → dcomp one (ws.map f) k
  | [], k, _, h => h [] .nil
  | w :: ws, k, h1, h => by
    show one (f w) fun o => dcomp one (ws.map f) fun r => k (match o with | some e => e :: r | none => r)
    refine h1 w (by simp) _ fun y hy => dcomp_rel (P := P) ws _ (fun v hv => h1 v (by simp [hv])) fun ys hp => h (y :: ys) (.cons hy hp)
theorem fa2_len {α β : Type} {P : α → β → Prop} : ∀ {xs : List α} {ys : List β}, Fa2 P xs ys → ys.length = xs.length
  | _, _, .nil => rfl
  | _, _, .cons _ h => by simp [fa2_len h]
theorem fa2_all {α β : Type} {P : α → β → Prop} {Q : β → Prop} : ∀ {xs : List α} {ys : List β}, Fa2 P xs ys → (∀ x ∈ xs, ∀ y, P x y → Q y) → ∀ y ∈ ys, Q y
  | _, _, .nil, _, y, hy => by cases hy
  | _, _, .cons h t, hq, y, hy => by
    rcases List.mem_cons.mp hy with rfl | hy
    · exact hq _ (by simp) _ h
    · exact fa2_all t (fun x hx => hq x (by simp [hx])) y hy
theorem fa2_map {α β γ : Type} {P : α → β → Prop} {f : α → γ} {g : β → γ} (h : ∀ x y, P x y → g y = f x) : ∀ {xs : List α} {ys : List β}, Fa2 P xs ys → ys.map g = xs.map f
  | _, _, .nil => rfl
  | _, _, .cons a t => by rw [List.map_cons, List.map_cons, h _ _ a, fa2_map h t]
end DL

set_option Elab.async false
set_option linter.all false
set_option maxRecDepth 100000
set_option maxHeartbeats 1000000
/-! what a value is worth is one thing; == of tuples whose items have an own == -/
namespace DL
open PySem PySem.W PySem.Calls PyProof.Rows L2
section
variable {X : Cx} {pins : List (Addr × Obj)} {σ : L2.St} {H : Hp} {s : Shared} {M : MM} {p : Addr} {S : Hp}
/-- the class of what stands at an address -/
def clsD (M : MM) : D → Value → Prop
  | .lst _, c => c = .type "list"
  | .tup _, c => c = .type "tuple"
  | .obj n _, c => ∃ C, M.m n = some C ∧ c = .ref C
  | .ety, c => c = .type "dict"
  | .dct _, c => c = .type "dict"
  | .tok, c => c = .type "list"
  | _, _ => False
theorem R.cls (I : Inv X pins σ H s) (st : Stt (WcOf M) p S H) {a : Addr} : ∀ {d : D}, DL.R X.K (WcOf M) p S (.ref a) d → ∃ o, s.heap.get? a = some o ∧ clsD M d o.cls
  | .non, r => by unfold DL.R at r; cases r
  | .bl _, r => by unfold DL.R at r; cases r
  | .int _, r => by unfold DL.R at r; cases r
  | .str _, r => by unfold DL.R at r; cases r
  | .lst ds, r => by
    unfold DL.R at r
    obtain ⟨b, xs, e, h, _⟩ := r
    cases e
    obtain ⟨_, its, n, _, e⟩ := I.hok a _ (st.ex _ _ h)
    exact ⟨_, e, rfl⟩
  | .tup ds, r => by
    unfold DL.R at r
    obtain ⟨b, xs, e, h, _⟩ := r
    cases e
    obtain ⟨its, _, ⟨o, e, hc, _⟩, _⟩ := I.tuple (st.ex.t h)
    exact ⟨o, e, hc⟩
  | .obj n fs, r => by
    unfold DL.R at r
    obtain ⟨b, C, dx, gs, e, h, hM, _⟩ := r
    cases e
    obtain ⟨_, _, _, e, _⟩ := I.hok a _ (st.ex _ _ h)
    exact ⟨_, e, C, hM, rfl⟩
  | .ety, r => by
    unfold DL.R at r
    obtain ⟨b, e, h⟩ := r
    cases e
    obtain ⟨_, _, vs, _, o, es, ep, e, ⟨hc, _⟩, _⟩ := dk_rd I.hok (st.ex.rd h.rd)
    exact ⟨o, e, hc⟩
  | .dct ks, r => by
    unfold DL.R at r
    obtain ⟨_, b, kvs, e, h, _⟩ := r
    cases e
    obtain ⟨_, _, vs, _, o, es, ep, e, ⟨hc, _⟩, _⟩ := dk_rd I.hok (st.ex.rd h.rd)
    exact ⟨o, e, hc⟩
  | .tok, r => by
    unfold DL.R at r
    cases r
    obtain ⟨o, e, hs⟩ := st.src
    obtain ⟨xs, rfl⟩ := SrcM.lst hs
    obtain ⟨_, its, n, _, e⟩ := I.hok _ _ e
    exact ⟨_, e, rfl⟩
theorem R.noref {K : Frag} {W : Wc} {v : V} (hv : ∀ a, v ≠ .ref a) : ∀ {e : D}, DL.R K W p S v e → plainD e = true
  | .non, _ => rfl
  | .bl _, _ => rfl
  | .int _, _ => rfl
  | .str _, _ => rfl
  | .lst _, r => by unfold DL.R at r; obtain ⟨a, _, e, _⟩ := r; exact (hv a e).elim
  | .tup _, r => by unfold DL.R at r; obtain ⟨a, _, e, _⟩ := r; exact (hv a e).elim
  | .obj _ _, r => by unfold DL.R at r; obtain ⟨a, _, _, _, e, _⟩ := r; exact (hv a e).elim
  | .ety, r => by unfold DL.R at r; obtain ⟨a, e, _⟩ := r; exact (hv a e).elim
  | .dct _, r => by unfold DL.R at r; obtain ⟨_, a, _, e, _⟩ := r; exact (hv a e).elim
  | .tok, r => by unfold DL.R at r; exact (hv _ r).elim
mutual
theorem R.inj (I : Inv X pins σ H s) (st : Stt (WcOf M) p S H) (hj : ∀ c c' C, M.m c = some C → M.m c' = some C → c = c') : ∀ (d : D) (v : V) (e : D), DL.R X.K (WcOf M) p S v d → DL.R X.K (WcOf M) p S v e → d = e
  | .non, v, e, r1, r2 => by
    unfold DL.R at r1; subst r1
    have hp := R.noref (by nofun) r2
    cases e <;> simp only [plainD, Bool.false_eq_true] at hp <;> unfold DL.R at r2 <;> first | rfl | (cases r2; rfl) | cases r2
  | .bl _, v, e, r1, r2 => by
    unfold DL.R at r1; subst r1
    have hp := R.noref (by nofun) r2
    cases e <;> simp only [plainD, Bool.false_eq_true] at hp <;> unfold DL.R at r2 <;> first | rfl | (cases r2; rfl) | cases r2
  | .int _, v, e, r1, r2 => by
    unfold DL.R at r1; subst r1
    have hp := R.noref (by nofun) r2
    cases e <;> simp only [plainD, Bool.false_eq_true] at hp <;> unfold DL.R at r2 <;> first | rfl | (cases r2; rfl) | cases r2
  | .str _, v, e, r1, r2 => by
    unfold DL.R at r1; subst r1
    have hp := R.noref (by nofun) r2
    cases e <;> simp only [plainD, Bool.false_eq_true] at hp <;> unfold DL.R at r2 <;> first | rfl | (cases r2; rfl) | cases r2
  | .lst ds, v, e, r1, r2 => by
    have q1 := r1
    unfold DL.R at r1
    obtain ⟨a, xs, rfl, h1, a1⟩ := r1
    obtain ⟨o, g1, k1⟩ := R.cls I st q1
    obtain ⟨o', g2, k2⟩ := R.cls I st r2
    obtain rfl := Option.some.inj (g1.symm.trans g2)
    have k1' : o.cls = .type "list" := k1
    cases e with
    | lst es =>
      unfold DL.R at r2
      obtain ⟨b, ys, eb, h2, a2⟩ := r2
      cases eb
      rw [h1] at h2
      cases h2
      rw [RA.inj I st hj ds xs es a1 a2]
    | tok =>
      unfold DL.R at r2
      cases r2
      rw [st.hid] at h1; cases h1
    | tup _ => exact nomatch k1'.symm.trans (show o.cls = .type "tuple" from k2)
    | ety => exact nomatch k1'.symm.trans (show o.cls = .type "dict" from k2)
    | dct _ => exact nomatch k1'.symm.trans (show o.cls = .type "dict" from k2)
    | obj _ _ => obtain ⟨C, _, z⟩ := k2; exact nomatch k1'.symm.trans z
    | non => exact k2.elim
    | bl _ => exact k2.elim
    | int _ => exact k2.elim
    | str _ => exact k2.elim
  | .tup ds, v, e, r1, r2 => by
    have q1 := r1
    unfold DL.R at r1
    obtain ⟨a, xs, rfl, h1, a1⟩ := r1
    obtain ⟨o, g1, k1⟩ := R.cls I st q1
    obtain ⟨o', g2, k2⟩ := R.cls I st r2
    obtain rfl := Option.some.inj (g1.symm.trans g2)
    have k1' : o.cls = .type "tuple" := k1
    cases e with
    | tup es =>
      unfold DL.R at r2
      obtain ⟨b, ys, eb, h2, a2⟩ := r2
      cases eb
      obtain rfl := I.tuple_inj (st.ex.t h1) (st.ex.t h2)
      rw [RA.inj I st hj ds xs es a1 a2]
    | tok => exact nomatch k1'.symm.trans (show o.cls = .type "list" from k2)
    | lst _ => exact nomatch k1'.symm.trans (show o.cls = .type "list" from k2)
    | ety => exact nomatch k1'.symm.trans (show o.cls = .type "dict" from k2)
    | dct _ => exact nomatch k1'.symm.trans (show o.cls = .type "dict" from k2)
    | obj _ _ => obtain ⟨C, _, z⟩ := k2; exact nomatch k1'.symm.trans z
    | non => exact k2.elim
    | bl _ => exact k2.elim
    | int _ => exact k2.elim
    | str _ => exact k2.elim
  | .obj c fs, v, e, r1, r2 => by
    have q1 := r1
    unfold DL.R at r1
    obtain ⟨a, C, dx, gs, rfl, h1, hM, a1⟩ := r1
    obtain ⟨o, g1, C', hM', k1⟩ := R.cls I st q1
    obtain ⟨o', g2, k2⟩ := R.cls I st r2
    obtain rfl := Option.some.inj (g1.symm.trans g2)
    cases e with
    | obj c2 fs2 =>
      unfold DL.R at r2
      obtain ⟨b, C2, dx2, gs2, eb, h2, hM2, a2⟩ := r2
      cases eb
      rw [h1] at h2
      cases h2
      obtain rfl := hj c c2 _ hM hM2
      rw [RF.inj I st hj fs gs fs2 a1 a2]
    | tok => exact nomatch k1.symm.trans (show o.cls = .type "list" from k2)
    | lst _ => exact nomatch k1.symm.trans (show o.cls = .type "list" from k2)
    | ety => exact nomatch k1.symm.trans (show o.cls = .type "dict" from k2)
    | dct _ => exact nomatch k1.symm.trans (show o.cls = .type "dict" from k2)
    | tup _ => exact nomatch k1.symm.trans (show o.cls = .type "tuple" from k2)
    | non => exact k2.elim
    | bl _ => exact k2.elim
    | int _ => exact k2.elim
    | str _ => exact k2.elim
  | .ety, v, e, r1, r2 => by
    have q1 := r1
    unfold DL.R at r1
    obtain ⟨a, rfl, h1⟩ := r1
    obtain ⟨o, g1, k1⟩ := R.cls I st q1
    obtain ⟨o', g2, k2⟩ := R.cls I st r2
    obtain rfl := Option.some.inj (g1.symm.trans g2)
    have k1' : o.cls = .type "dict" := k1
    cases e with
    | ety => rfl
    | dct ks =>
      unfold DL.R at r2
      obtain ⟨h0, b, kvs, eb, h2, a2⟩ := r2
      cases eb
      obtain rfl := h1.inj h2
      cases ks with
      | nil => exact (h0 rfl).elim
      | cons z zs => obtain ⟨z1, z2⟩ := z; unfold DL.RK at a2; obtain ⟨_, _, z, _⟩ := a2; cases z
    | tok => exact nomatch k1'.symm.trans (show o.cls = .type "list" from k2)
    | lst _ => exact nomatch k1'.symm.trans (show o.cls = .type "list" from k2)
    | tup _ => exact nomatch k1'.symm.trans (show o.cls = .type "tuple" from k2)
    | obj _ _ => obtain ⟨C, _, z⟩ := k2; exact nomatch k1'.symm.trans z
    | non => exact k2.elim
    | bl _ => exact k2.elim
    | int _ => exact k2.elim
    | str _ => exact k2.elim
  | .dct ks, v, e, r1, r2 => by
    have q1 := r1
    unfold DL.R at r1
    obtain ⟨h0, a, kvs, rfl, h1, a1⟩ := r1
    obtain ⟨o, g1, k1⟩ := R.cls I st q1
    obtain ⟨o', g2, k2⟩ := R.cls I st r2
    obtain rfl := Option.some.inj (g1.symm.trans g2)
    have k1' : o.cls = .type "dict" := k1
    cases e with
    | ety =>
      unfold DL.R at r2
      obtain ⟨b, eb, h2⟩ := r2
      cases eb
      obtain rfl := h2.inj h1
      cases ks with
      | nil => exact (h0 rfl).elim
      | cons z zs => obtain ⟨z1, z2⟩ := z; unfold DL.RK at a1; obtain ⟨_, _, z, _⟩ := a1; cases z
    | dct ks2 =>
      unfold DL.R at r2
      obtain ⟨_, b, kvs2, eb, h2, a2⟩ := r2
      cases eb
      obtain rfl := h1.inj h2
      rw [RK.inj I st hj ks kvs ks2 a1 a2]
    | tok => exact nomatch k1'.symm.trans (show o.cls = .type "list" from k2)
    | lst _ => exact nomatch k1'.symm.trans (show o.cls = .type "list" from k2)
    | tup _ => exact nomatch k1'.symm.trans (show o.cls = .type "tuple" from k2)
    | obj _ _ => obtain ⟨C, _, z⟩ := k2; exact nomatch k1'.symm.trans z
    | non => exact k2.elim
    | bl _ => exact k2.elim
    | int _ => exact k2.elim
    | str _ => exact k2.elim
  | .tok, v, e, r1, r2 => by
    have q1 := r1
    unfold DL.R at r1
    subst r1
    obtain ⟨o, g1, k1⟩ := R.cls I st q1
    obtain ⟨o', g2, k2⟩ := R.cls I st r2
    obtain rfl := Option.some.inj (g1.symm.trans g2)
    have k1' : o.cls = .type "list" := k1
    cases e with
    | tok => rfl
    | lst es =>
      unfold DL.R at r2
      obtain ⟨b, ys, eb, h2, a2⟩ := r2
      cases eb
      rw [st.hid] at h2; cases h2
    | tup _ => exact nomatch k1'.symm.trans (show o.cls = .type "tuple" from k2)
    | ety => exact nomatch k1'.symm.trans (show o.cls = .type "dict" from k2)
    | dct _ => exact nomatch k1'.symm.trans (show o.cls = .type "dict" from k2)
    | obj _ _ => obtain ⟨C, _, z⟩ := k2; exact nomatch k1'.symm.trans z
    | non => exact k2.elim
    | bl _ => exact k2.elim
    | int _ => exact k2.elim
    | str _ => exact k2.elim
theorem RA.inj (I : Inv X pins σ H s) (st : Stt (WcOf M) p S H) (hj : ∀ c c' C, M.m c = some C → M.m c' = some C → c = c') : ∀ (ds : List D) (vs : List V) (es : List D), RA X.K (WcOf M) p S vs ds → RA X.K (WcOf M) p S vs es → ds = es
  | [], vs, es, r1, r2 => by
    unfold DL.RA at r1; subst r1
    cases es with
    | nil => rfl
    | cons _ _ => unfold DL.RA at r2; obtain ⟨_, _, z, _⟩ := r2; cases z
  | d :: ds, vs, es, r1, r2 => by
    unfold DL.RA at r1
    obtain ⟨y, ys, rfl, h1, h2⟩ := r1
    cases es with
    | nil => unfold DL.RA at r2; cases r2
    | cons e es =>
      unfold DL.RA at r2
      obtain ⟨y', ys', z, k1, k2⟩ := r2
      cases z
      rw [R.inj I st hj d y e h1 k1, RA.inj I st hj ds ys es h2 k2]
theorem RF.inj (I : Inv X pins σ H s) (st : Stt (WcOf M) p S H) (hj : ∀ c c' C, M.m c = some C → M.m c' = some C → c = c') : ∀ (ds : List (Str × D)) (vs : List (Str × V)) (es : List (Str × D)), RF X.K (WcOf M) p S vs ds → RF X.K (WcOf M) p S vs es → ds = es
  | [], vs, es, r1, r2 => by
    unfold DL.RF at r1; subst r1
    cases es with
    | nil => rfl
    | cons _ _ => unfold DL.RF at r2; obtain ⟨_, _, z, _⟩ := r2; cases z
  | (n, d) :: ds, vs, es, r1, r2 => by
    unfold DL.RF at r1
    obtain ⟨y, ys, rfl, h1, h2⟩ := r1
    cases es with
    | nil => unfold DL.RF at r2; cases r2
    | cons e es =>
      obtain ⟨m, e⟩ := e
      unfold DL.RF at r2
      obtain ⟨y', ys', z, k1, k2⟩ := r2
      cases z
      rw [R.inj I st hj d y e h1 k1, RF.inj I st hj ds ys es h2 k2]
theorem RK.inj (I : Inv X pins σ H s) (st : Stt (WcOf M) p S H) (hj : ∀ c c' C, M.m c = some C → M.m c' = some C → c = c') : ∀ (ds : List (Key × D)) (vs : List (Key × V)) (es : List (Key × D)), RK X.K (WcOf M) p S vs ds → RK X.K (WcOf M) p S vs es → ds = es
  | [], vs, es, r1, r2 => by
    unfold DL.RK at r1; subst r1
    cases es with
    | nil => rfl
    | cons _ _ => unfold DL.RK at r2; obtain ⟨_, _, z, _⟩ := r2; cases z
  | (n, d) :: ds, vs, es, r1, r2 => by
    unfold DL.RK at r1
    obtain ⟨y, ys, rfl, h1, h2⟩ := r1
    cases es with
    | nil => unfold DL.RK at r2; cases r2
    | cons e es =>
      obtain ⟨m, e⟩ := e
      unfold DL.RK at r2
      obtain ⟨y', ys', z, k1, k2⟩ := r2
      cases z
      rw [R.inj I st hj d y e h1 k1, RK.inj I st hj ds ys es h2 k2]
end
end
end DL

set_option Elab.async false
set_option linter.all false
set_option maxRecDepth 100000
set_option maxHeartbeats 1000000
/-! == and != of tuples whose items have an own == -/
namespace DL
open PySem PySem.W PySem.Calls PyProof.Rows L2
/-- items of two tuples, one pair after the other -/
def rZip (el : V → V → Hp → (Bool → Hp → Prop) → Prop) : List V → List V → Hp → (Bool → Hp → Prop) → Prop
  | x :: xs, y :: ys, H, Q => el x y H fun b H' => if b = true then rZip el xs ys H' Q else Q false H'
  | [], [], H, Q => Q true H
  | [], _ :: _, H, Q => Q false H
  | _ :: _, [], H, Q => Q false H
def ElOk (X : Cx) (el : V → V → Hp → (Bool → Hp → Prop) → Prop) : Prop :=
  ∀ (pins : List (Addr × Obj)) (s : Shared) (σ : L2.St) (H : Hp) (x y : V) (v u : Value) (R : Bool → Hp → Prop), Inv X pins σ H s → RelV x v → RelV y u → el x y H R → wpAny (model X.prog X.w) X.A.in1 (eqBool v u) (fun b s' => ∃ H', Inv X pins σ H' s' ∧ R b H') X.xe s
def rTupEq (K : Frag) (el : V → V → Hp → (Bool → Hp → Prop) → Prop) (neg : Bool) : R2 := fun x y H Q => ∃ a b xs ys, x = .ref a ∧ y = .ref b ∧ SqT K H a xs ∧ SqT K H b ys ∧ rZip el xs ys H fun c H' => Q (.bl (c != neg)) H'
section
variable {X : Cx} {pins : List (Addr × Obj)} {σ : L2.St} {H : Hp} {s : Shared} {el : V → V → Hp → (Bool → Hp → Prop) → Prop}
theorem eq_tree {a b : Addr} {xs ys : List V} {Q : Bool → Hp → Prop} (hel : ElOk X el) (I : Inv X pins σ H s) (ha : SqT X.K H a xs) (hb : SqT X.K H b ys) (h : rZip el xs ys H Q) :
    wpAny (model X.prog X.w) X.A.in1 (Builtin.«tuple.__eq__» ⟨[.ref a, .ref b], []⟩) (fun fin s' => ∃ c, fin = .done (.ret (.bool c)) ∧ ∃ H', Inv X pins σ H' s' ∧ Q c H') X.xe s := by
  obtain ⟨us, rx, ⟨oa, hoa, _, na, hda⟩, _⟩ := I.tuple ha
  obtain ⟨vs, ry, ⟨ob, hob, hcb, nb, hdb⟩, _⟩ := I.tuple hb
  have hTb : s.TypeIs (.ref b) "tuple" := ⟨ob, hob, hcb⟩
  show wpAny _ _ (isInstance (.ref b) (.type "tuple") >>= _) _ _ s
  refine wpAny_bind (wpAny_isInstance hTb isSubtype_tuple_tuple ?_)
  simp only [Bool.not_true, Bool.false_eq_true, if_false]
  refine wpAny_bind (wpAny_tupleItemsOf hoa hda ?_)
  refine wpAny_bind (wpAny_tupleItemsOf hob hdb ?_)
  refine wpAny_bind ?_
  refine wpAny_forIn_list _
    (fun rest r s' => r.1 = none ∧ ∃ H' xs' ys' us' vs', rest = List.zip us' vs' ∧ Vals xs' us' ∧ Vals ys' vs' ∧ Inv X pins σ H' s' ∧ rZip el xs' ys' H' Q ∧ (us'.length == vs'.length) = (us.length == vs.length))
    _ ?_ ?_ _ _ ⟨rfl, H, xs, ys, us, vs, rfl, rx, ry, I, h, rfl⟩
  · rintro ⟨u, v⟩ rest r s' ⟨hr, H', xs', ys', us', vs', hz, hx', hy', I', hq, hlen⟩
    cases hx' with
    | nil => simp at hz
    | @cons x u' xs'' us'' h1 hx'' =>
      cases hy' with
      | nil => simp at hz
      | @cons y v' ys'' vs'' h2 hy'' =>
        simp only [List.zip_cons_cons, List.cons.injEq, Prod.mk.injEq] at hz
        obtain ⟨⟨rfl, rfl⟩, rfl⟩ := hz
        refine wpAny_bind (wpAny_mono (hel pins s' σ H' x y _ _ _ I' h1 h2 hq) (fun c s2 hc => ?_) fun _ _ z => z)
        obtain ⟨H2, I2, q2⟩ := hc
        cases c with
        | true =>
          simp only [Bool.not_true, Bool.false_eq_true, if_false]
          exact wpAny_pure ⟨rfl, H2, xs'', ys'', us'', vs'', rfl, hx'', hy'', I2, by simpa using q2, by simpa using hlen⟩
        | false =>
          simp only [Bool.not_false, if_true]
          exact wpAny_bind (wpAny_pure (wpAny_pure (wpAny_pure ⟨false, rfl, H2, I2, by simpa using q2⟩)))
  · rintro ⟨r1, r2⟩ s' ⟨hr, H', xs', ys', us', vs', hz, hx', hy', I', hq, hlen⟩
    simp only at hr
    subst hr
    refine wpAny_pure ?_
    refine ⟨us.length == vs.length, ?_, H', I', ?_⟩
    · show Fin.done (.ret (.bool (us.toArray.size == vs.toArray.size))) = _
      simp
    · rw [← hlen]
      cases hx' with
      | nil =>
        cases hy' with
        | nil => exact hq
        | cons _ _ => exact hq
      | cons _ _ =>
        cases hy' with
        | nil => exact hq
        | cons _ _ => simp at hz
theorem ne_tree {a b : Addr} {xs ys : List V} {Q : Bool → Hp → Prop} (hel : ElOk X el) (I : Inv X pins σ H s) (ha : SqT X.K H a xs) (hb : SqT X.K H b ys) (h : rZip el xs ys H Q) :
    wpAny (model X.prog X.w) X.A.in1 (Builtin.«tuple.__ne__» ⟨[.ref a, .ref b], []⟩) (fun fin s' => ∃ c, fin = .done (.ret (.bool (!c))) ∧ ∃ H', Inv X pins σ H' s' ∧ Q c H') X.xe s := by
  obtain ⟨us, rx, ⟨oa, hoa, _, na, hda⟩, _⟩ := I.tuple ha
  obtain ⟨vs, ry, ⟨ob, hob, hcb, nb, hdb⟩, _⟩ := I.tuple hb
  have hTb : s.TypeIs (.ref b) "tuple" := ⟨ob, hob, hcb⟩
  show wpAny _ _ (isInstance (.ref b) (.type "tuple") >>= _) _ _ s
  refine wpAny_bind (wpAny_isInstance hTb isSubtype_tuple_tuple ?_)
  simp only [Bool.not_true, Bool.false_eq_true, if_false]
  refine wpAny_bind (wpAny_tupleItemsOf hoa hda ?_)
  refine wpAny_bind (wpAny_tupleItemsOf hob hdb ?_)
  refine wpAny_bind ?_
  refine wpAny_forIn_list _
    (fun rest r s' => r.1 = none ∧ ∃ H' xs' ys' us' vs', rest = List.zip us' vs' ∧ Vals xs' us' ∧ Vals ys' vs' ∧ Inv X pins σ H' s' ∧ rZip el xs' ys' H' Q ∧ (us'.length == vs'.length) = (us.length == vs.length))
    _ ?_ ?_ _ _ ⟨rfl, H, xs, ys, us, vs, rfl, rx, ry, I, h, rfl⟩
  · rintro ⟨u, v⟩ rest r s' ⟨hr, H', xs', ys', us', vs', hz, hx', hy', I', hq, hlen⟩
    cases hx' with
    | nil => simp at hz
    | @cons x u' xs'' us'' h1 hx'' =>
      cases hy' with
      | nil => simp at hz
      | @cons y v' ys'' vs'' h2 hy'' =>
        simp only [List.zip_cons_cons, List.cons.injEq, Prod.mk.injEq] at hz
        obtain ⟨⟨rfl, rfl⟩, rfl⟩ := hz
        refine wpAny_bind (wpAny_mono (hel pins s' σ H' x y _ _ _ I' h1 h2 hq) (fun c s2 hc => ?_) fun _ _ z => z)
        obtain ⟨H2, I2, q2⟩ := hc
        cases c with
        | true =>
          simp only [Bool.not_true, Bool.false_eq_true, if_false]
          exact wpAny_pure ⟨rfl, H2, xs'', ys'', us'', vs'', rfl, hx'', hy'', I2, by simpa using q2, by simpa using hlen⟩
        | false =>
          simp only [Bool.not_false, if_true]
          exact wpAny_bind (wpAny_pure (wpAny_pure (wpAny_pure ⟨false, rfl, H2, I2, by simpa using q2⟩)))
  · rintro ⟨r1, r2⟩ s' ⟨hr, H', xs', ys', us', vs', hz, hx', hy', I', hq, hlen⟩
    simp only at hr
    subst hr
    refine wpAny_pure ?_
    refine ⟨us.length == vs.length, ?_, H', I', ?_⟩
    · show Fin.done (.ret (.bool (us.toArray.size != vs.toArray.size))) = _
      simp [bne]
    · rw [← hlen]
      cases hx' with
      | nil =>
        cases hy' with
        | nil => exact hq
        | cons _ _ => exact hq
      | cons _ _ =>
        cases hy' with
        | nil => exact hq
        | cons _ _ => simp at hz
theorem op_tupEq (hel : ElOk X el) (hu : X.A.units < cLine) : OpR X (compareOp .Eq) (rTupEq X.K el false) := by
  intro pins s σ H x y v u Q I rx ry ⟨a, b, xs, ys, ex, ey, ha, hb, q⟩
  subst ex ey
  obtain rfl : v = Value.ref a := rx
  obtain rfl : u = Value.ref b := ry
  obtain ⟨_, _, ⟨oa, hoa, hca, _⟩, _⟩ := I.tuple ha
  obtain ⟨_, _, ⟨ob, hob, hcb, _⟩, _⟩ := I.tuple hb
  have hTa : s.TypeIs (.ref a) "tuple" := ⟨oa, hoa, hca⟩
  have hTb : s.TypeIs (.ref b) "tuple" := ⟨ob, hob, hcb⟩
  show wpAny (model X.prog X.w) X.A (richCompare .Eq (.ref a) (.ref b)) (EP X pins σ Q) X.xe s
  refine wpAny_richCompare_same_room (op := .Eq) hTa hTb F.slot_tuple_eq (wpAny_call_entry F.slot_tuple_eq hTa F.entry_tuple_eq (wpAny_mono (eq_tree hel I ha hb q) (fun fin s' z => ?_) fun _ _ z => z) (F.args_tuple_eq_2 _ _)) hu
  obtain ⟨c, rfl, H', I', q'⟩ := z
  exact ⟨_, rfl, (fun e => nomatch e), .bl c, H', I', rfl, by simpa using q'⟩
theorem op_tupNe (hel : ElOk X el) (hu : X.A.units < cLine) : OpR X (compareOp .NotEq) (rTupEq X.K el true) := by
  intro pins s σ H x y v u Q I rx ry ⟨a, b, xs, ys, ex, ey, ha, hb, q⟩
  subst ex ey
  obtain rfl : v = Value.ref a := rx
  obtain rfl : u = Value.ref b := ry
  obtain ⟨_, _, ⟨oa, hoa, hca, _⟩, _⟩ := I.tuple ha
  obtain ⟨_, _, ⟨ob, hob, hcb, _⟩, _⟩ := I.tuple hb
  have hTa : s.TypeIs (.ref a) "tuple" := ⟨oa, hoa, hca⟩
  have hTb : s.TypeIs (.ref b) "tuple" := ⟨ob, hob, hcb⟩
  show wpAny (model X.prog X.w) X.A (richCompare .NotEq (.ref a) (.ref b)) (EP X pins σ Q) X.xe s
  refine wpAny_richCompare_same_room (op := .NotEq) hTa hTb F.slot_tuple_ne (wpAny_call_entry F.slot_tuple_ne hTa F.entry_tuple_ne (wpAny_mono (ne_tree hel I ha hb q) (fun fin s' z => ?_) fun _ _ z => z) (F.args_tuple_ne_2 _ _)) hu
  obtain ⟨c, rfl, H', I', q'⟩ := z
  exact ⟨_, rfl, (fun e => nomatch e), .bl (!c), H', I', rfl, by simpa using q'⟩
/-- an item of a class with an own == -/
def elOwn (X : Cx) (C : Addr) (sp : Sp) (E : XK) : V → V → Hp → (Bool → Hp → Prop) → Prop := fun x y H R => ∃ a dx fs, x = .ref a ∧ H a = some (.ins C dx fs) ∧ KTy X.K C H y ∧
  (x = y → (∃ pins σ s, Inv X pins σ H s) → R true H) ∧ sp [x, y] H (fun v H' => ∃ b, v = .bl b ∧ R b H') E
theorem el_own {CX : CXT} {C f : Addr} {k : Nat} {fd : FuncData} {ps : List Str} {sp : Sp} {E : XK} (O : OwnEq X.K C f) (F : FnOk X.prog X.w X.K X.mg X.base CX k f fd ps sp) (hr : Room (k + 1) X.A) (hb : L2.Binds X.K fd ps []) (hx : Passes CX X E) : ElOk X (elOwn X C sp E) := by
  intro pins s σ H x y v u R I rx ry ⟨a, dx, fs, ex, ea, ty, same, q⟩
  subst ex
  obtain rfl : v = Value.ref a := rx
  unfold eqBool
  try with_reducible refine wpAny_holding ?_
  show wpAny _ _ (if (Value.ref a == u) = true then _ else _) _ _ s
  by_cases hab : (Value.ref a == u) = true
  · rw [if_pos hab]
    have e : u = Value.ref a := (eq_of_beq hab).symm
    subst e
    have ey : V.ref a = y := RelV.inj (show RelV (V.ref a) (Value.ref a) from rfl) ry
    exact wpAny_bind (wpAny_rule (wpAny_pure ⟨H, I, same ey ⟨pins, σ, s, I⟩⟩))
  · rw [if_neg hab]
    obtain ⟨tb, lb, nf⟩ := ty.looks O I ry
    obtain ⟨mA, J, _⟩ := ins_get I.hok ea
    obtain ⟨od, J, _⟩ := J.look
    obtain ⟨m, fr⟩ := I.fr
    have hu : X.A.in1.units < cLine := hr.in1.units0
    refine wpAny_bind (cmp_K (op := .Eq) hu fr I.ok.mod.kin J lb nf O.hs O.hf ?_)
    refine wpAny_mono (run_fn1 F hr hb hx I (.cons (show RelV (.ref a) (.ref a) from rfl) (.cons ry .nil)) q) (fun v' s' hv => ?_) fun _ _ z => z
    obtain ⟨v0, H3, I3, rv, b, e, q3⟩ := hv
    subst e
    refine notNI rv ?_
    obtain rfl : v' = Value.bool b := rv
    exact wpAny_truthy_bool ⟨H3, I3, q3⟩
end
/-! ### by data -/
def zipD (c : Nat) (f : DF) : List D → List D → (Bool → Prop) → Prop
  | x :: xs, y :: ys, k => (∃ fs, x = .obj c fs) ∧ kindD c y = true ∧ (x = y → zipD c f xs ys k) ∧ f [x, y] noX fun r => ∃ b, r = .bl b ∧ if b = true then zipD c f xs ys k else k false
  | [], [], k => k true
  | [], _ :: _, k => k false
  | _ :: _, [], k => k false
def bTupEq (c : Nat) (f : DF) (neg : Bool) : D → D → (D → Prop) → Prop := fun d e k => ∃ xs ys, d = .tup xs ∧ e = .tup ys ∧ zipD c f xs ys fun b => k (.bl (b != neg))
section
variable {X : Cx} {M : MM} {p : Addr} {c : Nat} {C : Addr} {f : DF}
theorem zip_ok (hM : M.m c = some C) (hj : ∀ c c' C, M.m c = some C → M.m c' = some C → c = c') : ∀ (ds es : List D) (xs ys : List V) (S H : Hp) (Q : Bool → Hp → Prop) (post : Bool → Prop), Stt (WcOf M) p S H → RA X.K (WcOf M) p S xs ds → RA X.K (WcOf M) p S ys es → zipD c f ds es post →
    (∀ b S' H', post b → Grow (WcOf M) p S H S' H' → Q b H') → rZip (elOwn X C (spD X.K (WcOf M) f) (fun _ _ _ => False)) xs ys H Q
  | [], [], xs, ys, S, H, Q, post, st, r1, r2, h, k => by
    unfold DL.RA at r1 r2; subst r1 r2
    exact k true S H h (Grow.refl st)
  | [], _ :: _, xs, ys, S, H, Q, post, st, r1, r2, h, k => by
    unfold DL.RA at r1 r2; subst r1
    obtain ⟨_, _, rfl, _⟩ := r2
    exact k false S H h (Grow.refl st)
  | _ :: _, [], xs, ys, S, H, Q, post, st, r1, r2, h, k => by
    unfold DL.RA at r1 r2; subst r2
    obtain ⟨_, _, rfl, _⟩ := r1
    exact k false S H h (Grow.refl st)
  | d :: ds, e :: es, xs, ys, S, H, Q, post, st, r1, r2, h, k => by
    unfold DL.RA at r1 r2
    obtain ⟨x, xs, rfl, rd, rds⟩ := r1
    obtain ⟨y, ys, rfl, re, res⟩ := r2
    obtain ⟨⟨fs, ed⟩, hk, same, q⟩ := h
    subst ed
    have r3 := rd
    unfold DL.R at r3
    obtain ⟨a, C', dx, gs, rfl, ea, hC, rf⟩ := r3
    obtain rfl : C = C' := Option.some.inj (hM.symm.trans hC)
    refine ⟨a, dx, gs, rfl, st.ex _ _ ea, kty_of hM st.ex re hk, fun ey ⟨pins, σ, s, I⟩ => ?_, ?_⟩
    · have hd := R.inj I st hj _ _ _ rd (ey ▸ re)
      show (if true = true then _ else _)
      rw [if_pos rfl]
      exact zip_ok hM hj ds es xs ys S H Q post st rds res (same hd) k
    · refine ⟨p, S, _, _, noX, st, RA.cons rd (RA.cons re RA.nil), q, fun v d S3 H3 ⟨b, hb, q4⟩ g3 r4 => ?_, fun _ _ _ _ _ _ _ h => h.elim⟩
      subst hb
      refine ⟨b, r4, ?_⟩
      show (if b = true then _ else _)
      cases b with
      | true =>
        rw [if_pos rfl] at q4 ⊢
        exact zip_ok hM hj ds es xs ys S3 H3 Q post g3.st (RA.mono g3.ex _ _ rds) (RA.mono g3.ex _ _ res) q4 fun b S' H' hb g => k b S' H' hb (g3.trans g)
      | false =>
        rw [if_neg Bool.false_ne_true] at q4 ⊢
        exact k false S3 H3 q4 g3
end
section
variable {P : Program} {w : World} {K : Frag} {M : MM} {mg : Str → Option Value} {base : Heap}
/-- the comparison, the class by name; K as the text's -/
def rTupEqC (X : Cx) (K : Frag) (M : MM) (c : Nat) (f : DF) (neg : Bool) : R2 := fun x y H Q => X.K = K ∧ ∃ C, M.m c = some C ∧ rTupEq X.K (elOwn X C (spD X.K (WcOf M) f) (fun _ _ _ => False)) neg x y H Q
theorem op_tupEqD {X : Cx} {j k c : Nat} {df : DF} (F : EqOk P w K (WcOf M) mg base j c df) (hX : X.prog = P ∧ X.w = w ∧ X.K = K ∧ X.mg = mg ∧ X.base = base := by exact ⟨rfl, rfl, rfl, rfl, rfl⟩) (hr : Room k X.A := by assumption) (hj : j + 1 ≤ k := by decide) : OpR X (compareOp .Eq) (rTupEqC X K M c df false) := by
  obtain ⟨rfl, rfl, rfl, rfl, rfl⟩ := hX
  obtain ⟨C, f, fd, ps, hM, O, F, hb⟩ := F.ex
  intro pins s σ H x y v u Q I rx ry ⟨_, C', hM', q⟩
  obtain rfl : C' = C := Option.some.inj (hM'.symm.trans hM)
  exact op_tupEq (el_own O F (hr.mono hj) hb passes_no) hr.units0 pins s σ H x y v u Q I rx ry q
theorem op_tupNeD {X : Cx} {j k c : Nat} {df : DF} (F : EqOk P w K (WcOf M) mg base j c df) (hX : X.prog = P ∧ X.w = w ∧ X.K = K ∧ X.mg = mg ∧ X.base = base := by exact ⟨rfl, rfl, rfl, rfl, rfl⟩) (hr : Room k X.A := by assumption) (hj : j + 1 ≤ k := by decide) : OpR X (compareOp .NotEq) (rTupEqC X K M c df true) := by
  obtain ⟨rfl, rfl, rfl, rfl, rfl⟩ := hX
  obtain ⟨C, f, fd, ps, hM, O, F, hb⟩ := F.ex
  intro pins s σ H x y v u Q I rx ry ⟨_, C', hM', q⟩
  obtain rfl : C' = C := Option.some.inj (hM'.symm.trans hM)
  exact op_tupNe (el_own O F (hr.mono hj) hb passes_no) hr.units0 pins s σ H x y v u Q I rx ry q
theorem rb_tupEq {X : Cx} {c : Nat} {f : DF} {neg : Bool} (hC : ∃ C, (WcOf M).M c = some C) (hj : ∀ c c' C, M.m c = some C → M.m c' = some C → c = c') (hK : X.K = K := by rfl) : RB X.K (WcOf M) (rTupEqC X K M c f neg) (bTupEq c f neg) := fun p S H x y d e Q post st r1 r2 q k => by
  obtain ⟨C, hM⟩ := hC
  obtain ⟨xs, ys, rfl, rfl, q⟩ := q
  unfold DL.R at r1 r2
  obtain ⟨a, us, rfl, ha, ra⟩ := r1
  obtain ⟨b, vs, rfl, hb, rb⟩ := r2
  refine ⟨hK, C, hM, a, b, us, vs, rfl, rfl, Ex.t st.ex ha, Ex.t st.ex hb, ?_⟩
  exact zip_ok hM hj xs ys us vs S H _ _ st ra rb q fun b S' H' hb g => k _ _ S' H' hb g rfl
end
end DL

set_option Elab.async false
set_option linter.all false
set_option maxRecDepth 100000
set_option maxHeartbeats 4000000
/-! the set of a list or tuple of texts, and how many there are in it -/
namespace DL
open PySem PySem.W PySem.Calls PySem.Spec PyProof.Rows L2
/-- each text once, where it comes first -/
def once1 (acc : List Str) (x : Str) : List Str := if acc.any (· == x) = true then acc else acc ++ [x]
def once (xs : List Str) : List Str := xs.foldl once1 []
theorem once_snoc (xs : List Str) (x : Str) : once (xs ++ [x]) = once1 (once xs) x := by simp [once]
theorem once1_any (acc : List Str) (x k : Str) : (once1 acc x).any (· == k) = (acc.any (· == k) || decide (k = x)) := by
  unfold once1
  by_cases hx : acc.any (· == x) = true
  · rw [if_pos hx]
    by_cases e : k = x
    · rw [e, hx]; simp
    · simp [e]
  · rw [if_neg hx, List.any_append]
    by_cases e : k = x
    · subst e; simp
    · have : (x == k) = false := beq_eq_false_iff_ne.mpr fun z => e z.symm
      simp [this, e]
theorem once1_len (acc : List Str) (x : Str) : (once1 acc x).length = if acc.any (· == x) = true then acc.length else acc.length + 1 := by
  unfold once1; split <;> simp
theorem once_le : ∀ (n : Nat) (xs : List Str), (once (xs.take n)).length ≤ n
  | 0, xs => by simp [once]
  | n + 1, xs => by
    rw [List.take_add_one]
    cases e : xs[n]? with
    | none => simpa using Nat.le_succ_of_le (once_le n xs)
    | some x =>
      show (once (xs.take n ++ [x])).length ≤ n + 1
      have h := once_le n xs
      rw [once_snoc, once1_len]
      split <;> omega
theorem setOf_eq {P : Program} {w : World} {h : Heap} {a : Addr} {S T : Str → Bool} {m n : Nat} (q : h.SetOf (strKind P w) a S m) (e : ∀ k, S k = T k) (en : m = n) : h.SetOf (strKind P w) a T n := by
  rw [← en, ← funext e]; exact q
section
variable {P : Program} {w : World} {A : Around} {I : Addr} {fp wr : List Addr} {G : Array GenState → Array GenState → Prop} {n : Nat} {Pv : Nat → Value → Prop} {St : Nat → Shared → Prop}
theorem grows {R : Result → Shared → Prop} (W : WalksS P w A.in1 I fp wr G n Pv St) {T : Addr} (out : T ∉ fp) (xs : List Str) (few : n + 1 < scanBound) (val : ∀ i v, Pv i v → ∃ x t, xs[i]? = some x ∧ v = .str x t) :
    ∀ (left i : Nat) (s : Shared), n - i = left → i ≤ n → St i s → s.heap.SetOf (strKind P w) T (fun k => (once (xs.take i)).any (· == k)) (once (xs.take i)).length →
      (∀ s', Moved (T :: wr) G s s' → s'.heap.SetOf (strKind P w) T (fun k => (once (xs.take n)).any (· == k)) (once (xs.take n)).length → R (.ok (.ret .none)) s') →
      codeAny (model P w) A (.builtin "set.update.loop" ⟨[.ref T, .ref I], []⟩) R s
  | 0, i, s, e0, le, st, q, fin => by
    obtain rfl : i = n := by omega
    refine codeAny_builtin F.entry_set_update_loop (?_ : wpAny _ _ _ _ _ _)
    rw [Around.under_plainId F.plain_set_update_loop]
    refine wpAny_bind (m := pyNext (.ref I)) (W.done s _ _ st fun s' mv => ?_)
    refine wpAny_pure (fin s' (mv.mono fun b hb => List.mem_cons_of_mem _ hb) ?_)
    obtain ⟨o, es, ep, t, ho, r⟩ := q
    exact ⟨o, es, ep, t, mv.heap T _ (fun z => out (W.sub _ z)) ho, r⟩
  | left + 1, i, s, e0, le, st, q, fin => by
    have lt : i < n := by omega
    refine codeAny_builtin F.entry_set_update_loop (?_ : wpAny _ _ _ _ _ _)
    rw [Around.under_plainId F.plain_set_update_loop]
    refine wpAny_bind (m := pyNext (.ref I)) (W.item i s _ _ lt st fun v s1 pv st1 mv => ?_)
    obtain ⟨x, t, hx, ev⟩ := val i v pv
    subst ev
    obtain ⟨o, es, ep, tb, ho, r⟩ := q
    have q1 : s1.heap.SetOf (strKind P w) T (fun k => (once (xs.take i)).any (· == k)) (once (xs.take i)).length := ⟨o, es, ep, tb, mv.heap T _ (fun z => out (W.sub _ z)) ho, r⟩
    refine wpAny_bind (m := holding [Value.str x t] (setAdd T (.str x t))) (wpAny_holding ?_)
    unfold setAdd
    refine wpAny_holding (wpAny_bind ((strKind P w).pyHash (k := x) (strKind_is _ _ _ _) ?_))
    have room : (once (xs.take i)).length + 1 < scanBound := by have := once_le i xs; omega
    refine wpAny_setAddHashed_of (knd := strKind P w) (s := { s1 with toks := s1.toks + 1 }) (strKind_is _ _ _ _) rfl q1 room fun h2 only q2 => ?_
    have nx : xs.take (i + 1) = xs.take i ++ [x] := by rw [List.take_add_one, hx]; rfl
    have q3 : h2.SetOf (strKind P w) T (fun k => (once (xs.take (i + 1))).any (· == k)) (once (xs.take (i + 1))).length := by
      rw [nx, once_snoc]
      exact setOf_eq q2 (fun k => (once1_any _ x k).symm) (once1_len _ x).symm
    refine wpAny_pure ⟨plainId_quiet F.plain_set_update_loop _, grows W out xs few val left (i + 1) _ (by omega) lt (W.frame _ s1 _ _ st1 (Nat.le_succ _) fun b hb u eb => ?_) q3 fun s3 mv3 q4 => fin s3 ?_ q4⟩
    · rw [only.2 b fun z => out (z ▸ hb)]; exact eb
    · refine Moved.trans W.gtrans ((mv.mono fun b hb => List.mem_cons_of_mem _ hb).then_heap (Nat.le_succ _) fun b u hb eb => ?_) mv3
      rw [only.2 b fun z => hb (z ▸ List.mem_cons_self)]; exact eb
end
end DL

set_option Elab.async false
set_option linter.all false
set_option maxRecDepth 100000
set_option maxHeartbeats 8000000
/-! set(x), x a list or tuple of texts -/
namespace DL
open PySem PySem.W PySem.Calls PySem.Spec PyProof.Rows L2
theorem txt_at : ∀ {xs : List Str} {us : List Value}, Vals (xs.map V.str) us → ∀ (i : Nat) (v : Value), us[i]? = some v → ∃ x t, xs[i]? = some x ∧ v = .str x t
  | [], _, .nil, i, v, e => by simp at e
  | x :: xs, _, .cons r t, 0, v, e => by
    obtain ⟨k, z⟩ := r
    simp at e
    exact ⟨x, k, by simp, by rw [← e, z]⟩
  | x :: xs, _, .cons r t, i + 1, v, e => by
    obtain ⟨y, k, h1, h2⟩ := txt_at t i v (by simpa using e)
    exact ⟨y, k, by simpa using h1, h2⟩
section
variable {P : Program} {w : World} {A : Around} {E : Value → Shared → Prop} {s : Shared} {l : Addr} {items : Array Value} {xs : List Str}
/-- the empty set, as it is made -/
abbrev set0 (led : Bool) : Obj := { cls := .type "set", dict := none, data := .set #[] 0 (.fresh 0 0 led) }
abbrev withSet (s : Shared) (led : Bool) : Shared := { s with heap := s.heap.push (set0 led) }
def SetThere (P : Program) (w : World) (s : Shared) (xs : List Str) (h : Heap) : Prop :=
  h.SetOf (strKind P w) s.heap.objs.size (fun k => (once xs).any (· == k)) (once xs).length ∧ ∀ b o, b < s.heap.objs.size → s.heap.get? b = some o → h.get? b = some o
/-- its walk, from the iterator on -/
theorem fills {I : Addr} {it : Obj} {led : Bool} {St : Nat → Shared → Prop} {Q : Value → Shared → Prop} (eI : I = (withSet s led).heap.objs.size) (hls : l < s.heap.objs.size)
    (W : WalksS P w A.in1 I [I, l] [I] (fun a b => b = a) items.size (fun i v => items[i]? = some v) St) (hi : Vals (xs.map V.str) items.toList) (few : items.size + 1 < scanBound)
    (st : St 0 { s with heap := (s.heap.push (set0 led)).push it }) (h : ∀ (h' : Heap) (tk : Nat), SetThere P w s xs h' → Q .none { s with heap := h', toks := tk }) :
    codeAny (model P w) A (.builtin "set.update.loop" ⟨[.ref s.heap.objs.size, .ref I], []⟩) (fun r s' => ∃ v, r = .ok (.ret v) ∧ Q v s') { s with heap := (s.heap.push (set0 led)).push it } := by
  have hn : xs.length = items.size := by have := hi.length; simpa using this
  have eIs : I = s.heap.objs.size + 1 := by rw [eI, Heap.size_push]
  have at0 : ((s.heap.push (set0 led)).push it).get? s.heap.objs.size = some (set0 led) := Heap.get?_push_of_some _ (Heap.get?_push_size _ rfl)
  have lt1 : s.heap.objs.size < I := by rw [eIs]; exact Nat.lt_succ_self _
  have nfp : s.heap.objs.size ∉ [I, l] := by
    simp only [List.mem_cons, List.not_mem_nil, or_false, not_or]
    exact ⟨Nat.ne_of_lt lt1, Nat.ne_of_gt hls⟩
  refine grows W (T := s.heap.objs.size) nfp xs few (fun i v e => txt_at hi i v (by rw [Array.getElem?_toList]; exact e)) _ 0 _ rfl (Nat.zero_le _) st
    (setOf_eq ((setObjOf_fresh (knd := strKind P w) led).setOf at0 (by unfold scanBound; omega)) (fun _ => rfl) rfl) fun s' mv q => ?_
  obtain ⟨h', g', d', tk', os'⟩ := s'
  obtain rfl : g' = s.gens := mv.gens
  obtain rfl : d' = s.drawn := mv.drawn
  obtain rfl : os' = s.os := mv.os
  rw [← hn, List.take_length] at q
  refine ⟨.none, rfl, h h' tk' ⟨q, fun b o lt e => ?_⟩⟩
  refine mv.heap b o ?_ (Heap.get?_push_of_some _ (Heap.get?_push_of_some _ e))
  simp only [List.mem_cons, List.not_mem_nil, or_false, not_or]
  exact ⟨Nat.ne_of_lt lt, Nat.ne_of_lt (Nat.lt_trans lt lt1)⟩
/-- set(x) -/
theorem call_set_txt {Q : Value → Shared → Prop} (hh : A.handled = none) (hl : s.heap.IsList l items ∨ s.heap.IsTuple l items) (hi : Vals (xs.map V.str) items.toList) (few : items.size + 1 < scanBound)
    (h : ∀ (h' : Heap) (tk : Nat), SetThere P w s xs h' → Q (.ref s.heap.objs.size) { s with heap := h', toks := tk }) : wpAny (model P w) A (call (.type "set") [.ref l]) Q E s := by
  have ⟨c, tl, m1⟩ := F.called_set.mro
  have m2 := F.called_set.made; have m3 := F.called_set.sub
  refine wpAny_call (codeAny_of_tree (?_ : wpAny _ _ (callAny (.type "set") _) _ _ _))
  refine wpAny_pure ⟨Code.quiet_builtin _ (by decide +kernel), codeAny_builtin F.entry_type_call ?_⟩
  rw [Around.under_plain (weight_type_call_type "set" [.ref l] []) rfl]
  have m4 := F.called_set.notType; have m5 := F.called_set.canCreate; have m6 := F.typeCall_set_1 (.ref l)
  repeat (any_goals (first | assumption | wp_step))
  refine codeAny_mono (code_set_new_1 (.ref l) (E := E) (Q₁ := fun v s1 => ∃ led, v = .ref s.heap.objs.size ∧ s1 = withSet s led) fun led => ⟨led, rfl, rfl⟩) fun r s1 hr => ?_
  match r, hr with
  | .error e, hr => exact hr
  | .ok (.ret v), hr =>
    obtain ⟨led, rfl, rfl⟩ := hr
    have hS : (withSet s led).heap.get? s.heap.objs.size = some (set0 led) := Heap.get?_push_size _ rfl
    have hT : (withSet s led).TypeIs (.ref s.heap.objs.size) "set" := ⟨_, hS, rfl⟩
    have m7 := F.called_set.init.lookup; have m8 := F.called_set.init.bind (.ref s.heap.objs.size)
    repeat (any_goals (first | assumption | wp_step))
    refine codeAny_mono (codeAny_call_builtin (R := wants (fun v s2 => v = .none ∧ ∃ h' tk, s2 = { s with heap := h', toks := tk } ∧ SetThere P w s xs h') E) F.called_set.init.plain F.entry_set_init (check_set_init_1 hT ?_)) fun r2 s2 hr2 => ?_
    · have n7 : A.in1.in1.in1.handled = none := by simp [hh]
      obtain ⟨T, od, osl, nl, ho, n1, n2, n3, walk⟩ : ∃ (T : String) (od : Option Addr) (osl : Array (Option Value)) (nl : Nat), s.heap.get? l = some { cls := .type T, dict := od, data := .seq items nl, slots := osl } ∧ isSubtype (.type T) (.type "set") = pure false ∧ isSubtype (.type T) (.type "frozenset") = pure false ∧ (Value.type T == Value.type "dict") = false ∧
          ∀ (B : Around) (Q2 : Value → Shared → Prop) (E2 : Value → Shared → Prop), (∀ (it : Obj) (St : Nat → Shared → Prop), WalksS P w A.in1.in1.in1 (withSet s led).heap.objs.size [(withSet s led).heap.objs.size, l] [(withSet s led).heap.objs.size] (fun a b => b = a) items.size (fun i v => items[i]? = some v) St →
            St 0 { s with heap := (s.heap.push (set0 led)).push it } → Q2 (.ref (withSet s led).heap.objs.size) { s with heap := (s.heap.push (set0 led)).push it }) → wpAny (model P w) B (pyIter (.ref l)) Q2 E2 (withSet s led) := by
        rcases hl with ⟨⟨oc, od, odt, osl⟩, ho, ec, nl, ed⟩ | ⟨⟨oc, od, odt, osl⟩, ho, ec, nl, ed⟩ <;> obtain rfl : oc = _ := ec <;> obtain rfl : odt = _ := ed <;> have ne : l ≠ (withSet s led).heap.objs.size := (by rw [Heap.size_push]; exact Nat.ne_of_lt (Nat.lt_succ_of_lt (Heap.lt_size ho)))
        · have hl1 : (withSet s led).heap.IsList l items := ⟨_, Heap.get?_push_of_some _ ho, rfl, nl, rfl⟩
          exact ⟨"list", od, osl, nl, ho, F.sub_list_set, F.sub_list_frozenset, by decide, fun B Q2 E2 k => wpAny_pyIter_list hl1 (k _ _ (Walks.list n7 _ l ne items).toS ⟨⟨_, Heap.get?_push_size _ rfl, rfl, rfl⟩, hl1.push _⟩)⟩
        · have hl1 : (withSet s led).heap.IsTuple l items := ⟨_, Heap.get?_push_of_some _ ho, rfl, nl, rfl⟩
          exact ⟨"tuple", od, osl, nl, ho, F.sub_tuple_set, F.sub_tuple_frozenset, by decide, fun B Q2 E2 k => wpAny_pyIter_tuple hl1 (k _ _ (Walks.tuple n7 _ l ne items).toS ⟨⟨_, Heap.get?_push_size _ rfl, rfl, rfl⟩, hl1.push _⟩)⟩
      have lt := Heap.lt_size ho
      have ho' : (withSet s led).heap.get? l = some { cls := .type T, dict := od, data := .seq items nl, slots := osl } := Heap.get?_push_of_some _ ho
      clear ho hl h m1 m2 m3 m4 m5 m6 m7 m8
      unfold Builtin.«set.__init__» noKeywords Builtin.Frozenset.updateFrom
      generalize hPI : pyIter = PI
      wp_walk
      subst hPI
      refine walk _ _ _ fun it St W st => wpAny_bind (wpAny_runValue ?_)
      refine codeAny_mono (fills (P := P) (w := w) (Q := fun v s' => v = .none ∧ ∃ h' tk, s' = { s with heap := h', toks := tk } ∧ SetThere P w s xs h') rfl lt W hi few st fun h' tk z => ⟨rfl, h', tk, rfl, z⟩) fun r s' z => ?_
      obtain ⟨v, rfl, rfl, h', tk, rfl, z⟩ := z
      exact wpAny_pure (show wpAny _ _ (ret Value.none) _ _ _ from wpAny_pure ⟨rfl, h', tk, rfl, z⟩)
    · match r2, hr2 with
      | .error e, hr2 => exact hr2
      | .ok (.ret v), hr2 =>
        obtain ⟨rfl, h', tk, rfl, z⟩ := hr2
        repeat (any_goals (first | assumption | wp_step))
        exact h h' tk z
      | .ok .next, hr2 => exact hr2.elim
      | .ok .brk, hr2 => exact hr2.elim
      | .ok .cont, hr2 => exact hr2.elim
  | .ok .next, hr => exact hr.elim
  | .ok .brk, hr => exact hr.elim
  | .ok .cont, hr => exact hr.elim
end
end DL

set_option Elab.async false
set_option linter.all false
set_option maxRecDepth 100000
set_option maxHeartbeats 1000000
/-! len(set(x)), x a list or tuple of texts -/
namespace DL
open PySem PySem.W PySem.Calls PySem.Spec PyProof.Rows L2
def tLenSetT (K : Frag) (ta : TE) : TE := fun σ H Q => ta σ H fun x H1 => ∃ (l : Addr) (xs : List Str), x = .ref l ∧ (SqL K H1 l (xs.map V.str) ∨ SqT K H1 l (xs.map V.str)) ∧ xs.length ≤ 1000 ∧ Q (.int ((once xs).length : Nat)) H1
theorem once_len (xs : List Str) : (once xs).length ≤ xs.length := by
  have := once_le xs.length xs
  rwa [List.take_length] at this
section
variable {X : Cx} {a : Expr} {ta : TE} {p p2 q pos : Pos}
theorem pe_lenSetT (hc : X.calm = true) (hg : Gl X "len") (hm : X.mg "len" = none) (hg2 : Gl X "set") (hm2 : X.mg "set" = none) (ha : PE X a ta) (na : starEach [a] X.env = (false, eval a X.env) :: starEach [] X.env := by rfl) :
    PE X (.Call (.Name "len" p) [.Call (.Name "set" p2) [a] [] q] [] pos) (tLenSetT X.K ta) := ⟨fun pins s σ H Q I h => by
  refine Call_ (ld_blt I hg hm boot_len (callWith_builtin1 (args_cons ?_ rfl) rfl rfl))
  refine Call_ (ld_blt I hg2 hm2 boot_set (callWith_type1 (args_cons (thn (ha.run pins s σ H _ I h) fun v s1 ⟨x, H1, I1, r1, l, xs, ex, hq, few, q1⟩ => args_nil ?_) na) na rfl))
  subst ex
  obtain rfl : v = Value.ref l := r1
  have ⟨its, rv, hl⟩ : ∃ its : List Value, Vals (xs.map V.str) its ∧ (s1.heap.IsList l its.toArray ∨ s1.heap.IsTuple l its.toArray) := by
    rcases hq with hq | hq
    · obtain ⟨its, r, pl, _⟩ := I1.list hq
      exact ⟨its, r, .inl pl.isList⟩
    · obtain ⟨its, r, pl, _⟩ := I1.tuple hq
      exact ⟨its, r, .inr pl⟩
  have n : its.toArray.size = xs.length := by rw [List.size_toArray, ← rv.length, List.length_map]
  refine call_set_txt (xs := xs) (I1.ok.hd hc) hl (by simpa using rv) (by rw [n]; unfold scanBound; omega) fun h' tk ⟨⟨o, es, ep, t, ho, hex, hd, _, _, _, hf, hn⟩, hk⟩ => args_nil ?_
  have I2 : Inv X pins σ H1 { s1 with heap := h', toks := tk } := I1.kept fun b o e => hk b o (Heap.lt_size e) e
  have fin : (once xs).length ≤ 1000 := Nat.le_trans (once_len xs) few
  exact call_len_set ho hex hd hf (by rw [hn]; omega) ⟨.int (once xs).length, H1, I2.tok _, ⟨_, by rw [hn]⟩, q1⟩⟩
/-- by data -/
def dLenSet (de : DE) : DE := fun env xp post => de env xp fun d => ∃ ds ys, (d = .lst ds ∨ d = .tup ds) ∧ isStrs ds = some ys ∧ ys.length ≤ 1000 ∧ post (.int ((once ys).length : Nat))
variable {W : Wc} {E : XK} {de : DE}
theorem pd_lenSet (K : Frag) (hg : Gl X "len") (hm : X.mg "len" = none) (hg2 : Gl X "set") (hm2 : X.mg "set" = none) (ha : PD X W E a ta de) (na : starEach [a] X.env = (false, eval a X.env) :: starEach [] X.env := by rfl) (hc : X.calm = true := by rfl) (hK : X.K = K := by rfl) :
    PD X W E (.Call (.Name "len" p) [.Call (.Name "set" p2) [a] [] q] [] pos) (tLenSetT K ta) (dLenSet de) := by
  subst hK
  refine ⟨pe_lenSetT hc hg hm hg2 hm2 ha.pe na, fun p S H σ env xp st ev xo Q post q k => ha.se p S H σ env xp st ev xo _ _ q fun v d S1 H1 ⟨ds, ys, ed, es, few, q1⟩ g1 r1 => ?_⟩
  rcases ed with rfl | rfl
  · unfold DL.R at r1
    obtain ⟨b, xs, rfl, h1, h2⟩ := r1
    have e := h2.strs es
    subst e
    exact ⟨b, ys, rfl, .inl (SqL.of (g1.st.ex _ _ h1)), few, k _ _ S1 H1 q1 g1 rfl⟩
  · unfold DL.R at r1
    obtain ⟨b, xs, rfl, h1, h2⟩ := r1
    have e := h2.strs es
    subst e
    exact ⟨b, ys, rfl, .inr (Ex.t g1.st.ex h1), few, k _ _ S1 H1 q1 g1 rfl⟩
end
/-- all unlike or not -/
theorem once1_in {acc : List Str} {x : Str} (h : x ∉ acc) : once1 acc x = acc ++ [x] := by
  unfold once1
  rw [if_neg]
  intro z
  obtain ⟨y, hy, e⟩ := List.any_eq_true.mp z
  exact h (eq_of_beq e ▸ hy)
theorem once_nd : ∀ (xs acc : List Str), (acc ++ xs).Nodup → xs.foldl once1 acc = acc ++ xs
  | [], acc, _ => by simp
  | x :: xs, acc, h => by
    have hx : x ∉ acc := fun z => by
      have := List.nodup_append.mp h
      exact this.2.2 x z x (by simp) rfl
    rw [List.foldl_cons, once1_in hx, once_nd xs (acc ++ [x]) (by simpa using h)]
    simp
theorem once_nodup {xs : List Str} (h : xs.Nodup) : once xs = xs := by
  have := once_nd xs [] (by simpa using h)
  simpa [once] using this
theorem once_sub : ∀ (xs acc : List Str), (xs.foldl once1 acc).length ≤ acc.length + xs.length
  | [], acc => by simp
  | x :: xs, acc => by
    rw [List.foldl_cons]
    have h := once_sub xs (once1 acc x)
    have : (once1 acc x).length ≤ acc.length + 1 := by rw [once1_len]; split <;> omega
    rw [List.length_cons]; omega
theorem once_lt : ∀ (xs acc : List Str), acc.Nodup → ¬ (acc ++ xs).Nodup → (xs.foldl once1 acc).length < acc.length + xs.length
  | [], acc, h, n => by simp at n; exact absurd h n
  | x :: xs, acc, h, n => by
    rw [List.foldl_cons, List.length_cons]
    by_cases hx : x ∈ acc
    · have e : once1 acc x = acc := by
        unfold once1
        rw [if_pos (by rw [List.any_eq_true]; exact ⟨x, hx, beq_self_eq_true x⟩)]
      rw [e]
      have := once_sub xs acc
      omega
    · rw [once1_in hx]
      have := once_lt xs (acc ++ [x]) (List.nodup_append.mpr ⟨h, by simp, fun a ha b hb e => hx (by simp at hb; subst hb; subst e; exact ha)⟩) (by simpa using n)
      simp at this; omega
theorem once_eq (xs : List Str) : decide ((once xs).length = xs.length) = decide xs.Nodup := by
  by_cases h : xs.Nodup
  · simp [once_nodup h, h]
  · have := once_lt xs [] (by simp) (by simpa using h)
    have e : ¬ (once xs).length = xs.length := by
      have e2 : (once xs).length < 0 + xs.length := this
      omega
    simp [e, h]
end DL

set_option Elab.async false
set_option linter.all false
set_option maxRecDepth 100000
set_option maxHeartbeats 1000000
/-! a list or a tuple walked; isinstance of two classes; an own operator with an object at the right -/
namespace DL
open PySem PySem.W PySem.Calls PyProof.Rows L2
section
variable {X : Cx} {tg e : Expr} {te : TE} {W : Wc} {E : XK} {de : DE}
def iSeq (K : Frag) (tl : TE) : TI := fun σ H Rr => tl σ H fun x H1 => ∃ a, x = .ref a ∧ ((∃ xs, SqL K H1 a xs) ∧ Rr (Itl K a) H1 ∨ (∃ xs, SqT K H1 a xs) ∧ Rr (Itt K a) H1)
theorem pi_seq (h : PE X e te) : PI X tg e (iSeq X.K te) := ⟨fun pins s σ H Rr I q => by
  refine thn (h.run pins s σ H _ I q) fun v s1 ⟨x, H1, I1, r1, a, ex, alt⟩ => ?_
  subst ex
  obtain rfl : v = Value.ref a := r1
  have new : ∀ o : Obj, Inv X pins σ H1 { s1 with heap := s1.heap.push o } := fun o => I1.kept (t' := s1.toks) fun b u z => Heap.get?_push_of_some _ z
  have fp : ∀ b ∈ [s1.heap.objs.size], _ := fun b hb => by
    obtain rfl : b = s1.heap.objs.size := List.mem_singleton.mp hb
    exact I1.fpOk (Nat.le_refl _) (I1.hok.fresh (Nat.le_refl _))
  rcases alt with ⟨⟨xs, hq⟩, k⟩ | ⟨⟨xs, hq⟩, k⟩
  · obtain ⟨its, _, pl, _⟩ := I1.list hq
    exact wpAny_pyIter_list pl.isList ⟨_, [s1.heap.objs.size], _, _, H1, rfl, new _, turn_list a _, ⟨_, Heap.get?_push_size _ rfl, rfl, rfl⟩, fp, k⟩
  · obtain ⟨its, _, pl, _⟩ := I1.tuple hq
    exact wpAny_pyIter_tuple (show s1.heap.IsTuple a its.toArray from pl) ⟨_, [s1.heap.objs.size], _, _, H1, rfl, new _, turn_tuple a _, ⟨_, Heap.get?_push_size _ rfl, rfl, rfl⟩, fp, k⟩⟩
def dSeqA (de : DE) : DA := fun env xp post => de env xp fun d => match d with
  | .lst ds => post ds
  | .tup ds => post ds
  | _ => False
theorem pdi_any (K : Frag) (h : PD X W E e te de) (hK : X.K = K := by rfl) : PDI X W E tg e (iSeq K te) (dSeqA de) := by
  subst hK
  refine ⟨pi_seq h.pe, fun p S H σ env xp st ev xo Rr post q k => h.se p S H σ env xp st ev xo _ _ q fun v d S1 H1 q1 g1 r1 => ?_⟩
  cases d with
  | lst ds =>
    unfold DL.R at r1
    obtain ⟨l, xs, rfl, hS, ra⟩ := r1
    refine ⟨l, rfl, .inl ⟨⟨xs, SqL.of (g1.st.ex _ _ hS)⟩, k (Itl X.K l) (fun H => SqL X.K H l xs) (YAt xs) ds S1 H1 q1 g1 (by rw [← RA.length ra]; exact walk_list) (fun H2 x => SqL.of (x _ _ hS)) fun i S2 H2 x H3 e2 st2 hi y => ?_⟩⟩
    obtain ⟨rfl, hx⟩ := y
    obtain ⟨d, h1, h2⟩ := ra.get hx
    exact ⟨d, S2, h1, Grow.refl st2, R.mono e2 _ _ h2⟩
  | tup ds =>
    unfold DL.R at r1
    obtain ⟨l, xs, rfl, hS, ra⟩ := r1
    refine ⟨l, rfl, .inr ⟨⟨xs, Ex.t g1.st.ex hS⟩, k (Itt X.K l) (fun H => SqT X.K H l xs) (YAt xs) ds S1 H1 q1 g1 (by rw [← RA.length ra]; exact walk_tup) (fun H2 x => Ex.t x hS) fun i S2 H2 x H3 e2 st2 hi y => ?_⟩⟩
    obtain ⟨rfl, hx⟩ := y
    obtain ⟨d, h1, h2⟩ := ra.get hx
    exact ⟨d, S2, h1, Grow.refl st2, R.mono e2 _ _ h2⟩
  | _ => exact (show False from q1).elim
end
/-! ### isinstance(x, (T, U)) -/
def dIsi2 (T U : Ty) (da : DE) : DE := fun env xp post => da env xp fun d => (∃ n, tyN d = some n) ∧ post (.bl (isTy T d || isTy U d))
theorem pd_isi2 (K : Frag) {X : Cx} {W : Wc} {E : XK} {a : Expr} {ta : TE} {da : DE} {x y : Str} {k} {p p' p2 pt pos : Pos} (T U : Ty) (hg : Gl X "isinstance") (hm : X.mg "isinstance" = none) (hT : PE X (.Name x p') (tC (.ty T.nm))) (hU : PE X (.Name y p2) (tC (.ty U.nm))) (ha : PD X W E a ta da)
    (h1 : starEach [a, .Tuple [.Name x p', .Name y p2] k pt] X.env = (false, eval a X.env) :: starEach [.Tuple [.Name x p', .Name y p2] k pt] X.env := by rfl)
    (h2 : starEach [.Tuple [.Name x p', .Name y p2] k pt] X.env = (false, eval (.Tuple [.Name x p', .Name y p2] k pt) X.env) :: starEach [] X.env := by rfl)
    (h3 : starEach [.Name x p', .Name y p2] X.env = (false, eval (.Name x p') X.env) :: starEach [.Name y p2] X.env := by rfl) (h4 : starEach [.Name y p2] X.env = (false, eval (.Name y p2) X.env) :: starEach [] X.env := by rfl)
    (hpl : (backTo pos (starEach [.Tuple [.Name x p', .Name y p2] k pt] X.env)).any (·.1) = false := by rfl) (hK : X.K = K := by rfl) :
    PD X W E (.Call (.Name "isinstance" p) [a, .Tuple [.Name x p', .Name y p2] k pt] [] pos) (tCB (rIsiT K) (tCons ta (tCons (tTup (tCons (tC (.ty T.nm)) (tCons (tC (.ty U.nm)) tNil))) tNil))) (dIsi2 T U da) := by
  subst hK
  refine ⟨pe_callB call_isiT hg hm (by decide +kernel) (pa_cons ha.pe (pa_cons (pe_tup (pa_cons hT (pa_cons hU pa_nil h4) h3)) pa_nil h2) h1) (by decide) (by decide) h1 hpl, fun p S H σ env xp st ev xo Q post q kk => ha.se p S H σ env xp st ev xo _ _ q fun v d S1 H1 ⟨⟨n, hn⟩, q1⟩ g1 r1 => ?_⟩
  refine ⟨by show 2 ≤ sizeLine; decide, fun l hl => ?_⟩
  have g2 := Grow.hide (o := .tup [.ty T.nm, .ty U.nm]) g1.st hl
  refine ⟨v, l, [.ty T.nm, .ty U.nm], .type n, [.type T.nm, .type U.nm], isTy T d || isTy U d, rfl, upd_same, .cons (.ty _) (.cons (.ty _) .nil), r1.ty g2.st.ex hn, ?_, kk _ _ S1 _ q1 (g1.trans g2) rfl⟩
  have k1 := kit_ty (K := X.K) (isTy_ok T d n hn)
  have k2 := kit_ty (K := X.K) (isTy_ok U d n hn)
  refine kitAny_cons k1 (fun e => ?_) fun e => by rw [e]; rfl
  rw [e, Bool.false_or]
  exact kitAny_cons k2 (fun e => by rw [e]; exact kitAny_nil) fun e => e
end DL

set_option Elab.async false
set_option linter.all false
set_option maxRecDepth 100000
set_option maxHeartbeats 1000000
/-! an own operator with an object of another class at the right -/
namespace DL
open PySem PySem.W PySem.Calls PyProof.Rows L2
/-- a class right over object -/
def mro2 (K : Frag) (C : Addr) : Bool := (clsIn K C).any fun cd => cd.mro == [.ref C, .type "object"]
theorem fillsO {K : Frag} {M : Model} {h : Heap} {C : Addr} {nm : String} (X : K.In h) (hm : mro2 K C = true) (h1 : findIn K (.ref C) (PySem.dunder nm) = some none) (h2 : findIn K (.ref C) (dunderR nm) = some none)
    (h3 : findIn K (.type "object") (PySem.dunder nm) = some none) (h4 : findIn K (.type "object") (dunderR nm) = some none) : Looks M h (fillsNumberSlot (.ref C) nm) false := by
  intro A Q E s k q
  obtain ⟨cd, hc, hm⟩ := any_some hm
  have hm := eq_of_beq hm
  have Lm := ((looks_clsIn X hc).andThen (f := fun cd => pure cd.mro) .now : Looks M h (mroOf (.ref C)) cd.mro).keeps k
  obtain ⟨hh, g, d, tt, os⟩ := s
  have X' : K.In hh := X.keeps k
  have L1 : Looks M hh (typeLookup (.ref C) (PySem.dunder nm)) none := looks_findIn X' h1
  have L2 : Looks M hh (typeLookup (.ref C) (dunderR nm)) none := looks_findIn X' h2
  have L3 : Looks M hh (typeLookup (.type "object") (PySem.dunder nm)) none := looks_findIn X' h3
  have L4 : Looks M hh (typeLookup (.type "object") (dunderR nm)) none := looks_findIn X' h4
  unfold fillsNumberSlot
  refine wpAny_bind (Lm.at ?_)
  rw [hm, List.anyM_cons]
  repeat lk
  exact q
section
variable {P : Program} {w : World} {A : Around} {E : Value → Shared → Prop} {s : Shared} {K : Frag} {x C D2 L f : Addr} {h₀ : Heap} {m : Str → Option Value} {ox : Obj} {od : Option Obj}
theorem bin_obj {op : Operator} {b : Value} {Q : Value → Shared → Prop} (F : Fr h₀ L s.heap m) (X₀ : K.In h₀) (I : InstAt s.heap x ox C od) (hb : Looks (model P w) s.heap (typeOf b) (.ref D2)) (hc : selfFirst K C = true) (hs : findIn K (.ref C) (PySem.dunder op.info.2) = some (some (.ref f))) (hf : isFn K (.ref f) = true)
    (hm : mro2 K D2 = true) (h1 : findIn K (.ref D2) (PySem.dunder op.info.2) = some none) (h2 : findIn K (.ref D2) (dunderR op.info.2) = some none) (h3 : findIn K (.type "object") (PySem.dunder op.info.2) = some none) (h4 : findIn K (.type "object") (dunderR op.info.2) = some none)
    (h : wpAny (model P w) A (call (.ref f) [.ref x, b]) (PySem.W.CmpBack Q) E s) : wpAny (model P w) A (binaryOp op (.ref x) b) Q E s := by
  have X := X₀.keeps F.keep
  obtain ⟨cd, rest, hcd, hm'⟩ := ksp_first hc
  rcases hi : op.info with ⟨sym, nm'⟩
  rw [hi] at hs h1 h2
  dsimp only at hs h1 h2
  rw [hi] at h3 h4
  dsimp only at h3 h4
  have one := ksp_try X I hs hf h
  obtain ⟨hh, g, d, tt, os⟩ := s
  have a1 : Looks (model P w) hh (typeOf (.ref x)) (.ref C) := I.type
  have a2 : Looks (model P w) hh (typeOf b) (.ref D2) := hb
  have a3 : Looks (model P w) hh (fillsNumberSlot (.ref C) nm') true := fills_K X hcd hm' hs
  have a4 : Looks (model P w) hh (fillsNumberSlot (.ref D2) nm') false := fillsO X hm h1 h2 h3 h4
  simp only [binaryOp, hi]
  refine wpAny_holding (wpAny_bind ?_)
  unfold binaryOp1
  refine wpAny_bind (a1.at (wpAny_bind (a2.at (wpAny_bind (a3.at ?_)))))
  by_cases e : (Value.ref C == Value.ref D2) = true
  · simp only [e, if_true]
    ksp_lk
    refine wpAny_mono one (fun r s' z => ?_) fun _ _ e => e
    obtain ⟨v, rfl, hq⟩ := z
    ksp_lk
    exact hq
  · simp only [e, if_false, Bool.false_eq_true]
    ksp_lk
    refine wpAny_mono one (fun r s' z => ?_) fun _ _ e => e
    obtain ⟨v, rfl, hq⟩ := z
    ksp_lk
    exact hq
end
/-- what the written part says of an operator with objects of these two classes -/
structure OwnOpO (K : Frag) (C f C2 : Addr) (op : Operator) : Prop where
  hc : selfFirst K C = true
  hs : findIn K (.ref C) (PySem.dunder op.info.2) = some (some (.ref f))
  hf : isFn K (.ref f) = true
  hm : mro2 K C2 = true
  h1 : findIn K (.ref C2) (PySem.dunder op.info.2) = some none
  h2 : findIn K (.ref C2) (dunderR op.info.2) = some none
  h3 : findIn K (.type "object") (PySem.dunder op.info.2) = some none
  h4 : findIn K (.type "object") (dunderR op.info.2) = some none
def tOwnO (C C2 : Addr) (sp : Sp) (E : XK) (tl tr : TE) : TE := fun σ H Q => tl σ H fun x H1 => tr σ H1 fun y H2 => ∃ a dx fs b dy gs, x = .ref a ∧ H2 a = some (.ins C dx fs) ∧ y = .ref b ∧ H2 b = some (.ins C2 dy gs) ∧ sp [x, y] H2 Q E
def dOwnO (c c2 : Nat) (f : DF) (dl dr : DE) : DE := fun env xp post => dl env xp fun x => dr env xp fun y => (∃ fs, x = .obj c fs) ∧ (∃ fs, y = .obj c2 fs) ∧ f [x, y] xp post
section
variable {X : Cx} {W : Wc} {E : XK} {l r : Expr} {pos : Pos} {tl tr : TE} {dl dr : DE} {c c2 : Nat} {op : Operator}
theorem pe_ownO {CX : CXT} {k : Nat} {C C2 f : Addr} {fd : FuncData} {ps : List Str} {sp : Sp} (O : OwnOpO X.K C f C2 op) (F : FnOk X.prog X.w X.K X.mg X.base CX k f fd ps sp) (hr : Room k X.A) (hb : L2.Binds X.K fd ps []) (hx : Passes CX X E) (hl : PE X l tl) (hrr : PE X r tr) : PE X (.BinOp l op r pos) (tOwnO C C2 sp E tl tr) := by
  refine ⟨fun pins s σ H Q I h => ?_⟩
  refine wpAny_BinOp (thn (hl.run pins s σ H _ I h) fun u s1 ⟨x, H1, I1, rx, q1⟩ => thn (hrr.run pins s1 σ H1 _ I1 q1) fun v s2 ⟨y, H2, I2, ry, a, dx, fs, b, dy, gs, ex, ea, ey, eb, q2⟩ => ?_)
  subst ex ey
  obtain rfl : u = Value.ref a := rx
  obtain rfl : v = Value.ref b := ry
  obtain ⟨_, J, _⟩ := ins_get I2.hok ea
  obtain ⟨_, J, _⟩ := J.look
  obtain ⟨_, J2, _⟩ := ins_get I2.hok eb
  obtain ⟨_, J2, _⟩ := J2.look
  obtain ⟨m, fr⟩ := I2.fr
  refine bin_obj fr I2.ok.mod.kin J J2.type O.hc O.hs O.hf O.hm O.h1 O.h2 O.h3 O.h4 ?_
  refine wpAny_mono (run_fn (us := [.ref a, .ref b]) (vs := [.ref a, .ref b]) F hr hb .nil hx I2 (.cons (show RelV (.ref a) (.ref a) from rfl) (.cons (show RelV (.ref b) (.ref b) from rfl) .nil)) q2) (fun v' s' hv => ?_) fun _ _ z => z
  obtain ⟨v0, H3, I3, rv, q3⟩ := hv
  exact notNI rv ⟨v0, H3, I3, rv, q3⟩
theorem se_ownO {K : Frag} {C C2 : Addr} {f : DF} (hM : W.M c = some C) (hM2 : W.M c2 = some C2) (hl : SE K W E tl dl) (hr : SE K W E tr dr) : SE K W E (tOwnO C C2 (spD K W f) E tl tr) (dOwnO c c2 f dl dr) :=
  fun p S H σ env xp st ev xo Q post q k => hl p S H σ env xp st ev xo _ _ q fun v d S1 H1 q1 g1 r1 => hr p S1 H1 σ env xp g1.st (ev.mono g1) (xo.mono g1) _ _ q1 fun v2 d2 S2 H2 ⟨⟨fs, ed⟩, ⟨fs2, ed2⟩, q2⟩ g2 r2 => by
    subst ed ed2
    have r0 := R.mono g2.ex _ _ r1
    have r3 := r0
    unfold DL.R at r3
    obtain ⟨a, C', dx, gs, rfl, ea, hC, rf⟩ := r3
    obtain rfl : C' = C := Option.some.inj (hC.symm.trans hM)
    have r4 := r2
    unfold DL.R at r4
    obtain ⟨b, C', dy, gs2, rfl, eb, hC2, rf2⟩ := r4
    obtain rfl : C' = C2 := Option.some.inj (hC2.symm.trans hM2)
    exact ⟨a, dx, gs, b, dy, gs2, rfl, g2.st.ex _ _ ea, rfl, g2.st.ex _ _ eb, p, S2, _, post, xp, g2.st, RA.cons r0 (RA.cons r2 RA.nil), q2, fun v d S3 H3 q4 g3 r4 => k v d S3 H3 q4 ((g1.trans g2).trans g3) r4, xo.mono (g1.trans g2)⟩
end
section
variable (P : Program) (w : World) (K : Frag) (W : Wc) (mg : Str → Option Value) (base : Heap)
structure OpOOk (k c c2 : Nat) (op : Operator) (df : DF) : Prop where
  ex : ∃ (C C2 f : Addr) (fd : FuncData) (ps : List Str), W.M c = some C ∧ W.M c2 = some C2 ∧ OwnOpO K C f C2 op ∧ FnOk P w K mg base (L2.CX P w) k f fd ps (spD K W df) ∧ L2.Binds K fd ps []
variable {P w K W mg base}
def tC2 (W : Wc) (c c2 : Nat) (te : Addr → Addr → TE) : TE := fun σ H Q => ∃ C C2, W.M c = some C ∧ W.M c2 = some C2 ∧ te C C2 σ H Q
theorem pd_opOD {X : Cx} {E : XK} {l r : Expr} {pos : Pos} {tl tq : TE} {dl dq : DE} {j k c c2 : Nat} {op : Operator} {df : DF} (F : OpOOk P w K W mg base j c c2 op df) (hx : Passes (L2.CX X.prog X.w) X E) (hl : PD X W E l tl dl) (hrr : PD X W E r tq dq)
    (hX : X.prog = P ∧ X.w = w ∧ X.K = K ∧ X.mg = mg ∧ X.base = base := by exact ⟨rfl, rfl, rfl, rfl, rfl⟩) (hr : Room k X.A := by assumption) (hj : j ≤ k := by decide) : PD X W E (.BinOp l op r pos) (tC2 W c c2 fun C C2 => tOwnO C C2 (spD K W df) E tl tq) (dOwnO c c2 df dl dq) := by
  obtain ⟨rfl, rfl, rfl, rfl, rfl⟩ := hX
  obtain ⟨C, C2, f, fd, ps, hM, hM2, O, F, hb⟩ := F.ex
  refine ⟨⟨fun pins s σ H Q I ⟨C', C2', h1, h2, q⟩ => ?_⟩, fun p S H σ env xp sv ev xo Q post q k => ⟨C, C2, hM, hM2, se_ownO hM hM2 hl.se hrr.se p S H σ env xp sv ev xo Q post q k⟩⟩
  obtain rfl : C' = C := Option.some.inj (h1.symm.trans hM)
  obtain rfl : C2' = C2 := Option.some.inj (h2.symm.trans hM2)
  exact (pe_ownO O F (hr.mono hj) hb hx hl.pe hrr.pe).run pins s σ H Q I q
end
end DL

set_option Elab.async false
set_option linter.all false
set_option maxRecDepth 100000
set_option maxHeartbeats 1000000
/-! the classes' numbers are one to one -/
namespace DL
open PySem PySem.W L2
def allNe : List Addr → Bool
  | [] => true
  | x :: xs => xs.all (fun y => !(x == y)) && allNe xs
theorem allNe_nd : ∀ {l : List Addr}, allNe l = true → l.Nodup
  | [], _ => .nil
  | x :: xs, h => by
    unfold allNe at h
    rw [Bool.and_eq_true] at h
    refine List.nodup_cons.mpr ⟨fun z => ?_, allNe_nd h.2⟩
    have := List.all_eq_true.mp h.1 x z
    simp at this
theorem get_inj {α : Type} {l : List α} (h : l.Nodup) : ∀ (c c' : Nat) (x : α), l[c]? = some x → l[c']? = some x → c = c' := fun c c' x h1 h2 => by
  obtain ⟨l1, e1⟩ := List.getElem?_eq_some_iff.mp h1
  obtain ⟨l2, e2⟩ := List.getElem?_eq_some_iff.mp h2
  exact (List.getElem_inj h).mp (e1.trans e2.symm)
end DL

set_option Elab.async false
set_option linter.all false
set_option maxRecDepth 100000
set_option maxHeartbeats 1000000
/-! comprehensions that map; texts told by a list -/
namespace DL
open PySem L2
theorem comp_E {i : Nat} {de : DE} {env : SEnv} {ds : List D} {k : List D → Prop} {g : D → D} (h : ∀ d ∈ ds, ∀ k', de (env.set i (.sh d)) noX k' = k' (g d)) : dcomp (dOne (dgName i) dYes de env) ds k = k (ds.map g) :=
  dcomp_map_E fun d hd k => by
    show (if true = true then de (env.set i (.sh d)) noX (fun e => k (some e)) else k none) = _
    rw [if_pos rfl, h d hd]
theorem comp_EM {α : Type} {i : Nat} {de : DE} {env : SEnv} {f : α → D} {g : α → D} : ∀ {xs : List α} {k : List D → Prop}, (∀ x ∈ xs, ∀ k', de (env.set i (.sh (f x))) noX k' = k' (g x)) → dcomp (dOne (dgName i) dYes de env) (xs.map f) k = k (xs.map g)
  | [], k, _ => rfl
  | x :: xs, k, h => by
    simp only [List.map_cons, dcomp, dOne, dgName, if_true]
    rw [h x (by simp)]
    exact comp_EM (k := fun r => k (g x :: r)) fun y hy => h y (by simp [hy])
theorem isStrs_map : ∀ ws : List Str, isStrs (ws.map D.str) = some ws
  | [] => rfl
  | w :: ws => by simp [isStrs, isStrs_map ws]
theorem isBls_true {α : Type} (xs : List α) : isBls (xs.map fun _ => D.bl true) = some (xs.map fun _ => true) := isBls_map (fun _ => true) xs
theorem lenset_L {ws : List Str} {p : List Str → Prop} (h : ws.length ≤ 1000) : (∃ ds ys, (D.lst (ws.map D.str) = .lst ds ∨ D.lst (ws.map D.str) = .tup ds) ∧ isStrs ds = some ys ∧ ys.length ≤ 1000 ∧ p ys) = p ws := by
  refine propext ⟨fun ⟨ds, ys, e, s, l, q⟩ => ?_, fun q => ⟨_, ws, .inl rfl, isStrs_map ws, h, q⟩⟩
  rcases e with e | e
  · cases e
    rw [isStrs_map] at s
    cases s
    exact q
  · cases e
end DL

set_option Elab.async false
set_option linter.all false
set_option maxRecDepth 100000
set_option maxHeartbeats 1000000
/-! what repr says of lists and tuples with drawn texts in them -/
namespace DL
open PySem L2
open PySem.Builtin.Str in
theorem letters_plain : ∀ c, 97 ≤ c → c ≤ 122 → reprChar 39 c = [c] := by
  have h : (List.range 123).all (fun c => !decide (97 ≤ c) || decide (PySem.Builtin.Str.reprChar 39 c = [c])) = true := by decide +kernel
  intro c h1 h2
  have := List.all_eq_true.mp h c (by rw [List.mem_range]; omega)
  simpa [h1] using this
theorem repr_lets {w : Str} (h : ∀ c ∈ w.cps.toList, 97 ≤ c ∧ c ≤ 122) : reprText w = ⟨(39 :: w.cps.toList ++ [39]).toArray⟩ := by
  have q : reprQuote w = 39 := by
    unfold reprQuote
    have : w.cps.contains 39 = false := by
      rw [← Array.contains_toList]
      rw [List.contains_eq_mem, decide_eq_false_iff_not]
      intro z
      have := h 39 z
      omega
    rw [this]
    rfl
  unfold reprText
  rw [q, ← Array.foldl_toList]
  have : ∀ (l acc : List Nat), (∀ c ∈ l, 97 ≤ c ∧ c ≤ 122) → (l.foldl (fun out c => out ++ (PySem.Builtin.Str.reprChar 39 c).toArray) acc.toArray) = (acc ++ l).toArray := by
    intro l
    induction l with
    | nil => intro acc _; simp
    | cons c l ih =>
      intro acc hc
      rw [List.foldl_cons, letters_plain c (hc c (by simp)).1 (hc c (by simp)).2]
      have := ih (acc ++ [c]) fun d hd => hc d (by simp [hd])
      simpa using this
  have e := this w.cps.toList [39] h
  rw [show (#[39] : Array Nat) = [39].toArray from rfl, e]
  simp
structure ShN (n m : Nat) (d : D) : Prop where
  py : isPy d = true
  sh : (toPy d).showable = true
  nd : (toPy d).hasDict = false
  dp : (toPy d).depth ≤ n
  ln : (shD d).length ≤ m
  ok : PyData.strOk (shD d) = true
theorem ShN.of {n m : Nat} {d : D} (h : ShN n m d) (hn : n ≤ 64) (hm : m ≤ 100000) : shB d = true ∧ PyData.strOk (shD d) = true := by
  refine ⟨?_, h.ok⟩
  have l := h.ln
  unfold shD at l
  simp only [shB, h.py, h.sh, h.nd, Bool.not_false, Bool.true_and, Bool.and_eq_true, decide_eq_true_eq]
  exact ⟨Nat.le_trans h.dp hn, Nat.le_trans l hm⟩
theorem ShN.str {w : Str} (h : ∀ c ∈ w.cps.toList, 97 ≤ c ∧ c ≤ 122) : ShN 0 (w.length + 2) (.str w) := by
  have e : shD (.str w) = ⟨(39 :: w.cps.toList ++ [39]).toArray⟩ := repr_lets h
  refine ⟨rfl, rfl, rfl, Nat.le_refl _, ?_, ?_⟩
  · rw [e]
    show ((39 :: w.cps.toList ++ [39]).toArray).size ≤ _
    simp [Str.length]
  · rw [e]
    unfold PyData.strOk
    rw [Array.all_eq_true']
    intro c hc
    simp only [List.mem_toArray, List.cons_append, List.mem_cons, List.mem_append, List.not_mem_nil, or_false] at hc
    rw [decide_eq_true_eq]
    rcases hc with rfl | hc | rfl
    · decide
    · have := h c hc; omega
    · decide
theorem ok_app {x y : Str} (hx : PyData.strOk x = true) (hy : PyData.strOk y = true) : PyData.strOk (x ++ y) = true := by
  unfold PyData.strOk at *
  show (x.cps ++ y.cps).all _ = true
  rw [Array.all_append, hx, hy]
  rfl
theorem ok_join {sep : Str} (hs : PyData.strOk sep = true) : ∀ ts : List Str, (∀ t ∈ ts, PyData.strOk t = true) → PyData.strOk (Str.join sep ts) = true
  | [], _ => (by decide +kernel : PyData.strOk (Str.ofString "") = true)
  | [t], h => h t (by simp)
  | t :: u :: ts, h => ok_app (ok_app (h t (by simp)) hs) (ok_join hs (u :: ts) fun x hx => h x (by simp [hx]))
theorem shAll_map : ∀ ds : List D, PyData.shownAll (toPyA ds) = ds.map shD
  | [] => PyData.shownAll_nil
  | d :: ds => by
    show PyData.shownAll (toPy d :: toPyA ds) = _
    rw [PyData.shownAll_cons, shAll_map ds]
    rfl
theorem sum_le {m : Nat} : ∀ ts : List Str, (∀ t ∈ ts, t.length ≤ m) → (ts.map fun x => x.length).sum ≤ ts.length * m
  | [], _ => by simp
  | t :: ts, h => by
    have h1 := h t (by simp)
    have h2 := sum_le ts fun x hx => h x (by simp [hx])
    simp only [List.map_cons, List.sum_cons, List.length_cons, Nat.succ_mul]
    omega
theorem ShN.all {n m : Nat} : ∀ {ds : List D}, (∀ d ∈ ds, ShN n m d) → isPyA ds = true ∧ PyData.showableAll (toPyA ds) = true ∧ PyData.hasDictAll (toPyA ds) = false ∧ PyData.depthAll (toPyA ds) ≤ n
  | [], _ => ⟨rfl, rfl, rfl, by simp [toPyA, PyData.depthAll]⟩
  | d :: ds, h => by
    obtain ⟨a, b, c, e⟩ := ShN.all fun x hx => h x (List.mem_cons_of_mem d hx)
    have k := h d (by simp)
    refine ⟨?_, ?_, ?_, ?_⟩
    · simp [isPyA, k.py, a]
    · simp [toPyA, PyData.showableAll, k.sh, b]
    · simp [toPyA, PyData.hasDictAll, k.nd, c]
    · simp only [toPyA, PyData.depthAll]
      have := k.dp
      omega
theorem sep_len : (Str.ofString ", ").length = 2 := by decide +kernel
theorem ShN.lst {n m : Nat} {ds : List D} (h : ∀ d ∈ ds, ShN n m d) : ShN (n + 1) (ds.length * (m + 2) + 3) (.lst ds) := by
  obtain ⟨a, b, c, e⟩ := ShN.all h
  have es : shD (.lst ds) = Str.ofString "[" ++ Str.join (Str.ofString ", ") (ds.map shD) ++ Str.ofString "]" := by
    rw [← shAll_map]
    exact PyData.shown_list _
  refine ⟨?_, ?_, ?_, ?_, ?_, ?_⟩
  · simpa [isPy] using a
  · simpa [toPy, PyData.showable] using b
  · simpa [toPy, PyData.hasDict] using c
  · simp only [toPy, PyData.depth]; omega
  · rw [es, Str.length_append, Str.length_append]
    have j := StrLaws.join_length_le (Str.ofString ", ") (ds.map shD)
    rw [sep_len] at j
    have s := sum_le (m := m) (ds.map shD) fun t ht => by
      obtain ⟨d, hd, rfl⟩ := List.mem_map.mp ht
      exact (h d hd).ln
    rw [List.length_map] at j s
    have e1 : (Str.ofString "[").length = 1 := by decide +kernel
    have e2 : (Str.ofString "]").length = 1 := by decide +kernel
    have e3 := sep_len
    rw [Nat.mul_add]
    omega
  · rw [es]
    exact ok_app (ok_app (by decide +kernel) (ok_join (by decide +kernel) _ fun t ht => by
      obtain ⟨d, hd, rfl⟩ := List.mem_map.mp ht
      exact (h d hd).ok)) (by decide +kernel)
theorem ShN.tup {n m : Nat} {ds : List D} (h : ∀ d ∈ ds, ShN n m d) : ShN (n + 1) (ds.length * (m + 2) + 3) (.tup ds) := by
  obtain ⟨a, b, c, e⟩ := ShN.all h
  have es : shD (.tup ds) = Str.ofString "(" ++ Str.join (Str.ofString ", ") (ds.map shD) ++ Str.ofString (if (toPyA ds).length == 1 then ",)" else ")") := by
    rw [← shAll_map]
    exact PyData.shown_tuple _
  refine ⟨?_, ?_, ?_, ?_, ?_, ?_⟩
  · simpa [isPy] using a
  · simpa [toPy, PyData.showable] using b
  · simpa [toPy, PyData.hasDict] using c
  · simp only [toPy, PyData.depth]; omega
  · rw [es, Str.length_append, Str.length_append]
    have j := StrLaws.join_length_le (Str.ofString ", ") (ds.map shD)
    rw [sep_len] at j
    have s := sum_le (m := m) (ds.map shD) fun t ht => by
      obtain ⟨d, hd, rfl⟩ := List.mem_map.mp ht
      exact (h d hd).ln
    rw [List.length_map] at j s
    have e1 : (Str.ofString "(").length = 1 := by decide +kernel
    have e2 : (Str.ofString (if (toPyA ds).length == 1 then ",)" else ")")).length ≤ 2 := by split <;> decide +kernel
    have e3 := sep_len
    rw [Nat.mul_add]
    omega
  · rw [es]
    refine ok_app (ok_app (by decide +kernel) (ok_join (by decide +kernel) _ fun t ht => ?_)) (by split <;> decide +kernel)
    obtain ⟨d, hd, rfl⟩ := List.mem_map.mp ht
    exact (h d hd).ok
theorem ShN.up {n m n' m' : Nat} {d : D} (h : ShN n m d) (hn : n ≤ n') (hm : m ≤ m') : ShN n' m' d := ⟨h.py, h.sh, h.nd, Nat.le_trans h.dp hn, Nat.le_trans h.ln hm, h.ok⟩
/-- .. of what is known -/
def shNB (n m : Nat) (d : D) : Bool := isPy d && (toPy d).showable && !(toPy d).hasDict && decide ((toPy d).depth ≤ n) && decide ((shD d).length ≤ m) && PyData.strOk (shD d)
theorem ShN.by_ {n m : Nat} {d : D} (h : shNB n m d = true) : ShN n m d := by
  simp only [shNB, Bool.and_eq_true, Bool.not_eq_true', decide_eq_true_eq] at h
  obtain ⟨⟨⟨⟨⟨a, b⟩, c⟩, e⟩, f⟩, g⟩ := h
  exact ⟨a, b, c, e, f, g⟩
end DL

set_option Elab.async false
set_option linter.all false
set_option maxRecDepth 100000
set_option maxHeartbeats 1000000
/-! methods that take *v, besides self nothing -/
namespace DL
open PySem PySem.W PySem.Calls PyProof.Rows L2
def dMethS (c : Nat) (m : Str) (g : DF) (de : DE) (dr : DA) : DE := fun env xp post => de env xp fun d => ∃ fs, d = .obj c fs ∧ fs.lookup m = none ∧ dr env xp fun ds => ds.length ≤ 100000 ∧ g [d, .tup ds] xp post
section
variable {W : Wc} {E : XK} {te : TE} {tr : TA} {de : DE} {dr : DA} {c : Nat}
theorem se_methS {K : Frag} {C : Addr} {m : Str} {g : DF} (hM : W.M c = some C) (ho : SE K W E te de) (h : SA K W E tr dr) : SE K W E (L2.tMethR C m (starSp 1 (spD K W g)) E te tr) (dMethS c m g de dr) :=
  fun p S H σ env xp st ev xo Q post q k => ho p S H σ env xp st ev xo _ _ q fun v d S1 H1 q1 g1 r1 => by
    obtain ⟨fs, rfl, hl, q2⟩ := q1
    have r0 := r1
    unfold DL.R at r1
    obtain ⟨a, C', dx, gs, rfl, ea, hC, rf⟩ := r1
    obtain rfl : C' = C := Option.some.inj (hC.symm.trans hM)
    refine ⟨a, dx, gs, rfl, g1.st.ex _ _ ea, RF.miss rf hl, ?_⟩
    refine h p S1 H1 σ env xp g1.st (ev.mono g1) (xo.mono g1) _ _ q2 fun vs ds S2 H2 q3 g2 r2 => ?_
    refine ⟨[V.ref a], vs, rfl, rfl, by rw [RA.length r2]; exact sz_of q3.1, fun t ht => ?_⟩
    have g3 := Grow.new (o := .tup vs) g2.st ht
    refine ⟨p, upd S2 t (.tup vs), _, post, xp, g3.st, RA.cons (r0.mono (g2.trans g3).ex) (RA.cons (v := V.ref t) (d := .tup ds) ?_ RA.nil), q3.2, fun v d S3 H3 q4 g4 r3 => k v d S3 H3 q4 ((g1.trans g2).trans (g3.trans g4)) r3, xo.mono ((g1.trans g2).trans g3)⟩
    unfold DL.R
    exact ⟨t, vs, rfl, .inl (.inl upd_same), RA.mono g3.ex _ _ r2⟩
end
section
variable {P : Program} {w : World} {K : Frag} {W : Wc} {mg : Str → Option Value} {base : Heap}
/-- such a method by its body -/
theorem okMS {qual n0 pv : Str} {st : Stmt} {f : Addr} {N : List Str} {k : Nat} {body : DS} {name : Str} {kV doc pm cdv ct oc : Value} {an od : Option Addr} {osl : Array (Option Value)}
    (lk : K.lookup f = some ⟨oc, od, .func (fnOf name qual (defArgs st) (defBody st) (defScope st) .none kV doc pm an cdv ct), osl⟩) (hcd : codeIn K cdv qual = true)
    (Sc : FnScope N [n0, pv] (defScope st))
    (hb1 : ∀ us rest : List Value, us.length = [n0].length → bindArgs (fnOf name qual (defArgs st) (defBody st) (defScope st) .none kV doc pm an cdv ct) ⟨us ++ rest, []⟩ = (newTuple rest >>= fun t => pure ([n0].zip us ++ [(pv, t)])))
    (hb : ∀ (A : Around) (outer : List PySem.Env) (s : Shared) (H : Hp) (E : XK), Room k (A.deeper (PyProof.Rows.envOfC qual (defScope st) s.heap.objs.size f cdv)) →
      ∃ ts, PDSs (cxOf (L2.CX P w) P w K mg base N qual (defScope st) f cdv A outer s H E) W E (defBody st) ts body) :
    FnR P w K mg base (L2.CX P w) (k + 1) f (starSp 1 (spD K W (runF N.length 2 body))) := fun A outer s H us vs Q E hr e0 r hsp =>
  StX.fn_star (sp := spD K W (runF N.length 2 body)) (ps := [n0]) (pv := pv) lk hcd Sc StX.cxUp hb1 (fun A outer s H vs Q E hr h => by
    obtain ⟨p, S, ds, post, xp, stt, r, ⟨h1, q⟩, k1, xo⟩ := h
    obtain ⟨ts, pe, se⟩ := hb A outer s H E hr
    refine ⟨ts, pe, se p S H S H (L2.start N vs) _ xp ⟨Grow.refl stt, ?_, fun i ds' a e1 e2 => ?_⟩ xo.s _ _ q ⟨fun S' H' σ' env' _ sv q => k1 .non .non S' H' q sv.g rfl, fun S' H' v d _ g r q => k1 v d S' H' q g r, fun _ _ _ _ _ _ q => q.elim, fun _ _ _ _ _ _ q => q.elim⟩⟩
    · have := r.begins (H := H) (N := N)
      rw [RA.length r, h1] at this
      exact this
    · exfalso
      by_cases hi : i < ds.length
      · rw [List.getElem?_append_left (by simpa using hi), List.getElem?_map] at e1
        cases hd : ds[i]? with
        | none => rw [hd] at e1; cases e1
        | some d => rw [hd] at e1; cases e1
      · rw [List.getElem?_append_right (by simpa using hi), List.getElem?_replicate] at e1
        split at e1 <;> cases e1) A outer s H us vs Q E hr e0 r hsp
/-- what a text that calls it is told -/
structure MethS (P : Program) (w : World) (K : Frag) (W : Wc) (mg : Str → Option Value) (base : Heap) (k c : Nat) (m : Str) (df : DF) : Prop where
  ex : ∃ (C f : Addr), W.M c = some C ∧ Cls K C ∧ Meth K C m f ∧ FnR P w K mg base (L2.CX P w) k f (starSp 1 (spD K W df))
variable {X : Cx} {E : XK} {j k c : Nat} {m : Str} {df : DF} {o e : Expr} {es : List Expr} {te : TE} {tr : TA} {de : DE} {dr : DA} {pos apos : Pos}
theorem pd_methSD {pl : Sem Bool} (F : MethS P w K W mg base j c m df) (hx : Passes (L2.CX X.prog X.w) X E) (ho : PD X W E o te de) (ha : PDA X W E (e :: es) tr dr)
    (hX : X.prog = P ∧ X.w = w ∧ X.K = K ∧ X.mg = mg ∧ X.base = base := by exact ⟨rfl, rfl, rfl, rfl, rfl⟩) (hr : Room k X.A := by assumption) (hj : j ≤ k := by decide)
    (ht : eval (.Call (.Attribute o m apos) (e :: es) [] pos) X.env = (do
      let ov ← eval o X.env
      standAt apos.atName
      let (f, first) ← holding [ov] (getMethod ov m pl)
      callWith pos f first (backTo pos (starEach (e :: es) X.env)) (backToKw pos (keywordEach [] X.env))) := by rfl)
    (he : starEach (e :: es) X.env = (false, eval e X.env) :: starEach es X.env := by rfl) (hpl : (backTo pos (starEach es X.env)).any (·.1) = false := by rfl) :
    PD X W E (.Call (.Attribute o m apos) (e :: es) [] pos) (tC1 W c fun C => L2.tMethR C m (starSp 1 (spD K W df)) E te tr) (dMethS c m df de dr) := by
  obtain ⟨rfl, rfl, rfl, rfl, rfl⟩ := hX
  obtain ⟨C, f, hM, cl, hm, F⟩ := F.ex
  exact pd_c1 hM ⟨L2.pe_methR ho.pe cl hm F (hr.mono hj) hx ha.pe he hpl ht, se_methS hM ho.se ha.se⟩
theorem pe_meth0R {CX : CXT} {C f : Addr} {sp : Sp} {ta : TE} {pl : Sem Bool} (ho : PE X o ta) (cl : Cls X.K C) (hm : Meth X.K C m f) (F : FnR X.prog X.w X.K X.mg X.base CX k f sp) (hr : Room k X.A) (hx : Passes CX X E)
    (ht : eval (.Call (.Attribute o m apos) [] [] pos) X.env = (do
      let ov ← eval o X.env
      standAt apos.atName
      let (f, first) ← holding [ov] (getMethod ov m pl)
      callWith pos f first (backTo pos (starEach [] X.env)) (backToKw pos (keywordEach [] X.env))) := by rfl) :
    PE X (.Call (.Attribute o m apos) [] [] pos) (L2.tMethR C m sp E ta L2.tNil) :=
  ⟨fun pins s σ H Q I h => methodCall_KW (thn (ho.run pins s σ H _ I h) fun v s1 ⟨x, H1, I1, r1, a, dx, fs, ex, ha, hl, q⟩ => by
    subst ex
    obtain rfl : v = Value.ref a := r1
    refine getmeth_ok I1 ha cl hm hl ?_
    refine callWith_K0 (K := X.K) I1.kIn hm.kp ?_
    exact wpAny_call (run_fnR (vs := [V.ref a]) F hr hx I1 (.cons (show RelV (V.ref a) (Value.ref a) from rfl) .nil) q)) ht⟩
theorem pd_methSD0 {pl : Sem Bool} (F : MethS P w K W mg base j c m df) (hx : Passes (L2.CX X.prog X.w) X E) (ho : PD X W E o te de)
    (hX : X.prog = P ∧ X.w = w ∧ X.K = K ∧ X.mg = mg ∧ X.base = base := by exact ⟨rfl, rfl, rfl, rfl, rfl⟩) (hr : Room k X.A := by assumption) (hj : j ≤ k := by decide)
    (ht : eval (.Call (.Attribute o m apos) [] [] pos) X.env = (do
      let ov ← eval o X.env
      standAt apos.atName
      let (f, first) ← holding [ov] (getMethod ov m pl)
      callWith pos f first (backTo pos (starEach [] X.env)) (backToKw pos (keywordEach [] X.env))) := by rfl) :
    PD X W E (.Call (.Attribute o m apos) [] [] pos) (tC1 W c fun C => L2.tMethR C m (starSp 1 (spD K W df)) E te L2.tNil) (dMethS c m df de dNil) := by
  obtain ⟨rfl, rfl, rfl, rfl, rfl⟩ := hX
  obtain ⟨C, f, hM, cl, hm, F⟩ := F.ex
  exact pd_c1 hM ⟨pe_meth0R ho.pe cl hm F (hr.mono hj) hx ht, se_methS hM ho.se sa_nil⟩
end
end DL

set_option Elab.async false
set_option linter.all false
set_option maxRecDepth 100000
set_option maxHeartbeats 1000000
/-! sorted(list or tuple of texts) -/
namespace DL
open PySem PySem.W PySem.Calls PySem.Spec PyProof.Rows L2
abbrev leStr : Str → Str → Bool := dataLe false PyData.str
theorem strs_each {R : Value → Str → Prop} (hR : ∀ x t, R (.str x t) x) : ∀ {us : List Value} {xs : List Str}, StrsAre us xs → EachIs R us xs
  | _, _, .nil => .nil
  | _, _, .cons y t h => .cons (hR y t) (strs_each hR h)
theorem each_strs : ∀ {us : List Value} {xs : List Str}, EachIs (fun v b => ∃ t, v = Value.str b t) us xs → StrsAre us xs
  | _, _, .nil => .nil
  | _, _, .cons ⟨t, e⟩ h => by subst e; exact .cons _ t (each_strs h)
theorem strs_len : ∀ {us : List Value} {xs : List Str}, StrsAre us xs → us.length = xs.length
  | _, _, .nil => rfl
  | _, _, .cons y t h => by rw [List.length_cons, List.length_cons, strs_len h]
theorem call_sorted_seq {prog : Program} {w : World} {A : Around} {E : Value → Shared → Prop} {s : Shared} {l : Addr} {us : List Value} {xs : List Str} {Q : Value → Shared → Prop}
    (hl : s.heap.IsList l us.toArray ∨ s.heap.IsTuple l us.toArray) (hv : StrsAre us xs) (n : us.length ≤ sizeLine) (hu : A.units + 10 < cLine)
    (k : ∀ (h1 h' : Heap) (p : Addr) (out : List Value) (ep : Nat), (∀ b o, s.heap.get? b = some o → h1.get? b = some o) → (∀ b o, h1.get? b = some o → h'.get? b = some o) → h1.objs.size ≤ p → h'.get? p = some (seqObj "list" out.toArray ep) → StrsAre out (xs.mergeSort leStr) → Q (.ref p) { heap := h', gens := s.gens, drawn := s.drawn, toks := s.toks, os := s.os }) :
    wpAny (model prog w) A (call (.builtin "sorted") [.ref l]) Q E s := by
  refine call_function_entry_kw kind_sorted plain_sorted entry_sorted (args_sorted1 _) ?_
  have main : ∀ h', (∀ (b : Addr) (o' : Obj), s.heap.get? b = some o' → h'.get? b = some o') → wpAny (model prog w) A.in1 (do
      let l ← newList us
      let _ ← holding [l] (call (Value.builtin "list.sort") [l] [])
      ret l) (fun fin s' => ∃ v, fin = Fin.done (Flow.ret v) ∧ Q v s') E { heap := h', gens := s.gens, drawn := s.drawn, toks := s.toks, os := s.os } := by
    intro h' ext
    refine wpAny_bind (wpAny_newList ?_ n)
    refine wpAny_bind (wpAny_holding (list_sort_data (n := 0) (bs := xs) (enc := PyData.str) (R := fun v b => ∃ t, v = Value.str b t) (Heap.get?_push_size _ rfl) (strs_each (fun x t => ⟨t, rfl⟩) hv) (strs_each (fun x t => ⟨[], .str x t, by simp⟩) hv) ?_ ?_ (by rw [← strs_len hv]; exact n) ?_ fun out ho he => ?_))
    · intro d hd d' hd'
      obtain ⟨x, _, rfl⟩ := List.mem_map.mp hd
      obtain ⟨y, _, rfl⟩ := List.mem_map.mp hd'
      rfl
    · refine .inr fun d hd => ?_
      obtain ⟨x, _, rfl⟩ := List.mem_map.mp hd
      exact ⟨nofun, nofun⟩
    · intro b _
      have h1 : A.in1.units = A.units + 1 := rfl
      have h2 : (PyData.str b).depth = 0 := rfl
      rw [h1, h2]
      omega
    · have at0 : (h'.push (seqObj "list" us.toArray 0)).get? h'.objs.size = some (seqObj "list" us.toArray 0) := Heap.get?_push_size _ rfl
      obtain ⟨ep, e⟩ := sortedHeap_at (out := out.toArray) at0
      refine wpAny_pure ⟨_, rfl, k h' _ _ out ep ext (fun b o hb => ?_) (Nat.le_refl _) e (each_strs he)⟩
      have lt : b < h'.objs.size := Heap.lt_size hb
      rw [sortedHeap_old (Nat.ne_of_lt lt) (by rw [size_push']; exact Nat.lt_succ_of_lt lt)]
      exact Heap.get?_push_of_some _ hb
  show wpAny (model prog w) A.in1 (Builtin.sorted ⟨[.ref l], []⟩) _ E s
  unfold Builtin.sorted
  refine wpAny_bind (wpAny_pure ?_)
  rcases hl with hl | hl
  · obtain ⟨o, h1, h2, m, h3⟩ := hl
    exact wpAny_bind (wpAny_collect_seq l (.inl rfl) h1 h2 h3 (fun h' ext => main h' ext) (by simpa using n))
  · obtain ⟨o, h1, h2, m, h3⟩ := hl
    exact wpAny_bind (wpAny_collect_seq l (.inr rfl) h1 h2 h3 (fun h' ext => main h' ext) (by simpa using n))
/-! by data -/
def rSortT (K : Frag) : List V → Hp → VK → Prop := fun vs H Q => ∃ (a : Addr) (xs : List Str), vs = [V.ref a] ∧ (SqL K H a (xs.map V.str) ∨ SqT K H a (xs.map V.str)) ∧ xs.length ≤ 1000 ∧ ∀ p, H p = none → Q (.ref p) (upd H p (.lst ((xs.mergeSort leStr).map V.str)))
theorem cr_sortT (K : Frag) {X : Cx} (hu : X.A.units + 65 < cLine) (hK : X.K = K := by rfl) : CallR X (.builtin "sorted") (rSortT K) := by
  subst hK
  intro pins s σ H vs us Q I rv ⟨a, xs, ev, hq, few, q⟩
  subst ev
  obtain rfl : us = [Value.ref a] := rv.ref1
  have ⟨its, rv, hl⟩ : ∃ its : List Value, Vals (xs.map V.str) its ∧ (s.heap.IsList a its.toArray ∨ s.heap.IsTuple a its.toArray) := by
    rcases hq with hq | hq
    · obtain ⟨its, r, pl, _⟩ := I.list hq
      exact ⟨its, r, .inl pl.isList⟩
    · obtain ⟨its, r, pl, _⟩ := I.tuple hq
      exact ⟨its, r, .inr pl⟩
  have sv := rv.strs
  have ln := strs_len sv
  refine call_sorted_seq hl sv (by rw [ln]; exact sz_of (by omega)) (by omega) fun h1 h' p out ep e1 e2 hp hg ho => ?_
  have I1 : Inv X pins σ H { s with heap := h1 } := I.kept fun b o e => e1 b o e
  have hn : H p = none := I1.hok.fresh hp
  refine ⟨.ref p, _, I1.laid e2 hp ?_, rfl, q p hn⟩
  have lo := strs_len ho
  exact ⟨by rw [List.length_map, List.length_mergeSort]; exact sz_of (by omega), out, ep, vals_of_strs ho, hg⟩
def bSorted : List D → (D → Prop) → Prop
  | [.lst ds], k => ∃ ys, isStrs ds = some ys ∧ ys.length ≤ 1000 ∧ k (.lst ((ys.mergeSort leStr).map D.str))
  | [.tup ds], k => ∃ ys, isStrs ds = some ys ∧ ys.length ≤ 1000 ∧ k (.lst ((ys.mergeSort leStr).map D.str))
  | _, _ => False
theorem ra_strs {K : Frag} {W : Wc} {p : Addr} {S : Hp} : ∀ ys : List Str, RA K W p S (ys.map V.str) (ys.map D.str)
  | [] => RA.nil
  | y :: ys => RA.cons (v := V.str y) (d := .str y) rfl (ra_strs ys)
theorem rc_sorted {K : Frag} {W : Wc} : RCb K W (rSortT K) bSorted := fun p S H vs ds Q post st ra q k => by
  unfold bSorted at q
  split at q
  · obtain ⟨v, rfl, r⟩ := ra.one
    obtain ⟨ys, es, few, q⟩ := q
    unfold DL.R at r
    obtain ⟨a, xs, rfl, h1, h2⟩ := r
    obtain rfl := h2.strs es
    refine ⟨a, ys, rfl, .inl (SqL.of (st.ex _ _ h1)), few, fun l hl => k _ _ _ _ q (Grow.new st hl) ?_⟩
    unfold DL.R
    exact ⟨l, _, rfl, upd_same, ra_strs _⟩
  · obtain ⟨v, rfl, r⟩ := ra.one
    obtain ⟨ys, es, few, q⟩ := q
    unfold DL.R at r
    obtain ⟨a, xs, rfl, h1, h2⟩ := r
    obtain rfl := h2.strs es
    refine ⟨a, ys, rfl, .inr (Ex.t st.ex h1), few, fun l hl => k _ _ _ _ q (Grow.new st hl) ?_⟩
    unfold DL.R
    exact ⟨l, _, rfl, upd_same, ra_strs _⟩
  · exact q.elim
/-! of the order -/
theorem le_total : ∀ a b : Str, (leStr a b || leStr b a) = true := fun a b => by
  have e : leStr = fun a b => decide (a.cps.toList ≤ b.cps.toList) := dataLe_str id
  rw [e]
  simp only [Bool.or_eq_true, decide_eq_true_eq]
  exact List.le_total _ _
theorem le_trans' : ∀ a b c : Str, leStr a b = true → leStr b c = true → leStr a c = true := fun a b c => by
  have e : leStr = fun a b => decide (a.cps.toList ≤ b.cps.toList) := dataLe_str id
  rw [e]
  simp only [decide_eq_true_eq]
  exact List.le_trans
theorem le_anti : ∀ a b : Str, leStr a b = true → leStr b a = true → a = b := fun a b => by
  have e : leStr = fun a b => decide (a.cps.toList ≤ b.cps.toList) := dataLe_str id
  rw [e]
  simp only [decide_eq_true_eq]
  intro h1 h2
  have := List.le_antisymm h1 h2
  cases a; cases b
  simpa using this
theorem sort_eq (xs ys : List Str) : xs.mergeSort leStr = ys.mergeSort leStr ↔ xs.Perm ys := by
  constructor
  · intro h
    exact (List.mergeSort_perm xs leStr).symm.trans (h ▸ List.mergeSort_perm ys leStr)
  · intro h
    refine List.Perm.eq_of_pairwise (le := fun a b => leStr a b = true) ?_ (List.pairwise_mergeSort le_trans' le_total xs) (List.pairwise_mergeSort le_trans' le_total ys) (((List.mergeSort_perm xs leStr).trans h).trans (List.mergeSort_perm ys leStr).symm)
    intro a b _ _ h1 h2
    exact le_anti a b h1 h2
end DL

set_option Elab.async false
set_option linter.all false
set_option maxRecDepth 100000
set_option maxHeartbeats 1000000
/-! C.m(), m a static method -/
namespace DL
open PySem PySem.W PySem.Calls PyProof.Rows L2
/-- what the class and its static method must be -/
structure SMeth (K : Frag) (C : Addr) (m : Str) (f : Addr) : Prop where
  ty : typeIn K (.ref C) = some (.type "type")
  rd : readsIn K C (.type "type") = true
  fd : ∃ p rest, findCls K (.ref C) (.type "type") m = some (CFound.get (.builtin "staticmethod.__get__") (.ref p) .none (.ref C)) ∧ recIn K p "staticmethod" = some (.ref f :: rest)
  tg : findIn K (.type "type") "__getattribute__" = some (some (.builtin "type.__getattribute__"))
  kC : keepIn K (.ref C) = true
  kf : keepIn K (.ref f) = true
section
variable {X : Cx} {E : XK} {W : Wc} {k : Nat} {m x : Str} {pos apos p : Pos} {C f : Addr} {K : Frag}
theorem getMethod_static {A : Around} {Ex : Value → Shared → Prop} {s : Shared} {pl : Sem Bool} {Q : Value × List Value → Shared → Prop} {h₀ : Heap} {L : Addr} {mm : Str → Option Value} (S : SMeth K C m f) (fr : Fr h₀ L s.heap mm) (hK : K.In h₀) (hK2 : K.In s.heap) (q : ∀ tk, Q (.ref f, []) { s with toks := tk }) :
    wpAny (model X.prog X.w) A (getMethod (.ref C) m pl) Q Ex s := by
  obtain ⟨pp, rest, h1, h2⟩ := S.fd
  have us : wpAny (model X.prog X.w) A (do let v ← getAttr (.ref C) m; pure (v, ([] : List Value))) Q Ex s :=
    wpAny_bind (cls_sm fr hK S.ty S.rd h1 h2 rfl (wpAny_pure (q _)))
  unfold getMethod
  refine wpAny_bind ?_
  unfold specialOf
  refine wpAny_bind (Looks.here (looks_typeIn hK2 S.ty) ?_)
  refine Looks.here (looks_findIn hK2 S.tg) ?_
  simp only [canon_tga, if_true]
  exact us
theorem pe_static0 {CX : CXT} {fd : FuncData} {sp : Sp} {pl : Sem Bool} (S : SMeth X.K C m f) (F : FnOk X.prog X.w X.K X.mg X.base CX k f fd [] sp) (hr : Room k X.A) (hb : Binds X.K fd [] []) (hx : Passes CX X E) (hg : Gl X x) (hm : X.mg x = some (.ref C))
    (hdb : (x == ("__debug__" : Str)) = false := by decide)
    (ht : eval (.Call (.Attribute (.Name x p) m apos) [] [] pos) X.env = (do
      let ov ← eval (.Name x p) X.env
      standAt apos.atName
      let (f, first) ← holding [ov] (getMethod ov m pl)
      callWith pos f first (backTo pos (starEach [] X.env)) (backToKw pos (keywordEach [] X.env))) := by rfl) :
    PE X (.Call (.Attribute (.Name x p) m apos) [] [] pos) (fun σ H Q => sp [] H Q E) :=
  ⟨fun pins s σ H Q I h => methodCall_KW (ld_glob I hg hm (by
    obtain ⟨mm, hns, _⟩ := I.loc
    have fr : Fr X.base X.env.locals s.heap mm := ⟨hns, fun b o e => I.bk b o e, Nat.le_trans I.ok.bsz I.ok.above⟩
    refine getMethod_static S fr I.ok.mod.kin I.kIn fun tk => ?_
    have I2 : Inv X pins σ H { s with toks := tk } := I.tok _
    refine callWith_K0 (K := X.K) I2.kIn S.kf ?_
    exact run_fn (vs := []) F hr hb .nil hx I2 .nil h) hdb) ht⟩
theorem se_static0 {df : DF} : SE K W E (fun σ H Q => spD K W df [] H Q E) (dCall df [] dNil) := fun p S H σ env xp st ev xo Q post q k =>
  ⟨p, S, [], post, xp, st, RA.nil, q, fun v d S3 H3 q4 g3 r3 => k v d S3 H3 q4 g3 r3, xo⟩
end
/-- what a text that calls it is told -/
structure StatOk (P : Program) (w : World) (K : Frag) (W : Wc) (mg : Str → Option Value) (base : Heap) (k : Nat) (x m : Str) (df : DF) : Prop where
  ex : ∃ (C f : Addr) (fd : FuncData), SMeth K C m f ∧ FnOk P w K mg base (L2.CX P w) k f fd [] (spD K W df) ∧ Binds K fd [] [] ∧ mg x = some (.ref C)
theorem pd_statD {P : Program} {w : World} {K : Frag} {W : Wc} {mg : Str → Option Value} {base : Heap} {X : Cx} {E : XK} {j k : Nat} {x m : Str} {df : DF} {p apos pos : Pos} {pl : Sem Bool} (F : StatOk P w K W mg base j x m df) (hx : Passes (L2.CX X.prog X.w) X E)
    (hX : X.prog = P ∧ X.w = w ∧ X.K = K ∧ X.mg = mg ∧ X.base = base := by exact ⟨rfl, rfl, rfl, rfl, rfl⟩) (hr : Room k X.A := by assumption) (hj : j ≤ k := by decide) (hg : Gl X x := by rfl) (hdb : (x == ("__debug__" : Str)) = false := by decide)
    (ht : eval (.Call (.Attribute (.Name x p) m apos) [] [] pos) X.env = (do
      let ov ← eval (.Name x p) X.env
      standAt apos.atName
      let (f, first) ← holding [ov] (getMethod ov m pl)
      callWith pos f first (backTo pos (starEach [] X.env)) (backToKw pos (keywordEach [] X.env))) := by rfl) :
    PD X W E (.Call (.Attribute (.Name x p) m apos) [] [] pos) (fun σ H Q => spD K W df [] H Q E) (dCall df [] dNil) := by
  obtain ⟨rfl, rfl, rfl, rfl, rfl⟩ := hX
  obtain ⟨C, f, fd, S, F, hb, hm⟩ := F.ex
  exact ⟨pe_static0 S F (hr.mono hj) hb hx hg hm hdb ht, se_static0⟩
end DL

set_option Elab.async false
set_option linter.all false
set_option maxRecDepth 100000
set_option maxHeartbeats 1000000
/-! xs[:-1] -/
namespace DL
open PySem PySem.W PySem.Calls PyProof.Rows L2
def dInit (de dn : DE) : DA := fun env xp post => de env xp fun d => ∃ ds, d = .lst ds ∧ dn env xp fun m => m = .int (-1) ∧ post ds.dropLast
section
variable {X : Cx} {W : Wc} {E : XK} {e n : Expr} {te tn : TE} {de dn : DE} {pos p2 : Pos}
theorem pdn_init (K : PySem.W.Frag) (he : PD X W E e te de) (hn : PD X W E n tn dn) (hK : X.K = K := by rfl) : PDN X W E (.Subscript e (.Slice none (some n) none p2) pos) (tSl (rSlL K) te tNoPart (tPart tn)) (dInit de dn) := by
  subst hK
  refine ⟨pe_slice sl_list he.pe po_none (po_some hn.pe), fun p S H σ env xp st ev xo Q post q k => he.se p S H σ env xp st ev xo _ _ q fun v d S1 H1 ⟨ds, ed, q1⟩ g1 r1 => ?_⟩
  subst ed
  show tn σ H1 fun x H2 => ∃ i, x = .int i ∧ rSlL X.K v none (some i) H2 Q
  refine hn.se p S1 H1 σ env xp g1.st (ev.mono g1) (xo.mono g1) _ _ q1 fun u m S2 H2 ⟨em, q2⟩ g2 r2 => ?_
  subst em
  obtain rfl : u = V.int (-1) := r2
  have r3 := R.mono g2.ex _ _ r1
  unfold DL.R at r3
  obtain ⟨a, ys, rfl, h1, h2⟩ := r3
  refine ⟨(-1 : Int), rfl, a, ys, rfl, SqL.of (g2.st.ex _ _ h1), fun l hl => ?_⟩
  have hc : cutV ys none (some (-1 : Int)) = ys.take (ys.length - 1) := by
    unfold cutV
    rw [HT.sIx_none, List.drop_zero, Nat.sub_zero]
    have e : HT.sIx ys.length ys.length (some (-1 : Int)) = ys.length - 1 := by
      show (if (-1 : Int) < 0 then ((-1 : Int) + (ys.length : Int)).toNat else min ((-1 : Int).toNat) ys.length) = ys.length - 1
      rw [if_pos (by decide)]
      omega
    rw [e]
  have el : ds.dropLast = ds.take (ys.length - 1) := by rw [List.dropLast_eq_take, RA.length h2]
  rw [hc]
  exact newL (g1.trans g2) (RA.take (ys.length - 1) h2) (el ▸ q2) hl k
theorem pd_bmK (K : PySem.W.Frag) {a e0 : Expr} {es : List Expr} {ta : TE} {tr : TA} {da : DE} {dr : DA} {name : Str} {apos cpos : Pos} {T id : String} {r : V → List V → Hp → VK → Prop} {o : D → List D → (D → Prop) → Prop} (pa : PlainAttrs T) (slot : Slot T name id) (hty : typeOf (.builtin id) = pure (.type "method_descriptor")) (hm : MtR X id r) (hr : RMt K W T r o) (ho : PD X W E a ta da) (ha : PDA X W E (e0 :: es) tr dr)
    (hbase : attributeBase a name X.env (eval a X.env) = eval a X.env := by rfl)
    (hfew : ((backTo cpos (starEach (e0 :: es) X.env)).all (fun x => !x.1) && (backToKw cpos (keywordEach [] X.env)).all (fun x => x.1.isSome)
      && decide ((e0 :: es).length + ([] : List Keyword).length + (if ([] : List Keyword).isEmpty then 0 else 1) < 30)) = true := by rfl)
    (hline : (apos.endLine == cpos.line) = true := by rfl) (hs : starEach (e0 :: es) X.env = (false, eval e0 X.env) :: starEach es X.env := by rfl) (hplain : (backTo cpos (starEach es X.env)).any (·.1) = false := by rfl) (hK : X.K = K := by rfl) :
    PD X W E (.Call (.Attribute a name apos) (e0 :: es) [] cpos) (tBM K T r ta tr) (dBM T o da dr) := by
  subst hK
  exact pd_bm pa slot hty hm hr ho ha hbase hfew hline hs hplain
end
end DL

set_option Elab.async false
set_option linter.all false
set_option maxRecDepth 100000
set_option maxHeartbeats 1000000
/-! list(range(..)); extend with a tuple; dicts in fields; constants that are tuples of texts -/
namespace DL
open PySem PySem.W PySem.Calls PySem.Spec PyProof PyProof.Rows L2
section
variable {X : Cx} {W : Wc} {E : XK} {a b e : Expr} {ta tb te : TE} {da db de : DE} {p p' pos : Pos}
/-! ### list(range(..)) -/
theorem ra_rg {K : Frag} {p : Addr} {S : Hp} (lo : Int) : ∀ (l : List Nat), RA K W p S (l.map fun i => V.int (lo + (i : Nat))) (l.map fun i => D.int (lo + (i : Nat)))
  | [] => RA.nil
  | i :: l => RA.cons (by unfold DL.R; rfl) (ra_rg lo l)
def dLRg1 (da : DE) : DA := fun env xp post => da env xp fun x => ∃ n, x = .int n ∧ -(2 ^ 62) ≤ n ∧ n ≤ 2 ^ 24 ∧ post (rangeD 0 n.toNat)
def dLRg2 (da db : DE) : DA := fun env xp post => da env xp fun x => db env xp fun y => ∃ m n, x = .int m ∧ y = .int n ∧ (-(2 ^ 62) ≤ m ∧ m < 2 ^ 62 ∧ -(2 ^ 62) ≤ n ∧ n < 2 ^ 62 ∧ n - m ≤ 2 ^ 24) ∧ post (rangeD m (n - m).toNat)
theorem pdn_listRg1 (hc : X.calm = true) (hgl : Gl X "list") (hml : X.mg "list" = none) (hg : Gl X "range") (hm : X.mg "range" = none) (ha : PD X W E a ta da)
    (na : starEach [a] X.env = (false, eval a X.env) :: starEach [] X.env := by rfl) (nr : starEach [.Call (.Name "range" p') [a] [] pos] X.env = (false, eval (.Call (.Name "range" p') [a] [] pos) X.env) :: starEach [] X.env := by rfl) {q pos2 : Pos} :
    PDN X W E (.Call (.Name "list" q) [.Call (.Name "range" p') [a] [] pos] [] pos2) (tLstRg (tRg1 ta)) (dLRg1 da) :=
  ⟨pe_listRg hc hgl hml (prg_1 hg hm ha.pe na) nr, fun p S H σ env xp st ev xo Q post q k => ha.se p S H σ env xp st ev xo _ _ q fun v d S1 H1 ⟨n, ed, h1, h2, q1⟩ g1 r1 => by
    subst ed
    obtain rfl : v = V.int n := r1
    refine ⟨n, rfl, ⟨by omega, by omega, by omega, by omega, by omega⟩, fun l hl => ?_⟩
    refine newL (ys := rgV 0 n) (ds := rangeD 0 n.toNat) g1 ?_ q1 hl k
    unfold rgV rangeD
    rw [Int.sub_zero]
    exact ra_rg 0 _⟩
theorem pdn_listRg2 (hc : X.calm = true) (hgl : Gl X "list") (hml : X.mg "list" = none) (hg : Gl X "range") (hm : X.mg "range" = none) (ha : PD X W E a ta da) (hb : PD X W E b tb db)
    (na : starEach [a, b] X.env = (false, eval a X.env) :: starEach [b] X.env := by rfl)
    (nb : starEach [b] X.env = (false, eval b X.env) :: starEach [] X.env := by rfl) (hp : (backTo pos (starEach [b] X.env)).any (·.1) = false := by rfl)
    (nr : starEach [.Call (.Name "range" p') [a, b] [] pos] X.env = (false, eval (.Call (.Name "range" p') [a, b] [] pos) X.env) :: starEach [] X.env := by rfl) {q pos2 : Pos} :
    PDN X W E (.Call (.Name "list" q) [.Call (.Name "range" p') [a, b] [] pos] [] pos2) (tLstRg (tRg2 ta tb)) (dLRg2 da db) :=
  ⟨pe_listRg hc hgl hml (prg_2 hg hm ha.pe hb.pe na nb hp) nr, fun p S H σ env xp st ev xo Q post q k => ha.se p S H σ env xp st ev xo _ _ q fun v d S1 H1 q1 g1 r1 =>
    hb.se p S1 H1 σ env xp g1.st (ev.mono g1) (xo.mono g1) _ _ q1 fun u d2 S2 H2 ⟨m, n, e1, e2, h, q2⟩ g2 r2 => by
    subst e1 e2
    obtain rfl : v = V.int m := r1
    obtain rfl : u = V.int n := r2
    refine ⟨m, n, rfl, rfl, ⟨h.1, h.2.1, h.2.2.1, h.2.2.2.1, by have := h.2.2.2.2; omega⟩, fun l hl => ?_⟩
    exact newL (ys := rgV m n) (ds := rangeD m (n - m).toNat) (g1.trans g2) (ra_rg m _) q2 hl k⟩
end
/-! ### extend with a tuple -/
set_option maxRecDepth 8000 in
theorem ext_meets (l : Addr) (items : Array Value) (n : Nat) (b : Addr) (items2 : Array Value) (n2 : Nat) (od : Option Addr) (sl : Array (Option Value)) (hs0 : ¬(!items.isEmpty && Builtin.List.listTooLong (items.size + items2.size)) = true) (hs1 : items.size ≤ sizeLine) (hs2 : items.size + items2.size ≤ sizeLine + 1) :
    Meets (Builtin.«list.extend» ⟨[.ref l, .ref b], []⟩) (fun _ R s => s.heap.get? l = some { cls := .type "list", dict := none, data := .seq items n, slots := #[] } ∧ s.heap.get? b = some ⟨.type "tuple", od, .seq items2 n2, sl⟩ ∧ R (.ok (.ret Value.none)) { s with heap := s.heap.update l (Obj.mapSeq fun x => x ++ items2), toks := s.toks }) :=
  .of_wp fun prog w A R s h => by
    obtain ⟨hp, g, d, tk, os⟩ := s; obtain ⟨hl, hb, h⟩ := h; have f1 := AutoSeq1.idx_int; have f2 := AutoSeq1.sub_tuple_tuple; have f3 := AutoSeq1.sub_list_list; have f4 := AutoSeq1.sub_tuple_list; have f5 := AutoSeq1.sub_list_tuple;
    have hz' : (items ++ items2).size ≤ sizeLine + 1 := by rw [Array.size_append]; exact hs2
    wp_walk using (wpAny_updateSeq hl rfl (hz := hs1) (_hz' := hz')), AutoSeq1.wpAny_loadPart' hl, AutoSeq1.wpAny_loadPart' hb; exact ⟨_, rfl, h⟩
def rExtT (K : Frag) : V → List V → Hp → VK → Prop := fun x vs H Q => ∃ l b xs zs, x = .ref l ∧ vs = [.ref b] ∧ H l = some (.lst xs) ∧ SqT K H b zs ∧ xs.length + zs.length ≤ sizeLine ∧ Q .non (upd H l (.lst (xs ++ zs)))
theorem mt_extT {X : Cx} : MtM X "list.extend" (rExtT X.K) := by
  intro pins s σ H x vs v us Q I rx rv h
  obtain ⟨l, b, xs, zs, rfl, rfl, hH, hB, hz, q⟩ := h
  cases rx
  obtain ⟨u, rfl, ru⟩ := rv.one
  cases ru
  obtain ⟨z, its, n, r, hl, e⟩ := I.lstM hH
  obtain ⟨its2, r2, ⟨⟨oc, od, dt, sl⟩, e2, hc, n2, hd⟩, hl2⟩ := I.tuple hB
  cases (show oc = .type "tuple" from hc)
  cases (show dt = .seq its2.toArray n2 from hd)
  have hl3 := r2.length
  have hsz : its.toArray.size + its2.toArray.size ≤ sizeLine := by rw [List.size_toArray, List.size_toArray]; omega
  have hlong : ¬ (!its.toArray.isEmpty && Builtin.List.listTooLong (its.toArray.size + its2.toArray.size)) = true := by
    have : Builtin.List.listTooLong (its.toArray.size + its2.toArray.size) = false := by
      unfold Builtin.List.listTooLong
      exact decide_eq_false (by omega)
    rw [this, Bool.and_false]
    exact Bool.false_ne_true
  refine call_meets F.slot_list_extend ⟨_, e, rfl⟩ F.entry_list_extend (F.args_list_extend_2 _ _)
    (ext_meets l its.toArray n b its2.toArray n2 od sl hlong (by rw [List.size_toArray]; omega) (by omega)) ⟨e, e2, ?_⟩
  refine ⟨.non, _, I.lset (its' := its ++ its2) hH e (by simp) (r.append r2) ?_, rfl, q⟩
  rw [List.length_append]
  omega
section
variable {X : Cx} {W : Wc} {E : XK} {a b e o : Expr} {ta tb te td ty : TE} {da db de dd dk : DE} {pos p apos cpos np : Pos} {x : Str}
def dExt (i : Nat) (de : DE) : DS := fun DD xp env => ∃ ds, env[i]? = some (.ow ds) ∧ de env xp fun d => ∃ es, d = .tup es ∧ ds.length + es.length < 10000000 ∧ DD.nx (env.set i (.ow (ds ++ es)))
theorem ss_ext {K : Frag} {i : Nat} (h : SE K W E te de) : SS K W E (tDrop (tBM K "list" (rExtT K) (tVar i) (tCons te tNil))) (dExt i de) := fun p S0 H0 S H σ env xp sv xo D DD ⟨ds, e, q⟩ k => by
  obtain ⟨a, vs, hs, hS, hp, hH, r⟩ := sv.ev.ow e
  refine ⟨.ref a, hs, .inl ⟨rfl, vs, SqL.of hH⟩, ?_⟩
  refine h p S H σ env xp sv.st sv.ev (sv.xo xo) _ _ q fun v d S1 H1 ⟨es, ed, hl, q1⟩ g1 r1 => ?_
  subst ed
  have hH1 := g1.keep a _ hp hH
  have hS1 := g1.fr a (by rw [hH]; simp) hS
  have r0 := RA.mono g1.ex _ _ r
  unfold DL.R at r1
  obtain ⟨b, zs, rfl, hb, r1⟩ := r1
  refine ⟨a, b, vs, zs, rfl, rfl, hH1, Ex.t g1.st.ex hb, by rw [RA.length r, RA.length r1, sizeLine_eq]; omega, ?_⟩
  exact k.nx S1 _ _ _ g1.ex ((sv.mono g1).chg e hs hS1 hp hH1 (r0.append r1)) q1
theorem pds_ext (K : Frag) (i : Nat) (he : PD X W E e te de) (hi : X.N[i]? = some x := by rfl) (hv : Vis X.env.scope x := by first | exact Or.inl rfl | exact Or.inr (Or.inl rfl) | exact Or.inr (Or.inr rfl)) (hd : (x == ("__debug__" : Str)) = false := by decide) (hcd : (x == ("__classdict__" : Str)) = false := by decide)
    (hbase : attributeBase (.Name x np) "extend" X.env (eval (.Name x np) X.env) = eval (.Name x np) X.env := by rfl) (hline : (apos.endLine == cpos.line) = true := by rfl) (hs : starEach [e] X.env = (false, eval e X.env) :: starEach [] X.env := by rfl) (hsw : swapsWith (.Call (.Attribute (.Name x np) "extend" apos) [e] [] cpos) none pos.line X.env = pure false := by rfl)
    (hfew : ((backTo cpos (starEach [e] X.env)).all (fun x => !x.1) && (backToKw cpos (keywordEach [] X.env)).all (fun x => x.1.isSome) && decide (([e] : List Expr).length + ([] : List Keyword).length + (if ([] : List Keyword).isEmpty then 0 else 1) < 30)) = true := by rfl) (hK : X.K = K := by rfl) :
    PDS X W E (.Expr (.Call (.Attribute (.Name x np) "extend" apos) [e] [] cpos) pos) (tDrop (tBM K "list" (rExtT K) (tVar i) (tCons te tNil))) (dExt i de) := by
  subst hK
  exact ⟨ps_expr (pe_bm PySem.F.plainAttrs_list PySem.F.slot_list_extend PySem.F.type_list_extend mt_extT (pe_var hi hv hd hcd) (pa_cons he.pe pa_nil hs) hbase hfew hline hs) hsw, ss_ext he.se⟩
/-! ### x in a tuple of texts -/
def bInT : D → D → (D → Prop) → Prop := fun d e k => ∃ x es ws, d = .str x ∧ e = .tup es ∧ isStrs es = some ws ∧ k (.bl (decide (x ∈ ws)))
theorem in_strs (x : Str) : ∀ ws : List Str, inV (V.str x) (ws.map V.str) = decide (x ∈ ws)
  | [] => by simp [inV]
  | w :: ws => by
    have ih := in_strs x ws
    unfold inV at ih ⊢
    rw [List.map_cons, List.any_cons, ih]
    have : eqV (V.str w) (V.str x) = decide (w = x) := by
      show (w == x) = decide (w = x)
      by_cases h : w = x <;> simp [h]
    rw [this]
    by_cases h : x = w
    · subst h; simp
    · simp [h, Ne.symm h]
theorem flat_strs : ∀ ws : List Str, (ws.map V.str).all flatV = true
  | [] => rfl
  | w :: ws => by rw [List.map_cons, List.all_cons, flat_strs ws]; rfl
theorem rb_inT {K : Frag} : RB K W (rIn K false) bInT := fun p S H x y d e Q post st r1 r2 ⟨w, es, ws, e1, e2, hs, q⟩ k => by
  subst e1 e2
  obtain rfl : x = V.str w := r1
  unfold DL.R at r2
  obtain ⟨a, xs, rfl, h1, h2⟩ := r2
  rw [RA.strs h2 hs] at h1
  refine ⟨a, ws.map V.str, rfl, .inr (Ex.t st.ex h1), rfl, flat_strs ws, ?_⟩
  rw [if_neg (by decide), in_strs]
  exact k _ _ S H q (Grow.refl st) rfl
theorem op_inTK (K : Frag) {X : Cx} (hK : X.K = K := by rfl) : OpR X (compareOp .In) (rIn K false) := by
  subst hK
  exact op_in_seq
/-! ### a constant that is a tuple of texts -/
structure TupC (K : Frag) (mg : Str → Option Value) (x : Str) (ws : List Str) : Prop where
  ex : ∃ a, mg x = some (.ref a) ∧ ∀ H, SqT K H a (ws.map V.str)
theorem TupC.of {K : Frag} {mg : Str → Option Value} {x : Str} {ws : List Str} {a : Addr} {c : Value} {od : Option Addr} {its : Array Value} {n : Nat} {sl : Array (Option Value)} (hm : mg x = some (.ref a)) (lk : K.lookup a = some ⟨c, od, .seq its n, sl⟩) (hc : c = .type "tuple") (hl : decide (its.size ≤ sizeLine) = true) (hr : He.relAll (ws.map V.str) its.toList = true) : TupC K mg x ws :=
  ⟨a, hm, fun H => .inr ⟨_, its, n, lk, hc, rfl, of_decide_eq_true hl, He.relAll_ok hr⟩⟩
theorem ra_strC {K : Frag} {p : Addr} {S : Hp} : ∀ ws : List Str, RA K W p S (ws.map V.str) (ws.map D.str)
  | [] => RA.nil
  | w :: ws => RA.cons (by unfold DL.R; rfl) (ra_strC ws)
def tGT (mg : Str → Option Value) (x : Str) : TE := fun _ H Q => ∃ a, mg x = some (.ref a) ∧ Q (.ref a) H
theorem pd_gtup {mg : Str → Option Value} {ws : List Str} (h : TupC X.K mg x ws) (hg : Gl X x := by rfl) (hX : X.mg = mg := by rfl) (hd : (x == ("__debug__" : Str)) = false := by decide) : PD X W E (.Name x p) (tGT mg x) (dC (.tup (ws.map D.str))) := by
  subst hX
  obtain ⟨a, hm, ht⟩ := h.ex
  refine ⟨⟨fun pins s σ H Q I ⟨a', h1, q⟩ => ?_⟩, fun p S H σ env xp st ev xo Q post q k => ⟨a, hm, k _ _ S H q (Grow.refl st) ?_⟩⟩
  · exact (pe_glob (v := V.ref a') hg h1 rfl hd).run pins s σ H Q I q
  · unfold DL.R
    exact ⟨a, ws.map V.str, rfl, ht S, ra_strC ws⟩
/-! ### dicts whose keys are texts -/
abbrev DP := SEnv → XP → (List (Key × D) → Prop) → Prop
def SP (K : Frag) (W : Wc) (E : XK) (trs : List (TE × TE)) (dp : DP) : Prop :=
  ∀ p S H σ env xp, Stt W p S H → Ev K W p S H σ env → XOk K W p S H xp E → ∀ (Q : List (V × V) → Hp → Prop) (post : List (Key × D) → Prop), dp env xp post →
    (∀ kvs ks S' H', post ks → Grow W p S H S' H' → RK K W p S' kvs ks → Q (kvs.map fun kv => (kV kv.1, kv.2)) H') → tPairs trs σ H Q
structure PDP (X : Cx) (W : Wc) (E : XK) (pos : Pos) (keys : List (Option Expr)) (values : List Expr) (trs : List (TE × TE)) (dp : DP) : Prop where
  pe : PPs X pos keys values trs
  se : SP X.K W E trs dp
def dpNil : DP := fun _ _ post => post []
def dpCons (w : Str) (de : DE) (dp : DP) : DP := fun env xp post => de env xp fun d => dp env xp fun ks => post ((.inr w, d) :: ks)
theorem pdp_nil : PDP X W E pos [] [] [] dpNil := ⟨pps_nil, fun p S H σ env xp st ev xo Q post q k => k [] [] S H q (Grow.refl st) (by unfold RK; rfl)⟩
theorem pdp_cons {w : Str} {j : Nat} {v : Expr} {ks : List (Option Expr)} {vs : List Expr} {trs : List (TE × TE)} {dp : DP} (hv : PD X W E v te de) (hr : PDP X W E pos ks vs trs dp) :
    PDP X W E pos (some (.Constant (.str w) j p) :: ks) (v :: vs) ((tC (.str w), te) :: trs) (dpCons w de dp) :=
  ⟨pps_cons pe_str hv.pe hr.pe, fun p S H σ env xp st ev xo Q post q k => by
    show te σ H fun y H2 => tPairs trs σ H2 fun ps H3 => Q ((V.str w, y) :: ps) H3
    refine hv.se p S H σ env xp st ev xo _ _ q fun y d S1 H1 q1 g1 r1 => ?_
    refine hr.se p S1 H1 σ env xp g1.st (ev.mono g1) (xo.mono g1) _ _ q1 fun kvs ks' S2 H2 q2 g2 r2 => ?_
    have := k ((.inr w, y) :: kvs) ((.inr w, d) :: ks') S2 H2 q2 (g1.trans g2) (by unfold RK; exact ⟨y, kvs, rfl, R.mono g2.ex _ _ r1, r2⟩)
    exact this⟩
theorem RK.keys {K : Frag} {p : Addr} {S : Hp} : ∀ {ks : List (Key × D)} {kvs : List (Key × V)}, RK K W p S kvs ks → kvs.map (·.1) = ks.map (·.1)
  | [], kvs, h => by unfold RK at h; subst h; rfl
  | (n, d) :: ks, kvs, h => by
    unfold RK at h
    obtain ⟨y, ys, rfl, h1, h2⟩ := h
    simp [RK.keys h2]
theorem valV_out {k : Key} : ∀ {kvs : List (Key × V)}, k ∉ kvs.map (·.1) → valV kvs k = none
  | [], _ => rfl
  | (n, v) :: kvs, h => by
    simp only [List.map_cons, List.mem_cons, not_or] at h
    rw [valV_neg (by exact fun z => h.1 z.symm)]
    exact valV_out h.2
theorem merge_new : ∀ (more acc : List (Key × V)), ((acc ++ more).map (·.1)).Nodup → mergeK acc more = acc ++ more
  | [], acc, _ => by simp [mergeK]
  | (n, v) :: more, acc, h => by
    show mergeK (putK acc n v) more = _
    have hn : n ∉ acc.map (·.1) := fun z => by
      rw [List.map_append] at h
      exact (List.nodup_append.mp h).2.2 n z n (by simp) rfl
    rw [putK_new v (valV_out hn)]
    rw [merge_new more (acc ++ [(n, v)]) (by simpa using h)]
    simp
def dDisp (dp : DP) : DE := fun env xp post => dp env xp fun ks => ks ≠ [] ∧ ks.length ≤ 15 ∧ (ks.map (·.1)).Nodup ∧ post (.dct ks)
theorem pd_disp {keys : List (Option Expr)} {values : List Expr} {trs : List (TE × TE)} {dp : DP} (h : PDP X W E pos keys values trs dp) (hall : keys.all (·.isSome) = true := by rfl) (hl : keys.length = values.length := by rfl) (h0 : keys ≠ [] := by nofun)
    (h15 : keys.length ≤ 15 := by decide) : PD X W E (.Dict keys values pos) (tFrz (tDisp trs)) (dDisp dp) :=
  ⟨pe_frz (pe_disp h.pe hall hl h0 h15), fun p S H σ env xp st ev xo Q post q k a ha => by
    have g0 := Grow.hide (o := .dK []) st ha
    have hp : a ≠ p := by
      obtain ⟨o, e, _⟩ := st.src
      exact fun z => by rw [z, e] at ha; cases ha
    have hS := st.none ha
    refine h.se p S _ σ env xp g0.st (ev.mono g0) (xo.mono g0) _ _ q fun kvs ks S2 H2 ⟨n0, n15, nd, q2⟩ g2 r2 => ?_
    have hH2 := g2.keep a _ hp (upd_same (H := H) (a := a) (o := HO.dK []))
    have hS2 := g2.fr a (by rw [upd_same]; simp) hS
    have hk := RK.keys r2
    refine ⟨hH2, kvs, rfl, by have := congrArg List.length hk; simp at this; omega, ?_⟩
    rw [merge_new kvs [] (by rw [List.nil_append, hk]; exact nd), List.nil_append]
    refine ⟨a, kvs, rfl, upd_same, fun od => ?_⟩
    rw [upd_upd]
    have ex := Ex.new (o := HO.frz od (.dK kvs)) hS2
    refine k _ _ _ _ q2 ((g0.trans g2).frz ha hp hS2 hH2) ?_
    unfold DL.R
    exact ⟨n0, a, kvs, rfl, ⟨od, upd_same⟩, RK.mono ex _ _ r2⟩⟩
/-- what stands at a key -/
def valKD (ks : List (Key × D)) (k : Key) : Option D := (ks.find? fun kv => decide (kv.1 = k)).map (·.2)
theorem RK.val {K : Frag} {p : Addr} {S : Hp} {k : Key} {d : D} : ∀ {ks : List (Key × D)} {kvs : List (Key × V)}, RK K W p S kvs ks → valKD ks k = some d → ∃ v, valV kvs k = some v ∧ DL.R K W p S v d
  | [], kvs, h, e => by cases e
  | (n, d0) :: ks, kvs, h, e => by
    unfold RK at h
    obtain ⟨y, ys, rfl, h1, h2⟩ := h
    by_cases hn : n = k
    · have : valKD ((n, d0) :: ks) k = some d0 := by simp [valKD, List.find?_cons, hn]
      rw [this] at e
      cases e
      exact ⟨y, valV_pos hn, h1⟩
    · have : valKD ((n, d0) :: ks) k = valKD ks k := by simp [valKD, List.find?_cons, hn]
      rw [this] at e
      obtain ⟨v, e1, r⟩ := RK.val h2 e
      exact ⟨v, by rw [valV_neg hn]; exact e1, r⟩
def dDGet (dd dk : DE) : DE := fun env xp post => dd env xp fun d => dk env xp fun k => ∃ ks w v, d = .dct ks ∧ k = .str w ∧ valKD ks (.inr w) = some v ∧ post v
theorem pd_dget (hu : X.A.units + 1 < cLine) (ho : PD X W E o td dd) (hi : PD X W E e ty dk) (hs : NoSl e := by exact fun _ _ => rfl) : PD X W E (.Subscript o e pos) (tDGet td ty) (dDGet dd dk) :=
  ⟨pe_dget hu ho.pe hi.pe hs, fun p S H σ env xp st ev xo Q post q k => ho.se p S H σ env xp st ev xo _ _ q fun x d S1 H1 q1 g1 r1 =>
    hi.se p S1 H1 σ env xp g1.st (ev.mono g1) (xo.mono g1) _ _ q1 fun y d2 S2 H2 ⟨ks, w, v, e1, e2, hv, q2⟩ g2 r2 => by
      subst e1 e2
      obtain rfl : y = V.str w := r2
      have r3 := R.mono g2.ex _ _ r1
      unfold DL.R at r3
      obtain ⟨_, a, kvs, rfl, h1, h2⟩ := r3
      obtain ⟨z, e3, rz⟩ := RK.val h2 hv
      exact ⟨a, z, rfl, .inl ⟨kvs, .inr w, g2.st.ex.rd h1.rd, rfl, e3.symm⟩, k _ _ S2 H2 q2 (g1.trans g2) rz⟩⟩
end
end DL

set_option Elab.async false
set_option linter.all false
set_option maxRecDepth 100000
set_option maxHeartbeats 1000000
/-! an __init__ that sets one field and then runs statements; keyword-only parameters -/
namespace DL
open PySem PySem.W PySem.Calls PySem.Spec PyProof PyProof.Rows L2
/-- as spI, but the object is known at the end -/
def spI2 (K : PySem.W.Frag) (W : Wc) (c : Nat) (f : DF) : Sp := fun vs H Q E => ∃ (p : Addr) (S H0 : Hp) (a dx C : Addr) (ws : List V) (ds : List D) (post : D → Prop) (xp : XP), vs = .ref a :: ws ∧ W.M c = some C ∧ Stt W p S H0 ∧ H0 a = none ∧ H0 dx = none ∧ dx ≠ a ∧
  H = upd (upd H0 dx (.own a)) a (.ins C dx []) ∧ RA K W p S ws ds ∧ f ds xp post ∧ (∀ d S' H', post d → Grow W p S H0 S' H' → DL.R K W p S' (.ref a) d → Q .non H') ∧ XOk K W p S H0 xp E
def SIB2 (K : PySem.W.Frag) (W : Wc) (E : XK) (c : Nat) (ts : TS) (db : DBI) : Prop := ∀ (p a dx C : Addr) (S0 H0 S H : Hp) (σ : L2.St) (env : SEnv) (xp : XP), W.M c = some C → Cls K C → a ≠ p → H0 a = none → S a = none → H a = some (.ins C dx []) → Sv K W p S0 H0 S H σ env → XOkS K W p S0 H0 S xp E →
  ∀ (post : D → Prop) (EE : Ends), db a post xp env → (∀ d S' H' σ', post d → Grow W p S0 H0 S' H' → DL.R K W p S' (.ref a) d → EE.nx σ' H') → ts EE σ H
def bSetRun (c : Nat) (f : Str) (de : DE) (ds : DS) : DBI := fun a post xp env => env[0]? = some (.is a) ∧ de env xp fun d => ds { nx := fun _ => post (.obj c [(f, d)]), rt := fun _ => False } xp (env.set 0 (.sh (.obj c [(f, d)])))
theorem sib2_setrun {K : PySem.W.Frag} {W : Wc} {E : XK} {c : Nat} {f : Str} {tv : TE} {de : DE} {us : TS} {ds : DS} (hn : ∀ C, W.M c = some C → NoAttr K C f) (he : SE K W E tv de) (hr : SS K W E us ds) :
    SIB2 K W E c (tSeq (sFld K (tVar 0) tv f) us) (bSetRun c f de ds) := fun p a dx C S0 H0 S H σ env xp hM cl hp hA hS hH sv xo post EE ⟨h0, q⟩ k =>
  he p S H σ env xp sv.st sv.ev (sv.xo xo) _ _ q fun y d S1 H1 q1 g1 ry => by
    obtain ⟨o, e0, e1⟩ := sv.ev.at_ 0 _ h0
    obtain rfl : o = some (V.ref a) := e1
    have hH1 := g1.keep a _ hp hH
    have hS1 := g1.fr a (by rw [hH]; simp) hS
    refine ⟨V.ref a, e0, a, C, dx, [], rfl, hH1, cl, hn C hM, by decide, ?_⟩
    have ga := sv.g.trans g1
    have ex := Ex.new (o := .ins C dx [(f, y)]) hS1
    have rob : DL.R K W p (upd S1 a (.ins C dx [(f, y)])) (.ref a) (.obj c [(f, d)]) := by
      unfold DL.R
      refine ⟨a, C, dx, [(f, y)], rfl, upd_same, hM, ?_⟩
      unfold RF
      exact ⟨y, [], rfl, R.mono ex _ _ ry, by unfold RF; rfl⟩
    have st2 : Stt W p (upd S1 a (.ins C dx [(f, y)])) (upd H1 a (.ins C dx [(f, y)])) := by
      refine ⟨tb_tell (tabs_put ga.st.tabs hH1 nt_ins) nofun, fun b u z => ?_, ?_, ?_⟩
      · by_cases hb : b = a
        · subst hb; rw [upd_same] at z ⊢; exact z
        · rw [upd_ne hb] at z ⊢; exact ga.st.ex b u z
      · rw [upd_ne (Ne.symm hp)]; exact ga.st.hid
      · obtain ⟨o', e', s⟩ := ga.st.src
        exact ⟨o', by rw [upd_ne (Ne.symm hp)]; exact e', W.mono _ _ _ ex s⟩
    have g2 : Grow W p S0 H0 (upd S1 a (.ins C dx [(f, y)])) (upd H1 a (.ins C dx [(f, y)])) := by
      refine ⟨ga.ex.trans ex, st2, fun b o n z => ?_, fun b n z => ?_⟩
      · have nb : b ≠ a := fun w => by rw [w, hA] at z; cases z
        rw [upd_ne nb]; exact ga.kp b o n z
      · have nb : b ≠ a := fun w => n (by rw [w, hA])
        rw [upd_ne nb]; exact ga.fr b n z
    have ev1 := sv.ev.mono g1
    have ev2 : Ev K W p (upd S1 a (.ins C dx [(f, y)])) (upd H1 a (.ins C dx [(f, y)])) σ (env.set 0 (.sh (.obj c [(f, d)]))) := by
      refine ⟨fun i s e => ?_, fun i j as bs n e1 e2 => ?_⟩
      · rcases set_get e with ⟨rfl, rfl, _⟩ | ⟨hj, e'⟩
        · exact ⟨_, e0, V.ref a, rfl, rob⟩
        · obtain ⟨o, h1, h2⟩ := ev1.at_ i s e'
          refine ⟨o, h1, ?_⟩
          cases s with
          | un => trivial
          | sh d => exact let ⟨v, e, r⟩ := h2; ⟨v, e, R.mono ex _ _ r⟩
          | is b => exact h2
          | ow ys =>
            obtain ⟨b, vs, z1, z2, z3, z4, z5⟩ := h2
            have nb : b ≠ a := fun w => by rw [w, hH1] at z4; cases z4
            exact ⟨b, vs, z1, by rw [upd_ne nb]; exact z2, z3, by rw [upd_ne nb]; exact z4, RA.mono ex _ _ z5⟩
          | ex b d c fs =>
            obtain ⟨z1, gs2, z2, z3, z4⟩ := h2
            have nb : d ≠ a := fun w => by rw [w, hH1] at z2; cases z2
            exact ⟨z1, gs2, by rw [upd_ne nb]; exact z2, z3, RF.mono ex _ _ z4⟩
      · rcases set_get e1 with ⟨_, z, _⟩ | ⟨hj, e1'⟩
        · cases z
        · rcases set_get e2 with ⟨_, z, _⟩ | ⟨hk, e2'⟩
          · cases z
          · exact ev1.dis i j as bs n e1' e2'
    have sv2 : Sv K W p S0 H0 (upd S1 a (.ins C dx [(f, y)])) (upd H1 a (.ins C dx [(f, y)])) σ (env.set 0 (.sh (.obj c [(f, d)]))) := by
      refine ⟨g2, ev2, fun i ds b e1 e2 => ?_⟩
      rcases set_get e1 with ⟨_, z, _⟩ | ⟨hj, e1'⟩
      · cases z
      · exact sv.own i ds b e1' e2
    exact hr p S0 H0 _ _ σ _ xp sv2 (xo.ex (g1.ex.trans ex)) { EE with nx := EE.nx } _ q1 ⟨fun S' H' σ' env' x sv' q' => k _ S' H' σ' q' sv'.g (R.mono x _ _ rob), fun _ _ _ _ _ _ _ z => z.elim, fun _ _ _ _ _ _ z => z.elim, fun _ _ _ _ _ _ z => z.elim⟩
structure PIB2 (X : Cx) (K : PySem.W.Frag) (W : Wc) (E : XK) (c : Nat) (sts : List Stmt) (ts : TS) (r : DBI) : Prop where
  pe : PSs X sts ts
  se : SIB2 K W E c ts r
section
variable {X : Cx} {W : Wc} {E : XK} {K : PySem.W.Frag} {c : Nat} {rest : List Stmt} {us : TS} {ds : DS} {e : Expr} {tv : TE} {de : DE} {x f : Str} {np pos pos' : Pos}
theorem pib2_setrun (hn : FldOk K W c f) (he : PD X W E e tv de) (h : PDSs X W E rest us ds) (hK : X.K = K := by rfl) (hN : X.N[0]? = some x := by rfl) (hv : Vis X.env.scope x := by first | exact Or.inl rfl | exact Or.inr (Or.inl rfl) | exact Or.inr (Or.inr rfl))
    (hs : swapsWith e (some (.Attribute (.Name x np) f pos')) pos.line X.env = pure false := by rfl) (hd : (x == ("__debug__" : Str)) = false := by decide) (hcd : (x == ("__classdict__" : Str)) = false := by decide) :
    PIB2 X K W E c (.Assign [.Attribute (.Name x np) f pos'] e pos :: rest) (tSeq (sFld K (tVar 0) tv f) us) (bSetRun c f de ds) := by
  subst hK
  refine ⟨pss_cons (ps_fld (pe_var hN hv hd hcd) he.pe hs) h.pe, sib2_setrun (fun C hM => ?_) he.se h.se⟩
  obtain ⟨C', h1, _, n⟩ := hn.ex
  obtain rfl : C' = C := Option.some.inj (h1.symm.trans hM)
  exact n
end
section
variable {P : Program} {w : World} {K : PySem.W.Frag} {W : Wc} {mg : Str → Option Value} {base : Heap}
theorem okI2 {x qual n0 : Str} {st : Stmt} {f : Addr} {fd : FuncData} {N ps : List Str} {k c : Nat} {body : DBI} (F : Fn2 K x qual st f fd) (Sc : FnScope (n0 :: N) (n0 :: ps) (defScope st)) (hcl : ∀ C, W.M c = some C → Cls K C)
    (hb : ∀ (cdv : Value) (A : Around) (outer : List PySem.Env) (s : Shared) (H : Hp) (E : XK), Room k (A.deeper (PyProof.Rows.envOfC qual (defScope st) s.heap.objs.size f cdv)) →
      ∃ ts, PIB2 (cxOf (L2.CX P w) P w K mg base (n0 :: N) qual (defScope st) f cdv A outer s H E) K W E c (defBody st) ts body) : FnOk P w K mg base (L2.CX P w) (k + 1) f fd (n0 :: ps) (spI2 K W c (runI (N.length + 1) ps.length body)) := by
  obtain ⟨oc, od, dV, kV, doc, pm, an, cdv, ct, osl, rfl, lk, hcd⟩ := F.ex
  refine fn_of lk hcd Sc (fun vs H Q E h => ?_) (fun A outer s H vs Q E hr h => ?_)
  · obtain ⟨p, S, H0, a, dx, C, ws, ds, post, xp, rfl, _, _, _, _, _, _, r, ⟨h1, _⟩, _⟩ := h
    simp [RA.length r, h1]
  · obtain ⟨p, S, H0, a, dx, C, ws, ds, post, xp, rfl, hM, stt, ha, hdx, hne, rfl, r, ⟨h1, q⟩, k1, xo⟩ := h
    obtain ⟨ts, pe, se⟩ := hb cdv A outer s _ E hr
    refine ⟨ts, pe, ?_⟩
    have g1 := Grow.hide (o := .own a) stt hdx
    have ha2 : (upd H0 dx (.own a)) a = none := by rw [upd_ne (Ne.symm hne)]; exact ha
    have g2 := g1.trans (Grow.hide (o := .ins C dx []) g1.st ha2)
    have hp : a ≠ p := by
      obtain ⟨o, e, _⟩ := stt.src
      exact fun z => by rw [← z, ha] at e; cases e
    have hS : S a = none := by
      cases z : S a with
      | none => rfl
      | some u => rw [stt.ex a u z] at ha; cases ha
    have es : L2.start (n0 :: N) (V.ref a :: ws) = some (V.ref a) :: L2.start N ws := by simp [L2.start]
    rw [es]
    have ev0 : Ev K W p S (upd (upd H0 dx (.own a)) a (.ins C dx [])) (L2.start N ws) (ds.map Sl.sh ++ List.replicate (N.length - ws.length) .un) := r.begins
    rw [RA.length r, h1] at ev0
    refine se p a dx C S H0 S _ _ _ xp hM (hcl C hM) hp ha hS upd_same ⟨g2, ev0.cons, fun i as b e1 e2 => ?_⟩ (XOk.s xo) post _ (by simpa using q a) fun d S' H' σ' q2 b2 r2 => k1 d S' H' q2 b2 r2
    exfalso
    cases i with
    | zero => exact nomatch (show some (Sl.is a) = some (.ow as) by simpa using e1)
    | succ i =>
      have e1' : (ds.map Sl.sh ++ List.replicate (N.length - ps.length) .un)[i]? = some (.ow as) := by simpa using e1
      by_cases hi : i < ds.length
      · rw [List.getElem?_append_left (by simpa using hi), List.getElem?_map] at e1'
        cases hd : ds[i]? with
        | none => rw [hd] at e1'; cases e1'
        | some d => rw [hd] at e1'; cases e1'
      · rw [List.getElem?_append_right (by simpa using hi), List.getElem?_replicate] at e1'
        split at e1' <;> cases e1'
end
/-! ### C(k = e, ..) -/
section
variable (P : Program) (w : World) (K : PySem.W.Frag) (W : Wc) (mg : Str → Option Value) (base : Heap)
/-- C(k = e, ..) with these keywords, all the parameters in their order -/
structure NewKOk (k : Nat) (x : Str) (c : Nat) (ks : List Str) (df : DF) : Prop where
  ex : ∃ (C f : Addr) (fd : FuncData) (ps : List Str), W.M c = some C ∧ Mk K C f ∧ FnOk P w K mg base (L2.CX P w) k f fd ps (spI2 K W c df) ∧ mg x = some (.ref C) ∧ KBn K fd ps 1 ks (fun us ws => us ++ ws) (fun vs zs => vs ++ zs)
end
def dMakeK (n : Nat) (df : DF) (dr : DA) : DE := fun env xp post => dr env xp fun ds => ds.length = n ∧ df ds xp post
structure PDK (X : Cx) (W : Wc) (E : XK) (kws : List Keyword) (tk : TA) (dr : DA) : Prop where
  pe : PK X kws tk
  se : SA X.K W E tk dr
section
variable {X : Cx} {W : Wc} {E : XK} {K : PySem.W.Frag} {P : Program} {w : World} {mg : Str → Option Value} {base : Heap} {c j k : Nat} {e : Expr} {te : TE} {de : DE} {kws : List Keyword} {tk : TA} {dr : DA} {nm : Option Str} {p pos kpos : Pos} {x : Str} {ks : List Str} {df : DF}
theorem pdk_nil : PDK X W E [] tNil dNil := ⟨pk_nil, sa_nil⟩
theorem pdk_cons (ha : PD X W E e te de) (hr : PDK X W E kws tk dr) : PDK X W E (⟨nm, e, kpos⟩ :: kws) (tCons te tk) (dCons de dr) := ⟨pk_cons ha.pe hr.pe, sa_cons ha.se hr.se⟩
theorem se_makeK {C : Addr} {n : Nat} (hM : W.M c = some C) (h : SA K W E tk dr) : SE K W E (tMakeK C 0 n (spI2 K W c df) (fun vs zs => vs ++ zs) E tNil tk) (dMakeK n df dr) :=
  fun p S H σ env xp st ev xo Q post q k => h p S H σ env xp st ev xo _ _ q fun vs ds S1 H1 ⟨hl, q1⟩ g1 r1 => ⟨rfl, by rw [RA.length r1]; exact hl, fun x dx hx hdx hne =>
    ⟨p, S1, H1, x, dx, C, vs, ds, post, xp, rfl, hM, g1.st, hx, hdx, hne, rfl, r1, q1, fun d S2 H2 q2 g2 r2 => ⟨rfl, k _ d S2 H2 q2 (g1.trans g2) r2⟩, xo.mono g1⟩⟩
theorem pd_newK (F : NewKOk P w K W mg base j x c ks df) (hx : Passes (L2.CX X.prog X.w) X E) (ha : PDK X W E kws tk dr)
    (hX : X.prog = P ∧ X.w = w ∧ X.K = K ∧ X.mg = mg ∧ X.base = base := by exact ⟨rfl, rfl, rfl, rfl, rfl⟩) (hr : Room k X.A := by assumption) (hj : j + 1 ≤ k := by decide) (hg : Gl X x := by rfl)
    (hall : (backToKw pos (keywordEach kws X.env)).all (·.1.isSome) = true := by rfl) (hks : (backToKw pos (keywordEach kws X.env)).filterMap (·.1) = ks := by rfl) (hdb : (x == ("__debug__" : Str)) = false := by decide)
    (hpl : ((backTo pos (starEach [] X.env)).any (·.1) || (backToKw pos (keywordEach kws X.env)).any (·.1.isNone)) = false := by rfl) :
    PD X W E (.Call (.Name x p) [] kws pos) (tC1 W c fun C => tMakeK C 0 ks.length (spI2 K W c df) (fun vs zs => vs ++ zs) E tNil tk) (dMakeK ks.length df dr) := by
  obtain ⟨rfl, rfl, rfl, rfl, rfl⟩ := hX
  obtain ⟨C, f, fd, ps, hM, M, F, hm, hb⟩ := F.ex
  exact pd_c1 hM ⟨pe_makeK0 M F (hr.mono hj) hg hm hb hx ha.pe hall hks hdb hpl, se_makeK hM ha.se⟩
end
/-- all the keyword-only parameters are given -/
theorem kbn_all {K : Frag} {fd : FuncData} {ps ks : List Str} (h : ∀ us ws : List Value, us.length = 1 → ws.length = ks.length → bindArgs fd ⟨us, ks.zip ws⟩ = pure (ps.zip (us ++ ws))) : KBn K fd ps 1 ks (fun us ws => us ++ ws) (fun vs zs => vs ++ zs) :=
  ⟨fun s us ws _ l1 l2 => BindsTo.of_looks fun M => by rw [h us ws l1 l2]; exact fun _ _ _ _ _ q => wpAny_pure q, fun r1 r2 => r1.append r2⟩
end DL

set_option Elab.async false
set_option linter.all false
set_option maxRecDepth 100000
set_option maxHeartbeats 1000000
/-! steps of readings, general in the defs that are called: the kernel is never asked to unfold a def of the text -/
namespace DL
open PySem L2
section
variable {f : DF} {env : SEnv} {xp : XP} {post : D → Prop} {i j k l m : Nat} {a b c d e : D} {DD : DEnds} {x y : DE} {s r : DS}
theorem dNext_E : dNext DD xp env = DD.nx env := rfl
theorem call1 (h1 : env[i]? = some (.sh a)) (q : f [a] xp post) : dCall f [] (dCons (dVar i) dNil) env xp post := by
  simp only [dCall, dCons, dNil, dVar, h1, List.append_nil]
  exact q
theorem call2 (h1 : env[i]? = some (.sh a)) (h2 : env[j]? = some (.sh b)) (q : f [a, b] xp post) : dCall f [] (dCons (dVar i) (dCons (dVar j) dNil)) env xp post := by
  simp only [dCall, dCons, dNil, dVar, h1, h2, List.append_nil]
  exact q
theorem call3 (h1 : env[i]? = some (.sh a)) (h2 : env[j]? = some (.sh b)) (h3 : env[k]? = some (.sh c)) (q : f [a, b, c] xp post) : dCall f [] (dCons (dVar i) (dCons (dVar j) (dCons (dVar k) dNil))) env xp post := by
  simp only [dCall, dCons, dNil, dVar, h1, h2, h3, List.append_nil]
  exact q
theorem call4 (h1 : env[i]? = some (.sh a)) (h2 : env[j]? = some (.sh b)) (h3 : env[k]? = some (.sh c)) (h4 : env[l]? = some (.sh d)) (q : f [a, b, c, d] xp post) : dCall f [] (dCons (dVar i) (dCons (dVar j) (dCons (dVar k) (dCons (dVar l) dNil)))) env xp post := by
  simp only [dCall, dCons, dNil, dVar, h1, h2, h3, h4, List.append_nil]
  exact q
theorem call5 (h1 : env[i]? = some (.sh a)) (h2 : env[j]? = some (.sh b)) (h3 : env[k]? = some (.sh c)) (h4 : env[l]? = some (.sh d)) (h5 : env[m]? = some (.sh e)) (q : f [a, b, c, d, e] xp post) : dCall f [] (dCons (dVar i) (dCons (dVar j) (dCons (dVar k) (dCons (dVar l) (dCons (dVar m) dNil))))) env xp post := by
  simp only [dCall, dCons, dNil, dVar, h1, h2, h3, h4, h5, List.append_nil]
  exact q
/-- arguments of any kind -/
theorem callA {dr : DA} (h : dr env xp fun ds => f ds xp post) : dCall f [] dr env xp post := by
  unfold dCall
  simpa only [List.append_nil] using h
theorem var_go (h : env[i]? = some (.sh a)) (q : post a) : dVar i env xp post := by
  unfold dVar
  rw [h]; exact q
theorem cons_go {dr : DA} {p : List D → Prop} (h : x env xp fun d => dr env xp fun ds => p (d :: ds)) : dCons x dr env xp p := h
theorem nil_go {p : List D → Prop} (h : p []) : dNil env xp p := h
theorem lst_go {dr : DA} (h : dr env xp fun ds => post (.lst ds)) : dLst dr env xp post := h
theorem tup_go {dr : DA} (h : dr env xp fun ds => ds.length ≤ 100000 ∧ post (.tup ds)) : dTup dr env xp post := h
theorem safe_sh {env : SEnv} {i : Nat} {d : D} (h : env[i]? = some (.sh d)) (n : ntD d = true) : (safe env)[i]? = some (.sh d) := by
  rw [safe_at, h]; exact congrArg some (safe1_sh n)
theorem seq_go (h : s { DD with nx := fun env' => r DD xp env' } xp env) : dSeq s r DD xp env := h
theorem asg_go (h : x env xp fun d => DD.nx (env.set i (.sh d))) : dAsg x (dgName i) DD xp env := h
theorem drop_go (h : x env xp fun _ => DD.nx env) : dDrop x DD xp env := h
theorem ret_go (h : x env xp DD.rt) : dRet x DD xp env := h
theorem op_go {bo : D → D → (D → Prop) → Prop} (h : x env xp fun d => y env xp fun e => bo d e post) : dOp bo x y env xp post := h
theorem tupL_go (h : x env xp fun d => ∃ ds, (d = .lst ds ∨ d = .tup ds) ∧ post (.tup ds)) : dTupL x env xp post := h
/-- if x != y: return False, and they are equal -/
theorem ne_go (hx : ∀ post, post a → x env xp post) (hy : ∀ post, post b → y env xp post) (o1 : pyOk a) (o2 : pyOk b) (he : eqD a b = true) (q : DD.nx env) : dIfS (dTest (dOp bNe x y)) (dRet (dC (.bl false))) dNext DD xp env := by
  unfold dIfS dTest dOp
  refine hx _ (hy _ ⟨o1, o2, ?_⟩)
  rw [he]
  exact q
theorem ne_val (hx : ∀ post, post a → x env xp post) (hy : ∀ post, post a → y env xp post) (o1 : pyOk a) (he : eqD a a = true) (q : DD.nx env) : dIfS (dTest (dOp bNe x y)) (dRet (dC (.bl false))) dNext DD xp env := ne_go hx hy o1 o1 he q
theorem ifT_go {t : DT} (h : ∀ p : Bool → Prop, p true → t env xp p) (q : s DD xp env) : dIfS t s r DD xp env := by
  unfold dIfS
  exact h _ (by rw [if_pos rfl]; exact q)
theorem ifF_go {t : DT} (h : ∀ p : Bool → Prop, p false → t env xp p) (q : r DD xp env) : dIfS t s r DD xp env := by
  unfold dIfS
  exact h _ (by rw [if_neg (by decide)]; exact q)
theorem for_cons {ds : List D} (h : s { DD with nx := fun env2 => dforL (dgName i) s ds DD xp env2, ct := fun env2 => dforL (dgName i) s ds DD xp env2, bk := DD.nx } xp (env.set i (.sh d))) : dforL (dgName i) s (d :: ds) DD xp env := h
theorem for_nil {dg : DG} (h : DD.nx env) : dforL dg s [] DD xp env := h
theorem next_go (q : DD.nx env) : dNext DD xp env := q
/-- `if t: return False`, and t is false -/
theorem ifN_go {t : DT} (h : ∀ p : Bool → Prop, p false → t env xp p) (q : DD.nx env) : dIfS t s dNext DD xp env := ifF_go h q
end
end DL

set_option Elab.async false
set_option linter.all false
set_option maxRecDepth 100000
set_option maxHeartbeats 4000000
/-! draws of the second kind: a pool of two numbers for each of the first numbers of the script -/
namespace DL
open PySem PySem.W PySem.Calls PyProof.Rows L2
section
variable {P : Program} {w : World} {K : Frag} {W : Wc} {mg : Str → Option Value} {base : Heap}
/-! ### the pool is made -/
def spPool (K : Frag) : Sp := fun vs H Q _ => ∃ (a : Addr) (ns : List Int) (k : Int), vs = [.ref a, .int k] ∧ SqL K H a (ns.map V.int) ∧ 0 ≤ k ∧ k ≤ 1000 ∧ ∀ (q : Addr) (g s : Int), H q = none → 0 ≤ s → s < 2147483647 → Q (.ref q) (upd H q (.lst [.int g, .int s]))
def tLen0 (K : Frag) : TE := tCB (fun xs H Q => ∃ p ys, xs = [.ref p] ∧ (SqL K H p ys ∨ SqT K H p ys) ∧ Q (.int ys.length) H) (tCons (tVar 0) tNil)
abbrev rPw : R2 := rI CPow fun i j => .int (i ^ j.toNat)
def tSeed : TE := tOp rM (tOp rPw (tOp rA (tOp rA (tOp rA (tOp rM (tInt (tVar 2)) (tC (.int 2147483629))) (tOp rX (tOp rX (tC (.int 104729)) (tVar 1)) (tVar 1))) (tOp rX (tC (.int 7919)) (tVar 1))) (tC (.int 11))) (tC (.int 3))) (tC (.int 2147483647))
def tPool (K : Frag) : TS :=
  tSeq (tAsg (tC (.int 0)) (gName 2))
  (tSeq (tIfS (tTest (tOp (rI0 fun i j => .bl (decide (i < j))) (tVar 1) (tLen0 K))) (tAsg (tOp (rIxL K) (tVar 0) (tVar 1)) (gName 2)) tNext)
  (tSeq (tAsg (tInt (tVar 2)) (gName 3))
  (tSeq (tIfS (tTest (tOp (rI0 fun i j => .bl (decide (i < j))) (tVar 3) tPw)) (tAsg (tC (.int 0)) (gName 3)) tNext)
  (tSeq (tAsg tSeed (gName 4))
    (tRet (tLst (tCons (tVar 3) (tCons (tInt (tVar 4)) tNil))))))))
theorem okPool {x qual : Str} {st : Stmt} {f : Addr} {fd : FuncData} {k : Nat} (F : Fun K x qual st f fd) (Sc : FnScope ["script", "k", "cell", "great", "seed"] ["script", "k"] (defScope st))
    (hb : ∀ (cdv : Value) (A : Around) (outer : List PySem.Env) (s : Shared) (H : Hp) (E : XK), PSs (cxOf (L2.CX P w) P w K mg base ["script", "k", "cell", "great", "seed"] qual (defScope st) f cdv A outer s H E) (defBody st) (tPool K)) : FnOk P w K mg base (L2.CX P w) (k + 1) f fd ["script", "k"] (spPool K) := by
  refine F.okX Sc (fun vs H Q E h => ?_) (fun cdv A outer s H vs Q E hr h => ?_)
  · obtain ⟨a, ns, k, rfl, _⟩ := h
    rfl
  · obtain ⟨a, ns, k, rfl, hs, k0, k1, kq⟩ := h
    refine ⟨_, hb cdv A outer s H E, ?_⟩
    show tPool K { nx := fun _ H' => Q .non H', rt := Q } [some (.ref a), some (.int k), none, none, none] H
    have rest : ∀ cell : Int, (tSeq (tAsg (tInt (tVar 2)) (gName 3))
        (tSeq (tIfS (tTest (tOp (rI0 fun i j => .bl (decide (i < j))) (tVar 3) tPw)) (tAsg (tC (.int 0)) (gName 3)) tNext)
        (tSeq (tAsg tSeed (gName 4)) (tRet (tLst (tCons (tVar 3) (tCons (tInt (tVar 4)) tNil))))))) { nx := fun _ H' => Q .non H', rt := Q } [some (.ref a), some (.int k), some (.int cell), none, none] H := by
      intro cell
      have fin : ∀ g : Int, (tSeq (tAsg tSeed (gName 4)) (tRet (tLst (tCons (tVar 3) (tCons (tInt (tVar 4)) tNil))))) { nx := fun _ H' => Q .non H', rt := Q } [some (.ref a), some (.int k), some (.int cell), some (.int g), none] H := by
        intro g
        refine st_seq ?_
        have m0 := mod_lt (i := cell) (m := 2147483629) (by decide)
        have kk : (104729 * k) * k ≤ (104729 * 1000) * 1000 := by
          have h1 : 104729 * k ≤ 104729 * 1000 := by omega
          exact Int.mul_le_mul h1 k1 k0 (by decide)
        have kk0 : 0 ≤ (104729 * k) * k := Int.mul_nonneg (by omega) k0
        have kx : CMul (104729 * k) k := .inl ⟨by omega, by omega⟩
        have v1 : Val tSeed [some (.ref a), some (.int k), some (.int cell), some (.int g), none] H (.int ((cell % 2147483629 + 104729 * k * k + 7919 * k + 11) ^ (3 : Int).toNat % 2147483647)) :=
          val_rem (val_I (C := CPow) (g := fun i j => .int (i ^ j.toNat)) (val_add (val_add (val_add (val_rem (val_int (val_var rfl)) val_c (by decide)) (val_mul (val_mul val_c (val_var rfl) (.inl ⟨by decide, by decide⟩)) (val_var rfl) kx)) (val_mul val_c (val_var rfl) (.inl ⟨by decide, by decide⟩))) val_c) val_c ⟨by decide, by decide, by omega⟩) val_c (by decide)
        refine st_set v1 ?_
        have m1 := mod_lt (i := (cell % 2147483629 + 104729 * k * k + 7919 * k + 11) ^ (3 : Int).toNat) (m := 2147483647) (by decide)
        exact ⟨.int g, rfl, .int _, rfl, .inl ⟨_, rfl, by show 2 ≤ sizeLine; decide, fun q hq => kq q g _ hq m1.1 m1.2⟩⟩
      refine st_seq ?_
      refine st_set (val_int (val_var rfl)) ?_
      refine st_seq ?_
      have t : Ans (tTest (tOp (rI0 fun i j => .bl (decide (i < j))) (tVar 3) tPw)) [some (.ref a), some (.int k), some (.int cell), some (.int cell), none] H (decide (cell < 1000000000000000000)) := ans_I0 (g := fun i j => decide (i < j)) (val_var rfl) val_pw
      by_cases hc : cell < 1000000000000000000
      · rw [decide_eq_true hc] at t
        exact st_yes t (st_set val_c (fin 0))
      · rw [decide_eq_false hc] at t
        exact st_no t (st_next (fin cell))
    refine st_seq ?_
    refine st_set val_c ?_
    refine st_seq ?_
    have t : Ans (tTest (tOp (rI0 fun i j => .bl (decide (i < j))) (tVar 1) (tLen0 K))) [some (.ref a), some (.int k), some (.int 0), none, none] H (decide (k < ((ns.map V.int).length : Int))) :=
      ans_I0 (g := fun i j => decide (i < j)) (val_var rfl) (fun Q q => ⟨.ref a, rfl, a, _, rfl, .inl hs, q⟩)
    by_cases hk : k < ((ns.map V.int).length : Int)
    · rw [decide_eq_true hk] at t
      rw [List.length_map] at hk
      have hj : k.toNat < ns.length := by omega
      have hcell : atI (ns.map V.int) k = some (.int (ns[k.toNat]'hj)) := at_of (j := k.toNat) (by omega) (by simp [hj])
      exact st_yes t (st_set (val_op (val_var rfl) (val_var rfl) fun Q q => ⟨a, _, k, _, rfl, rfl, hs, hcell, q⟩) (rest _))
    · rw [decide_eq_false hk] at t
      exact st_no t (st_next (rest 0))
/-! ### a draw -/
def tDraw2 (K : Frag) : TS :=
  tSeq (tIfS (tTest (tOp (rI0 fun i j => .bl (decide (j < i))) (tAt K 0) (tC (.int 0))))
    (tSeq (tAsg (tOp rM (tInt (tAt K 0)) (tVar 1)) (gName 2))
    (tSeq (tAsg (tOp (rI CDivW fun i j => .int (i / j)) (tInt (tAt K 0)) (tVar 1)) (gSub (tVar 0) (tC (.int 0)) rSetL))
      (tRet (tVar 2)))) tNext)
  (tSeq (tAsg (tOp rM (tInt (tOp rA (tOp rX (tAt K 1) (tC (.int 48271))) (tC (.int 11)))) (tC (.int 2147483647))) (gSub (tVar 0) (tC (.int 1)) rSetL))
    (tRet (tOp rM (tOp (rI CDiv fun i j => .int (i / j)) (tOp rM (tInt (tOp rX (tAt K 1) (tAt K 1))) (tC (.int 2147483629))) (tC (.int 64))) (tVar 1))))
theorem okDraw2 {x qual : Str} {st : Stmt} {f : Addr} {fd : FuncData} {k : Nat} {M : MM} (hk : M.pk = true) (F : Fun K x qual st f fd) (Sc : FnScope ["pool", "many", "digit"] ["pool", "many"] (defScope st))
    (hb : ∀ (cdv : Value) (A : Around) (outer : List PySem.Env) (s : Shared) (H : Hp) (E : XK), PSs (cxOf (L2.CX P w) P w K mg base ["pool", "many", "digit"] qual (defScope st) f cdv A outer s H E) (defBody st) (tDraw2 K)) :
    FnOk P w K mg base (L2.CX P w) (k + 1) f fd ["pool", "many"] (spD K (WcOf M) fDraw) := by
  refine FnOk.imp (sp := spDraw K M) ?_ spDraw_of
  refine F.okX Sc (fun vs H Q E h => ?_) (fun cdv A outer s H vs Q E hr h => ?_)
  · obtain ⟨p, S, n, rfl, _⟩ := h
    rfl
  · obtain ⟨p, S, n, rfl, st0, hn, hlog, k⟩ := h
    refine ⟨_, hb cdv A outer s H E, ?_⟩
    show tDraw2 K { nx := fun _ H' => Q .non H', rt := Q } [some (.ref p), some (.int n), none] H
    obtain ⟨o, ho, hsr⟩ := st0.src
    obtain ⟨g, sd, rfl, s0, s1⟩ := (SrcM.p hk).mp hsr
    refine st_seq ?_
    have t : Ans (tTest (tOp (rI0 fun i j => .bl (decide (j < i))) (tAt K 0) (tC (.int 0)))) [some (.ref p), some (.int n), none] H (decide ((0 : Int) < g)) := ans_I0 (g := fun i j => decide (j < i)) (val_at rfl ho rfl) val_c
    by_cases h2 : (0 : Int) < g
    · rw [decide_eq_true h2] at t
      refine st_yes t ?_
      refine st_seq ?_
      refine st_set (val_rem (val_int (val_at rfl ho rfl)) (val_var rfl) hn) ?_
      refine st_seq ?_
      refine st_put (k := 0) (n := 0) rfl (val_quoW (val_int (val_at rfl ho rfl)) (val_var rfl) ⟨hn, hlog⟩) ho rfl ?_
      refine st_ret (val_var rfl) ?_
      have m := mod_lt (i := g) hn
      exact k (g % n) _ m.1 m.2 (src_put st0 ((SrcM.p hk).mpr ⟨g / n, sd, rfl, s0, s1⟩))
    · rw [decide_eq_false h2] at t
      have m1 := mod_lt (i := sd * 48271 + 11) (m := 2147483647) (by decide)
      have H1 : upd H p (.lst [.int g, .int ((sd * 48271 + 11) % 2147483647)]) p = some (.lst [.int g, .int ((sd * 48271 + 11) % 2147483647)]) := upd_same
      refine st_no t ?_
      refine st_next ?_
      refine st_seq ?_
      refine st_put (k := 1) (n := 1) rfl (val_rem (val_int (val_add (val_mul (val_at rfl ho rfl) val_c (.inr ⟨by decide, by decide⟩)) val_c)) val_c (by decide)) ho rfl ?_
      generalize (sd * 48271 + 11) % 2147483647 = z at m1 H1
      refine st_ret (val_rem (val_quo (val_rem (val_int (val_mul (val_at rfl H1 rfl) (val_at rfl H1 rfl) (.inl ⟨by omega, by omega⟩))) val_c (by decide)) val_c ⟨by decide, by decide⟩) (val_var rfl) hn) ?_
      have m := mod_lt (i := z * z % 2147483629 / 64) hn
      exact k _ _ m.1 m.2 (src_put st0 ((SrcM.p hk).mpr ⟨g, z, rfl, m1.1, m1.2⟩))
/-! ### the law -/
abbrev rMax2 : List V → Hp → VK → Prop := fun xs H Q => ∃ i j, xs = [.int i, .int j] ∧ Q (.int (if j > i then j else i)) H
abbrev rMin2 : List V → Hp → VK → Prop := fun xs H Q => ∃ i j, xs = [.int i, .int j] ∧ Q (.int (if j < i then j else i)) H
def tMost (K : Frag) (m : Int) : TA := tCons (tCB rMax2 (tCons (tC (.int 1)) (tCons (tCB rMin2 (tCons (tLen0 K) (tCons (tC (.int m)) tNil))) tNil))) tNil
theorem okLawP {x qual : Str} {st : Stmt} {f : Addr} {fd : FuncData} {N : List Str} {k : Nat} {M : MM} {ds : DS} {m : Int} (hk : M.pk = true) (F : Fun K x qual st f fd) (Sc : FnScope N ["script"] (defScope st)) (hN : 3 ≤ N.length) (hm : 1 ≤ m ∧ m ≤ 100)
    (hb : ∀ (cdv : Value) (A : Around), A.guards = some [] → ∀ (outer : List PySem.Env) (s : Shared) (H : Hp) (E : XK), Room k (A.deeper (PyProof.Rows.envOfC qual (defScope st) s.heap.objs.size f cdv)) →
      ∃ ts, PSs (cxOf (L2.CX P w) P w K mg base N qual (defScope st) f cdv A outer s H E) (defBody st) (tSeq (tFor (iRng1 (tMost K m)) (gName 1) (tSeq (tAsg (tCall (spPool K) [] E0 (tCons (tVar 0) (tCons (tVar 1) tNil))) (gName 2)) ts)) (tRet (tC (.bl true)))) ∧ SS K (WcOf M) E ts ds)
    (hd : ∀ (a : Addr) (k : Int), ds { nx := fun env => env[0]? = some (.is a) ∧ env.length = N.length, rt := fun d => d = .bl true } noX (.is a :: .sh (.int k) :: .sh .tok :: List.replicate (N.length - 3) .un)) : FnG P w K mg base (L2.CX P w) (k + 1) f fd ["script"] (spLaw K M) := by
  refine fnG_of F Sc (fun vs H Q E h => ?_) (fun cdv hcv A g outer s H vs Q E hr h => ?_)
  · obtain ⟨a, ns, rfl, _⟩ := h
    rfl
  · obtain ⟨a, ns, rfl, hs, hns, hT, kq⟩ := h
    obtain ⟨ts, pe, se⟩ := hb cdv A g outer s H E hr
    refine ⟨_, pe, ?_⟩
    have hl : N.length ≤ (L2.start N [.ref a]).length := by
      unfold L2.start
      simp
      omega
    have h0 : (L2.start N [.ref a])[0]? = some (some (.ref a)) := rfl
    generalize L2.start N [V.ref a] = σ0 at hl h0
    refine st_seq ?_
    refine ⟨.ref a, h0, a, ns.map V.int, rfl, .inl hs, _, _, rfl, 1, _, rfl, ?_⟩
    have hmm : ∃ mm : Int, (if m < ((ns.map V.int).length : Int) then m else ((ns.map V.int).length : Int)) = mm ∧ mm ≤ 100 := ⟨_, rfl, by split <;> omega⟩
    obtain ⟨mm, em, hm2⟩ := hmm
    rw [em]
    have hx : ∃ n : Int, (if mm > 1 then mm else 1) = n ∧ 1 ≤ n ∧ n ≤ 100 := ⟨_, rfl, by split <;> omega, by split <;> omega⟩
    obtain ⟨n, en, n0, n1⟩ := hx
    rw [en]
    refine ⟨n, rfl, by omega, by omega, ?_⟩
    refine for_it (walk_range (lo := 0) (n := n.toNat)) (fun _ σ' H' => N.length ≤ σ'.length ∧ σ'[0]? = some (some (.ref a)) ∧ SqL K H' a (ns.map V.int) ∧ LamX.Tabs (tabsOf M) H') ⟨hl, h0, hs, hT⟩ (fun _ _ _ _ _ => trivial) ?_ ?_
    · rintro i y σ' H' H2 hlt ⟨hl', h0', hs', hT'⟩ ⟨rfl, rfl⟩
      have l1 : N.length ≤ (σ'.set 1 (some (V.int (0 + (i : Nat))))).length := by rw [List.length_set]; exact hl'
      have s0 : (σ'.set 1 (some (V.int (0 + (i : Nat)))))[0]? = some (some (.ref a)) := by rw [List.getElem?_set_ne (by decide)]; exact h0'
      have s1 : (σ'.set 1 (some (V.int (0 + (i : Nat)))))[1]? = some (some (V.int (0 + (i : Nat)))) := List.getElem?_set_self (by omega)
      show tSeq _ _ _ (σ'.set 1 (some (V.int (0 + (i : Nat))))) H2
      generalize σ'.set 1 (some (V.int (0 + (i : Nat)))) = σ1 at l1 s0 s1
      refine st_seq ?_
      refine ⟨.ref a, s0, .int _, s1, a, ns, _, rfl, hs', by omega, by omega, fun q gg ss hq b0 b1 => ?_⟩
      show ts _ (σ1.set 2 (some (V.ref q))) (upd H2 q (.lst [.int gg, .int ss]))
      have ex0 := Ex.new (o := .lst [.int gg, .int ss]) hq
      have stt : Stt (WcOf M) q (fun _ => none) (upd H2 q (.lst [.int gg, .int ss])) :=
        ⟨⟨hT'.ext ex0, fun b ps e => nomatch e⟩, fun b o e => (nomatch e), rfl, _, upd_same, (SrcM.p hk).mpr ⟨gg, ss, rfl, b0, b1⟩⟩
      have l2 : N.length ≤ (σ1.set 2 (some (V.ref q))).length := by rw [List.length_set]; exact l1
      refine se q (fun _ => none) (upd H2 q (.lst [.int gg, .int ss])) _ _ _ _ noX ⟨Grow.refl stt, ⟨fun j sl e => ?_, fun j j2 as bs nn e1 e2 => ?_⟩, fun j as b e1 e2 => ?_⟩ XOkS.no _ _ (hd a (0 + (i : Nat))) ⟨fun S3 H3 σ3 env3 _ sv3 q3 => ?_, fun S3 H3 v d _ _ r q3 => ?_, fun _ _ _ _ _ _ z => z.elim, fun _ _ _ _ _ _ z => z.elim⟩
      · match j, e with
        | 0, e =>
          cases Option.some.inj (show some (Sl.is a) = some sl from e)
          exact ⟨_, by rw [List.getElem?_set_ne (by decide)]; exact s0, rfl⟩
        | 1, e =>
          cases Option.some.inj (show some (Sl.sh (.int (0 + (i : Nat)))) = some sl from e)
          exact ⟨_, by rw [List.getElem?_set_ne (by decide)]; exact s1, _, rfl, rfl⟩
        | 2, e =>
          cases Option.some.inj (show some (Sl.sh .tok) = some sl from e)
          exact ⟨_, List.getElem?_set_self (by omega), .ref q, rfl, rfl⟩
        | j + 3, e =>
          have e' : (List.replicate (N.length - 3) Sl.un)[j]? = some sl := e
          rw [List.getElem?_replicate] at e'
          split at e'
          · rename_i hj
            cases e'
            have hj2 : j + 3 < (σ1.set 2 (some (V.ref q))).length := by omega
            exact ⟨_, List.getElem?_eq_getElem hj2, trivial⟩
          · cases e'
      · exfalso
        match j, e1 with
        | 0, e => cases e
        | 1, e => cases e
        | 2, e => cases e
        | j + 3, e =>
          have e' : (List.replicate (N.length - 3) Sl.un)[j]? = some (.ow as) := e
          rw [List.getElem?_replicate] at e'
          split at e' <;> cases e'
      · exfalso
        match j, e1 with
        | 0, e => cases e
        | 1, e => cases e
        | 2, e => cases e
        | j + 3, e =>
          have e' : (List.replicate (N.length - 3) Sl.un)[j]? = some (.ow as) := e
          rw [List.getElem?_replicate] at e'
          split at e' <;> cases e'
      · obtain ⟨q0, ql⟩ := q3
        obtain ⟨o, h1, h2⟩ := sv3.ev.at_ 0 _ q0
        have hl3 : N.length ≤ σ3.length := by
          have hlast : N.length - 1 < env3.length := by omega
          obtain ⟨o2, h3, _⟩ := sv3.ev.at_ (N.length - 1) _ (List.getElem?_eq_getElem hlast)
          obtain ⟨h4, _⟩ := List.getElem?_eq_some_iff.mp h3
          omega
        have o0 : o = some (.ref a) := h2
        subst o0
        refine ⟨hl3, h1, ?_, ?_⟩
        · have keep : ∀ b u, H2 b = some u → (∀ ps, u ≠ .tbl ps) → H3 b = some u := fun b u e nt => by
            have nb : b ≠ q := fun z => by rw [z, hq] at e; cases e
            exact sv3.g.keep b u nb (by rw [upd_ne nb]; exact e) nt
          rcases hs' with (h | ⟨o, h⟩) | h
          · exact .inl (.inl (keep _ _ h nofun))
          · exact .inl (.inr ⟨o, keep _ _ h nofun⟩)
          · exact .inr h
        · exact sv3.st.tabs.1
      · have q' : d = .bl true := q3
        subst q'
        rw [show v = V.bl true from r]
        exact kq H3
    · rintro σ' H' _
      exact kq H'
end
end DL

set_option Elab.async false
set_option linter.all false
set_option maxRecDepth 100000
set_option maxHeartbeats 1000000
/-! dict comprehensions; d.get(k, x); k in d -/
namespace DL
open PySem PySem.W PySem.Calls PyProof.Rows L2
/-- a dict by its pairs -/
def dctD : List (Key × D) → D
  | [] => .ety
  | k :: ks => .dct (k :: ks)
def kD : Key → D
  | .inl i => .int i
  | .inr s => .str s
section
variable {K : Frag} {W : Wc} {p : Addr} {S : Hp}
theorem rDct {v : V} : ∀ {ks : List (Key × D)}, DL.R K W p S v (dctD ks) → ∃ a kvs, v = .ref a ∧ FzK S a kvs ∧ RK K W p S kvs ks
  | [], r => by
    unfold DL.dctD DL.R at r
    obtain ⟨a, rfl, h⟩ := r
    exact ⟨a, [], rfl, h, by unfold RK; rfl⟩
  | k :: ks, r => by
    unfold DL.dctD DL.R at r
    obtain ⟨_, a, kvs, rfl, h, hk⟩ := r
    exact ⟨a, kvs, rfl, h, hk⟩
theorem rOfDct {a : Addr} {kvs : List (Key × V)} : ∀ {ks : List (Key × D)}, FzK S a kvs → RK K W p S kvs ks → DL.R K W p S (.ref a) (dctD ks)
  | [], h, r => by
    unfold RK at r
    subst r
    unfold DL.dctD DL.R
    exact ⟨a, rfl, h⟩
  | k :: ks, h, r => by
    unfold DL.dctD DL.R
    exact ⟨nofun, a, kvs, rfl, h, r⟩
theorem RK.none {k : Key} : ∀ {ks : List (Key × D)} {kvs : List (Key × V)}, RK K W p S kvs ks → valKD ks k = Option.none → valV kvs k = Option.none
  | [], kvs, h, _ => by unfold RK at h; subst h; rfl
  | (n, d0) :: ks, kvs, h, e => by
    unfold RK at h
    obtain ⟨y, ys, rfl, h1, h2⟩ := h
    by_cases hn : n = k
    · have : valKD ((n, d0) :: ks) k = some d0 := by simp [valKD, List.find?_cons, hn]
      rw [this] at e; cases e
    · have : valKD ((n, d0) :: ks) k = valKD ks k := by simp [valKD, List.find?_cons, hn]
      rw [this] at e
      rw [valV_neg (by exact hn)]
      exact RK.none h2 e
/-- stored at a key -/
def putKD : List (Key × D) → Key → D → List (Key × D)
  | [], k, d => [(k, d)]
  | (n, e) :: ks, k, d => if n = k then (n, d) :: ks else (n, e) :: putKD ks k d
theorem putK_out {k : Key} {v : V} : ∀ {kvs : List (Key × V)}, valV kvs k = Option.none → (kvs.map fun kv => if kv.1 = k then (kv.1, v) else kv) = kvs
  | [], _ => rfl
  | (n, u) :: kvs, h => by
    by_cases hn : n = k
    · rw [valV_pos (by exact hn)] at h; cases h
    · rw [valV_neg (by exact hn)] at h
      simp only [List.map_cons, hn, if_false]
      rw [putK_out h]
theorem RK.put {k : Key} {v : V} {d : D} (r : DL.R K W p S v d) : ∀ {ks : List (Key × D)} {kvs : List (Key × V)}, (kvs.map (·.1)).Nodup → RK K W p S kvs ks → RK K W p S (putK kvs k v) (putKD ks k d)
  | [], kvs, _, h => by
    unfold RK at h
    subst h
    show RK K W p S [(k, v)] [(k, d)]
    unfold RK
    exact ⟨v, [], rfl, r, by unfold RK; rfl⟩
  | (n, d0) :: ks, kvs, nd, h => by
    unfold RK at h
    obtain ⟨y, ys, rfl, h1, h2⟩ := h
    rw [List.map_cons, List.nodup_cons] at nd
    unfold putKD
    by_cases hn : n = k
    · subst hn
      have ho : valV ys n = Option.none := valV_out nd.1
      have : putK ((n, y) :: ys) n v = (n, v) :: ys := by
        unfold putK
        rw [if_pos (by simp)]
        simp only [List.map_cons, if_true]
        rw [putK_out ho]
      rw [this, if_pos rfl]
      unfold RK
      exact ⟨v, ys, rfl, r, h2⟩
    · have : putK ((n, y) :: ys) k v = (n, y) :: putK ys k v := by
        unfold putK
        simp only [List.any_cons, hn, decide_false, Bool.false_or, List.map_cons, if_false]
        split <;> rfl
      rw [this, if_neg hn]
      unfold RK
      exact ⟨y, _, rfl, h1, RK.put r nd.2 h2⟩
theorem putK_keys {k : Key} {v : V} {kvs : List (Key × V)} (nd : (kvs.map (·.1)).Nodup) : ((putK kvs k v).map (·.1)).Nodup := by
  unfold putK
  split
  · have : (kvs.map fun kv => if kv.1 = k then (kv.1, v) else kv).map (·.1) = kvs.map (·.1) := by
      rw [List.map_map]
      refine List.map_congr_left fun kv _ => ?_
      show (if kv.1 = k then (kv.1, v) else kv).1 = kv.1
      split <;> rfl
    rw [this]; exact nd
  · rename_i h
    rw [List.map_append, List.nodup_append]
    refine ⟨nd, by simp, fun x hx y hy e => h ?_⟩
    subst e
    have hy' : x = k := by simpa using hy
    subst hy'
    obtain ⟨kv, hm, e⟩ := List.mem_map.mp hx
    rw [List.any_eq_true]
    exact ⟨kv, hm, decide_eq_true e⟩
end
/-! ### comprehensions -/
def ddc (one : D → (Option (Key × D) → Prop) → Prop) : List D → List (Key × D) → (List (Key × D) → Prop) → Prop
  | [], acc, post => post acc
  | d :: ds, acc, post => one d fun o => ddc one ds (match o with | some (k, v) => putKD acc k v | none => acc) post
def dOneK (dg : DG) (dt : DT) (dk dv : DE) (env : SEnv) : D → (Option (Key × D) → Prop) → Prop := fun d k => dg d env fun env2 => dt env2 noX fun b => if b = true then dk env2 noX fun kd => dv env2 noX fun vd => ∃ key, kd = kD key ∧ k (some (key, vd)) else k none
def dDc (di : DA) (dg : DG) (dt : DT) (dk dv : DE) (own : List Nat) : DE := fun env xp post => di env xp fun ds => ds.length < 100000 ∧ ddc (dOneK dg dt dk dv (wipeE env own)) ds [] fun ks => post (dctD ks)
theorem dc_it {J : It} {n : Nat} {G : Hp → Prop} {Y : Nat → Hp → V → Hp → Prop} (w : Walk J n G Y) {g : TG} {tt : TT} {tk tv : TE} {vs : List Nat} {σ : L2.St} {H1 : Hp} {D : Addr} {Qd : Hp → Prop} (Pv : Nat → Hp → Prop) (h0 : Pv 0 (upd H1 D (.dK []))) (hG : ∀ i H, i ≤ n → Pv i H → G H)
    (hs : ∀ i x H H', i < n → Pv i H → Y i H x H' → g x (wipe σ vs) H' fun σ2 H2 => wipe σ2 vs = wipe σ vs ∧ tt σ2 H2 fun b H3 =>
      if b = true then tk σ2 H3 fun y H4 => tv σ2 H4 fun z H5 => ∃ kvs k, y = kV k ∧ H5 D = some (.dK kvs) ∧ kvs.length < sizeLine ∧ Pv (i + 1) (upd H5 D (.dK (putK kvs k z))) else Pv (i + 1) H3) (hd : ∀ H, Pv n H → Qd H) :
    ∃ W : Nat → Nat → Hp → Prop, (∃ m, W 0 m (upd H1 D (.dK []))) ∧ ∀ i m H, W i m H →
      (J.stop i H ∧ Qd H) ∨ (J.go i H ∧ ∃ Nx : Hp → Prop, (∀ H', Nx H' → ∃ m', m' < m ∧ W (i + 1) m' H') ∧ ∀ x H', J.yld i H x H' → g x (wipe σ vs) H' fun σ2 H2 => wipe σ2 vs = wipe σ vs ∧ tt σ2 H2 fun b H3 =>
        if b = true then tk σ2 H3 fun y H4 => tv σ2 H4 fun z H5 => ∃ kvs k, y = kV k ∧ H5 D = some (.dK kvs) ∧ kvs.length < sizeLine ∧ Nx (upd H5 D (.dK (putK kvs k z))) else Nx H3) := by
  refine ⟨fun i m H => m = n - i ∧ i ≤ n ∧ Pv i H, ⟨n, by simp, Nat.zero_le _, h0⟩, ?_⟩
  rintro i m H ⟨rfl, hi, p⟩
  have q := hG i H hi p
  by_cases hlt : i < n
  · refine .inr ⟨w.goes i H hlt q, Pv (i + 1), fun H' p' => ⟨n - (i + 1), by omega, rfl, hlt, p'⟩, fun x H' y => hs i x H H' hlt p (w.yields i H x H' hlt q y)⟩
  · have e : i = n := by omega
    subst e
    exact .inl ⟨w.stops H q, hd H p⟩
theorem kV_of {K : Frag} {W : Wc} {p : Addr} {S : Hp} {v : V} : ∀ {k : Key}, DL.R K W p S v (kD k) → v = kV k
  | .inl _, r => r
  | .inr _, r => r
theorem putKD_len {k : Key} {d : D} : ∀ {ks : List (Key × D)}, (putKD ks k d).length ≤ ks.length + 1
  | [] => Nat.le_refl _
  | (n, e) :: ks => by
    unfold putKD
    split
    · simp
    · have := putKD_len (k := k) (d := d) (ks := ks); simp; omega
theorem RK.len {K : Frag} {W : Wc} {p : Addr} {S : Hp} {ks : List (Key × D)} {kvs : List (Key × V)} (r : RK K W p S kvs ks) : kvs.length = ks.length := by
  have := congrArg List.length (RK.keys r)
  simpa using this
theorem se_dc {K : Frag} {W : Wc} {E : XK} {wi : TI} {g : TG} {tt : TT} {tk tv : TE} {di : DA} {dg : DG} {dt : DT} {dk dv : DE} {own vs : List Nat} (hv : ∀ i ∈ vs, i ∈ own) (hi : SI K W E wi di) (hg : SG K W g dg vs) (ht : STt K W E0 tt dt) (hk : SE K W E0 tk dk) (he : SE K W E0 tv dv) :
    SE K W E (tFrz (tDc wi g tt tk tv own)) (dDc di dg dt dk dv own) := fun p S H σ env xp st ev xo Q post q k =>
  hi p S H σ env xp st ev xo _ _ q fun J G Y ds S1 H1 ⟨hz, q1⟩ g1 wk hG hY Dl hD => by
    have nDp : Dl ≠ p := fun z => by
      obtain ⟨o', e', _⟩ := g1.st.src
      rw [z, e'] at hD
      cases hD
    have nH : H Dl = none := g1.dead Dl nDp hD
    have g0 : Grow W p S1 H1 S1 (upd H1 Dl (.dK [])) := Grow.hide g1.st hD
    refine dc_it wk (fun i Hx => ∃ Sx acc eds, Grow W p S1 H1 Sx Hx ∧ Hx Dl = some (.dK acc) ∧ Sx Dl = none ∧ RK K W p Sx acc eds ∧ (acc.map (·.1)).Nodup ∧ eds.length ≤ i ∧ ddc (dOneK dg dt dk dv (wipeE env own)) (ds.drop i) eds (fun ks => post (dctD ks)))
      ⟨S1, [], [], g0, upd_same, g1.st.none hD, by unfold RK; rfl, List.nodup_nil, Nat.le_refl _, q1⟩ (fun i Hx _ ⟨Sx, _, _, gx, _⟩ => hG Hx (gx.ex.trans gx.st.ex)) ?_ ?_
    · rintro i x Hx H' hlt ⟨Sx, acc, eds, gx, hL, hN, ra, nd, hle, hq⟩ y
      obtain ⟨d, S3, hd, g3, r3⟩ := hY i Sx Hx x H' gx.ex gx.st hlt y
      have hdrop : ds.drop i = d :: ds.drop (i + 1) := by
        obtain ⟨h1, h2⟩ := List.getElem?_eq_some_iff.mp hd
        rw [← h2]
        exact List.drop_eq_getElem_cons h1
      rw [hdrop] at hq
      have gx3 := gx.trans g3
      have ev3 : Ev K W p S3 H' σ env := ev.mono (g1.trans gx3)
      refine hg p S3 H' (L2.wipe σ own) (wipeE env own) x d gx3.st (ev3.wipe own) r3 _ _ hq fun σ2 env2 ev2 q2 out _ len _ => ⟨wipe_same len fun i hi => (out i fun z => hi (hv i z)).1, ?_⟩
      refine ht p S3 H' σ2 env2 noX gx3.st ev2 XOk.no _ _ q2 fun b S4 H4 q4 g4 => ?_
      have gx4 := gx3.trans g4
      cases b with
      | true =>
        rw [if_pos rfl] at q4 ⊢
        refine hk p S4 H4 σ2 env2 noX g4.st (ev2.mono g4) XOk.no _ _ q4 fun u e S5 H5 q5 g5 r5 => ?_
        refine he p S5 H5 σ2 env2 noX g5.st ((ev2.mono g4).mono g5) XOk.no _ _ q5 fun v e2 S6 H6 ⟨key, ek, q6⟩ g6 r6 => ?_
        subst ek
        have gx6 := ((g3.trans g4).trans g5).trans g6
        have hL6 : H6 Dl = some (.dK acc) := gx6.keep Dl _ nDp hL
        have hN6 : S6 Dl = none := gx6.fr Dl (by rw [hL]; simp) hN
        have lr := RK.len ra
        refine ⟨acc, key, kV_of r5, hL6, sz_lt (by omega), S6, putK acc key v, putKD eds key e2, ?_, upd_same, hN6, RK.put r6 nd (RK.mono gx6.ex _ _ ra), putK_keys nd, by have := putKD_len (k := key) (d := e2) (ks := eds); omega, q6⟩
        have gg := gx.trans gx6
        refine ⟨gg.ex, ⟨tabs_put gg.st.tabs hL6 ⟨nofun, fun c q z => by unfold LamX.CodeO at z; cases z⟩, fun b u e => ?_, gg.st.hid, ?_⟩, fun b u n e => ?_, gg.fr⟩
        · have : b ≠ Dl := fun z => by rw [z, hN6] at e; cases e
          rw [upd_ne this]
          exact gg.st.ex b u e
        · obtain ⟨o', e', r⟩ := gg.st.src
          exact ⟨o', by rw [upd_ne nDp.symm]; exact e', r⟩
        · have : b ≠ Dl := fun z => by rw [z, hD] at e; cases e
          rw [upd_ne this]
          exact gg.kp b u n e
      | false =>
        rw [if_neg Bool.false_ne_true] at q4 ⊢
        have gx5 := g3.trans g4
        exact ⟨S4, acc, eds, gx.trans gx5, gx5.keep Dl _ nDp hL, gx5.fr Dl (by rw [hL]; simp) hN, RK.mono gx5.ex _ _ ra, nd, by omega, q4⟩
    · rintro Hx ⟨Sx, acc, eds, gx, hL, hN, ra, nd, hle, hq⟩
      rw [List.drop_eq_nil_of_le (Nat.le_refl _)] at hq
      have hq' : post (dctD eds) := hq
      have gg := g1.trans gx
      refine ⟨Dl, acc, rfl, hL, fun od => ?_⟩
      have ex := Ex.new (o := HO.frz od (.dK acc)) hN
      exact k (.ref Dl) (dctD eds) _ _ hq' (gg.frz nH nDp hN hL) (rOfDct ⟨od, upd_same⟩ (RK.mono ex _ _ ra))
section
variable {X : Cx} {W : Wc} {E : XK} {pos : Pos}
theorem pd_dc {kx vx tg iter : Expr} {ifs : List Expr} {scope : Scope} {own : List (Str × Nat)} {wi : TI} {g : TG} {tt : TT} {tk te : TE} {di : DA} {dg : DG} {dt : DT} {dk de : DE} {vs : List Nat} (hc : X.calm = true) (hN : X.N.Nodup) (hi : PDI X W E tg iter wi di) (ok : BlkOk X.N X.env.scope scope own)
    (hg : ∀ (s : Shared) (H : Hp) (C : Addr) (cl : List (Str × Addr)) (fp : List Addr), PDG (X.blk s H scope (compEnvC scope cl C X.env) fp) W tg g dg vs) (ht : ∀ (s : Shared) (H : Hp) (C : Addr) (cl : List (Str × Addr)) (fp : List Addr), PDTs (X.blk s H scope (compEnvC scope cl C X.env) fp) W E0 ifs tt dt)
    (hk : ∀ (s : Shared) (H : Hp) (C : Addr) (cl : List (Str × Addr)) (fp : List Addr), PD (X.blk s H scope (compEnvC scope cl C X.env) fp) W E0 kx tk dk)
    (he : ∀ (s : Shared) (H : Hp) (C : Addr) (cl : List (Str × Addr)) (fp : List Addr), PD (X.blk s H scope (compEnvC scope cl C X.env) fp) W E0 vx te de) (hv : ∀ i ∈ vs, i ∈ own.map (·.2) := by decide) (hs : ∀ x, foldedSetIterable iter X.env x = pure x := by intro _; rfl) (s0 : Shared) :
    PD X W E (.DictComp kx vx [⟨tg, iter, ifs, 0⟩] scope pos) (tFrz (tDc wi g tt tk te (own.map (·.2)))) (dDc di dg dt dk de (own.map (·.2))) :=
  ⟨pe_frz <| pe_dc hc hN hi.pe ok (fun s H C cl fp => (hg s H C cl fp).pe) (fun s H C cl fp => (ht s H C cl fp).pe) (fun s H C cl fp => (hk s H C cl fp).pe) (fun s H C cl fp => (he s H C cl fp).pe) hs,
    se_dc hv hi.se (hg s0 (fun _ => none) 0 [] []).se (ht s0 (fun _ => none) 0 [] []).se (hk s0 (fun _ => none) 0 [] []).se (he s0 (fun _ => none) 0 [] []).se⟩
end
/-! ### d.get(k, x), k in d -/
theorem RK.get {K : Frag} {W : Wc} {p : Addr} {S : Hp} {ks : List (Key × D)} {kvs : List (Key × V)} (k : Key) (r : RK K W p S kvs ks) {z : V} {dz : D} (rz : DL.R K W p S z dz) : DL.R K W p S ((valV kvs k).getD z) ((valKD ks k).getD dz) ∧ (valV kvs k).isSome = (valKD ks k).isSome := by
  cases h : valKD ks k with
  | none => rw [RK.none r h]; exact ⟨rz, rfl⟩
  | some d =>
    obtain ⟨v, e, rv⟩ := RK.val r h
    rw [e]; exact ⟨rv, rfl⟩
def dGet2 (dd dk dz : DE) : DE := fun env xp post => dd env xp fun d => (∃ ks, d = dctD ks) ∧ dk env xp fun k => dz env xp fun z => ∃ ks key, d = dctD ks ∧ k = kD key ∧ post ((valKD ks key).getD z)
def dInK (neg : Bool) (dk dd : DE) : DE := fun env xp post => dk env xp fun k => dd env xp fun d => ∃ ks key, d = dctD ks ∧ k = kD key ∧ post (.bl ((valKD ks key).isSome != neg))
section
variable {X : Cx} {W : Wc} {E : XK} {o e f : Expr} {apos cpos pos : Pos} {td ty tx : TE} {dd dk dz : DE}
theorem pd_get2 (hu : X.A.units + 1 < cLine) (ho : PD X W E o td dd) (he : PD X W E e ty dk) (hf : PD X W E f tx dz) (hb : attributeBase o "get" X.env (eval o X.env) = eval o X.env := by rfl)
    (hw : ((backTo cpos (starEach [e, f] X.env)).all (fun x => !x.1) && (backToKw cpos (keywordEach [] X.env)).all (fun x => x.1.isSome) && decide (([e, f] : List Expr).length + ([] : List Keyword).length + (if ([] : List Keyword).isEmpty then 0 else 1) < 30)) = true := by rfl)
    (hl : (apos.endLine == cpos.line) = true := by rfl) (ht : backTo cpos (starEach [e, f] X.env) = [(false, eval e X.env), (false, eval f X.env)] := by rfl) :
    PD X W E (.Call (.Attribute o "get" apos) [e, f] [] cpos) (tDGet2 td ty tx) (dGet2 dd dk dz) :=
  ⟨pe_dget2 hu ho.pe he.pe hf.pe ⟨hb, hw, hl, ht⟩, fun p S H σ env xp st ev xo Q post q k => ho.se p S H σ env xp st ev xo _ _ q fun x d S1 H1 ⟨⟨ks, e1⟩, q1⟩ g1 r1 => by
    subst e1
    obtain ⟨a, kvs, rfl, h1, rk⟩ := rDct r1
    refine ⟨a, rfl, .inl ⟨kvs, g1.st.ex.rd h1.rd⟩, ?_⟩
    refine he.se p S1 H1 σ env xp g1.st (ev.mono g1) (xo.mono g1) _ _ q1 fun y d2 S2 H2 q2 g2 r2 => ?_
    refine hf.se p S2 H2 σ env xp g2.st ((ev.mono g1).mono g2) ((xo.mono g1).mono g2) _ _ q2 fun z d3 S3 H3 ⟨ks', key, e3, e4, q3⟩ g3 r3 => ?_
    subst e4
    have r1' := R.mono (g2.ex.trans g3.ex) _ _ r1
    rw [e3] at r1'
    obtain ⟨a', kvs', ea, h1', rk'⟩ := rDct r1'
    cases ea
    have hy := kV_of r2
    refine ⟨valV kvs' key, .inl ⟨kvs', key, g3.st.ex.rd h1'.rd, hy, rfl⟩, ?_⟩
    exact k _ _ S3 H3 q3 ((g1.trans g2).trans g3) (RK.get key rk' r3).1⟩
theorem pd_inK (hu : X.A.units + 1 < cLine) (he : PD X W E e ty dk) (ho : PD X W E o td dd) (h1 : behindInMarks .In o = false := by rfl) : PD X W E (.Compare e [.In] [o] pos) (tDIn ty td) (dInK false dk dd) :=
  ⟨pe_cmp (pc_din hu he.pe ho.pe) h1, fun p S H σ env xp st ev xo Q post q k => he.se p S H σ env xp st ev xo _ _ q fun y d S1 H1 q1 g1 r1 =>
    ho.se p S1 H1 σ env xp g1.st (ev.mono g1) (xo.mono g1) _ _ q1 fun x d2 S2 H2 ⟨ks, key, e2, e1, q2⟩ g2 r2 => by
    subst e1 e2
    obtain ⟨a, kvs, rfl, h1, rk⟩ := rDct r2
    have hz := (RK.get key rk (z := .non) (dz := .non) (by unfold DL.R; rfl)).2
    refine ⟨a, valV kvs key, rfl, .inl ⟨kvs, key, g2.st.ex.rd h1.rd, kV_of r1, rfl⟩, ?_⟩
    rw [hz]
    exact k _ (.bl (valKD ks key).isSome) S2 H2 (by simpa using q2) (g1.trans g2) rfl⟩
theorem pd_notInK (hu : X.A.units + 1 < cLine) (he : PD X W E e ty dk) (ho : PD X W E o td dd) (h1 : behindInMarks .NotIn o = false := by rfl) : PD X W E (.Compare e [.NotIn] [o] pos) (tDNotIn ty td) (dInK true dk dd) :=
  ⟨pe_cmp (pc_dnotin hu he.pe ho.pe) h1, fun p S H σ env xp st ev xo Q post q k => he.se p S H σ env xp st ev xo _ _ q fun y d S1 H1 q1 g1 r1 =>
    ho.se p S1 H1 σ env xp g1.st (ev.mono g1) (xo.mono g1) _ _ q1 fun x d2 S2 H2 ⟨ks, key, e2, e1, q2⟩ g2 r2 => by
    subst e1 e2
    obtain ⟨a, kvs, rfl, h1, rk⟩ := rDct r2
    have hz := (RK.get key rk (z := .non) (dz := .non) (by unfold DL.R; rfl)).2
    refine ⟨a, valV kvs key, rfl, .inl ⟨kvs, key, g2.st.ex.rd h1.rd, kV_of r1, rfl⟩, ?_⟩
    rw [hz]
    exact k _ (.bl (!(valKD ks key).isSome)) S2 H2 (by cases h : (valKD ks key).isSome <;> simpa [h] using q2) (g1.trans g2) rfl⟩
theorem stt_B {K : Frag} {ta : TE} {neg : Bool} {dk dd : DE} (h : SE K W E ta (dInK neg dk dd)) : STt K W E (tB ta) (dTest (dInK neg dk dd)) := fun p S H σ env xp st ev xo Q post q k =>
  h p S H σ env xp st ev xo _ _ (q : (dInK neg dk dd) env xp fun d => match d with | .bl b => post b | _ => False) fun v d S1 H1 q1 g1 r1 => by
    cases d with
    | bl b => exact ⟨b, r1, k b S1 H1 q1 g1⟩
    | _ => exact q1.elim
theorem pdt_inK (hu : X.A.units + 1 < cLine) (he : PD X W E e ty dk) (ho : PD X W E o td dd) (h1 : behindInMarks .In o = false := by rfl) : PDT X W E (.Compare e [.In] [o] pos) (tB (tDIn ty td)) (dTest (dInK false dk dd)) := ⟨pt_cmp (pc_din hu he.pe ho.pe) h1, stt_B (pd_inK (pos := pos) hu he ho h1).se⟩
theorem pdt_notInK (hu : X.A.units + 1 < cLine) (he : PD X W E e ty dk) (ho : PD X W E o td dd) (h1 : behindInMarks .NotIn o = false := by rfl) : PDT X W E (.Compare e [.NotIn] [o] pos) (tB (tDNotIn ty td)) (dTest (dInK true dk dd)) := ⟨pt_cmp (pc_dnotin hu he.pe ho.pe) h1, stt_B (pd_notInK (pos := pos) hu he ho h1).se⟩
end
/-! ### slices of tuples -/
section
variable {X : Cx} {W : Wc} {E : XK} {e n : Expr} {te tn : TE} {de dn : DE} {pos p2 : Pos}
def dToT (de dn : DE) : DE := fun env xp post => de env xp fun d => ∃ ds, d = .tup ds ∧ dn env xp fun m => ∃ k : Nat, m = .int k ∧ k < ds.length ∧ post (.tup (ds.take k))
def dFromT (de dn : DE) : DE := fun env xp post => de env xp fun d => ∃ ds, d = .tup ds ∧ dn env xp fun m => ∃ k : Nat, m = .int k ∧ 0 < k ∧ k ≤ ds.length ∧ post (.tup (ds.drop k))
theorem R.newT {K : Frag} {p : Addr} {S H S1 H1 : Hp} {l : Addr} {ys : List V} {ds : List D} {Q : VK} {post : D → Prop} (g : Grow W p S H S1 H1) (r : RA K W p S1 ys ds) (q : post (.tup ds)) (hl : H1 l = none) (k : ∀ v d S' H', post d → Grow W p S H S' H' → DL.R K W p S' v d → Q v H') : Q (.ref l) (upd H1 l (.tup ys)) := by
  have g2 := Grow.new (o := .tup ys) g.st hl
  refine k _ _ _ _ q (g.trans g2) ?_
  unfold DL.R
  exact ⟨l, ys, rfl, .inl (.inl upd_same), RA.mono g2.ex _ _ r⟩
theorem pd_toT (K : Frag) (he : PD X W E e te de) (hn : PD X W E n tn dn) (hK : X.K = K := by rfl) : PD X W E (.Subscript e (.Slice none (some n) none p2) pos) (tSl (rSlT K) te tNoPart (tPart tn)) (dToT de dn) := by
  subst hK
  refine ⟨pe_slice sl_tup he.pe po_none (po_some hn.pe), fun p S H σ env xp st ev xo Q post q k => he.se p S H σ env xp st ev xo _ _ q fun v d S1 H1 ⟨ds, ed, q1⟩ g1 r1 => ?_⟩
  subst ed
  show tn σ H1 fun x H2 => ∃ i, x = .int i ∧ rSlT X.K v none (some i) H2 Q
  refine hn.se p S1 H1 σ env xp g1.st (ev.mono g1) (xo.mono g1) _ _ q1 fun u m S2 H2 ⟨j, em, hj, q2⟩ g2 r2 => ?_
  subst em
  obtain rfl : u = V.int j := r2
  have r3 := R.mono g2.ex _ _ r1
  unfold DL.R at r3
  obtain ⟨a, ys, rfl, h1, h2⟩ := r3
  have hl := RA.length h2
  refine ⟨(j : Int), rfl, a, ys, rfl, Ex.t g2.st.ex h1, fun z => ?_, fun l hl => ?_⟩
  · have := z.2
    rw [HT.sIx_nat, Nat.min_eq_left (by omega)] at this
    omega
  have hc : cutV ys none (some (j : Int)) = ys.take j := by
    unfold cutV
    rw [HT.sIx_none, HT.sIx_nat, List.drop_zero, Nat.sub_zero, Nat.min_eq_left (by omega)]
  rw [hc]
  exact R.newT (g1.trans g2) (RA.take j h2) q2 hl k
theorem pd_fromT (K : Frag) (he : PD X W E e te de) (hn : PD X W E n tn dn) (hK : X.K = K := by rfl) : PD X W E (.Subscript e (.Slice (some n) none none p2) pos) (tSl (rSlT K) te (tPart tn) tNoPart) (dFromT de dn) := by
  subst hK
  refine ⟨pe_slice sl_tup he.pe (po_some hn.pe) po_none, fun p S H σ env xp st ev xo Q post q k => he.se p S H σ env xp st ev xo _ _ q fun v d S1 H1 ⟨ds, ed, q1⟩ g1 r1 => ?_⟩
  subst ed
  refine hn.se p S1 H1 σ env xp g1.st (ev.mono g1) (xo.mono g1) _ _ q1 fun u m S2 H2 ⟨j, em, hj, hj2, q2⟩ g2 r2 => ?_
  subst em
  obtain rfl : u = V.int j := r2
  have r3 := R.mono g2.ex _ _ r1
  unfold DL.R at r3
  obtain ⟨a, ys, rfl, h1, h2⟩ := r3
  have hl := RA.length h2
  refine ⟨(j : Int), rfl, a, ys, rfl, Ex.t g2.st.ex h1, fun z => ?_, fun l hl => ?_⟩
  · have := z.1
    rw [HT.sIx_nat, Nat.min_eq_left (by omega)] at this
    omega
  have hc : cutV ys (some (j : Int)) none = ys.drop j := by
    unfold cutV
    rw [HT.sIx_none, HT.sIx_nat, Nat.min_eq_left (by omega)]
    exact List.take_of_length_le (by rw [List.length_drop]; omega)
  rw [hc]
  exact R.newT (g1.trans g2) (RA.drop j h2) q2 hl k
end
end DL

set_option Elab.async false
set_option linter.all false
set_option maxRecDepth 100000
set_option maxHeartbeats 1000000
/-! try: x = f(e, ..) except C as n: .. where the suite knows the slots -/
namespace DL
open PySem PySem.W PySem.Calls PySem.Spec PyProof.Rows L2
def tCallS (sp : Sp) (Wx : WX) (ta : TA) : TE := fun σ H Q => ta σ H fun vs H1 => sp vs H1 Q (fun cls d H' => Wx cls d σ H')
section
variable {X : Cx} {k : Nat} {f : Addr} {fd : FuncData} {ps : List Str} {sp : Sp} {x : Str} {p pos : Pos} {e : Expr} {es : List Expr} {t : TA} {Wx : WX}
theorem pe_callS (F : FnOk X.prog X.w X.K X.mg X.base (L2.CX X.prog X.w) k f fd ps sp) (hr : Room k X.A) (hg : Gl X x) (hm : X.mg x = some (.ref f)) (hk : PySem.W.keepIn X.K (.ref f) = true) (hb : Binds X.K fd ps []) (tk : Takes X Wx)
    (ha : PA X (e :: es) t) (hdb : (x == ("__debug__" : Str)) = false := by decide) (he : starEach (e :: es) X.env = (false, eval e X.env) :: starEach es X.env := by rfl) (hpl : (backTo pos (starEach es X.env)).any (·.1) = false := by rfl) :
    PE X (.Call (.Name x p) (e :: es) [] pos) (tCallS sp Wx t) := by
  refine ⟨fun pins s σ H Q I h => ?_⟩
  refine wpAny_Call_Name_kw (ld_glob I hg hm ?_ hdb)
  refine PySem.W.callWith_K (h₀ := X.base) I.ok.mod.kin hk (thn (ha.run pos pins s σ H _ I h) fun us s1 ⟨vs, H1, I1, r, q⟩ => ⟨I1.kIn, ?_⟩) he hpl
  have r2 : Vals (vs ++ []) (us ++ []) := r.append .nil
  rw [List.append_nil, List.append_nil] at r2
  have hl : us.length = ps.length := by rw [← r2.length]; exact F.len _ _ _ _ q
  have hb' := hb s1 us I1.kIn (by simpa using hl)
  rw [List.append_nil] at hb'
  refine wpAny_call (codeAny_mono (F.run X.A X.stack s1 H1 ⟨us, []⟩ us vs Q _ hr I1.env0 hb' r2 q) fun r s' hq => ?_)
  cases r with
  | error e => exact tk e s' (XE.of_call I1 (fun cls d H' h => h) hq)
  | ok fl =>
    cases fl with
    | ret u => exact I1.after hq
    | next => exact False.elim hq
    | brk => exact False.elim hq
    | cont => exact False.elim hq
end
def dTryF (W : Wc) (i j : Nat) (bt : Nat → Bool) (f : DF) (dr : DA) (dsu : DEx) : DS := fun DD xp env => dr env noX fun ds =>
  f ds (fun c dfs => (bt c = true ∧ ∀ a dx C, W.M c = some C → dsu a (.ref C) (some dx) (endsD i DD) noX (env.set i (.ex a dx c dfs))) ∨ (bt c = false ∧ xp c dfs)) (fun d => DD.nx (env.set j (.sh d)))
theorem Ev.setEx {K : Frag} {W : Wc} {p : Addr} {S H : Hp} {σ : L2.St} {env : SEnv} {i : Nat} {a dx : Addr} {c : Nat} {gs : List (Str × V)} {dfs : List (Str × D)} (ev : Ev K W p S H σ env) (h1 : H dx = some (.xd gs)) (h2 : dx ≠ p) (h3 : RF K W p S gs dfs) :
    Ev K W p S H (σ.set i (some (.ref a))) (env.set i (.ex a dx c dfs)) := by
  have other : ∀ {j : Nat} {s : Sl}, (env.set i (.ex a dx c dfs))[j]? = some s → (i = j ∧ s = .ex a dx c dfs) ∨ (i ≠ j ∧ env[j]? = some s) := fun {j s} e => by
    by_cases hj : i = j
    · subst hj
      have hlt : i < env.length := by
        by_cases hlt : i < env.length
        · exact hlt
        · rw [List.getElem?_eq_none (by simpa using hlt)] at e; cases e
      rw [List.getElem?_set_self hlt] at e
      cases e
      exact .inl ⟨rfl, rfl⟩
    · rw [List.getElem?_set_ne hj] at e
      exact .inr ⟨hj, e⟩
  refine ⟨fun j s e => ?_, fun j k ds es n e1 e2 => ?_⟩
  · rcases other e with ⟨rfl, rfl⟩ | ⟨hj, e'⟩
    · have hlt : i < env.length := by
        have := (List.getElem?_eq_some_iff.mp e).1
        rwa [List.length_set] at this
      obtain ⟨o, h4, _⟩ := ev.at_ i env[i] (by simp [hlt])
      exact ⟨_, List.getElem?_set_self (List.getElem?_eq_some_iff.mp h4).1, rfl, gs, h1, h2, h3⟩
    · obtain ⟨o, h4, h5⟩ := ev.at_ j s e'
      exact ⟨o, by rw [List.getElem?_set_ne hj]; exact h4, h5⟩
  · rcases other e1 with ⟨_, z⟩ | ⟨hj, e1'⟩
    · cases z
    · rcases other e2 with ⟨_, z⟩ | ⟨hk, e2'⟩
      · cases z
      · rw [List.getElem?_set_ne hj, List.getElem?_set_ne hk]
        exact ev.dis j k ds es n e1' e2'
section
variable {X : Cx} {W : Wc} {E : XK} {K : Frag} {mg : Str → Option Value} {P : Program} {w : World} {base : Heap} {x n y g : Str} {c0 i j k m : Nat} {bt : Nat → Bool} {suite : List Stmt} {b0 : Stmt} {np pos pos' yp gp cp ap : Pos} {ps : List Str} {df : DF} {e : Expr} {es : List Expr} {ta : TA} {dr : DA} {ts : Addr → Value → Option Addr → TS} {dsu : DEx}
theorem ss_tryF {C0 : Addr} {E0' : XK} (hbt : ∀ c C, W.M c = some C → PySem.W.exmOne K (.ref C) (.ref C0) = some (bt c)) (ha : SA K W L2.E0 ta dr) (hsu : ∀ a cls d, SS K W E0' (ts a cls d) (dsu a cls d)) :
    SS K W E (fun D σ H => tAsg (tCallS (spD K W df) (wAs K (.ref C0) i ts (fun cls d _ H => E cls d H) D) ta) (gName j) D σ H) (dTryF W i j bt df dr dsu) := fun p S0 H0 S H σ env xp sv xo D DD q k =>
  ha p S H σ env noX sv.st sv.ev XOk.no _ _ q fun vs ds S1 H1 q1 g1 r1 => by
    refine ⟨p, S1, ds, _, _, g1.st, r1, q1, fun v d S2 H2 q2 g2 r2 => ?_, fun c dfs C dx gs S' H' hx hM hne g' eH r => ?_⟩
    · exact k.nx S2 H2 _ _ (g1.ex.trans g2.ex) ⟨(sv.g.trans g1).trans g2, ((sv.ev.mono g1).mono g2).set r2, fun n ds' a e1 e2 => by
        obtain ⟨n1, e1⟩ := ow_set e1
        rw [List.getElem?_set_ne n1] at e2
        exact sv.own n ds' a e1 e2⟩ q2
    · rcases hx with ⟨h1, h2⟩ | ⟨h1, h2⟩
      · refine ⟨true, by rw [hbt c C hM, h1], fun _ a _ => ?_, fun z => Bool.noConfusion z⟩
        have ev := ((sv.ev.mono g1).mono g').setEx (i := i) (a := a) (c := c) eH hne r
        have ex := g1.ex.trans g'.ex
        refine hsu a (.ref C) (some dx) p S0 H0 S' H' _ _ noX ⟨(sv.g.trans g1).trans g', ev, fun n ds' b e1 e2 => ?_⟩ XOkS.no _ _ (h2 a dx C hM) ⟨?_, ?_, ?_, ?_⟩
        · by_cases hj : i = n
          · subst hj
            have hlt : i < env.length := by
              have := (List.getElem?_eq_some_iff.mp e1).1
              rwa [List.length_set] at this
            rw [List.getElem?_set_self hlt] at e1
            cases e1
          · rw [List.getElem?_set_ne hj] at e1 e2
            exact sv.own n ds' b e1 e2
        · exact fun S2 H2 σ2 env2 x2 sv2 q2 => k.nx S2 H2 _ _ (ex.trans x2) (sv2.unset i) q2
        · exact fun S2 H2 v d x2 g2 r2 q2 => k.rt S2 H2 v d (ex.trans x2) g2 r2 q2
        · exact fun S2 H2 σ2 env2 x2 sv2 q2 => k.bk S2 H2 _ _ (ex.trans x2) (sv2.unset i) q2
        · exact fun S2 H2 σ2 env2 x2 sv2 q2 => k.ct S2 H2 _ _ (ex.trans x2) (sv2.unset i) q2
      · exact ⟨false, by rw [hbt c C hM, h1], fun z => Bool.noConfusion z, fun _ => xo c dfs C dx gs S' H' h2 hM hne (g1.ex.trans g'.ex) ((sv.g.trans g1).trans g') eH r⟩
theorem pds_tryF {E0' : XK} (F : CatchOk W K mg x c0 bt) (G : DefOk P w K W mg base m g ps df []) (hs : X.stack = X.env :: X.outer) (hf : X.env.frame = some X.env.locals) (hN : X.N.Nodup) (tk : Takes X (fun cls d _ H => E cls d H))
    (ha : ∀ (pn : List (Addr × Obj)) (xe : Value → Shared → Prop), PDA (X.tr pn xe) W L2.E0 (e :: es) ta dr)
    (hsu : ∀ (a : Addr) (oe : Obj) (cls : Value) (d : Option Addr) (pn : List (Addr × Obj)), Zc cls d oe → (∃ vs, oe.data = .fields vs) → PDSs (X.suite a ((a, oe) :: pn)) W E0' (b0 :: suite) (ts a cls d) (dsu a cls d))
    (hX : X.prog = P ∧ X.w = w ∧ X.K = K ∧ X.mg = mg ∧ X.base = base := by exact ⟨rfl, rfl, rfl, rfl, rfl⟩) (hr : Room k X.A := by assumption) (hm : m ≤ k := by decide)
    (hi : X.N[i]? = some n := by rfl) (hln : X.env.kindOf n = some .local := by rfl) (hg : Gl X x := by rfl) (hdb : (x == ("__debug__" : Str)) = false := by decide)
    (hj : X.N[j]? = some y := by rfl) (hy : Loc X.env.scope y := by first | exact Or.inl rfl | exact Or.inr rfl) (hgg : Gl X g := by rfl) (hgd : (g == ("__debug__" : Str)) = false := by decide)
    (he : starEach (e :: es) X.env = (false, eval e X.env) :: starEach es X.env := by rfl) (hpl : (backTo cp (starEach es X.env)).any (·.1) = false := by rfl)
    (hsw : swapsWith (.Call (.Name g gp) (e :: es) [] cp) (some (.Name y yp)) ap.line X.env = pure false := by rfl)
    (hfn : X.fn y = true ∨ X.env.scope.names.lookup y = some .local := by first | exact .inl rfl | exact .inr rfl) :
    PDS X W E (.Try [.Assign [.Name y yp] (.Call (.Name g gp) (e :: es) [] cp) ap] [.ExceptHandler (some (.Name x np)) (some n) (b0 :: suite) pos'] [] [] pos)
      (tC1S W c0 fun C D σ H => tAsg (tCallS (spD K W df) (wAs K (.ref C) i ts (fun cls d _ H => E cls d H) D) ta) (gName j) D σ H) (dTryF W i j bt df dr dsu) := by
  obtain ⟨rfl, rfl, rfl, rfl, rfl⟩ := hX
  obtain ⟨C, hM, hmC, hbt⟩ := F.ex
  obtain ⟨f, fd, ds, dvs, Fn, hmf, hk, hb, hd, hdd⟩ := G.ex
  have e0 : dvs = [] := by
    have := hdd 0 (fun _ => none)
    unfold RA at this
    exact this
  subst e0
  cases hd
  refine pds_c1 (ts := fun C D σ H => tAsg (tCallS (spD X.K W df) (wAs X.K (.ref C) i ts (fun cls d _ H => E cls d H) D) ta) (gName j) D σ H) hM ⟨?_, ?_⟩
  · exact ps_try_as (tb := fun Wx => tAsg (tCallS (spD X.K W df) Wx ta) (gName j)) hs hf hN hi hln ⟨hg, hdb, .inl hmC⟩ tk (fun Wx pn xe tkx pw => pss_one (ps_set (X := X.tr pn xe) hN hj hy (pe_callS (X := X.tr pn xe) Fn (hr.mono hm) hgg hmf hk hb tkx (ha pn xe).pe hgd he hpl) hsw hfn)) (fun a oe cls d pn hz hv => (hsu a oe cls d pn hz hv).pe)
  · exact ss_tryF hbt (ha [] (fun _ _ => True)).se fun a cls d => (hsu a { cls := cls, dict := d, data := .fields #[] } cls d [] ⟨rfl, rfl⟩ ⟨_, rfl⟩).se
end
end DL

set_option Elab.async false
set_option linter.all false
set_option maxRecDepth 100000
set_option maxHeartbeats 1000000
/-! own lists: seen as shared while an expression is worked out; an item stored; a def that hands out a new list -/
namespace DL
open PySem PySem.W PySem.Calls PyProof.Rows L2
mutual
/-- no list in it -/
def nlD : D → Bool
  | .lst _ => false
  | .tup ds => nlA ds
  | .obj _ fs => nlF fs
  | .dct ks => nlK ks
  | _ => true
def nlA : List D → Bool
  | [] => true
  | d :: ds => nlD d && nlA ds
def nlF : List (Str × D) → Bool
  | [] => true
  | (_, d) :: fs => nlD d && nlF fs
def nlK : List (Key × D) → Bool
  | [] => true
  | (_, d) :: fs => nlD d && nlK fs
end
/-- a heap without what stands at a -/
def cut (S : Hp) (a : Addr) : Hp := fun b => if b = a then none else S b
theorem cut_same {S : Hp} {a : Addr} : cut S a a = none := if_pos rfl
theorem cut_ne {S : Hp} {a b : Addr} (h : b ≠ a) : cut S a b = S b := if_neg h
section
variable {K : Frag} {W : Wc} {p a : Addr} {S : Hp} {vs : List V}
theorem cut_at {b : Addr} {o : HO} (hS : S a = some (.lst vs)) (h : S b = some o) (hn : ∀ xs, o ≠ .lst xs) : cut S a b = some o := by
  have : b ≠ a := fun z => by
    rw [z, hS] at h
    exact hn _ (Option.some.inj h).symm
  rw [cut_ne this]; exact h
theorem cut_t {b : Addr} {xs : List V} (hS : S a = some (.lst vs)) (h : SqT K S b xs) : SqT K (cut S a) b xs := by
  rcases h with (h | ⟨o, h⟩) | h
  · exact .inl (.inl (cut_at hS h nofun))
  · exact .inl (.inr ⟨o, cut_at hS h nofun⟩)
  · exact .inr h
mutual
theorem R.cut (hS : S a = some (.lst vs)) : ∀ (d : D) (v : V), nlD d = true → DL.R K W p S v d → DL.R K W p (DL.cut S a) v d
  | .non, _, _, h => h
  | .bl _, _, _, h => h
  | .int _, _, _, h => h
  | .str _, _, _, h => h
  | .lst _, _, n, _ => nomatch n
  | .tup ds, v, n, h => by
    unfold DL.R at h ⊢
    obtain ⟨b, xs, rfl, h1, h2⟩ := h
    exact ⟨b, xs, rfl, cut_t hS h1, RA.cut hS ds xs n h2⟩
  | .obj c fs, v, n, h => by
    unfold DL.R at h ⊢
    obtain ⟨b, C, dx, gs, rfl, h1, h2, h3⟩ := h
    exact ⟨b, C, dx, gs, rfl, cut_at hS h1 nofun, h2, RF.cut hS fs gs n h3⟩
  | .tok, _, _, h => h
  | .ety, v, _, h => by
    unfold DL.R at h ⊢
    obtain ⟨b, rfl, h1⟩ := h
    obtain ⟨od, h1⟩ := h1
    exact ⟨b, rfl, od, cut_at hS h1 nofun⟩
  | .dct ks, v, n, h => by
    unfold DL.R at h ⊢
    obtain ⟨h0, b, kvs, rfl, h1, h2⟩ := h
    obtain ⟨od, h1⟩ := h1
    exact ⟨h0, b, kvs, rfl, ⟨od, cut_at hS h1 nofun⟩, RK.cut hS ks kvs n h2⟩
theorem RA.cut (hS : S a = some (.lst vs)) : ∀ (ds : List D) (xs : List V), nlA ds = true → RA K W p S xs ds → RA K W p (DL.cut S a) xs ds
  | [], _, _, h => h
  | d :: ds, xs, n, h => by
    unfold RA at h ⊢
    obtain ⟨y, ys, rfl, h1, h2⟩ := h
    have n' : nlD d = true ∧ nlA ds = true := by simpa [nlA] using n
    exact ⟨y, ys, rfl, R.cut hS d y n'.1 h1, RA.cut hS ds ys n'.2 h2⟩
theorem RF.cut (hS : S a = some (.lst vs)) : ∀ (ds : List (Str × D)) (xs : List (Str × V)), nlF ds = true → RF K W p S xs ds → RF K W p (DL.cut S a) xs ds
  | [], _, _, h => h
  | (m, d) :: ds, xs, n, h => by
    unfold RF at h ⊢
    obtain ⟨y, ys, rfl, h1, h2⟩ := h
    have n' : nlD d = true ∧ nlF ds = true := by simpa [nlF] using n
    exact ⟨y, ys, rfl, R.cut hS d y n'.1 h1, RF.cut hS ds ys n'.2 h2⟩
theorem RK.cut (hS : S a = some (.lst vs)) : ∀ (ds : List (Key × D)) (xs : List (Key × V)), nlK ds = true → RK K W p S xs ds → RK K W p (DL.cut S a) xs ds
  | [], _, _, h => h
  | (m, d) :: ds, xs, n, h => by
    unfold RK at h ⊢
    obtain ⟨y, ys, rfl, h1, h2⟩ := h
    have n' : nlD d = true ∧ nlK ds = true := by simpa [nlK] using n
    exact ⟨y, ys, rfl, R.cut hS d y n'.1 h1, RK.cut hS ds ys n'.2 h2⟩
end
end
def isIntD : D → Bool
  | .int _ => true
  | _ => false
theorem R.notInt {K : Frag} {W : Wc} {p : Addr} {S : Hp} {v : V} {d : D} (h : DL.R K W p S v d) (n : isIntD d = false) : ∀ i, v ≠ .int i := by
  intro i z
  subst z
  match d, n, h with
  | .non, _, h => exact nomatch (show V.int i = V.non from h)
  | .bl _, _, h => exact nomatch (show V.int i = V.bl _ from h)
  | .str _, _, h => exact nomatch (show V.int i = V.str _ from h)
  | .tok, _, h => exact nomatch (show V.int i = V.ref _ from h)
  | .lst _, _, h => unfold DL.R at h; obtain ⟨_, _, e, _⟩ := h; exact nomatch e
  | .tup _, _, h => unfold DL.R at h; obtain ⟨_, _, e, _⟩ := h; exact nomatch e
  | .obj _ _, _, h => unfold DL.R at h; obtain ⟨_, _, _, _, e, _⟩ := h; exact nomatch e
  | .ety, _, h => unfold DL.R at h; obtain ⟨_, e, _⟩ := h; exact nomatch e
  | .dct _, _, h => unfold DL.R at h; obtain ⟨_, _, _, e, _⟩ := h; exact nomatch e
theorem RA.mem {K : Frag} {W : Wc} {p : Addr} {S : Hp} : ∀ {ds : List D} {vs : List V} {d : D}, RA K W p S vs ds → d ∈ ds → ∃ v ∈ vs, DL.R K W p S v d
  | [], _, _, _, h => nomatch h
  | e :: ds, vs, d, r, h => by
    unfold RA at r
    obtain ⟨y, ys, rfl, h1, h2⟩ := r
    rcases List.mem_cons.mp h with rfl | h
    · exact ⟨y, by simp, h1⟩
    · obtain ⟨v, hv, rv⟩ := RA.mem h2 h
      exact ⟨v, by simp [hv], rv⟩
theorem SrcM.cut {M : MM} {S : Hp} {a : Addr} {vs : List V} {o : HO} (h : SrcM M S o) (hS : S a = some (.lst vs)) (hn : ∃ v ∈ vs, ∀ i, v ≠ .int i) : SrcM M (DL.cut S a) o := by
  cases k : M.pk with
  | true => exact (SrcM.p k).mpr ((SrcM.p k).mp h)
  | false =>
    obtain ⟨c, ns, i, b, s, e, hc, r⟩ := (SrcM.o k).mp h
    refine (SrcM.o k).mpr ⟨c, ns, i, b, s, e, ?_, r⟩
    have : c ≠ a := fun z => by
      rw [z, hS] at hc
      obtain ⟨v, hv, n⟩ := hn
      have e2 : vs = ns.map V.int := by cases hc; rfl
      rw [e2] at hv
      obtain ⟨j, _, ej⟩ := List.mem_map.mp hv
      exact n j ej.symm
    rw [cut_ne this]; exact hc
section
variable {K : Frag} {M : MM} {p a : Addr} {S H S' H' : Hp} {vs : List V} {σ : L2.St} {env : SEnv} {i : Nat} {ds : List D}
theorem stt_lend (st : Stt (WcOf M) p S H) (hp : a ≠ p) (hS : S a = none) (hH : H a = some (.lst vs)) : Stt (WcOf M) p (upd S a (.lst vs)) H := by
  have ex := Ex.new (o := HO.lst vs) hS
  refine ⟨tb_tell st.tabs nofun, fun b u z => ?_, ?_, ?_⟩
  · by_cases hb : b = a
    · subst hb; rw [upd_same] at z; cases z; exact hH
    · rw [upd_ne hb] at z; exact st.ex b u z
  · rw [upd_ne (Ne.symm hp)]; exact st.hid
  · obtain ⟨o', e', s⟩ := st.src
    exact ⟨o', e', (WcOf M).mono _ _ _ ex s⟩
/-- seen as shared -/
theorem Ev.lend (ev : Ev K (WcOf M) p S H σ env) (e : env[i]? = some (.ow ds)) (hs : σ[i]? = some (some (.ref a))) (hS : S a = none) (r : RA K (WcOf M) p S vs ds) : Ev K (WcOf M) p (upd S a (.lst vs)) H σ (env.set i (.sh (.lst ds))) := by
  have ex := Ex.new (o := HO.lst vs) hS
  refine ⟨fun j s e1 => ?_, fun j k as bs n e1 e2 => ?_⟩
  · rcases set_get e1 with ⟨rfl, rfl, _⟩ | ⟨hj, e1'⟩
    · refine ⟨_, hs, .ref a, rfl, ?_⟩
      unfold DL.R
      exact ⟨a, vs, rfl, upd_same, RA.mono ex _ _ r⟩
    · obtain ⟨o, h1, h2⟩ := ev.at_ j s e1'
      refine ⟨o, h1, ?_⟩
      cases s with
      | un => trivial
      | sh d => exact let ⟨v, e, r⟩ := h2; ⟨v, e, R.mono ex _ _ r⟩
      | ow ys =>
        have ne := ev.dis i j ds ys hj e e1'
        obtain ⟨b, us, e2, z1, z2, z3, z4⟩ := h2
        have : b ≠ a := fun y => ne (by rw [hs, h1, e2, y])
        exact ⟨b, us, e2, by rw [upd_ne this]; exact z1, z2, z3, RA.mono ex _ _ z4⟩
      | ex b d c fs => exact let ⟨e, gs, z1, z2, z3⟩ := h2; ⟨e, gs, z1, z2, RF.mono ex _ _ z3⟩
      | is b => exact h2
  · rcases set_get e1 with ⟨_, z, _⟩ | ⟨hj, e1'⟩
    · cases z
    · rcases set_get e2 with ⟨_, z, _⟩ | ⟨hk, e2'⟩
      · cases z
      · exact ev.dis j k as bs n e1' e2'
/-- taken back -/
theorem Grow.unlend (hS : S a = none) (hn : ∃ v ∈ vs, ∀ i, v ≠ .int i) (g : Grow (WcOf M) p (upd S a (.lst vs)) H S' H') : Grow (WcOf M) p S H (cut S' a) H' ∧ S' a = some (.lst vs) := by
  have hS' : S' a = some (.lst vs) := g.ex _ _ upd_same
  refine ⟨⟨fun b u z => ?_, ⟨⟨g.st.tabs.1, fun b ps z => ?_⟩, fun b u z => ?_, ?_, ?_⟩, g.kp, fun b n z => ?_⟩, hS'⟩
  · have : b ≠ a := fun y => by rw [y, hS] at z; cases z
    rw [cut_ne this]
    exact g.ex _ _ (by rw [upd_ne this]; exact z)
  · by_cases hb : b = a
    · subst hb; rw [cut_same] at z; cases z
    · rw [cut_ne hb] at z; exact g.st.tabs.2 b ps z
  · by_cases hb : b = a
    · subst hb; rw [cut_same] at z; cases z
    · rw [cut_ne hb] at z; exact g.st.ex b u z
  · by_cases hb : p = a
    · subst hb; exact cut_same
    · rw [cut_ne hb]; exact g.st.hid
  · obtain ⟨o, e, s⟩ := g.st.src
    exact ⟨o, e, SrcM.cut s hS' hn⟩
  · by_cases hb : b = a
    · subst hb; exact cut_same
    · rw [cut_ne hb]
      exact g.fr b n (by rw [upd_ne hb]; exact z)
end
def dWith (i : Nat) (de : DE) : DE := fun env xp post => ∃ ds, env[i]? = some (.ow ds) ∧ (∃ d ∈ ds, isIntD d = false) ∧ de (env.set i (.sh (.lst ds))) (fun c dfs => nlF dfs = true ∧ xp c dfs) fun d => nlD d = true ∧ post d
def dWithN (i : Nat) (dn : DA) : DA := fun env xp post => ∃ ds, env[i]? = some (.ow ds) ∧ (∃ d ∈ ds, isIntD d = false) ∧ dn (env.set i (.sh (.lst ds))) (fun c dfs => nlF dfs = true ∧ xp c dfs) fun es => nlA es = true ∧ post es
def dWithT (i : Nat) (dt : DT) : DT := fun env xp post => ∃ ds, env[i]? = some (.ow ds) ∧ (∃ d ∈ ds, isIntD d = false) ∧ dt (env.set i (.sh (.lst ds))) (fun c dfs => nlF dfs = true ∧ xp c dfs) post
section
variable {K : Frag} {M : MM} {E : XK} {te : TE} {tt : TT} {de : DE} {dn : DA} {dt : DT} {p a : Addr} {S H : Hp} {vs : List V} {xp : XP}
theorem XOk.lend (hS : S a = none) (hn : ∃ v ∈ vs, ∀ i, v ≠ .int i) (xo : XOk K (WcOf M) p S H xp E) : XOk K (WcOf M) p (upd S a (.lst vs)) H (fun c dfs => nlF dfs = true ∧ xp c dfs) E :=
  fun c dfs C x fs S' H' ⟨hl, hx⟩ hM ne g e r => by
    obtain ⟨g2, hS'⟩ := g.unlend hS hn
    exact xo c dfs C x fs _ H' hx hM ne g2 e (RF.cut hS' _ _ hl r)
theorem se_with (i : Nat) (h : SE K (WcOf M) E te de) : SE K (WcOf M) E te (dWith i de) := fun p S H σ env xp st ev xo Q post ⟨ds, e, ⟨d0, hd0, hi0⟩, q⟩ k => by
  obtain ⟨a, vs, hs, hS, hp, hH, r⟩ := ev.ow e
  have hn : ∃ v ∈ vs, ∀ i, v ≠ .int i := by
    obtain ⟨v, hv, rv⟩ := RA.mem r hd0
    exact ⟨v, hv, R.notInt rv hi0⟩
  refine h p _ H σ _ _ (stt_lend st hp hS hH) (ev.lend e hs hS r) (xo.lend hS hn) _ _ q fun v d S' H' ⟨hl, q2⟩ g rv => ?_
  obtain ⟨g2, hS'⟩ := g.unlend hS hn
  exact k v d _ H' q2 g2 (R.cut hS' _ _ hl rv)
theorem sn_with (i : Nat) (h : SN K (WcOf M) E te dn) : SN K (WcOf M) E te (dWithN i dn) := fun p S H σ env xp st ev xo Q post ⟨ds, e, ⟨d0, hd0, hi0⟩, q⟩ k => by
  obtain ⟨a, vs, hs, hS, hp, hH, r⟩ := ev.ow e
  have hn : ∃ v ∈ vs, ∀ i, v ≠ .int i := by
    obtain ⟨v, hv, rv⟩ := RA.mem r hd0
    exact ⟨v, hv, R.notInt rv hi0⟩
  refine h p _ H σ _ _ (stt_lend st hp hS hH) (ev.lend e hs hS r) (xo.lend hS hn) _ _ q fun l ws es S' H' ⟨hl, q2⟩ g h1 h2 h3 rv => ?_
  obtain ⟨g2, hS'⟩ := g.unlend hS hn
  have nl : l ≠ a := fun z => by rw [z, hS'] at h2; cases h2
  exact k l ws es _ H' q2 g2 h1 (by rw [cut_ne nl]; exact h2) h3 (RA.cut hS' _ _ hl rv)
theorem st_with (i : Nat) (h : STt K (WcOf M) E tt dt) : STt K (WcOf M) E tt (dWithT i dt) := fun p S H σ env xp st ev xo Q post ⟨ds, e, ⟨d0, hd0, hi0⟩, q⟩ k => by
  obtain ⟨a, vs, hs, hS, hp, hH, r⟩ := ev.ow e
  have hn : ∃ v ∈ vs, ∀ i, v ≠ .int i := by
    obtain ⟨v, hv, rv⟩ := RA.mem r hd0
    exact ⟨v, hv, R.notInt rv hi0⟩
  refine h p _ H σ _ _ (stt_lend st hp hS hH) (ev.lend e hs hS r) (xo.lend hS hn) _ _ q fun b S' H' q2 g => ?_
  exact k b _ H' q2 (g.unlend hS hn).1
end
section
variable {X : Cx} {M : MM} {E : XK} {e : Expr} {te : TE} {tt : TT} {de : DE} {dn : DA} {dt : DT}
theorem pd_with (i : Nat) (h : PD X (WcOf M) E e te de) : PD X (WcOf M) E e te (dWith i de) := ⟨h.pe, se_with i h.se⟩
theorem pdn_with (i : Nat) (h : PDN X (WcOf M) E e te dn) : PDN X (WcOf M) E e te (dWithN i dn) := ⟨h.pe, sn_with i h.se⟩
theorem pdt_with (i : Nat) (h : PDT X (WcOf M) E e tt dt) : PDT X (WcOf M) E e tt (dWithT i dt) := ⟨h.pe, st_with i h.se⟩
end
/-! ### x[k] = e -/
def dSetIx (i : Nat) (dk de : DE) : DS := fun DD xp env => de env xp fun d => ∃ ds, env[i]? = some (.ow ds) ∧ dk env xp fun kd => ∃ k n, kd = .int k ∧ ixN ds.length k = some n ∧ DD.nx (env.set i (.ow (ds.set n d)))
theorem RA.set {K : Frag} {W : Wc} {p : Addr} {S : Hp} {v : V} {d : D} (r : DL.R K W p S v d) : ∀ {ds : List D} {vs : List V} (n : Nat), RA K W p S vs ds → RA K W p S (vs.set n v) (ds.set n d)
  | [], vs, n, h => by unfold RA at h; subst h; exact RA.nil
  | e :: ds, vs, n, h => by
    unfold RA at h
    obtain ⟨y, ys, rfl, h1, h2⟩ := h
    cases n with
    | zero => exact RA.cons r h2
    | succ n => exact RA.cons h1 (RA.set r n h2)
theorem ss_setIx {K : Frag} {W : Wc} {E : XK} {i : Nat} {te tk : TE} {de dk : DE} (he : SE K W E te de) (hk : SE K W E tk dk) : SS K W E (tAsg te (gSub (tVar i) tk rSetL)) (dSetIx i dk de) := fun p S0 H0 S H σ env xp sv xo D DD q k =>
  he p S H σ env xp sv.st sv.ev (sv.xo xo) _ _ q fun v d S1 H1 ⟨ds, e, q1⟩ g1 r1 => by
    have sv1 := sv.mono g1
    obtain ⟨a, vs, hs, hS, hp, hH, r⟩ := sv1.ev.ow e
    refine ⟨.ref a, hs, ?_⟩
    refine hk p S1 H1 σ env xp sv1.st sv1.ev (sv1.xo (xo.ex g1.ex)) _ _ q1 fun u kd S2 H2 ⟨j, n, ek, hn, q2⟩ g2 r2 => ?_
    subst ek
    obtain rfl : u = V.int j := r2
    have hH2 := g2.keep a _ hp hH
    have hS2 := g2.fr a (by rw [hH]; simp) hS
    have hl := RA.length r
    refine ⟨a, vs, j, n, rfl, rfl, hH2, by rw [hl]; exact hn, ?_⟩
    exact k.nx S2 _ _ _ (g1.ex.trans g2.ex) ((sv1.mono g2).chg e hs hS2 hp hH2 (RA.set (R.mono g2.ex _ _ r1) n (RA.mono g2.ex _ _ r))) q2
section
variable {X : Cx} {W : Wc} {E : XK} {e idx : Expr} {te tk : TE} {de dk : DE} {x : Str} {np sp pos : Pos}
theorem pds_setIx (i : Nat) (he : PD X W E e te de) (hk : PD X W E idx tk dk) (hi : X.N[i]? = some x := by rfl) (hv : Vis X.env.scope x := by first | exact Or.inl rfl | exact Or.inr (Or.inl rfl) | exact Or.inr (Or.inr rfl)) (hd : (x == ("__debug__" : Str)) = false := by decide) (hcd : (x == ("__classdict__" : Str)) = false := by decide)
    (hs : swapsWithSole [.Subscript (.Name x np) idx sp] e pos.line X.env = pure false := by rfl) (hw : swappedStores [.Subscript (.Name x np) idx sp] e X.env = pure none := by rfl)
    (h1 : (assignEach [.Subscript (.Name x np) idx sp] X.env).map (·.2) = [assign (.Subscript (.Name x np) idx sp) X.env] := by rfl)
    (ha : ∀ v, assign (.Subscript (.Name x np) idx sp) X.env v = (do
      let ov ← holding [v] (eval (.Name x np) X.env)
      let iv ← holding [v, ov] (eval idx X.env)
      standAt sp
      holding [v, ov, iv] (setItem ov iv v)
      release [v, ov, iv] []) := by intro _; rfl) :
    PDS X W E (.Assign [.Subscript (.Name x np) idx sp] e pos) (tAsg te (gSub (tVar i) tk rSetL)) (dSetIx i dk de) :=
  ⟨ps_asg he.pe (pg_sub (pe_var hi hv hd hcd) hk.pe set_list ha) hs hw h1, ss_setIx he.se hk.se⟩
end
/-! ### a def whose value is a new list -/
def spN (K : Frag) (W : Wc) (f : DF) : Sp := fun vs H Q E => ∃ p S ds post xp, Stt W p S H ∧ RA K W p S vs ds ∧ f ds xp post ∧
  (∀ q ws es S' H', post (.lst es) → Grow W p S H S' H' → H q = none → S' q = none → H' q = some (.lst ws) → RA K W p S' ws es → Q (.ref q) H') ∧ XOk K W p S H xp E
def SSR (K : Frag) (W : Wc) (E : XK) (ts : TS) (ds : DS) : Prop := ∀ p S0 H0 S H σ env xp, Sv K W p S0 H0 S H σ env → XOkS K W p S0 H0 S xp E → ∀ (D : Ends) (DD : DEnds), ds DD xp env →
  (∀ S' H' q ws es, Ex S S' → Grow W p S0 H0 S' H' → H0 q = none → S' q = none → H' q = some (.lst ws) → RA K W p S' ws es → DD.rt (.lst es) → D.rt (.ref q) H') → ts D σ H
structure PDR (X : Cx) (W : Wc) (E : XK) (sts : List Stmt) (ts : TS) (ds : DS) : Prop where
  pe : PSs X sts ts
  se : SSR X.K W E ts ds
def dSeqR (ds du : DS) : DS := fun DD xp env => ds { nx := fun env' => du DD xp env', rt := fun _ => False } xp env
def dRetL (dn : DA) : DS := fun DD xp env => dn env xp fun es => DD.rt (.lst es)
section
variable {X : Cx} {W : Wc} {E : XK} {st : Stmt} {rest : List Stmt} {ts us : TS} {ds du : DS} {e : Expr} {te : TE} {dn : DA} {pos : Pos}
theorem pdr_cons (h1 : PDS X W E st ts ds) (h2 : PDR X W E rest us du) : PDR X W E (st :: rest) (tSeq ts us) (dSeqR ds du) :=
  ⟨pss_cons h1.pe h2.pe, fun p S0 H0 S H σ env xp sv xo D DD q k => h1.se p S0 H0 S H σ env xp sv xo { D with nx := us D } { nx := fun env' => du DD xp env', rt := fun _ => False } q
    ⟨fun S' H' σ' env' x sv' q' => h2.se p S0 H0 S' H' σ' env' xp sv' (xo.ex x) D DD q' fun S2 H2 l ws es x2 => k S2 H2 l ws es (x.trans x2), fun _ _ _ _ _ _ _ z => z.elim, fun _ _ _ _ _ _ z => z.elim, fun _ _ _ _ _ _ z => z.elim⟩⟩
theorem pdr_ret (he : PDN X W E e te dn) : PDR X W E [.Return (some e) pos] (tRet te) (dRetL dn) :=
  ⟨pss_one (ps_ret he.pe), fun p S0 H0 S H σ env xp sv xo D DD q k => he.se p S H σ env xp sv.st sv.ev (sv.xo xo) _ _ q fun l ws es S1 H1 q1 g1 h1 h2 h3 r1 => by
    have nl : l ≠ p := fun z => by
      obtain ⟨o, e, _⟩ := sv.st.src
      rw [z, e] at h1; cases h1
    exact k S1 H1 l ws es g1.ex (sv.g.trans g1) (sv.g.dead l nl h1) h2 h3 r1 q1⟩
end
def runFR (n m : Nat) (body : DS) : DF := fun ds xp post => ds.length = m ∧ body { nx := fun _ => False, rt := post } xp (ds.map .sh ++ List.replicate (n - m) .un)
section
variable {P : Program} {w : World} {K : Frag} {W : Wc} {mg : Str → Option Value} {base : Heap}
theorem okN {x qual : Str} {st : Stmt} {f : Addr} {fd : FuncData} {N ps : List Str} {k : Nat} {body : DS} (F : Fun K x qual st f fd) (Sc : FnScope N ps (defScope st))
    (hb : ∀ (cdv : Value) (A : Around) (outer : List PySem.Env) (s : Shared) (H : Hp) (E : XK), Room k (A.deeper (PyProof.Rows.envOfC qual (defScope st) s.heap.objs.size f cdv)) →
      ∃ ts, PDR (cxOf (L2.CX P w) P w K mg base N qual (defScope st) f cdv A outer s H E) W E (defBody st) ts body) : FnOk P w K mg base (L2.CX P w) (k + 1) f fd ps (spN K W (runFR N.length ps.length body)) := by
  refine F.okX Sc (fun vs H Q E h => ?_) (fun cdv A outer s H vs Q E hr h => ?_)
  · obtain ⟨p, S, ds, post, xp, _, r, ⟨h1, _⟩, _⟩ := h
    rw [RA.length r, h1]
  · obtain ⟨p, S, ds, post, xp, stt, r, ⟨h1, q⟩, k1, xo⟩ := h
    obtain ⟨ts, pe, se⟩ := hb cdv A outer s H E hr
    refine ⟨ts, pe, se p S H S H (L2.start N vs) _ xp ⟨Grow.refl stt, ?_, fun i ds' a e1 e2 => ?_⟩ xo.s _ _ q fun S' H' l ws es _ g h1 h2 h3 r q => k1 l ws es S' H' q g h1 h2 h3 r⟩
    · have := r.begins (H := H) (N := N)
      rw [RA.length r, h1] at this
      exact this
    · exfalso
      by_cases hi : i < ds.length
      · rw [List.getElem?_append_left (by simpa using hi), List.getElem?_map] at e1
        cases hd : ds[i]? with
        | none => rw [hd] at e1; cases e1
        | some d => rw [hd] at e1; cases e1
      · rw [List.getElem?_append_right (by simpa using hi), List.getElem?_replicate] at e1
        split at e1 <;> cases e1
end
structure DefN (P : Program) (w : World) (K : Frag) (W : Wc) (mg : Str → Option Value) (base : Heap) (k : Nat) (nm : Str) (ps : List Str) (df : DF) : Prop where
  ex : ∃ (f : Addr) (fd : FuncData), FnOk P w K mg base (L2.CX P w) k f fd ps (spN K W df) ∧ mg nm = some (.ref f) ∧ PySem.W.keepIn K (.ref f) = true ∧ Binds K fd ps []
def dCallN (df : DF) (dr : DA) : DA := fun env xp post => dr env xp fun ds => df ds xp fun d => ∃ es, d = .lst es ∧ post es
section
variable {X : Cx} {W : Wc} {E : XK} {K : Frag} {mg : Str → Option Value} {P : Program} {w : World} {base : Heap} {j k : Nat} {x : Str} {ps : List Str} {df : DF} {e : Expr} {es : List Expr} {tr : TA} {dr : DA} {p pos : Pos}
theorem sn_callN (h : SA K W E tr dr) : SN K W E (tCall (spN K W df) [] E tr) (dCallN df dr) := fun p S H σ env xp st ev xo Q post q k => h p S H σ env xp st ev xo _ _ q fun vs ds S1 H1 q1 g1 r1 =>
  ⟨p, S1, ds, _, xp, g1.st, by rw [List.append_nil]; exact r1, q1, fun l ws es S2 H2 ⟨es', ee, q2⟩ g2 h1 h2 h3 r2 => by
    cases ee
    have nl : l ≠ p := fun z => by
      obtain ⟨o, e, _⟩ := g1.st.src
      rw [z, e] at h1; cases h1
    exact k l ws es S2 H2 q2 (g1.trans g2) (g1.dead l nl h1) h2 h3 r2, xo.mono g1⟩
theorem pdn_callN (F : DefN P w K W mg base j x ps df) (hx : Passes (L2.CX X.prog X.w) X E) (ha : PDA X W E (e :: es) tr dr)
    (hX : X.prog = P ∧ X.w = w ∧ X.K = K ∧ X.mg = mg ∧ X.base = base := by exact ⟨rfl, rfl, rfl, rfl, rfl⟩) (hr : Room k X.A := by assumption) (hj : j ≤ k := by decide) (hg : Gl X x := by rfl)
    (hdb : (x == ("__debug__" : Str)) = false := by decide) (he : starEach (e :: es) X.env = (false, eval e X.env) :: starEach es X.env := by rfl) (hpl : (backTo pos (starEach es X.env)).any (·.1) = false := by rfl) :
    PDN X W E (.Call (.Name x p) (e :: es) [] pos) (tCall (spN K W df) [] E tr) (dCallN df dr) := by
  obtain ⟨rfl, rfl, rfl, rfl, rfl⟩ := hX
  obtain ⟨f, fd, F, hm, hk, hb⟩ := F.ex
  exact ⟨pe_call F (hr.mono hj) hg hm hk hb .nil hx ha.pe hdb he hpl, sn_callN ha.se⟩
end
end DL

set_option Elab.async false
set_option linter.all false
set_option maxRecDepth 100000
set_option maxHeartbeats 1000000
/-! == of dicts; C() with defaults of keyword-only parameters; min -/
namespace DL
open PySem PySem.W PySem.Calls PySem.Spec PyProof PyProof.Rows L2
/-- what the values at the keys say -/
inductive DHits (K : Frag) (H : Hp) (lvs : List (Key × V)) : List (Key × V) → Bool → Prop
  | nil : DHits K H lvs [] true
  | miss {k : Key} {v : V} {r : List (Key × V)} : valV lvs k = none → DHits K H lvs ((k, v) :: r) false
  | hit {k : Key} {v u : V} {r : List (Key × V)} {d e : PyData} {b : Bool} : valV lvs k = some u → Dp K H v d → Dp K H u e → d.canLay0 = true → e.canLay0 = true → d.depth ≤ 63 → DHits K H lvs r b → DHits K H lvs ((k, v) :: r) (PyData.eqv d e && b)
def rDEq (K : Frag) (neg : Bool) : R2 := fun x y H Q => ∃ a b kvs lvs r, x = .ref a ∧ y = .ref b ∧ Rd H a (.dK kvs) ∧ Rd H b (.dK lvs) ∧ DHits K H lvs kvs r ∧ Q (.bl ((kvs.length == lvs.length && r) != neg)) H
theorem hitsP {X : Cx} {pins : List (Addr × Obj)} {σ : L2.St} {H : Hp} {s : Shared} {A : Around} (I : Inv X pins σ H s) (hu : A.units + 64 < cLine) {lvs : List (Key × V)} {vb : List (Key × Value)} (rb : KV lvs vb) {kvs : List (Key × V)} {va : List (Key × Value)} (ra : KV kvs va) :
    ∀ {r : Bool}, DHits X.K H lvs kvs r → PySem.W.KeqHitsP X.prog X.w A s vb va r := by
  unfold KV at ra
  induction ra with
  | nil => intro r h; cases h; exact .nil
  | @cons p q ps qs h t ih =>
    intro r hh
    obtain ⟨h1, h2⟩ := h
    obtain ⟨key, v⟩ := q
    have h1' : p.1 = key := h1
    obtain ⟨k0, v0⟩ := p
    have h1'' : k0 = key := h1'
    subst h1''
    cases hh with
    | miss hn =>
      have := rb.val k0
      rw [hn] at this
      refine .miss ?_
      cases hv : valueAt vb k0 with
      | none => rfl
      | some z => rw [hv] at this; exact this.elim
    | hit hv d1 d2 c1 c2 dep rest =>
      have rr := rb.val k0
      rw [hv] at rr
      obtain ⟨y, hy, ry⟩ := rr.some_of
      obtain ⟨as, q1⟩ := Dp.reads I _ _ _ d1 h2
      obtain ⟨bs, q2⟩ := Dp.reads I _ _ _ d2 ry
      refine .hit hy (SeqAt.EqAt.eqP (SeqAt.eqAt_reads _ _ A s _ _ _ _ q1 q2 c1 c2 ?_)) (ih rest)
      omega
theorem op_deq {X : Cx} (hu : X.A.units + 65 < cLine) : OpR X (compareOp .Eq) (rDEq X.K false) := by
  intro pins s σ H x y v u Q I rx ry h
  obtain ⟨a, b, kvs, lvs, r, rfl, rfl, ha, hb, hh, q⟩ := h
  cases (show v = Value.ref a from rx)
  cases (show u = Value.ref b from ry)
  obtain ⟨_, ya, va, ra, da⟩ := dk_rd I.hok ha
  obtain ⟨_, yb, vb, rb, db⟩ := dk_rd I.hok hb
  refine PySem.W.rcP_dicts (knd := mixKind X.prog X.w) (r := r) ya yb da db (by omega) (fun _ => hitsP I (by show X.A.units + 1 + 64 < cLine; omega) rb ra hh) _ _ ?_
  rw [show (va.length == vb.length) = (kvs.length == lvs.length) by rw [ra.length, rb.length]]
  exact ⟨.bl (kvs.length == lvs.length && r), H, I, rfl, by simpa using q⟩
def eqK (ks ls : List (Key × D)) : Bool := ks.all fun kv => match valKD ls kv.1 with
  | some d => eqD kv.2 d
  | none => false
def bDEq : D → D → (D → Prop) → Prop := fun d e k => ∃ ks ls, d = dctD ks ∧ e = dctD ls ∧ (∀ kv ∈ ks, pyB 63 kv.2 = true) ∧ (∀ kv ∈ ls, pyB 63 kv.2 = true) ∧ k (.bl (ks.length == ls.length && eqK ks ls))
theorem pyB_parts {n : Nat} {d : D} (h : pyB n d = true) : isPy d = true ∧ (toPy d).canLay0 = true ∧ (toPy d).depth ≤ n := by
  unfold pyB at h
  rw [Bool.and_eq_true, Bool.and_eq_true, decide_eq_true_eq] at h
  exact ⟨h.1.1, h.1.2, h.2⟩
theorem valKD_mem {k : Key} {d : D} : ∀ {ks : List (Key × D)}, valKD ks k = some d → (k, d) ∈ ks
  | (n, e) :: ks, h => by
    by_cases hn : n = k
    · have : valKD ((n, e) :: ks) k = some e := by simp [valKD, List.find?_cons, hn]
      rw [this] at h
      cases h
      rw [hn]; simp
    · have : valKD ((n, e) :: ks) k = valKD ks k := by simp [valKD, List.find?_cons, hn]
      rw [this] at h
      exact List.mem_cons_of_mem _ (valKD_mem h)
theorem dhits_of {K : Frag} {W : Wc} {p : Addr} {S H : Hp} (ex : Ex S H) {ls : List (Key × D)} {lvs : List (Key × V)} (rl : RK K W p S lvs ls) (hl : ∀ kv ∈ ls, pyB 63 kv.2 = true) : ∀ {ks : List (Key × D)} {kvs : List (Key × V)}, RK K W p S kvs ks → (∀ kv ∈ ks, pyB 63 kv.2 = true) → DHits K H lvs kvs (eqK ks ls)
  | [], kvs, h, _ => by unfold RK at h; subst h; exact .nil
  | (n, d) :: ks, kvs, h, hk => by
    unfold RK at h
    obtain ⟨y, ys, rfl, h1, h2⟩ := h
    have ih := dhits_of ex rl hl h2 fun kv hm => hk kv (List.mem_cons_of_mem _ hm)
    obtain ⟨p1, p2, p3⟩ := pyB_parts (hk (n, d) (by simp))
    have e : eqK ((n, d) :: ks) ls = ((match valKD ls n with | some d2 => eqD d d2 | none => false) && eqK ks ls) := rfl
    rw [e]
    cases hv : valKD ls n with
    | none =>
      rw [Bool.false_and]
      exact .miss (RK.none rl hv)
    | some d2 =>
      obtain ⟨u, hu, ru⟩ := RK.val rl hv
      obtain ⟨q1, q2, q3⟩ := pyB_parts (hl (n, d2) (valKD_mem hv))
      exact .hit hu (R.dp ex d y p1 h1) (R.dp ex d2 u q1 ru) p2 q2 p3 ih
theorem rb_deq {K : Frag} {W : Wc} : RB K W (rDEq K false) bDEq := fun p S H x y d e Q post st r1 r2 ⟨ks, ls, e1, e2, hk, hl, q⟩ k => by
  subst e1 e2
  obtain ⟨a, kvs, rfl, ha, rk⟩ := rDct r1
  obtain ⟨b, lvs, rfl, hb, rl⟩ := rDct r2
  refine ⟨a, b, kvs, lvs, _, rfl, rfl, st.ex.rd ha.rd, st.ex.rd hb.rd, dhits_of st.ex rl hl rk hk, ?_⟩
  rw [RK.len rk, RK.len rl]
  exact k _ (.bl (ks.length == ls.length && eqK ks ls)) S H q (Grow.refl st) (by unfold DL.R; simp)
theorem op_deqK (K : Frag) {X : Cx} (hu : X.A.units + 65 < cLine) (hK : X.K = K := by rfl) : OpR X (compareOp .Eq) (rDEq K false) := by
  subst hK
  exact op_deq hu
/-! ### min of two numbers -/
def bMin2 : List D → (D → Prop) → Prop
  | [.int i, .int j], k => k (.int (if j < i then j else i))
  | _, _ => False
theorem rc_min2 {K : Frag} {W : Wc} : RCb K W (fun xs H Q => ∃ i j, xs = [.int i, .int j] ∧ Q (.int (if j < i then j else i)) H) bMin2 := fun p S H vs ds Q post st ra q k => by
  unfold bMin2 at q
  split at q
  · obtain ⟨v, w, rfl, r1, r2⟩ := ra.two
    exact ⟨_, _, by rw [show v = _ from r1, show w = _ from r2], k _ _ S H q (Grow.refl st) rfl⟩
  · exact q.elim
/-! ### C() -/
structure NewOk2 (P : Program) (w : World) (K : Frag) (W : Wc) (mg : Str → Option Value) (base : Heap) (k : Nat) (x : Str) (c : Nat) (df : DF) (dds : List D) : Prop where
  ex : ∃ (C f : Addr) (fd : FuncData) (ps : List Str) (ds : List Value) (dvs : List V), W.M c = some C ∧ Mk K C f ∧ FnOk P w K mg base (L2.CX P w) k f fd ps (spI2 K W c df) ∧ mg x = some (.ref C) ∧ Binds K fd ps ds ∧ Vals dvs ds ∧ ∀ p S, RA K W p S dvs dds
section
variable {X : Cx} {W : Wc} {E : XK} {K : Frag} {P : Program} {w : World} {mg : Str → Option Value} {base : Heap} {c j k : Nat} {p pos : Pos} {x : Str} {df : DF} {dds : List D}
theorem se_make20 {C : Addr} {dvs : List V} (hM : W.M c = some C) (hd : ∀ p S, RA K W p S dvs dds) : SE K W E (tMake C (spI2 K W c df) dvs E tNil) (dCall df dds dNil) :=
  fun p S H σ env xp st ev xo Q post q k x dx hx hdx hne =>
    ⟨p, S, H, x, dx, C, dvs, dds, post, xp, rfl, hM, st, hx, hdx, hne, rfl, hd p S, (q : df ([] ++ dds) xp post), fun d S2 H2 q2 g2 r2 => ⟨rfl, k _ d S2 H2 q2 g2 r2⟩, xo⟩
theorem pd_new20 (F : NewOk2 P w K W mg base j x c df dds) (hx : Passes (L2.CX X.prog X.w) X E)
    (hX : X.prog = P ∧ X.w = w ∧ X.K = K ∧ X.mg = mg ∧ X.base = base := by exact ⟨rfl, rfl, rfl, rfl, rfl⟩) (hr : Room k X.A := by assumption) (hj : j + 1 ≤ k := by decide) (hg : Gl X x := by rfl) (hdb : (x == ("__debug__" : Str)) = false := by decide) :
    ∃ te, PD X W E (.Call (.Name x p) [] [] pos) te (dCall df dds dNil) := by
  obtain ⟨rfl, rfl, rfl, rfl, rfl⟩ := hX
  obtain ⟨C, f, fd, ps, ds, dvs, hM, M, F, hm, hb, hd, hdd⟩ := F.ex
  exact ⟨_, pe_make0 M F (hr.mono hj) hg hm hb hd hx hdb, se_make20 hM hdd⟩
end
end DL

set_option Elab.async false
set_option linter.all false
set_option maxRecDepth 100000
set_option maxHeartbeats 1000000
/-! walks over dicts; d[k]; sorted of numbers, of a dict's numbers; dict(pairs); x = e in a try whose suite knows the slots -/
namespace DL
open PySem PySem.W PySem.Calls PySem.Spec PyProof PyProof.Rows L2
section
variable {K : Frag} {W : Wc} {p : Addr} {S : Hp}
theorem R.kD : ∀ k : Key, DL.R K W p S (kV k) (kD k)
  | .inl _ => rfl
  | .inr _ => rfl
theorem RK.at_ : ∀ {ks : List (Key × D)} {kvs : List (Key × V)} {i : Nat} {k : Key} {v : V}, RK K W p S kvs ks → kvs[i]? = some (k, v) → ∃ d, ks[i]? = some (k, d) ∧ DL.R K W p S v d
  | [], kvs, i, k, v, h, e => by unfold RK at h; subst h; simp at e
  | (n, d) :: ks, kvs, i, k, v, h, e => by
    unfold RK at h
    obtain ⟨y, ys, rfl, h1, h2⟩ := h
    cases i with
    | zero =>
      cases Option.some.inj e
      exact ⟨d, rfl, h1⟩
    | succ i =>
      obtain ⟨d', hd, r⟩ := RK.at_ (i := i) h2 (by simpa using e)
      exact ⟨d', by simpa using hd, r⟩
end
/-! ### for k in d; for v in d.values() -/
def dKeys (de : DE) : DA := fun env xp post => de env xp fun d => ∃ ks, d = dctD ks ∧ post (ks.map fun kv => kD kv.1)
def dVals (de : DE) : DA := fun env xp post => de env xp fun d => ∃ ks, d = dctD ks ∧ post (ks.map (·.2))
section
variable {X : Cx} {W : Wc} {E : XK} {tg e : Expr} {te : TE} {de : DE} {apos cpos : Pos}
theorem pdi_keys (h : PD X W E e te de) : PDI X W E tg e (iKeys te) (dKeys de) :=
  ⟨pi_keys h.pe, fun p S H σ env xp st ev xo Rr post q k => h.se p S H σ env xp st ev xo _ _ q fun v d S1 H1 ⟨ks, ed, q1⟩ g1 r1 => by
    subst ed
    obtain ⟨a, kvs, rfl, ⟨od, h1⟩, rk⟩ := rDct r1
    have hl := RK.len rk
    refine ⟨a, od, rfl, .inl ⟨kvs, g1.st.ex _ _ h1, ?_⟩⟩
    have wk : Walk (Itk a od kvs) (ks.map fun kv => kD kv.1).length (fun H => H a = some (.frz od (.dK kvs))) (fun i H x H' => H' = H ∧ ∃ k v, kvs[i]? = some (k, v) ∧ x = kV k) := by rw [List.length_map, ← hl]; exact walk_keys
    refine k _ _ _ _ S1 H1 q1 g1 wk (fun H2 x => x _ _ h1) fun i S2 H2 x H3 ex st2 hi ⟨eH, ky, v, hk, ev⟩ => ?_
    subst eH ev
    obtain ⟨d, hd, r⟩ := RK.at_ rk hk
    exact ⟨kD ky, S2, by rw [List.getElem?_map, hd]; rfl, Grow.refl st2, R.kD ky⟩⟩
theorem pdi_vals (h : PD X W E e te de) (hbase : attributeBase e "values" X.env (eval e X.env) = eval e X.env := by rfl) (hline : (apos.endLine == cpos.line) = true := by rfl) : PDI X W E tg (.Call (.Attribute e "values" apos) [] [] cpos) (iVals te) (dVals de) :=
  ⟨pi_values h.pe hbase hline, fun p S H σ env xp st ev xo Rr post q k => h.se p S H σ env xp st ev xo _ _ q fun v d S1 H1 ⟨ks, ed, q1⟩ g1 r1 => by
    subst ed
    obtain ⟨a, kvs, rfl, ⟨od, h1⟩, rk⟩ := rDct r1
    have hl := RK.len rk
    refine ⟨a, od, kvs, rfl, g1.st.ex _ _ h1, ?_⟩
    have wk : Walk (Itd a od kvs) (ks.map (·.2)).length (fun H => H a = some (.frz od (.dK kvs))) (fun i H x H' => H' = H ∧ ∃ k, kvs[i]? = some (k, x)) := by rw [List.length_map, ← hl]; exact walk_values
    refine k _ _ _ _ S1 H1 q1 g1 wk (fun H2 x => x _ _ h1) fun i S2 H2 x H3 ex st2 hi ⟨eH, ky, hk⟩ => ?_
    subst eH
    obtain ⟨d, hd, r⟩ := RK.at_ rk hk
    exact ⟨d, S2, by rw [List.getElem?_map, hd]; rfl, Grow.refl st2, R.mono ex _ _ r⟩⟩
end
/-! ### d[k] -/
def dDGetK (dd dk : DE) : DE := fun env xp post => dd env xp fun d => dk env xp fun k => ∃ ks key v, d = dctD ks ∧ k = kD key ∧ valKD ks key = some v ∧ post v
section
variable {X : Cx} {W : Wc} {E : XK} {o e : Expr} {pos : Pos} {td ty : TE} {dd dk : DE}
theorem pd_dgetK (hu : X.A.units + 1 < cLine) (ho : PD X W E o td dd) (hi : PD X W E e ty dk) (hs : NoSl e := by exact fun _ _ => rfl) : PD X W E (.Subscript o e pos) (tDGet td ty) (dDGetK dd dk) :=
  ⟨pe_dget hu ho.pe hi.pe hs, fun p S H σ env xp st ev xo Q post q k => ho.se p S H σ env xp st ev xo _ _ q fun x d S1 H1 q1 g1 r1 =>
    hi.se p S1 H1 σ env xp g1.st (ev.mono g1) (xo.mono g1) _ _ q1 fun y d2 S2 H2 ⟨ks, key, v, e1, e2, hv, q2⟩ g2 r2 => by
      subst e1 e2
      obtain ⟨a, kvs, rfl, h1, h2⟩ := rDct (R.mono g2.ex _ _ r1)
      obtain ⟨z, e3, rz⟩ := RK.val h2 hv
      exact ⟨a, z, rfl, .inl ⟨kvs, key, g2.st.ex.rd h1.rd, kV_of r2, e3.symm⟩, k _ _ S2 H2 q2 (g1.trans g2) rz⟩⟩
end
/-! ### sorted of numbers -/
def isInts : List D → Option (List Int)
  | [] => some []
  | .int i :: ds => (isInts ds).map (i :: ·)
  | _ => none
theorem isInts_map : ∀ ns : List Int, isInts (ns.map D.int) = some ns
  | [] => rfl
  | n :: ns => by rw [List.map_cons]; unfold isInts; rw [isInts_map ns]; rfl
theorem RA.ints {K : Frag} {W : Wc} {p : Addr} {S : Hp} : ∀ {ds : List D} {xs : List V} {ns : List Int}, RA K W p S xs ds → isInts ds = some ns → xs = ns.map V.int
  | [], xs, ns, h, e => by unfold RA at h; cases e; exact h
  | .int i :: ds, xs, ns, h, e => by
    unfold RA at h
    obtain ⟨y, ys, rfl, h1, h2⟩ := h
    unfold isInts at e
    obtain ⟨ms, e1, rfl⟩ := Option.map_eq_some_iff.mp e
    rw [List.map_cons, ← RA.ints h2 e1, show y = V.int i from h1]
  | .non :: _, _, _, _, e => nomatch e
  | .bl _ :: _, _, _, _, e => nomatch e
  | .str _ :: _, _, _, _, e => nomatch e
  | .lst _ :: _, _, _, _, e => nomatch e
  | .tup _ :: _, _, _, _, e => nomatch e
  | .obj _ _ :: _, _, _, _, e => nomatch e
  | .tok :: _, _, _, _, e => nomatch e
  | .ety :: _, _, _, _, e => nomatch e
  | .dct _ :: _, _, _, _, e => nomatch e
theorem ra_ints {K : Frag} {W : Wc} {p : Addr} {S : Hp} : ∀ ys : List Int, RA K W p S (ys.map V.int) (ys.map D.int)
  | [] => RA.nil
  | y :: ys => RA.cons (v := V.int y) (d := .int y) rfl (ra_ints ys)
abbrev leI : Int → Int → Bool := fun a b => decide (a ≤ b)
abbrev sI (ns : List Int) : List Int := ns.mergeSort leI
theorem sI_pw (ns : List Int) : (sI ns).Pairwise (· ≤ ·) := by
  have := List.pairwise_mergeSort (le := leI) (fun a b c h1 h2 => by simp only [leI, decide_eq_true_eq] at *; omega) (fun a b => by simp only [leI, Bool.or_eq_true, decide_eq_true_eq]; omega) ns
  exact this.imp fun h => of_decide_eq_true h
theorem sI_perm (ns : List Int) : (sI ns).Perm ns := List.mergeSort_perm ns leI
theorem sI_of {ns ms : List Int} (h : ms.Perm ns) (hp : ms.Pairwise (· ≤ ·)) : ms = sI ns :=
  List.Perm.eq_of_pairwise (le := fun a b => a ≤ b) (fun a b _ _ h1 h2 => Int.le_antisymm h1 h2) hp (sI_pw ns) (h.trans (sI_perm ns).symm)
def bSortI : List D → (D → Prop) → Prop
  | [.lst ds], k => ∃ ns, isInts ds = some ns ∧ k (.lst ((sI ns).map D.int))
  | _, _ => False
theorem cr_sortIK (K : Frag) {X : Cx} (hK : X.K = K := by rfl) : CallR X (.builtin "sorted") (rSortedI K) := by
  subst hK
  exact cr_sortedI
theorem rc_sortI {K : Frag} {W : Wc} : RCb K W (rSortedI K) bSortI := fun p S H vs ds Q post st ra q k => by
  unfold bSortI at q
  split at q
  · obtain ⟨v, rfl, r⟩ := ra.one
    obtain ⟨ns, es, q⟩ := q
    unfold DL.R at r
    obtain ⟨a, xs, rfl, h1, h2⟩ := r
    obtain rfl := h2.ints es
    refine ⟨a, ns, rfl, SqL.of (st.ex _ _ h1), fun ns' l h3 h4 hl => ?_⟩
    rw [sI_of h3 h4]
    refine k _ _ _ _ q (Grow.new st hl) ?_
    unfold DL.R
    exact ⟨l, _, rfl, upd_same, ra_ints _⟩
  · exact q.elim
/-- sorted(d), its keys numbers -/
def bSortDI : List D → (D → Prop) → Prop
  | [d], k => ∃ (ks : List (Key × D)) (ns : List Int), d = dctD ks ∧ ks.map (·.1) = ns.map Sum.inl ∧ ns.length < 64 ∧ k (.lst ((sI ns).map D.int))
  | _, _ => False
def rSortDI : List V → Hp → VK → Prop := fun xs H Q => ∃ (a : Addr) (kvs : List (Key × V)) (ks : List Int), xs = [.ref a] ∧ Rd H a (.dK kvs) ∧ kvs.map (·.1) = ks.map Sum.inl ∧ ks.length < 64 ∧
    ∀ (ys : List Int) (p : Addr), ys.Perm ks → ys.Pairwise (· ≤ ·) → H p = none → Q (.ref p) (upd H p (.lst (ys.map V.int)))
theorem cr_sortDI {X : Cx} (hc : X.calm = true) : CallR X (.builtin "sorted") rSortDI := call_sortedDI hc
theorem rc_sortDI {K : Frag} {W : Wc} : RCb K W rSortDI bSortDI := fun p S H vs ds Q post st ra q k => by
  unfold bSortDI at q
  split at q
  · obtain ⟨v, rfl, r⟩ := ra.one
    obtain ⟨ks, ns, rfl, hk, hl, q⟩ := q
    obtain ⟨a, kvs, rfl, h1, rk⟩ := rDct r
    refine ⟨a, kvs, ns, rfl, st.ex.rd h1.rd, by rw [RK.keys rk]; exact hk, hl, fun ys l h3 h4 hl => ?_⟩
    rw [sI_of h3 h4]
    refine k _ _ _ _ q (Grow.new st hl) ?_
    unfold DL.R
    exact ⟨l, _, rfl, upd_same, ra_ints _⟩
  · exact q.elim
/-! ### dict(pairs) -/
theorem CallR.frz {X : Cx} {c : Value} {r : List V → Hp → VK → Prop} (h : CallR X c r) : CallR X c (fun xs H Q => r xs H fun x H1 => ∃ a kvs, x = .ref a ∧ H1 a = some (.dK kvs) ∧ ∀ od, Q x (upd H1 a (.frz od (.dK kvs)))) := by
  intro pins s σ H vs us Q I rv q
  refine wpAny_mono (h pins s σ H vs us _ I rv q) (fun v s' hv => ?_) fun _ _ z => z
  obtain ⟨x, H1, I1, rx, a, kvs, ex, hd, q⟩ := hv
  obtain ⟨od, I2⟩ := I1.lock hd trivial
  exact ⟨x, _, I2, rx, q od⟩
/-- pairs whose first is a number or a text -/
def isPairs : List D → Option (List (Key × D))
  | [] => some []
  | .tup [.int i, d] :: ds => (isPairs ds).map ((.inl i, d) :: ·)
  | .tup [.str s, d] :: ds => (isPairs ds).map ((.inr s, d) :: ·)
  | _ => none
theorem isPairs_map : ∀ ks : List (Key × D), isPairs (ks.map fun kv => .tup [kD kv.1, kv.2]) = some ks
  | [] => rfl
  | (.inl i, d) :: ks => by show (isPairs _).map _ = _; rw [isPairs_map ks]; rfl
  | (.inr s, d) :: ks => by show (isPairs _).map _ = _; rw [isPairs_map ks]; rfl
theorem RA.pairs {K : Frag} {W : Wc} {p : Addr} {S : Hp} : ∀ {ks : List (Key × D)} {xs : List V}, RA K W p S xs (ks.map fun kv => .tup [kD kv.1, kv.2]) → ∃ (ps : List Addr) (kvs : List (Key × V)), xs = ps.map V.ref ∧ RK K W p S kvs ks ∧ Paired (fun p kv => SqT K S p [kV kv.1, kv.2]) ps kvs
  | [], xs, h => by
    unfold RA at h
    subst h
    exact ⟨[], [], rfl, by unfold RK; rfl, .nil⟩
  | (key, d) :: ks, xs, h => by
    rw [List.map_cons] at h
    unfold RA at h
    obtain ⟨y, ys, rfl, h1, h2⟩ := h
    obtain ⟨ps, kvs, rfl, rk, hp⟩ := RA.pairs h2
    unfold DL.R at h1
    obtain ⟨a, zs, rfl, hs, hz⟩ := h1
    obtain ⟨v, w, rfl, r1, r2⟩ := hz.two
    rw [kV_of r1] at hs
    exact ⟨a :: ps, (key, w) :: kvs, rfl, by unfold RK; exact ⟨w, kvs, rfl, r2, rk⟩, .cons hs hp⟩
def mergeKD (ks : List (Key × D)) : List (Key × D) := ks.foldl (fun acc kv => putKD acc kv.1 kv.2) []
theorem RK.merge {K : Frag} {W : Wc} {p : Addr} {S : Hp} : ∀ {ks : List (Key × D)} {kvs : List (Key × V)} {as : List (Key × D)} {avs : List (Key × V)}, (avs.map (·.1)).Nodup → RK K W p S avs as → RK K W p S kvs ks → RK K W p S (mergeK avs kvs) (ks.foldl (fun acc kv => putKD acc kv.1 kv.2) as)
  | [], kvs, as, avs, nd, ra, rk => by unfold RK at rk; subst rk; exact ra
  | (k, d) :: ks, kvs, as, avs, nd, ra, rk => by
    unfold RK at rk
    obtain ⟨y, ys, rfl, h1, h2⟩ := rk
    exact RK.merge (avs := putK avs k y) (as := putKD as k d) (putK_keys nd) (RK.put h1 nd ra) h2
def bDictP : List D → (D → Prop) → Prop
  | [.lst ds], k => ∃ ks, ds = ks.map (fun kv => .tup [kD kv.1, kv.2]) ∧ k (dctD (mergeKD ks))
  | _, _ => False
theorem Paired.imp' {α β : Type} {r s : α → β → Prop} (h : ∀ a b, r a b → s a b) : ∀ {xs : List α} {ys : List β}, Paired r xs ys → Paired s xs ys
  | _, _, .nil => .nil
  | _, _, .cons a t => .cons (h _ _ a) (Paired.imp' h t)
def rDictP (K : Frag) : List V → Hp → VK → Prop := fun xs H Q => ∃ (a : Addr) (ps : List Addr) (kvs : List (Key × V)), xs = [.ref a] ∧ SqL K H a (ps.map V.ref) ∧ Paired (fun p kv => SqT K H p [kV kv.1, kv.2]) ps kvs ∧
    ∀ p, H p = none → ∃ a' kvs', V.ref p = .ref a' ∧ (upd H p (.dK (mergeK [] kvs))) a' = some (.dK kvs') ∧ ∀ od, Q (.ref p) (upd (upd H p (.dK (mergeK [] kvs))) a' (.frz od (.dK kvs')))
theorem cr_dictP (K : Frag) {X : Cx} (hc : X.calm = true := by rfl) (hK : X.K = K := by rfl) : CallR X (.type "dict") (rDictP K) := by
  subst hK
  exact CallR.frz (call_dictP hc)
theorem rc_dictP {K : Frag} {W : Wc} : RCb K W (rDictP K) bDictP := fun p S H vs ds Q post st ra q k => by
  unfold bDictP at q
  split at q
  · obtain ⟨v, rfl, r⟩ := ra.one
    obtain ⟨ks, rfl, q⟩ := q
    unfold DL.R at r
    obtain ⟨a, xs, rfl, h1, h2⟩ := r
    obtain ⟨ps, kvs, rfl, rk, hp⟩ := h2.pairs
    refine ⟨a, ps, kvs, rfl, SqL.of (st.ex _ _ h1), Paired.imp' (fun _ _ h => Ex.t st.ex h) hp, fun l hl => ⟨l, _, rfl, upd_same, fun od => ?_⟩⟩
    rw [upd_upd]
    have g := Grow.new (o := HO.frz od (.dK (mergeK [] kvs))) st hl
    refine k _ _ _ _ q g (rOfDct ⟨od, upd_same⟩ ?_)
    exact RK.merge (as := []) (avs := []) List.nodup_nil (by unfold RK; rfl) (RK.mono g.ex _ _ rk)
  · exact q.elim
/-! ### x = e in a try: the suite knows the slots -/
def dTryG (W : Wc) (i j : Nat) (bt : Nat → Bool) (de : DE) (dsu : DEx) : DS := fun DD xp env => de env
  (fun c dfs => (bt c = true ∧ ∀ a dx C, W.M c = some C → dsu a (.ref C) (some dx) (endsD i DD) noX (env.set i (.ex a dx c dfs))) ∨ (bt c = false ∧ xp c dfs)) (fun d => DD.nx (env.set j (.sh d)))
def tAtS (te : XK → TE) (Wx : WX) : TE := fun σ H Q => te (fun cls d H' => Wx cls d σ H') σ H Q
section
variable {X : Cx} {W : Wc} {E : XK} {K : Frag} {mg : Str → Option Value} {P : Program} {w : World} {base : Heap} {x n y : Str} {c0 i j k m : Nat} {bt : Nat → Bool} {suite : List Stmt} {b0 : Stmt} {np pos pos' yp ap : Pos} {e : Expr} {te : XK → TE} {de : DE} {ts : Addr → Value → Option Addr → TS} {dsu : DEx}
theorem ss_tryG {C0 : Addr} {E0' : XK} (hbt : ∀ c C, W.M c = some C → PySem.W.exmOne K (.ref C) (.ref C0) = some (bt c)) (he : ∀ E, SE K W E (te E) de) (hsu : ∀ a cls d, SS K W E0' (ts a cls d) (dsu a cls d)) :
    SS K W E (fun D σ H => tAsg (tAtS te (wAs K (.ref C0) i ts (fun cls d _ H => E cls d H) D)) (gName j) D σ H) (dTryG W i j bt de dsu) := fun p S0 H0 S H σ env xp sv xo D DD q k =>
  he _ p S H σ env _ sv.st sv.ev (fun c dfs C dx gs S' H' hx hM hne g' eH r => by
    rcases hx with ⟨h1, h2⟩ | ⟨h1, h2⟩
    · refine ⟨true, by rw [hbt c C hM, h1], fun _ a _ => ?_, fun z => Bool.noConfusion z⟩
      have ev := (sv.ev.mono g').setEx (i := i) (a := a) (c := c) eH hne r
      have ex := g'.ex
      refine hsu a (.ref C) (some dx) p S0 H0 S' H' _ _ noX ⟨sv.g.trans g', ev, fun n ds' b e1 e2 => ?_⟩ XOkS.no _ _ (h2 a dx C hM) ⟨?_, ?_, ?_, ?_⟩
      · by_cases hj : i = n
        · subst hj
          have hlt : i < env.length := by
            have := (List.getElem?_eq_some_iff.mp e1).1
            rwa [List.length_set] at this
          rw [List.getElem?_set_self hlt] at e1
          cases e1
        · rw [List.getElem?_set_ne hj] at e1 e2
          exact sv.own n ds' b e1 e2
      · exact fun S2 H2 σ2 env2 x2 sv2 q2 => k.nx S2 H2 _ _ (ex.trans x2) (sv2.unset i) q2
      · exact fun S2 H2 v d x2 g2 r2 q2 => k.rt S2 H2 v d (ex.trans x2) g2 r2 q2
      · exact fun S2 H2 σ2 env2 x2 sv2 q2 => k.bk S2 H2 _ _ (ex.trans x2) (sv2.unset i) q2
      · exact fun S2 H2 σ2 env2 x2 sv2 q2 => k.ct S2 H2 _ _ (ex.trans x2) (sv2.unset i) q2
    · exact ⟨false, by rw [hbt c C hM, h1], fun z => Bool.noConfusion z, fun _ => xo c dfs C dx gs S' H' h2 hM hne g'.ex (sv.g.trans g') eH r⟩) _ _ q fun v d S2 H2 q2 g2 r2 =>
    k.nx S2 H2 _ _ g2.ex ⟨sv.g.trans g2, (sv.ev.mono g2).set r2, fun n ds' a e1 e2 => by
        obtain ⟨n1, e1⟩ := ow_set e1
        rw [List.getElem?_set_ne n1] at e2
        exact sv.own n ds' a e1 e2⟩ q2
/-- an expression in a try, its errors told with the slots -/
structure PDG' (X : Cx) (W : Wc) (e : Expr) (te : XK → TE) (de : DE) : Prop where
  pe : ∀ (Wx : WX) (pn : List (Addr × Obj)) (xe : Value → Shared → Prop), Takes (X.tr pn xe) Wx → PE (X.tr pn xe) e (tAtS te Wx)
  se : ∀ E, SE X.K W E (te E) de
noncomputable def someG {X : Cx} {W : Wc} {e : Expr} {de : DE} (h : ∃ te, PDG' X W e te de) : XK → TE := Classical.choose h
theorem pdg_some {X : Cx} {W : Wc} {e : Expr} {de : DE} (h : ∃ te, PDG' X W e te de) : PDG' X W e (someG h) de := Classical.choose_spec h
theorem pds_tryG {E0' : XK} (F : CatchOk W K mg x c0 bt) (hs : X.stack = X.env :: X.outer) (hf : X.env.frame = some X.env.locals) (hN : X.N.Nodup) (tk : Takes X (fun cls d _ H => E cls d H))
    (he : PDG' X W e te de)
    (hsu : ∀ (a : Addr) (oe : Obj) (cls : Value) (d : Option Addr) (pn : List (Addr × Obj)), Zc cls d oe → (∃ vs, oe.data = .fields vs) → PDSs (X.suite a ((a, oe) :: pn)) W E0' (b0 :: suite) (ts a cls d) (dsu a cls d))
    (hX : X.K = K ∧ X.mg = mg := by exact ⟨rfl, rfl⟩)
    (hi : X.N[i]? = some n := by rfl) (hln : X.env.kindOf n = some .local := by rfl) (hg : Gl X x := by rfl) (hdb : (x == ("__debug__" : Str)) = false := by decide)
    (hj : X.N[j]? = some y := by rfl) (hy : Loc X.env.scope y := by first | exact Or.inl rfl | exact Or.inr rfl)
    (hsw : swapsWith e (some (.Name y yp)) ap.line X.env = pure false := by rfl)
    (hfn : X.fn y = true ∨ X.env.scope.names.lookup y = some .local := by first | exact .inl rfl | exact .inr rfl) :
    PDS X W E (.Try [.Assign [.Name y yp] e ap] [.ExceptHandler (some (.Name x np)) (some n) (b0 :: suite) pos'] [] [] pos)
      (tC1S W c0 fun C D σ H => tAsg (tAtS te (wAs K (.ref C) i ts (fun cls d _ H => E cls d H) D)) (gName j) D σ H) (dTryG W i j bt de dsu) := by
  obtain ⟨rfl, rfl⟩ := hX
  obtain ⟨C, hM, hmC, hbt⟩ := F.ex
  refine pds_c1 (ts := fun C D σ H => tAsg (tAtS te (wAs X.K (.ref C) i ts (fun cls d _ H => E cls d H) D)) (gName j) D σ H) hM ⟨?_, ?_⟩
  · exact ps_try_as (tb := fun Wx => tAsg (tAtS te Wx) (gName j)) hs hf hN hi hln ⟨hg, hdb, .inl hmC⟩ tk (fun Wx pn xe tkx pw => pss_one (ps_set (X := X.tr pn xe) hN hj hy (he.pe Wx pn xe tkx) hsw hfn)) (fun a oe cls d pn hz hv => (hsu a oe cls d pn hz hv).pe)
  · exact ss_tryG hbt he.se fun a cls d => (hsu a { cls := cls, dict := d, data := .fields #[] } cls d [] ⟨rfl, rfl⟩ ⟨_, rfl⟩).se
end
/-! o.m(e, ..) in a try -/
section
variable {X : Cx} {W : Wc} {K : Frag} {mg : Str → Option Value} {P : Program} {w : World} {base : Heap} {c j k : Nat} {m : Str} {df : DF} {o e : Expr} {es : List Expr} {te : TE} {de : DE} {ta : TA} {dr : DA} {apos pos : Pos}
theorem pe_methS {X : Cx} {C f : Addr} {m : Str} {fd : FuncData} {ps : List Str} {sp : Sp} {ds : List Value} {dvs : List V} {o e : Expr} {es : List Expr} {ta : TE} {t : TA} {apos pos : Pos} {pl : Sem Bool} {Wx : WX} (he : PE X o ta) (c : Cls X.K C) (hm : Meth X.K C m f) (F : FnOk X.prog X.w X.K X.mg X.base (L2.CX X.prog X.w) k f fd ps sp) (hr : Room k X.A) (hb : Binds X.K fd ps ds) (hd : Vals dvs ds) (tk : Takes X Wx) (ha : PA X (e :: es) t)
    (hst : starEach (e :: es) X.env = (false, eval e X.env) :: starEach es X.env := by rfl) (hpl : (backTo pos (starEach es X.env)).any (·.1) = false := by rfl)
    (ht : eval (.Call (.Attribute o m apos) (e :: es) [] pos) X.env = (do
      let ov ← eval o X.env
      standAt apos.atName
      let (f, first) ← holding [ov] (getMethod ov m pl)
      callWith pos f first (backTo pos (starEach (e :: es) X.env)) (backToKw pos (keywordEach [] X.env))) := by rfl) :
    PE X (.Call (.Attribute o m apos) (e :: es) [] pos) (tAtS (fun E => tMeth C m sp dvs E ta t) Wx) := by
  refine ⟨fun pins s σ H Q I h => ?_⟩
  refine PySem.W.methodCall_KW (pl := pl) (thn (he.run pins s σ H _ I h) fun u s1 ⟨x, H1, I1, rx, a, dx, fs, ex, ea, l, q⟩ => ?_) ht
  subst ex
  obtain rfl : u = Value.ref a := rx
  refine getmeth_ok I1 ea c hm l ?_
  refine PySem.W.callWith_K (first := [.ref a]) (h₀ := X.base) I.ok.mod.kin hm.kp (thn (ha.run pos pins s1 σ H1 _ I1 q) fun us s2 ⟨vs, H2, I2, r, q2⟩ => ⟨I2.kIn, ?_⟩) hst hpl
  have r2 : Vals (.ref a :: (vs ++ dvs)) ((.ref a :: us) ++ ds) := .cons rfl (r.append hd)
  have hl : ((.ref a :: us) ++ ds).length = ps.length := by rw [← r2.length]; exact F.len _ _ _ _ q2
  have hb' := hb s2 (.ref a :: us) I2.kIn (by simpa using hl)
  refine wpAny_call (codeAny_mono (F.run X.A X.stack s2 H2 ⟨.ref a :: us, []⟩ _ _ Q _ hr I2.env0 hb' r2 q2) fun r s' hq => ?_)
  cases r with
  | error e => exact tk e s' (XE.of_call I2 (fun cls d H' h => h) hq)
  | ok fl =>
    cases fl with
    | ret u => exact I2.after hq
    | next => exact False.elim hq
    | brk => exact False.elim hq
    | cont => exact False.elim hq
theorem pdg_meth {pl : Sem Bool} (F : MethOk P w K W mg base j c m df [] []) (ho : ∀ (pn : List (Addr × Obj)) (xe : Value → Shared → Prop), PD (X.tr pn xe) W L2.E0 o te de) (ho2 : ∀ E, PD X W E o te de) (ha : ∀ (pn : List (Addr × Obj)) (xe : Value → Shared → Prop), PDA (X.tr pn xe) W L2.E0 (e :: es) ta dr) (ha2 : ∀ E, PDA X W E (e :: es) ta dr)
    (hX : X.prog = P ∧ X.w = w ∧ X.K = K ∧ X.mg = mg ∧ X.base = base := by exact ⟨rfl, rfl, rfl, rfl, rfl⟩) (hr : Room k X.A := by assumption) (hj : j ≤ k := by decide)
    (hst : starEach (e :: es) X.env = (false, eval e X.env) :: starEach es X.env := by rfl) (hpl : (backTo pos (starEach es X.env)).any (·.1) = false := by rfl)
    (ht : eval (.Call (.Attribute o m apos) (e :: es) [] pos) X.env = (do
      let ov ← eval o X.env
      standAt apos.atName
      let (f, first) ← holding [ov] (getMethod ov m pl)
      callWith pos f first (backTo pos (starEach (e :: es) X.env)) (backToKw pos (keywordEach [] X.env))) := by rfl) :
    ∃ tq, PDG' X W (.Call (.Attribute o m apos) (e :: es) [] pos) tq (dMeth c m df [] de dr) := by
  obtain ⟨rfl, rfl, rfl, rfl, rfl⟩ := hX
  obtain ⟨C, f, fd, ps, ds, hM, cl, hm, F, hb, hd, hdd⟩ := F.ex
  exact ⟨_, ⟨fun Wx pn xe tk => pe_methS (X := X.tr pn xe) (pl := pl) (ho pn xe).pe cl hm F (hr.mono hj) hb hd tk (ha pn xe).pe hst hpl ht, fun E => se_meth hM hdd (ho2 E).se (ha2 E).se⟩⟩
end
end DL

set_option Elab.async false
set_option linter.all false
set_option maxRecDepth 100000
set_option maxHeartbeats 1000000
/-! more steps of readings; dicts of numbers -/
namespace DL
open PySem L2
section
variable {env : SEnv} {xp : XP} {post : D → Prop} {i : Nat} {a b d : D} {DD : DEnds} {x y de : DE} {s r : DS}
theorem test_go {p : Bool → Prop} (h : x env xp fun d => match d with | .bl b => p b | _ => False) : dTest x env xp p := h
theorem dC_go (q : post d) : dC d env xp post := q
theorem orF_go {t1 t2 : DT} (h1 : ∀ p : Bool → Prop, p false → t1 env xp p) (h2 : ∀ p : Bool → Prop, p false → t2 env xp p) (q : DD.nx env) : dIfS (dOr t1 t2) s dNext DD xp env := by
  refine ifN_go (fun p hp => ?_) q
  unfold dOr
  refine h1 _ ?_
  exact h2 _ hp
theorem or2 {t1 t2 : DT} (h1 : ∀ p : Bool → Prop, p false → t1 env xp p) (h2 : ∀ p : Bool → Prop, p false → t2 env xp p) : ∀ p : Bool → Prop, p false → dOr t1 t2 env xp p := fun p hp => by
  unfold dOr
  refine h1 _ ?_
  rw [if_neg (by decide)]
  exact h2 _ hp
theorem orT1 {t1 t2 : DT} (h1 : ∀ p : Bool → Prop, p true → t1 env xp p) : ∀ p : Bool → Prop, p true → dOr t1 t2 env xp p := fun p hp => by
  unfold dOr
  refine h1 _ ?_
  rw [if_pos rfl]; exact hp
theorem orT2 {t1 t2 : DT} (h1 : ∀ p : Bool → Prop, p false → t1 env xp p) (h2 : ∀ p : Bool → Prop, p true → t2 env xp p) : ∀ p : Bool → Prop, p true → dOr t1 t2 env xp p := fun p hp => by
  unfold dOr
  refine h1 _ ?_
  rw [if_neg (by decide)]
  exact h2 _ hp
theorem neF_go (hx : ∀ post : D → Prop, post a → x env xp post) (hy : ∀ post : D → Prop, post a → y env xp post) (o : pyOk a) (he : eqD a a = true) : ∀ p : Bool → Prop, p false → dTest (dOp bNe x y) env xp p := fun p hp => by
  refine test_go (op_go (hx _ (hy _ ⟨o, o, ?_⟩)))
  rw [he]; exact hp
theorem notT_go (hx : ∀ post : D → Prop, post (.bl true) → x env xp post) : ∀ p : Bool → Prop, p false → dNot (dTest x) env xp p := fun p hp => by
  unfold dNot
  exact test_go (hx _ hp)
theorem notF_go (hx : ∀ post : D → Prop, post (.bl false) → x env xp post) : ∀ p : Bool → Prop, p true → dNot (dTest x) env xp p := fun p hp => by
  unfold dNot
  exact test_go (hx _ hp)
theorem asg2_go {d1 d2 : D} {i j : Nat} (hx : ∀ post : D → Prop, post (.tup [d1, d2]) → x env xp post) (q : DD.nx ((env.set i (.sh d1)).set j (.sh d2))) : dAsg x (dgTup 2 (dgCons (dgName i) (dgCons (dgName j) dgNil))) DD xp env := hx _ ⟨rfl, q⟩
theorem bIx_go {ds : List D} {k : Int} {p : D → Prop} (h : atI ds k = some d) (q : p d) : bIx (.lst ds) (.int k) p := ⟨d, h, q⟩
theorem len_go {ds : List D} (h : env[i]? = some (.sh (.lst ds))) : ∀ post : D → Prop, post (.int (ds.length : Nat)) → dCB bLen (dCons (dVar i) dNil) env xp post := fun post q => by
  unfold dCB
  exact cons_go (var_go h (nil_go q))
theorem one_X {k : Option D → Prop} (h : de (env.set i (.sh d)) noX fun e => k (some e)) : dOne (dgName i) dYes de env d k := by
  show (if true = true then de (env.set i (.sh d)) noX (fun e => k (some e)) else k none)
  rw [if_pos rfl]; exact h
theorem one_K {dk dv : DE} {key : Key} {v : D} {k : Option (Key × D) → Prop} (h1 : ∀ p : D → Prop, p (kD key) → dk (env.set i (.sh d)) noX p) (h2 : ∀ p : D → Prop, p v → dv (env.set i (.sh d)) noX p) (q : k (some (key, v))) : dOneK (dgName i) dYes dk dv env d k := by
  show (if true = true then dk (env.set i (.sh d)) noX (fun kd => dv (env.set i (.sh d)) noX fun vd => ∃ key, kd = kD key ∧ k (some (key, vd))) else k none)
  rw [if_pos rfl]
  exact h1 _ (h2 _ ⟨key, rfl, q⟩)
theorem one_F {t : DT} {c : Bool} {k : Option D → Prop} (h1 : ∀ p : Bool → Prop, p c → t (env.set i (.sh d)) noX p) (h2 : ∀ p : D → Prop, p a → x (env.set i (.sh d)) noX p) (q : k (if c = true then some a else none)) : dOne (dgName i) t x env d k := by
  refine h1 _ ?_
  cases c with
  | true => rw [if_pos rfl] at q ⊢; exact h2 _ q
  | false => rw [if_neg (by decide)] at q ⊢; exact q
end
theorem dc_all {α : Type} {one : D → (Option D → Prop) → Prop} {f g : α → D} : ∀ (xs : List α) (p : List D → Prop), (∀ x ∈ xs, ∀ k : Option D → Prop, k (some (g x)) → one (f x) k) → p (xs.map g) → dcomp one (xs.map f) p
  | [], _, _, q => q
  | x :: xs, p, h, q => by
    simp only [List.map_cons, dcomp]
    exact h x (by simp) _ (dc_all xs (fun r => p (g x :: r)) (fun y hy => h y (by simp [hy])) q)
theorem dc_none {α : Type} {one : D → (Option D → Prop) → Prop} {f : α → D} : ∀ (xs : List α) (p : List D → Prop), (∀ x ∈ xs, ∀ k : Option D → Prop, k none → one (f x) k) → p [] → dcomp one (xs.map f) p
  | [], _, _, q => q
  | x :: xs, p, h, q => by
    simp only [List.map_cons, dcomp]
    exact h x (by simp) _ (dc_none xs p (fun y hy => h y (by simp [hy])) q)
/-- what is taken -/
theorem dc_filter {α : Type} {one : D → (Option D → Prop) → Prop} {f g : α → D} {c : α → Bool} : ∀ (xs : List α) (p : List D → Prop), (∀ x ∈ xs, ∀ k : Option D → Prop, k (if c x = true then some (g x) else none) → one (f x) k) → p ((xs.filter c).map g) → dcomp one (xs.map f) p
  | [], _, _, q => q
  | x :: xs, p, h, q => by
    simp only [List.map_cons, dcomp]
    refine h x (by simp) _ ?_
    cases hc : c x with
    | true =>
      rw [List.filter_cons_of_pos hc, List.map_cons] at q
      exact dc_filter xs (fun r => p (g x :: r)) (fun y hy => h y (by simp [hy])) q
    | false =>
      rw [List.filter_cons_of_neg (by simp [hc])] at q
      exact dc_filter xs p (fun y hy => h y (by simp [hy])) q
/-- drawn one by one -/
theorem dc_draw {α : Type} {one : D → (Option D → Prop) → Prop} {g : α → D} {ok : α → Prop} (h : ∀ (x : D) (k : Option D → Prop), (∀ a, ok a → k (some (g a))) → one x k) : ∀ (xs : List D) (p : List D → Prop), (∀ as : List α, as.length = xs.length → (∀ a ∈ as, ok a) → p (as.map g)) → dcomp one xs p
  | [], p, q => q [] rfl (by simp)
  | x :: xs, p, q => by
    simp only [dcomp]
    exact h x _ fun a ha => dc_draw h xs (fun r => p (g a :: r)) fun as e hs => q (a :: as) (by simp [e]) (by simpa using ⟨ha, hs⟩)
/-! ### dicts whose keys are numbers -/
theorem tyN_dct {ks : List (Key × D)} : tyN (dctD ks) = some "dict" := by cases ks <;> rfl
theorem isTy_dct {ks : List (Key × D)} : isTy .dict (dctD ks) = true := by cases ks <;> rfl
abbrev nkD (r : Int × D) : Key × D := (Sum.inl r.1, r.2)
theorem putKD_new {k : Key} {d : D} : ∀ {ks : List (Key × D)}, k ∉ ks.map (·.1) → putKD ks k d = ks ++ [(k, d)]
  | [], _ => rfl
  | (n, e) :: ks, h => by
    have hn : n ≠ k := fun z => h (by simp [z])
    unfold putKD
    rw [if_neg hn, putKD_new (fun z => h (by simp [z]))]
    rfl
theorem putKD_keys {k : Key} {d : D} : ∀ {ks : List (Key × D)}, k ∈ ks.map (·.1) → (putKD ks k d).map (·.1) = ks.map (·.1)
  | [], h => by simp at h
  | (n, e) :: ks, h => by
    by_cases hn : n = k
    · unfold putKD; rw [if_pos hn]; rfl
    · have : k ∈ ks.map (·.1) := by
        rw [List.map_cons] at h
        exact (List.mem_cons.mp h).resolve_left (Ne.symm hn)
      unfold putKD
      rw [if_neg hn, List.map_cons, putKD_keys this]
      rfl
theorem putKD_mem {k : Key} {d : D} {kv : Key × D} : ∀ {ks : List (Key × D)}, kv ∈ putKD ks k d → kv ∈ ks ∨ kv = (k, d)
  | [], h => .inr (by simpa [putKD] using h)
  | (n, e) :: ks, h => by
    by_cases hn : n = k
    · unfold putKD at h
      rw [if_pos hn, hn] at h
      rcases List.mem_cons.mp h with h | h
      · exact .inr h
      · exact .inl (List.mem_cons_of_mem _ h)
    · unfold putKD at h
      rw [if_neg hn] at h
      rcases List.mem_cons.mp h with h | h
      · exact .inl (h ▸ List.mem_cons_self ..)
      · rcases putKD_mem h with h | h
        · exact .inl (List.mem_cons_of_mem _ h)
        · exact .inr h
/-- the dict made by fresh keys, one behind the other -/
theorem ddc_new {α : Type} {one : D → (Option (Key × D) → Prop) → Prop} {f : α → D} {key : α → Key} {v : α → D} : ∀ (xs : List α) (acc : List (Key × D)) (p : List (Key × D) → Prop), ((acc.map (·.1)) ++ xs.map key).Nodup → (∀ x ∈ xs, ∀ k : Option (Key × D) → Prop, k (some (key x, v x)) → one (f x) k) → p (acc ++ xs.map fun x => (key x, v x)) → ddc one (xs.map f) acc p
  | [], acc, p, _, _, q => by simpa [ddc] using q
  | x :: xs, acc, p, nd, h, q => by
    simp only [List.map_cons, ddc]
    refine h x (by simp) _ ?_
    have hn : key x ∉ acc.map (·.1) := fun z => by
      rw [List.map_cons] at nd
      exact (List.nodup_append.mp nd).2.2 _ z _ (by simp) rfl
    show ddc one (xs.map f) (putKD acc (key x) (v x)) p
    rw [putKD_new hn]
    refine ddc_new xs _ p (by simpa [List.append_assoc] using nd) (fun y hy => h y (by simp [hy])) ?_
    simpa [List.append_assoc] using q
theorem valKD_in {k : Key} {d : D} : ∀ {ks : List (Key × D)}, (k, d) ∈ ks → (ks.map (·.1)).Nodup → valKD ks k = some d
  | (n, e) :: ks, h, nd => by
    rw [List.map_cons, List.nodup_cons] at nd
    by_cases hn : n = k
    · have : valKD ((n, e) :: ks) k = some e := by simp [valKD, List.find?_cons, hn]
      rw [this]
      rcases List.mem_cons.mp h with h | h
      · cases h; rfl
      · exact (nd.1 (List.mem_map.mpr ⟨_, h, hn.symm⟩)).elim
    · have e1 : valKD ((n, e) :: ks) k = valKD ks k := by simp [valKD, List.find?_cons, hn]
      rw [e1]
      rcases List.mem_cons.mp h with h | h
      · cases h; exact (hn rfl).elim
      · exact valKD_in h nd.2
theorem valKD_out {k : Key} : ∀ {ks : List (Key × D)}, k ∉ ks.map (·.1) → valKD ks k = none
  | [], _ => rfl
  | (n, e) :: ks, h => by
    have hn : n ≠ k := fun z => h (by simp [z])
    have e1 : valKD ((n, e) :: ks) k = valKD ks k := by simp [valKD, List.find?_cons, hn]
    rw [e1]
    exact valKD_out fun z => h (by simp [z])
end DL

set_option Elab.async false
set_option linter.all false
set_option maxRecDepth 100000
set_option maxHeartbeats 1000000
/-! == and != of lists whose items are compared by a rule of their own: plain data, own ==, dicts; != of dicts -/
namespace DL
open PySem PySem.W PySem.Calls PySem.Spec PyProof PyProof.Rows L2
open MeetsSeq MeetsSeq2 MeetsSeq3 SeqRoads2
abbrev El := V → V → Hp → (Bool → Hp → Prop) → Prop
/-- the items from i on, k of them -/
def rZipL (K : Frag) (a b : Addr) (xs ys : List V) (el : El) : Nat → Nat → Hp → (Bool → Hp → Prop) → Prop
  | 0, _, H, Q => SqL K H a xs ∧ SqL K H b ys ∧ Q true H
  | k + 1, i, H, Q => SqL K H a xs ∧ SqL K H b ys ∧ ∃ x y, xs[i]? = some x ∧ ys[i]? = some y ∧ el x y H fun c H' => if c = true then rZipL K a b xs ys el k (i + 1) H' Q else SqL K H' a xs ∧ SqL K H' b ys ∧ Q false H'
theorem rZipL.two {K : Frag} {a b : Addr} {xs ys : List V} {el : El} {k i : Nat} {H : Hp} {Q : Bool → Hp → Prop} (h : rZipL K a b xs ys el k i H Q) : SqL K H a xs ∧ SqL K H b ys := by
  cases k with
  | zero => exact ⟨h.1, h.2.1⟩
  | succ k => exact ⟨h.1, h.2.1⟩
def rLstEq (K : Frag) (el : El) (neg : Bool) : R2 := fun x y H Q => ∃ a b xs ys, x = .ref a ∧ y = .ref b ∧ SqL K H a xs ∧ SqL K H b ys ∧
  ((xs.length ≠ ys.length ∧ Q (.bl (false != neg)) H) ∨ (xs.length = ys.length ∧ rZipL K a b xs ys el xs.length 0 H fun c H' => Q (.bl (c != neg)) H'))
section
variable {X : Cx} {pins : List (Addr × Obj)} {σ : L2.St} {H : Hp} {s : Shared} {el : El}
theorem list_at {a : Addr} {xs : List V} (I : Inv X pins σ H s) (h : SqL X.K H a xs) : ∃ (its : List Value) (dd : Option Addr) (n : Nat) (sl : Array (Option Value)), Vals xs its ∧ s.heap.get? a = some { cls := .type "list", dict := dd, data := .seq its.toArray n, slots := sl } := by
  obtain ⟨its, r, pl, _⟩ := I.list h
  obtain ⟨⟨cls, dd, data, sl⟩, ho, hc, n, hd⟩ := pl.isList
  simp only at hc hd
  subst hc hd
  exact ⟨its, dd, n, sl, r, ho⟩
theorem vals_at {xs : List V} {its : List Value} (r : Vals xs its) : ∀ {i : Nat} {x : V}, xs[i]? = some x → ∃ u, its[i]? = some u ∧ RelV x u := by
  induction r with
  | nil => intro i x h; simp at h
  | @cons x u xs us h1 h2 ih =>
    intro i y h
    cases i with
    | zero => cases Option.some.inj h; exact ⟨u, rfl, h1⟩
    | succ i => exact ih (by simpa using h)
theorem lst_loop {a b : Addr} {xs ys : List V} {Q : Bool → Hp → Prop} {neg : Bool} {R : Result → Shared → Prop} (hel : ElOk X el) (hR : ∀ c s' H', Inv X pins σ H' s' → Q c H' → R (.ok (.ret (.bool (c != neg)))) s') (hE : ∀ e s', X.xe e s' → R (.error e) s') : ∀ (k i : Nat) (H : Hp) (s : Shared), xs.length = i + k → ys.length = i + k → Inv X pins σ H s → rZipL X.K a b xs ys el k i H Q →
    wpAny (model X.prog X.w) X.A.in1 (Builtin.«list.__eq__.loop» ⟨[.ref a, .ref b, rawInt i, rawInt (if neg = true then 3 else 2)], []⟩)
      (fun fin s' => match fin with | .done f => R (.ok f) s' | .again c' => c'.quiet = true ∧ codeAny (model X.prog X.w) X.A c' (R) s') (fun e s' => R (.error e) s') s := by
  intro k
  induction k with
  | zero =>
    intro i H s hx hy I h
    obtain ⟨ha, hb, q⟩ := h
    obtain ⟨us, dd, n, sl, ru, hl⟩ := list_at I ha
    obtain ⟨vs, dd2, n2, sl2, rv, hl2⟩ := list_at I hb
    have lu := ru.length
    have lv := rv.length
    have fin : R (.ok (.ret (.bool (if neg = true then us.length != vs.length else us.length == vs.length)))) s := by
      have e : us.length = vs.length := by omega
      have := hR true s H I q
      cases neg <;> simpa [e] using this
    obtain ⟨hp, g, d, tk, os⟩ := s
    have hi1 : us.toArray[((i : Nat) : Int).toNat]? = none := by simp; omega
    have hi2 : vs.toArray[((i : Nat) : Int).toNat]? = none := by simp; omega
    cases neg with
    | true =>
      simp only [if_true] at fin ⊢
      wp_walk using wpAny_loadPart' hl, wpAny_loadPart' hl2
      rw [hi1, hi2]
      wp_walk using wpAny_loadPart' hl, wpAny_loadPart' hl2
      exact fin
    | false =>
      simp only [Bool.false_eq_true, if_false] at fin ⊢
      wp_walk using wpAny_loadPart' hl, wpAny_loadPart' hl2
      rw [hi1, hi2]
      wp_walk using wpAny_loadPart' hl, wpAny_loadPart' hl2
      exact fin
  | succ k ih =>
    intro i H s hx hy I h
    obtain ⟨ha, hb, x, y, ex, ey, q⟩ := h
    obtain ⟨us, dd, n, sl, ru, hl⟩ := list_at I ha
    obtain ⟨vs, dd2, n2, sl2, rv, hl2⟩ := list_at I hb
    obtain ⟨u, eu, rxu⟩ := vals_at ru ex
    obtain ⟨v, ev, ryv⟩ := vals_at rv ey
    have hi1 : us.toArray[((i : Nat) : Int).toNat]? = some u := by simpa using eu
    have hi2 : vs.toArray[((i : Nat) : Int).toNat]? = some v := by simpa using ev
    have hc : ((i : Int) + 1) = ((i + 1 : Nat) : Int) := by push_cast; rfl
    have step := hel pins s σ H x y u v _ I rxu ryv q
    have go : ∀ (s2 : Shared) (H' : Hp), Inv X pins σ H' s2 → rZipL X.K a b xs ys el k (i + 1) H' Q → wpAny (model X.prog X.w) X.A.in1 (Builtin.«list.__eq__.loop» ⟨[.ref a, .ref b, rawInt ((i + 1 : Nat) : Int), rawInt (if neg = true then 3 else 2)], []⟩)
      (fun fin s' => match fin with | .done f => R (.ok f) s' | .again c' => c'.quiet = true ∧ codeAny (model X.prog X.w) X.A c' (R) s') (fun e s' => R (.error e) s') s2 := fun s2 H' I2 q2 => ih (i + 1) H' s2 (by omega) (by omega) I2 q2
    obtain ⟨hp, g, d, tk, os⟩ := s
    cases neg with
    | true =>
      simp only [if_true] at go ⊢
      wp_walk using wpAny_loadPart' hl, wpAny_loadPart' hl2
      rw [hi1, hi2]
      refine wpAny_bind (wpAny_mono step (fun c s2 hq => ?_) fun _ _ z => hE _ _ z)
      obtain ⟨H', I2, q2⟩ := hq
      cases c with
      | true =>
        rw [if_pos rfl] at q2
        have := go s2 H' I2 q2
        obtain ⟨hp, g, d, tk, os⟩ := s2
        wp_walk
        rw [hc]
        exact ⟨plainId_quiet plain_eq_loop _, codeAny_builtin entry_eq_loop (by rw [Around.under_plainId plain_eq_loop _]; exact this)⟩
      | false =>
        rw [if_neg (by decide)] at q2
        obtain ⟨h1, h2, q3⟩ := q2
        obtain ⟨us2, dd, n, sl, ru2, hl⟩ := list_at I2 h1
        obtain ⟨vs2, dd2, n2, sl2, rv2, hl2⟩ := list_at I2 h2
        obtain ⟨u2, eu2, _⟩ := vals_at ru2 ex
        obtain ⟨v2, ev2, _⟩ := vals_at rv2 ey
        have hi1 : us2.toArray[((i : Nat) : Int).toNat]? = some u2 := by simpa using eu2
        have hi2 : vs2.toArray[((i : Nat) : Int).toNat]? = some v2 := by simpa using ev2
        have fin : R (.ok (.ret (.bool true))) s2 := hR false s2 H' I2 q3
        obtain ⟨hp, g, d, tk, os⟩ := s2
        wp_walk using wpAny_loadPart' hl, wpAny_loadPart' hl2
        rw [hi1, hi2]
        wp_walk
        exact fin
    | false =>
      simp only [Bool.false_eq_true, if_false] at go ⊢
      wp_walk using wpAny_loadPart' hl, wpAny_loadPart' hl2
      rw [hi1, hi2]
      refine wpAny_bind (wpAny_mono step (fun c s2 hq => ?_) fun _ _ z => hE _ _ z)
      obtain ⟨H', I2, q2⟩ := hq
      cases c with
      | true =>
        rw [if_pos rfl] at q2
        have := go s2 H' I2 q2
        obtain ⟨hp, g, d, tk, os⟩ := s2
        wp_walk
        rw [hc]
        exact ⟨plainId_quiet plain_eq_loop _, codeAny_builtin entry_eq_loop (by rw [Around.under_plainId plain_eq_loop _]; exact this)⟩
      | false =>
        rw [if_neg (by decide)] at q2
        obtain ⟨h1, h2, q3⟩ := q2
        obtain ⟨us2, dd, n, sl, ru2, hl⟩ := list_at I2 h1
        obtain ⟨vs2, dd2, n2, sl2, rv2, hl2⟩ := list_at I2 h2
        obtain ⟨u2, eu2, _⟩ := vals_at ru2 ex
        obtain ⟨v2, ev2, _⟩ := vals_at rv2 ey
        have hi1 : us2.toArray[((i : Nat) : Int).toNat]? = some u2 := by simpa using eu2
        have hi2 : vs2.toArray[((i : Nat) : Int).toNat]? = some v2 := by simpa using ev2
        have fin : R (.ok (.ret (.bool false))) s2 := hR false s2 H' I2 q3
        obtain ⟨hp, g, d, tk, os⟩ := s2
        wp_walk using wpAny_loadPart' hl, wpAny_loadPart' hl2
        rw [hi1, hi2]
        wp_walk
        exact fin
end
end DL

set_option Elab.async false
set_option linter.all false
set_option maxRecDepth 100000
set_option maxHeartbeats 1000000
namespace DL
open PySem PySem.W PySem.Calls PySem.Spec PyProof PyProof.Rows L2
open MeetsSeq MeetsSeq2 MeetsSeq3 SeqRoads2
section
variable {X : Cx} {pins : List (Addr × Obj)} {σ : L2.St} {H : Hp} {s : Shared} {el : El}
theorem lst_top {a b : Addr} {xs ys : List V} {Q : Bool → Hp → Prop} {neg : Bool} {R : Result → Shared → Prop} (hel : ElOk X el) (hR : ∀ c s' H', Inv X pins σ H' s' → Q c H' → R (.ok (.ret (.bool (c != neg)))) s') (hE : ∀ e s', X.xe e s' → R (.error e) s')
    (I : Inv X pins σ H s) (ha : SqL X.K H a xs) (hb : SqL X.K H b ys) (h : (xs.length ≠ ys.length ∧ Q false H) ∨ (xs.length = ys.length ∧ rZipL X.K a b xs ys el xs.length 0 H Q)) :
    wpAny (model X.prog X.w) X.A.in1 ((if neg = true then Builtin.«list.__ne__» else Builtin.«list.__eq__») ⟨[.ref a, .ref b], []⟩)
      (fun fin s' => match fin with | .done f => R (.ok f) s' | .again c' => c'.quiet = true ∧ codeAny (model X.prog X.w) X.A c' R s') (fun e s' => R (.error e) s') s := by
  obtain ⟨us, dd, n, sl, ru, hl⟩ := list_at I ha
  obtain ⟨vs, dd2, n2, sl2, rv, hl2⟩ := list_at I hb
  have lu := ru.length
  have lv := rv.length
  have f3 := AutoSeq1.sub_list_list
  rcases h with ⟨hne, q⟩ | ⟨heq, q⟩
  · have hne : (us.toArray.size != vs.toArray.size) = true := by simp; omega
    have fin := hR false s H I q
    obtain ⟨hp, g, d, tk, os⟩ := s
    cases neg with
    | true =>
      simp only [if_true]
      wp_walk using wpAny_loadPart' hl, wpAny_loadPart' hl2
      rw [if_pos hne]
      wp_walk
      exact fin
    | false =>
      simp only [Bool.false_eq_true, if_false]
      wp_walk using wpAny_loadPart' hl, wpAny_loadPart' hl2
      rw [if_pos hne]
      wp_walk
      exact fin
  · have hne : ¬ (us.toArray.size != vs.toArray.size) = true := by simp; omega
    have go := lst_loop (neg := neg) (R := R) hel hR hE xs.length 0 H s (by simp) (by simp; omega) I q
    obtain ⟨hp, g, d, tk, os⟩ := s
    cases neg with
    | true =>
      simp only [if_true] at go ⊢
      wp_walk using wpAny_loadPart' hl, wpAny_loadPart' hl2
      rw [if_neg hne]
      wp_walk
      exact ⟨plainId_quiet plain_eq_loop _, codeAny_builtin entry_eq_loop (by rw [Around.under_plainId plain_eq_loop _]; exact go)⟩
    | false =>
      simp only [Bool.false_eq_true, if_false] at go ⊢
      wp_walk using wpAny_loadPart' hl, wpAny_loadPart' hl2
      rw [if_neg hne]
      wp_walk
      exact ⟨plainId_quiet plain_eq_loop _, codeAny_builtin entry_eq_loop (by rw [Around.under_plainId plain_eq_loop _]; exact go)⟩
theorem op_lstEq (hel : ElOk X el) (hu : X.A.units < cLine) : OpR X (compareOp .Eq) (rLstEq X.K el false) := by
  intro pins s σ H x y v u Q I rx ry ⟨a, b, xs, ys, ex, ey, ha, hb, q⟩
  subst ex ey
  obtain rfl : v = Value.ref a := rx
  obtain rfl : u = Value.ref b := ry
  obtain ⟨_, _, _, _, _, hl⟩ := list_at I ha
  obtain ⟨_, _, _, _, _, hl2⟩ := list_at I hb
  have ta : s.TypeIs (.ref a) "list" := ⟨_, hl, rfl⟩
  have tb : s.TypeIs (.ref b) "list" := ⟨_, hl2, rfl⟩
  show wpAny (model X.prog X.w) X.A (richCompare .Eq (.ref a) (.ref b)) (EP X pins σ Q) X.xe s
  refine wpAny_richCompare_same_room (op := .Eq) ta tb F.slot_list_eq (wpAny_call (codeAny_call_builtin F.slot_list_eq.plain F.entry_list_eq (F.slot_list_eq.check _ _ _ _ _ _ _ _ ta (F.args_list_eq_2 _ _) ?_))) hu
  exact lst_top (neg := false) (R := wants (fun v s' => v ≠ Value.notImplemented ∧ EP X pins σ Q v s') X.xe) (Q := fun c H' => Q (.bl (c != false)) H') hel (fun c s' H' I' q' => ⟨(fun e => nomatch e), .bl (c != false), H', I', rfl, q'⟩) (fun e s' z => z) I ha hb q
theorem op_lstNe (hel : ElOk X el) (hu : X.A.units < cLine) : OpR X (compareOp .NotEq) (rLstEq X.K el true) := by
  intro pins s σ H x y v u Q I rx ry ⟨a, b, xs, ys, ex, ey, ha, hb, q⟩
  subst ex ey
  obtain rfl : v = Value.ref a := rx
  obtain rfl : u = Value.ref b := ry
  obtain ⟨_, _, _, _, _, hl⟩ := list_at I ha
  obtain ⟨_, _, _, _, _, hl2⟩ := list_at I hb
  have ta : s.TypeIs (.ref a) "list" := ⟨_, hl, rfl⟩
  have tb : s.TypeIs (.ref b) "list" := ⟨_, hl2, rfl⟩
  show wpAny (model X.prog X.w) X.A (richCompare .NotEq (.ref a) (.ref b)) (EP X pins σ Q) X.xe s
  refine wpAny_richCompare_same_room (op := .NotEq) ta tb F.slot_list_ne (wpAny_call (codeAny_call_builtin F.slot_list_ne.plain F.entry_list_ne (F.slot_list_ne.check _ _ _ _ _ _ _ _ ta (F.args_list_ne_2 _ _) ?_))) hu
  exact lst_top (neg := true) (R := wants (fun v s' => v ≠ Value.notImplemented ∧ EP X pins σ Q v s') X.xe) (Q := fun c H' => Q (.bl (c != true)) H') hel (fun c s' H' I' q' => ⟨(fun e => nomatch e), .bl (c != true), H', I', rfl, q'⟩) (fun e s' z => z) I ha hb q
end
end DL

set_option Elab.async false
set_option linter.all false
set_option maxRecDepth 100000
set_option maxHeartbeats 1000000
/-! by data: == and != of lists whose items are plain, of an own class, or dicts; != of dicts -/
namespace DL
open PySem PySem.W PySem.Calls PySem.Spec PyProof PyProof.Rows L2
abbrev EdT := D → D → (Bool → Prop) → Prop
/-- the comparison of two items by data -/
def SEl (K : Frag) (W : Wc) (el : El) (ed : EdT) : Prop := ∀ p S H x y d e (Rr : Bool → Hp → Prop) (post : Bool → Prop), Stt W p S H → DL.R K W p S x d → DL.R K W p S y e → ed d e post → (∀ b S' H', post b → Grow W p S H S' H' → Rr b H') → el x y H Rr
def zipE (ed : EdT) : List D → List D → (Bool → Prop) → Prop
  | [], _, k => k true
  | x :: xs, y :: ys, k => ed x y fun b => if b = true then zipE ed xs ys k else k false
  | _ :: _, [], _ => False
def bLstEq (ed : EdT) (neg : Bool) : D → D → (D → Prop) → Prop := fun d e k => ∃ xs ys, d = .lst xs ∧ e = .lst ys ∧ ((xs.length ≠ ys.length ∧ k (.bl (false != neg))) ∨ (xs.length = ys.length ∧ zipE ed xs ys fun b => k (.bl (b != neg))))
theorem RA.at_ {K : Frag} {W : Wc} {p : Addr} {S : Hp} : ∀ {ds : List D} {xs : List V} {i : Nat} {d : D}, RA K W p S xs ds → ds[i]? = some d → ∃ x, xs[i]? = some x ∧ DL.R K W p S x d
  | [], xs, i, d, h, e => by simp at e
  | e :: ds, xs, i, d, h, h2 => by
    unfold RA at h
    obtain ⟨y, ys, rfl, h1, h3⟩ := h
    cases i with
    | zero => cases Option.some.inj h2; exact ⟨y, rfl, h1⟩
    | succ i => exact RA.at_ (i := i) h3 (by simpa using h2)
theorem zipE_ok {K : Frag} {W : Wc} {el : El} {ed : EdT} {p a b : Addr} {ds es : List D} {xs ys : List V} (hs : SEl K W el ed) : ∀ (k i : Nat) (S H : Hp) (Q : Bool → Hp → Prop) (post : Bool → Prop), ds.length = i + k → es.length = i + k → Stt W p S H → S a = some (.lst xs) → S b = some (.lst ys) → RA K W p S xs ds → RA K W p S ys es →
    zipE ed (ds.drop i) (es.drop i) post → (∀ b S' H', post b → Grow W p S H S' H' → Q b H') → rZipL K a b xs ys el k i H Q
  | 0, i, S, H, Q, post, h1, h2, st, ha, hb, ra, rb, h, k => by
    rw [List.drop_eq_nil_of_le (by omega)] at h
    exact ⟨SqL.of (st.ex _ _ ha), SqL.of (st.ex _ _ hb), k true S H h (Grow.refl st)⟩
  | n + 1, i, S, H, Q, post, h1, h2, st, ha, hb, ra, rb, h, k => by
    have l1 : i < ds.length := by omega
    have l2 : i < es.length := by omega
    rw [List.drop_eq_getElem_cons l1, List.drop_eq_getElem_cons l2] at h
    obtain ⟨x, ex, rx⟩ := RA.at_ (i := i) ra (List.getElem?_eq_getElem l1)
    obtain ⟨y, ey, ry⟩ := RA.at_ (i := i) rb (List.getElem?_eq_getElem l2)
    refine ⟨SqL.of (st.ex _ _ ha), SqL.of (st.ex _ _ hb), x, y, ex, ey, ?_⟩
    refine hs p S H x y _ _ _ _ st rx ry h fun c S' H' q g => ?_
    cases c with
    | true =>
      rw [if_pos rfl] at q ⊢
      exact zipE_ok hs n (i + 1) S' H' Q post (by omega) (by omega) g.st (g.ex _ _ ha) (g.ex _ _ hb) (RA.mono g.ex _ _ ra) (RA.mono g.ex _ _ rb) q fun b S2 H2 q2 g2 => k b S2 H2 q2 (g.trans g2)
    | false =>
      rw [if_neg (by decide)] at q ⊢
      exact ⟨SqL.of (g.st.ex _ _ (g.ex _ _ ha)), SqL.of (g.st.ex _ _ (g.ex _ _ hb)), k false S' H' q g⟩
theorem rb_lstEq {K : Frag} {W : Wc} {el : El} {ed : EdT} {neg : Bool} (hs : SEl K W el ed) : RB K W (rLstEq K el neg) (bLstEq ed neg) := fun p S H x y d e Q post st r1 r2 q k => by
  obtain ⟨ds, es, rfl, rfl, q⟩ := q
  unfold DL.R at r1 r2
  obtain ⟨a, xs, rfl, ha, ra⟩ := r1
  obtain ⟨b, ys, rfl, hb, rb⟩ := r2
  refine ⟨a, b, xs, ys, rfl, rfl, SqL.of (st.ex _ _ ha), SqL.of (st.ex _ _ hb), ?_⟩
  rw [RA.length ra, RA.length rb]
  rcases q with ⟨hn, q⟩ | ⟨he, q⟩
  · exact .inl ⟨hn, k _ _ S H q (Grow.refl st) rfl⟩
  · exact .inr ⟨he, zipE_ok hs ds.length 0 S H _ _ (by omega) (by omega) st ha hb ra rb q fun b S' H' hb g => k _ _ S' H' hb g rfl⟩
/-! ### plain items -/
def elPy (K : Frag) : El := fun x y H Rr => ∃ d e : PyData, Dp K H x d ∧ Dp K H y e ∧ d.canLay0 = true ∧ e.canLay0 = true ∧ d.depth ≤ 62 ∧ Rr (PyData.eqv d e) H
def edPy : EdT := fun d e k => pyB 62 d = true ∧ pyB 62 e = true ∧ k (eqD d e)
theorem elOk_py {X : Cx} (hu : X.A.units + 65 < cLine) : ElOk X (elPy X.K) := fun pins s σ H x y v u Rr I rx ry ⟨d, e, d1, d2, c1, c2, dep, q⟩ => by
  obtain ⟨as, q1⟩ := Dp.reads I _ _ _ d1 rx
  obtain ⟨bs, q2⟩ := Dp.reads I _ _ _ d2 ry
  refine SeqAt.EqAt.eqP (SeqAt.eqAt_reads _ _ X.A.in1 s _ _ _ _ q1 q2 c1 c2 ?_) _ _ ⟨H, I, q⟩
  have : X.A.in1.units = X.A.units + 1 := rfl
  omega
theorem sel_py {K : Frag} {W : Wc} : SEl K W (elPy K) edPy := fun p S H x y d e Rr post st r1 r2 ⟨p1, p2, q⟩ k => by
  obtain ⟨a1, a2, a3⟩ := pyB_parts p1
  obtain ⟨b1, b2, b3⟩ := pyB_parts p2
  exact ⟨_, _, R.dp st.ex d x a1 r1, R.dp st.ex e y b1 r2, a2, b2, a3, k _ S H q (Grow.refl st)⟩
/-! ### items of an own class -/
def edOwn (c : Nat) (f : DF) : EdT := fun d e k => (∃ fs, d = .obj c fs) ∧ kindD c e = true ∧ (d = e → k true) ∧ f [d, e] noX fun r => ∃ b, r = .bl b ∧ k b
def elOwnC (X : Cx) (K : Frag) (M : MM) (c : Nat) (f : DF) : El := fun x y H Rr => X.K = K ∧ ∃ C, M.m c = some C ∧ elOwn X C (spD X.K (WcOf M) f) (fun _ _ _ => False) x y H Rr
theorem sel_own {X : Cx} {K : Frag} {M : MM} {c : Nat} {f : DF} (hC : ∃ C, M.m c = some C) (hj : ∀ c c' C, M.m c = some C → M.m c' = some C → c = c') (hK : X.K = K) : SEl K (WcOf M) (elOwnC X K M c f) (edOwn c f) := fun p S H x y d e Rr post st r1 r2 ⟨⟨fs, ed⟩, hk, sam, q⟩ k => by
  subst hK
  obtain ⟨C, hM⟩ := hC
  subst ed
  have r3 := r1
  unfold DL.R at r3
  obtain ⟨a, C', dx, gs, rfl, ea, hC', rf⟩ := r3
  obtain rfl : C = C' := Option.some.inj (hM.symm.trans hC')
  refine ⟨rfl, C, hM, a, dx, gs, rfl, st.ex _ _ ea, kty_of hM st.ex r2 hk, fun ey ⟨pins, σ, s, I⟩ => ?_, ?_⟩
  · have hd := R.inj I st hj _ _ _ r1 (ey ▸ r2)
    exact k true S H (sam hd) (Grow.refl st)
  · exact ⟨p, S, _, _, noX, st, RA.cons r1 (RA.cons r2 RA.nil), q, fun v d S3 H3 ⟨b, hb, q4⟩ g3 r4 => by
      subst hb
      exact ⟨b, r4, k b S3 H3 q4 g3⟩, fun _ _ _ _ _ _ _ h => h.elim⟩
theorem elOk_own {X : Cx} {P : Program} {w : World} {K : Frag} {M : MM} {mg : Str → Option Value} {base : Heap} {j k c : Nat} {df : DF} (F : EqOk P w K (WcOf M) mg base j c df) (hX : X.prog = P ∧ X.w = w ∧ X.K = K ∧ X.mg = mg ∧ X.base = base) (hr : Room k X.A) (hj : j + 1 ≤ k) : ElOk X (elOwnC X K M c df) := by
  obtain ⟨rfl, rfl, rfl, rfl, rfl⟩ := hX
  obtain ⟨C, f, fd, ps, hM, O, F, hb⟩ := F.ex
  intro pins s σ H x y v u Rr I rx ry ⟨_, C', hM', q⟩
  obtain rfl : C' = C := Option.some.inj (hM'.symm.trans hM)
  exact el_own O F (hr.mono hj) hb passes_no pins s σ H x y v u Rr I rx ry q
/-! ### either -/
def elOr (e1 e2 : El) : El := fun x y H Rr => e1 x y H Rr ∨ e2 x y H Rr
def edOr (e1 e2 : EdT) : EdT := fun d e k => e1 d e k ∨ e2 d e k
theorem sel_or {K : Frag} {W : Wc} {e1 e2 : El} {d1 d2 : EdT} (h1 : SEl K W e1 d1) (h2 : SEl K W e2 d2) : SEl K W (elOr e1 e2) (edOr d1 d2) := fun p S H x y d e Rr post st r1 r2 q k =>
  q.elim (fun q => .inl (h1 p S H x y d e Rr post st r1 r2 q k)) fun q => .inr (h2 p S H x y d e Rr post st r1 r2 q k)
theorem elOk_or {X : Cx} {e1 e2 : El} (h1 : ElOk X e1) (h2 : ElOk X e2) : ElOk X (elOr e1 e2) := fun pins s σ H x y v u Rr I rx ry q =>
  q.elim (h1 pins s σ H x y v u Rr I rx ry) (h2 pins s σ H x y v u Rr I rx ry)
/-- lists of plain items and of items of one own class -/
abbrev edMix (c : Nat) (f : DF) : EdT := edOr edPy (edOwn c f)
section
variable {P : Program} {w : World} {K : Frag} {M : MM} {mg : Str → Option Value} {base : Heap}
theorem op_mixEqD {X : Cx} {j k c : Nat} {df : DF} (F : EqOk P w K (WcOf M) mg base j c df) (hX : X.prog = P ∧ X.w = w ∧ X.K = K ∧ X.mg = mg ∧ X.base = base := by exact ⟨rfl, rfl, rfl, rfl, rfl⟩) (hr : Room k X.A := by assumption) (hj : j + 1 ≤ k := by decide) : OpR X (compareOp .Eq) (rLstEq X.K (elOr (elPy X.K) (elOwnC X K M c df)) false) :=
  op_lstEq (elOk_or (elOk_py (by have := hr.un; omega)) (elOk_own F hX hr hj)) hr.units0
theorem op_mixNeD {X : Cx} {j k c : Nat} {df : DF} (F : EqOk P w K (WcOf M) mg base j c df) (hX : X.prog = P ∧ X.w = w ∧ X.K = K ∧ X.mg = mg ∧ X.base = base := by exact ⟨rfl, rfl, rfl, rfl, rfl⟩) (hr : Room k X.A := by assumption) (hj : j + 1 ≤ k := by decide) : OpR X (compareOp .NotEq) (rLstEq X.K (elOr (elPy X.K) (elOwnC X K M c df)) true) :=
  op_lstNe (elOk_or (elOk_py (by have := hr.un; omega)) (elOk_own F hX hr hj)) hr.units0
theorem rb_mix {X : Cx} {c : Nat} {f : DF} {neg : Bool} (hC : ∃ C, M.m c = some C) (hj : ∀ c c' C, M.m c = some C → M.m c' = some C → c = c') (hK : X.K = K := by rfl) : RB X.K (WcOf M) (rLstEq X.K (elOr (elPy X.K) (elOwnC X K M c f)) neg) (bLstEq (edMix c f) neg) := by
  subst hK
  exact rb_lstEq (sel_or sel_py (sel_own hC hj rfl))
end
end DL

set_option Elab.async false
set_option linter.all false
set_option maxRecDepth 100000
set_option maxHeartbeats 1000000
/-! try: return e, several clauses: the suites know the slots -/
namespace DL
open PySem PySem.W PySem.Calls PySem.Spec PyProof PyProof.Rows L2
/-- expressions in a try, their errors told with the slots -/
structure PDGA (X : Cx) (W : Wc) (es : List Expr) (ta : XK → TA) (da : DA) : Prop where
  pe : ∀ (Wx : WX) (pn : List (Addr × Obj)) (xe : Value → Shared → Prop), Takes (X.tr pn xe) Wx → PA (X.tr pn xe) es (fun σ H Q => ta (fun cls d H' => Wx cls d σ H') σ H Q)
  se : ∀ E, SA X.K W E (ta E) da
section
variable {X : Cx} {W : Wc} {e : Expr} {es : List Expr} {te : XK → TE} {te0 : TE} {de : DE} {ta : XK → TA} {ta0 : TA} {da : DA} {pos : Pos}
theorem pdg_of (h1 : ∀ (pn : List (Addr × Obj)) (xe : Value → Shared → Prop), PD (X.tr pn xe) W L2.E0 e te0 de) (h2 : ∀ E, PD X W E e te0 de) : PDG' X W e (fun _ => te0) de := ⟨fun Wx pn xe _ => (h1 pn xe).pe, fun E => (h2 E).se⟩
theorem pdga_nil : PDGA X W [] (fun _ => tNil) dNil := ⟨fun Wx pn xe _ => pa_nil, fun E => sa_nil⟩
theorem pdga_cons (h : PDG' X W e te de) (hr : PDGA X W es ta da) (hs : starEach (e :: es) X.env = (false, eval e X.env) :: starEach es X.env := by rfl) : PDGA X W (e :: es) (fun E => tCons (te E) (ta E)) (dCons de da) :=
  ⟨fun Wx pn xe tk => pa_cons (h.pe Wx pn xe tk) (hr.pe Wx pn xe tk) hs, fun E => sa_cons (h.se E) (hr.se E)⟩
theorem pdgx_lst (h : PDGA X W es ta da) : PDG' X W (.List es pos) (fun E => tLst (ta E)) (dLst (dFit da)) :=
  ⟨fun Wx pn xe tk => pe_lst (h.pe Wx pn xe tk), fun E p S H σ env xp st ev xo Q post q k => h.se E p S H σ env xp st ev xo _ _ q fun vs ds S1 H1 ⟨hz, q1⟩ g1 r1 =>
    ⟨by rw [RA.length r1]; exact sz_of hz, fun l hl => by
      have g2 := Grow.new (o := HO.lst vs) g1.st hl
      refine k _ _ _ _ q1 (g1.trans g2) ?_
      unfold DL.R
      exact ⟨l, vs, rfl, upd_same, RA.mono g2.ex _ _ r1⟩⟩⟩
def tCallE (sp : Sp) (E : XK) (ta : TA) : TE := fun σ H Q => ta σ H fun vs H1 => sp vs H1 Q E
variable {K : Frag} {mg : Str → Option Value} {P : Program} {w : World} {base : Heap} {g : Str} {k m : Nat} {ps : List Str} {df : DF} {gp cp : Pos} {tr : TA} {dr : DA}
theorem pdg_call (G : DefOk P w K W mg base m g ps df []) (ha : ∀ (pn : List (Addr × Obj)) (xe : Value → Shared → Prop), PDA (X.tr pn xe) W L2.E0 (e :: es) tr dr) (ha2 : ∀ E, PDA X W E (e :: es) tr dr)
    (hX : X.prog = P ∧ X.w = w ∧ X.K = K ∧ X.mg = mg ∧ X.base = base := by exact ⟨rfl, rfl, rfl, rfl, rfl⟩) (hr : Room k X.A := by assumption) (hm : m ≤ k := by decide)
    (hgg : Gl X g := by rfl) (hgd : (g == ("__debug__" : Str)) = false := by decide)
    (he : starEach (e :: es) X.env = (false, eval e X.env) :: starEach es X.env := by rfl) (hpl : (backTo cp (starEach es X.env)).any (·.1) = false := by rfl) :
    PDG' X W (.Call (.Name g gp) (e :: es) [] cp) (fun E => tCallE (spD K W df) E tr) (dCall df [] dr) := by
  obtain ⟨rfl, rfl, rfl, rfl, rfl⟩ := hX
  obtain ⟨f, fd, ds, dvs, Fn, hmf, hk, hb, hd, hdd⟩ := G.ex
  have e0 : dvs = [] := by
    have := hdd 0 (fun _ => none)
    unfold RA at this
    exact this
  subst e0
  cases hd
  refine ⟨fun Wx pn xe tk => pe_callS (X := X.tr pn xe) Fn (hr.mono hm) hgg hmf hk hb tk (ha pn xe).pe hgd he hpl, fun E p S H σ env xp st ev xo Q post q k => ?_⟩
  exact (ha2 E).se p S H σ env xp st ev xo _ _ q fun vs ds S1 H1 q1 g1 r1 => ⟨p, S1, ds, post, xp, g1.st, r1, by rw [List.append_nil] at q1; exact q1, fun v d S2 H2 q2 g2 r2 => k v d S2 H2 q2 (g1.trans g2) r2, xo.mono g1⟩
end
def dAllG (W : Wc) (i : Nat) (env : SEnv) (DD : DEnds) (xp : XP) : List ((Nat → Bool) × DEx) → XP
  | [] => xp
  | (bt, ds) :: r => fun c dfs => (bt c = true ∧ ∀ a dx C, W.M c = some C → ds a (.ref C) (some dx) (endsD i DD) noX (env.set i (.ex a dx c dfs))) ∨ (bt c = false ∧ dAllG W i env DD xp r c dfs)
def dTryRet (W : Wc) (i : Nat) (de : DE) (cl : List ((Nat → Bool) × DEx)) : DS := fun DD xp env => de env (dAllG W i env DD xp cl) DD.rt
section
variable {X : Cx} {W : Wc} {E : XK} {n : Str} {i : Nat} {hds : List ExceptHandler} {l : List (Value × (Addr → Value → Option Addr → TS))} {cl : List ((Nat → Bool) × DEx)}
theorem ClsOk.wishG (h : ClsOk X W n hds l cl) {p : Addr} {S0 H0 S H S' H' : Hp} {xp : XP} {D : Ends} {DD : DEnds} {σ : L2.St} {env : SEnv} (sv : Sv X.K W p S0 H0 S H σ env) (xo : XOkS X.K W p S0 H0 S xp E) (k : EOk X.K W p S0 H0 S D DD) {c : Nat} {dfs : List (Str × DL.D)} {C x : Addr} {gs : List (Str × V)}
    (hx : dAllG W i env DD xp cl c dfs) (hM : W.M c = some C) (hne : x ≠ p) (g' : Grow W p S H S' H') (e : H' x = some (.xd gs)) (r : RF X.K W p S' gs dfs) :
    wAll X.K (fun cls d _ H => E cls d H) D i l (.ref C) (some x) σ H' := by
  induction h with
  | nil => exact xo c dfs C x gs S' H' hx hM hne g'.ex (sv.g.trans g') e r
  | @cons y cv bt ts dsu b₀ suite np pos' hds l cl E0 hc hbt hsu rest ih =>
    rcases hx with ⟨h1, h2⟩ | ⟨h1, h2⟩
    · refine ⟨true, by rw [hbt c C hM, h1], fun _ a ha => ?_, fun z => Bool.noConfusion z⟩
      have ev := (sv.ev.mono g').setEx (i := i) (a := a) (c := c) e hne r
      have ex := g'.ex
      refine (hsu a { cls := .ref C, dict := some x, data := .fields #[] } (.ref C) (some x) [] ⟨rfl, rfl⟩ ⟨_, rfl⟩).se p S0 H0 S' H' _ _ noX ⟨sv.g.trans g', ev, fun j ds' b e1 e2 => ?_⟩ XOkS.no _ _ (h2 a x C hM) ⟨?_, ?_, ?_, ?_⟩
      · by_cases hj : i = j
        · subst hj
          have hlt : i < env.length := by
            have := (List.getElem?_eq_some_iff.mp e1).1
            rwa [List.length_set] at this
          rw [List.getElem?_set_self hlt] at e1
          cases e1
        · rw [List.getElem?_set_ne hj] at e1 e2
          exact sv.own j ds' b e1 e2
      · exact fun S2 H2 σ2 env2 x2 sv2 q2 => k.nx S2 H2 _ _ (ex.trans x2) (sv2.unset i) q2
      · exact fun S2 H2 v d x2 g2 r2 q2 => k.rt S2 H2 v d (ex.trans x2) g2 r2 q2
      · exact fun S2 H2 σ2 env2 x2 sv2 q2 => k.bk S2 H2 _ _ (ex.trans x2) (sv2.unset i) q2
      · exact fun S2 H2 σ2 env2 x2 sv2 q2 => k.ct S2 H2 _ _ (ex.trans x2) (sv2.unset i) q2
    · exact ⟨false, by rw [hbt c C hM, h1], fun z => Bool.noConfusion z, fun _ => ih h2⟩
variable {h₀ : ExceptHandler} {pos rp : Pos} {e : Expr} {te : XK → TE} {de : DE}
theorem pds_tryRet (hk : ClsOk X W n (h₀ :: hds) l cl) (hs : X.stack = X.env :: X.outer) (hf : X.env.frame = some X.env.locals) (hN : X.N.Nodup) (tk : Takes X (fun cls d _ H => E cls d H)) (he : PDG' X W e te de)
    (hi : X.N[i]? = some n := by rfl) (hln : X.env.kindOf n = some .local := by rfl) :
    PDS X W E (.Try [.Return (some e) rp] (h₀ :: hds) [] [] pos) (fun D σ H => tRet (tAtS te (wAll X.K (fun cls d _ H => E cls d H) D i l)) D σ H) (dTryRet W i de cl) := by
  refine ⟨ps_try_all (tb := fun Wx => tRet (tAtS te Wx)) hs hf hN hi hln tk (fun Wx pn xe tkx pw => pss_one (ps_ret (he.pe Wx pn xe tkx))) hk.all, fun p S0 H0 S H σ env xp sv xo D DD q k => ?_⟩
  refine he.se _ p S H σ env _ sv.st sv.ev (fun c dfs C x gs S' H' hx hM hne g' eH r => ?_) _ _ q fun v d S1 H1 q1 g1 r1 => k.rt S1 H1 v d g1.ex (sv.g.trans g1) r1 q1
  exact hk.wishG sv xo k hx hM hne g' eH r
end
end DL

set_option Elab.async false
set_option linter.all false
set_option maxRecDepth 100000
set_option maxHeartbeats 1000000
/-! dicts: !=, compared as items of lists, built by a loop; list(d), dict(d); o.m() -/
namespace DL
open PySem PySem.W PySem.Calls PySem.Spec PyProof PyProof.Rows L2
/-! ### != -/
theorem hitsN {X : Cx} {pins : List (Addr × Obj)} {σ : L2.St} {H : Hp} {s : Shared} {A : Around} (I : Inv X pins σ H s) (hu : A.units + 64 < cLine) {lvs : List (Key × V)} {vb : List (Key × Value)} (rb : KV lvs vb) {kvs : List (Key × V)} {va : List (Key × Value)} (ra : KV kvs va) :
    ∀ {r : Bool}, DHits X.K H lvs kvs r → KeqHits A s vb va r := by
  unfold KV at ra
  induction ra with
  | nil => intro r h; cases h; exact .nil
  | @cons p q ps qs h t ih =>
    intro r hh
    obtain ⟨h1, h2⟩ := h
    obtain ⟨key, v⟩ := q
    have h1' : p.1 = key := h1
    obtain ⟨k0, v0⟩ := p
    have h1'' : k0 = key := h1'
    subst h1''
    cases hh with
    | miss hn =>
      have := rb.val k0
      rw [hn] at this
      refine .miss ?_
      cases hv : valueAt vb k0 with
      | none => rfl
      | some z => rw [hv] at this; exact this.elim
    | hit hv d1 d2 c1 c2 dep rest =>
      have rr := rb.val k0
      rw [hv] at rr
      obtain ⟨y, hy, ry⟩ := rr.some_of
      obtain ⟨as, q1⟩ := Dp.reads I _ _ _ d1 h2
      obtain ⟨bs, q2⟩ := Dp.reads I _ _ _ d2 ry
      refine .hit hy (SeqAt.eqAt_reads _ _ A s _ _ _ _ q1 q2 c1 c2 ?_) (ih rest)
      omega
theorem op_dne {X : Cx} (hu : X.A.units + 65 < cLine) : OpR X (compareOp .NotEq) (rDEq X.K true) := by
  intro pins s σ H x y v u Q I rx ry h
  obtain ⟨a, b, kvs, lvs, r, rfl, rfl, ha, hb, hh, q⟩ := h
  cases (show v = Value.ref a from rx)
  cases (show u = Value.ref b from ry)
  obtain ⟨_, ya, va, ra, da⟩ := dk_rd I.hok ha
  obtain ⟨_, yb, vb, rb, db⟩ := dk_rd I.hok hb
  refine PySem.W.keq_ne (knd := mixKind X.prog X.w) (r := r) ya yb da db (by omega) (fun _ => hitsN I (by show X.A.units + 1 + 64 < cLine; omega) rb ra hh) ?_
  rw [show (va.length == vb.length) = (kvs.length == lvs.length) by rw [ra.length, rb.length]]
  exact ⟨.bl (!(kvs.length == lvs.length && r)), H, I, rfl, by simpa using q⟩
def bDNe : D → D → (D → Prop) → Prop := fun d e k => ∃ ks ls, d = dctD ks ∧ e = dctD ls ∧ (∀ kv ∈ ks, pyB 63 kv.2 = true) ∧ (∀ kv ∈ ls, pyB 63 kv.2 = true) ∧ k (.bl (!(ks.length == ls.length && eqK ks ls)))
theorem rb_dne {K : Frag} {W : Wc} : RB K W (rDEq K true) bDNe := fun p S H x y d e Q post st r1 r2 ⟨ks, ls, e1, e2, hk, hl, q⟩ k => by
  subst e1 e2
  obtain ⟨a, kvs, rfl, ha, rk⟩ := rDct r1
  obtain ⟨b, lvs, rfl, hb, rl⟩ := rDct r2
  refine ⟨a, b, kvs, lvs, _, rfl, rfl, st.ex.rd ha.rd, st.ex.rd hb.rd, dhits_of st.ex rl hl rk hk, ?_⟩
  rw [RK.len rk, RK.len rl]
  exact k _ (.bl (!(ks.length == ls.length && eqK ks ls))) S H q (Grow.refl st) (by unfold DL.R; simp)
theorem op_dneK (K : Frag) {X : Cx} (hu : X.A.units + 65 < cLine) (hK : X.K = K := by rfl) : OpR X (compareOp .NotEq) (rDEq K true) := by
  subst hK
  exact op_dne hu
/-! ### dicts as items of lists -/
def elDct (X : Cx) : El := fun x y H Rr => ∃ a b kvs lvs r, x = .ref a ∧ y = .ref b ∧ Rd H a (.dK kvs) ∧ Rd H b (.dK lvs) ∧ DHits X.K H lvs kvs r ∧ (x = y → (∃ pins σ s, Inv X pins σ H s) → Rr true H) ∧ Rr (kvs.length == lvs.length && r) H
def edDct : EdT := fun d e k => ∃ ks ls, d = dctD ks ∧ e = dctD ls ∧ (∀ kv ∈ ks, pyB 63 kv.2 = true) ∧ (∀ kv ∈ ls, pyB 63 kv.2 = true) ∧ (d = e → k true) ∧ k (ks.length == ls.length && eqK ks ls)
theorem elOk_dct {X : Cx} (hu : X.A.units + 66 < cLine) : ElOk X (elDct X) := fun pins s σ H x y v u Rr I rx ry ⟨a, b, kvs, lvs, r, ex, ey, ha, hb, hh, sam, q⟩ => by
  subst ex ey
  obtain rfl : v = Value.ref a := rx
  obtain rfl : u = Value.ref b := ry
  by_cases hab : a = b
  · subst hab
    unfold eqBool
    try with_reducible refine wpAny_holding ?_
    show wpAny _ _ (if (Value.ref a == Value.ref a) = true then _ else _) _ _ s
    rw [if_pos (by simp)]
    exact wpAny_bind (wpAny_rule (wpAny_pure ⟨H, I, sam rfl ⟨pins, σ, s, I⟩⟩))
  · obtain ⟨_, ya, va, ra, da⟩ := dk_rd I.hok ha
    obtain ⟨_, yb, vb, rb, db⟩ := dk_rd I.hok hb
    refine SeqAt.eqP_refs hab (fun E Q hq => PySem.W.rcP_dicts (knd := mixKind X.prog X.w) (r := r) ya yb da db (by show X.A.units + 1 < cLine; omega) (fun _ => hitsP I (by show X.A.units + 1 + 1 + 64 < cLine; omega) rb ra hh) E Q ?_) _ _ ⟨H, I, q⟩
    rw [show (va.length == vb.length) = (kvs.length == lvs.length) by rw [ra.length, rb.length]]
    exact hq
theorem sel_dct {X : Cx} {M : MM} (hj : ∀ c c' C, M.m c = some C → M.m c' = some C → c = c') : SEl X.K (WcOf M) (elDct X) edDct := fun p S H x y d e Rr post st r1 r2 ⟨ks, ls, e1, e2, hk, hl, sam, q⟩ k => by
  have q1 := r1
  have q2 := r2
  subst e1 e2
  obtain ⟨a, kvs, rfl, ha, rk⟩ := rDct r1
  obtain ⟨b, lvs, rfl, hb, rl⟩ := rDct r2
  refine ⟨a, b, kvs, lvs, _, rfl, rfl, st.ex.rd ha.rd, st.ex.rd hb.rd, dhits_of st.ex rl hl rk hk, fun ey ⟨pins, σ, s, I⟩ => ?_, ?_⟩
  · exact k true S H (sam (R.inj I st hj _ _ _ q1 (ey ▸ q2))) (Grow.refl st)
  · rw [RK.len rk, RK.len rl]
    exact k _ S H q (Grow.refl st)
theorem op_dctsNe {X : Cx} {k : Nat} (hr : Room k X.A) : OpR X (compareOp .NotEq) (rLstEq X.K (elDct X) true) := op_lstNe (elOk_dct (by have := hr.un; omega)) hr.units0
theorem rb_dcts {X : Cx} {M : MM} {neg : Bool} (hj : ∀ c c' C, M.m c = some C → M.m c' = some C → c = c') : RB X.K (WcOf M) (rLstEq X.K (elDct X) neg) (bLstEq edDct neg) := rb_lstEq (sel_dct hj)
/-! ### list(d), dict(d) -/
def bListD : List D → (D → Prop) → Prop
  | [d], k => ∃ ks, d = dctD ks ∧ k (.lst (ks.map fun kv => kD kv.1))
  | _, _ => False
def rListD : List V → Hp → VK → Prop := fun xs H Q => ∃ (a : Addr) (kvs : List (Key × V)), xs = [.ref a] ∧ Rd H a (.dK kvs) ∧ ∀ p, H p = none → Q (.ref p) (upd H p (.lst (kvs.map fun kv => kV kv.1)))
theorem cr_listD {X : Cx} (hc : X.calm = true := by rfl) : CallR X (.type "list") rListD := call_listD hc
theorem RK.vals {K : Frag} {W : Wc} {p : Addr} {S : Hp} : ∀ {ks : List (Key × D)} {kvs : List (Key × V)}, RK K W p S kvs ks → RA K W p S (kvs.map fun kv => kV kv.1) (ks.map fun kv => kD kv.1)
  | [], kvs, h => by unfold RK at h; subst h; exact RA.nil
  | (n, d) :: ks, kvs, h => by
    unfold RK at h
    obtain ⟨y, ys, rfl, h1, h2⟩ := h
    exact RA.cons (R.kD n) (RK.vals h2)
theorem rc_listD {K : Frag} {W : Wc} : RCb K W rListD bListD := fun p S H vs ds Q post st ra q k => by
  unfold bListD at q
  split at q
  · obtain ⟨v, rfl, r⟩ := ra.one
    obtain ⟨ks, rfl, q⟩ := q
    obtain ⟨a, kvs, rfl, h1, rk⟩ := rDct r
    refine ⟨a, kvs, rfl, st.ex.rd h1.rd, fun l hl => ?_⟩
    have g := Grow.new (o := HO.lst (kvs.map fun kv => kV kv.1)) st hl
    refine k _ _ _ _ q g ?_
    unfold DL.R
    exact ⟨l, _, rfl, upd_same, RA.mono g.ex _ _ (RK.vals rk)⟩
  · exact q.elim
def bDictD : List D → (D → Prop) → Prop
  | [d], k => ∃ ks, d = dctD ks ∧ k (dctD ks)
  | _, _ => False
def rDictD : List V → Hp → VK → Prop := fun xs H Q => ∃ (a : Addr) (kvs : List (Key × V)), xs = [.ref a] ∧ Rd H a (.dK kvs) ∧ ∀ p, H p = none → ∃ a' kvs', V.ref p = .ref a' ∧ (upd H p (.dK kvs)) a' = some (.dK kvs') ∧ ∀ od, Q (.ref p) (upd (upd H p (.dK kvs)) a' (.frz od (.dK kvs')))
theorem cr_dictD {X : Cx} : CallR X (.type "dict") rDictD := CallR.frz call_dictD
theorem rc_dictD {K : Frag} {W : Wc} : RCb K W rDictD bDictD := fun p S H vs ds Q post st ra q k => by
  unfold bDictD at q
  split at q
  · obtain ⟨v, rfl, r⟩ := ra.one
    obtain ⟨ks, rfl, q⟩ := q
    obtain ⟨a, kvs, rfl, h1, rk⟩ := rDct r
    refine ⟨a, kvs, rfl, st.ex.rd h1.rd, fun l hl => ⟨l, _, rfl, upd_same, fun od => ?_⟩⟩
    rw [upd_upd]
    have g := Grow.new (o := HO.frz od (.dK kvs)) st hl
    exact k _ _ _ _ q g (rOfDct ⟨od, upd_same⟩ (RK.mono g.ex _ _ rk))
  · exact q.elim
/-! ### o.m() -/
section
variable {X : Cx} {W : Wc} {E : XK} {P : Program} {w : World} {K : Frag} {mg : Str → Option Value} {base : Heap} {c j k : Nat} {m : Str} {df : DF} {dvs : List V} {dds : List D} {o : Expr} {te : TE} {de : DE} {apos pos : Pos}
theorem pd_methD0 {pl : Sem Bool} (F : MethOk P w K W mg base j c m df dvs dds) (hx : Passes (L2.CX X.prog X.w) X E) (ho : PD X W E o te de)
    (hX : X.prog = P ∧ X.w = w ∧ X.K = K ∧ X.mg = mg ∧ X.base = base := by exact ⟨rfl, rfl, rfl, rfl, rfl⟩) (hr : Room k X.A := by assumption) (hj : j ≤ k := by decide)
    (ht : eval (.Call (.Attribute o m apos) [] [] pos) X.env = (do
      let ov ← eval o X.env
      standAt apos.atName
      let (f, first) ← holding [ov] (getMethod ov m pl)
      callWith pos f first (backTo pos (starEach [] X.env)) (backToKw pos (keywordEach [] X.env))) := by rfl) :
    PD X W E (.Call (.Attribute o m apos) [] [] pos) (tC1 W c fun C => tMeth C m (spD K W df) dvs E te tNil) (dMeth c m df dds de dNil) := by
  obtain ⟨rfl, rfl, rfl, rfl, rfl⟩ := hX
  obtain ⟨C, f, fd, ps, ds, hM, cl, hm, F, hb, hd, hdd⟩ := F.ex
  exact pd_c1 hM (pd_meth0 hM cl hm F (hr.mono hj) hb hd hdd hx ho ht)
end
end DL

set_option Elab.async false
set_option linter.all false
set_option maxRecDepth 100000
set_option maxHeartbeats 1000000
/-! x = {}; for t in it: if c: x[k] = v; return x -/
namespace DL
open PySem PySem.W PySem.Calls PySem.Spec PyProof PyProof.Rows L2
/-- the value ahead of the key -/
def dOneV (dg : DG) (dt : DT) (dk dv : DE) (env : SEnv) : D → (Option (Key × D) → Prop) → Prop := fun d k => dg d env fun env2 => dt env2 noX fun b => if b = true then dv env2 noX fun vd => dk env2 noX fun kd => ∃ key, kd = kD key ∧ k (some (key, vd)) else k none
def dBuild (i : Nat) (di : DA) (dg : DG) (dt : DT) (dk dv : DE) (own : List Nat) : DS := fun DD xp env => di (env.set i .un) xp fun ds => ds.length < 100000 ∧ ddc (dOneV dg dt dk dv (wipeE (env.set i .un) own)) ds [] fun ks => DD.rt (dctD ks)
theorem wipeE_len {env : SEnv} : ∀ {vs : List Nat}, (wipeE env vs).length = env.length
  | [] => rfl
  | v :: vs => by unfold wipeE; rw [List.length_set, wipeE_len]
theorem wipeE_out {env : SEnv} {i : Nat} : ∀ {vs : List Nat}, i ∉ vs → (wipeE env vs)[i]? = env[i]?
  | [], _ => rfl
  | v :: vs, h => by
    have h1 : v ≠ i := fun z => h (by simp [z])
    unfold wipeE
    rw [List.getElem?_set_ne h1]
    exact wipeE_out fun z => h (List.mem_cons_of_mem _ z)
theorem wipeE_in {env : SEnv} {i : Nat} (hl : i < env.length) : ∀ {vs : List Nat}, i ∈ vs → (wipeE env vs)[i]? = some .un
  | v :: vs, h => by
    unfold wipeE
    by_cases e : v = i
    · subst e
      rw [List.getElem?_set_self (by rw [wipeE_len]; exact hl)]
    · rw [List.getElem?_set_ne e]
      exact wipeE_in hl ((List.mem_cons.mp h).resolve_left fun z => e z.symm)
/-- slots that are like these but for some -/
theorem Ev.like {K : Frag} {W : Wc} {p : Addr} {S H : Hp} {σ σ' : L2.St} {env : SEnv} {own : List Nat} (ev : Ev K W p S H σ env) (hl : σ'.length = σ.length) (hs : ∀ j, j ∉ own → σ'[j]? = σ[j]?) : Ev K W p S H σ' (wipeE env own) := by
  refine ⟨fun j s e => ?_, fun j k ds es n e1 e2 => ?_⟩
  · by_cases hj : j ∈ own
    · have hlt : j < env.length := by
        have := (List.getElem?_eq_some_iff.mp e).1
        rwa [wipeE_len] at this
      rw [wipeE_in hlt hj] at e
      cases e
      obtain ⟨o, h1, _⟩ := ev.at_ j env[j] (by simp [hlt])
      have : j < σ'.length := by rw [hl]; exact (List.getElem?_eq_some_iff.mp h1).1
      exact ⟨_, List.getElem?_eq_getElem this, trivial⟩
    · rw [wipeE_out hj] at e
      rw [hs j hj]
      exact ev.at_ j s e
  · have out : ∀ {j : Nat} {ds : List D}, (wipeE env own)[j]? = some (Sl.ow ds) → j ∉ own ∧ env[j]? = some (Sl.ow ds) := fun {j ds} e => by
      by_cases hj : j ∈ own
      · have hlt : j < env.length := by
          have := (List.getElem?_eq_some_iff.mp e).1
          rwa [wipeE_len] at this
        rw [wipeE_in hlt hj] at e
        cases e
      · rw [wipeE_out hj] at e
        exact ⟨hj, e⟩
    obtain ⟨a1, b1⟩ := out e1
    obtain ⟨a2, b2⟩ := out e2
    rw [hs j a1, hs k a2]
    exact ev.dis j k ds es n b1 b2
def tBuild (i : Nat) (wi : TI) (g : TG) (tt : TT) (tk tv : TE) : TS := tSeq (tAsg tDNewK (gName i)) (tSeq (tFor wi g (tIfS tt (sDPut (tVar i) tk tv) tNext)) (tRet (tFrz (tVar i))))
theorem ss_build {K : Frag} {W : Wc} {E : XK} {i : Nat} {wi : TI} {g : TG} {tt : TT} {tk tv : TE} {di : DA} {dg : DG} {dt : DT} {dk dv : DE} {own vs : List Nat} (hv : ∀ j ∈ vs, j ∈ own) (hio : i ∉ own) (hi : SI K W E wi di) (hg : SG K W g dg vs) (ht : STt K W L2.E0 tt dt) (hk : SE K W L2.E0 tk dk) (he : SE K W L2.E0 tv dv) (hil : ∀ p S H σ env, Ev K W p S H σ env → True) :
    ∀ p S0 H0 S H σ env xp, i < env.length → Sv K W p S0 H0 S H σ env → XOkS K W p S0 H0 S xp E → ∀ (D : Ends) (DD : DEnds), dBuild i di dg dt dk dv own DD xp env → EOk K W p S0 H0 S D DD → tBuild i wi g tt tk tv D σ H := fun p S0 H0 S H σ env xp hie sv xo D DD q k => by
  intro F hF
  have hp : F ≠ p := fun z => by
    obtain ⟨o', e', _⟩ := sv.st.src
    rw [z, e'] at hF
    cases hF
  have nH : H F = none := hF
  have g0 : Grow W p S H S (upd H F (.dK [])) := Grow.hide sv.st hF
  have hS : S F = none := sv.st.none hF
  have ev0 : Ev K W p S (upd H F (.dK [])) (σ.set i (some (.ref F))) (env.set i .un) := (sv.ev.mono g0).drop1 i _
  have hiσ : i < σ.length := by
    obtain ⟨o, h1, _⟩ := sv.ev.at_ i env[i] (by simp [hie])
    exact (List.getElem?_eq_some_iff.mp h1).1
  have at0 : (σ.set i (some (V.ref F)))[i]? = some (some (.ref F)) := List.getElem?_set_self hiσ
  show tSeq _ _ D (σ.set i (some (.ref F))) (upd H F (.dK []))
  refine hi p S _ _ _ xp g0.st ev0 ((sv.xo xo).mono g0) _ _ q fun J G Y ds S1 H1 ⟨hz, q1⟩ g1 wk hG hY => ?_
  have hS1 : S1 F = none := g1.fr F (by rw [upd_same]; simp) hS
  have hL1 : H1 F = some (.dK []) := g1.keep F _ hp upd_same
  refine for_it wk (fun n σ' Hx => ∃ Sx acc eds, Grow W p S H Sx Hx ∧ Ex S1 Sx ∧ σ'.length = (σ.set i (some (V.ref F))).length ∧ (∀ j, j ∉ own → σ'[j]? = (σ.set i (some (V.ref F)))[j]?) ∧ Hx F = some (.dK acc) ∧ Sx F = none ∧ RK K W p Sx acc eds ∧ (acc.map (·.1)).Nodup ∧ eds.length ≤ n ∧ ddc (dOneV dg dt dk dv (wipeE (env.set i .un) own)) (ds.drop n) eds (fun ks => DD.rt (dctD ks)))
    ⟨S1, [], [], g0.trans g1, Ex.refl S1, rfl, fun _ _ => rfl, hL1, hS1, by unfold RK; rfl, List.nodup_nil, Nat.le_refl _, q1⟩ (fun n σ' Hx _ ⟨Sx, _, _, gx, e1, _⟩ => hG Hx (e1.trans gx.st.ex)) ?_ ?_
  · rintro n x σ' Hx H' hlt ⟨Sx, acc, eds, gx, ex1, ll, like, hL, hN, ra, nd, hle, hq⟩ y
    obtain ⟨d, S3, hd, g3, r3⟩ := hY n Sx Hx x H' ex1 gx.st hlt y
    have hdrop : ds.drop n = d :: ds.drop (n + 1) := by
      obtain ⟨h1, h2⟩ := List.getElem?_eq_some_iff.mp hd
      rw [← h2]
      exact List.drop_eq_getElem_cons h1
    rw [hdrop] at hq
    have gx3 := gx.trans g3
    have ev3 : Ev K W p S3 H' σ' (wipeE (env.set i .un) own) := ((sv.ev.mono gx3).drop1 i _).like ll like
    refine hg p S3 H' σ' _ x d gx3.st ev3 r3 _ _ hq fun σ2 env2 ev2 q2 out _ len _ => ?_
    have ll2 : σ2.length = (σ.set i (some (V.ref F))).length := len.trans ll
    have like2 : ∀ j, j ∉ own → σ2[j]? = (σ.set i (some (V.ref F)))[j]? := fun j hj => ((out j fun z => hj (hv j z)).1).trans (like j hj)
    refine ht p S3 H' σ2 env2 noX gx3.st ev2 XOk.no _ _ q2 fun b S4 H4 q4 g4 => ?_
    cases b with
    | true =>
      rw [if_pos rfl] at q4 ⊢
      refine he p S4 H4 σ2 env2 noX g4.st (ev2.mono g4) XOk.no _ _ q4 fun v e2 S5 H5 q5 g5 r5 => ?_
      refine ⟨.ref F, (like2 i hio).trans at0, ?_⟩
      refine hk p S5 H5 σ2 env2 noX g5.st ((ev2.mono g4).mono g5) XOk.no _ _ q5 fun u e S6 H6 ⟨key, ek, q6⟩ g6 r6 => ?_
      subst ek
      have gx6 := ((g3.trans g4).trans g5).trans g6
      have hL6 : H6 F = some (.dK acc) := gx6.keep F _ hp hL
      have hN6 : S6 F = none := gx6.fr F (by rw [hL]; simp) hN
      have lr := RK.len ra
      have gg := gx.trans gx6
      rw [kV_of r6]
      refine ⟨F, _, rfl, DPut.k hL6 (sz_lt (by omega)), S6, putK acc key v, putKD eds key e2, ?_, ex1.trans gx6.ex, ll2, like2, upd_same, hN6, RK.put (R.mono g6.ex _ _ r5) nd (RK.mono gx6.ex _ _ ra), putK_keys nd, by have := putKD_len (k := key) (d := e2) (ks := eds); omega, q6⟩
      refine ⟨gg.ex, ⟨tabs_put gg.st.tabs hL6 ⟨nofun, fun c q z => by unfold LamX.CodeO at z; cases z⟩, fun b u e => ?_, gg.st.hid, ?_⟩, fun b u n e => ?_, fun b n e => ?_⟩
      · have : b ≠ F := fun z => by rw [z, hN6] at e; cases e
        rw [upd_ne this]
        exact gg.st.ex b u e
      · obtain ⟨o', e', r⟩ := gg.st.src
        exact ⟨o', by rw [upd_ne hp.symm]; exact e', r⟩
      · have : b ≠ F := fun z => by rw [z, nH] at e; cases e
        rw [upd_ne this]
        exact gg.kp b u n e
      · exact gg.fr b n e
    | false =>
      rw [if_neg Bool.false_ne_true] at q4 ⊢
      have gx5 := g3.trans g4
      exact ⟨S4, acc, eds, gx.trans gx5, ex1.trans gx5.ex, ll2, like2, gx5.keep F _ hp hL, gx5.fr F (by rw [hL]; simp) hN, RK.mono gx5.ex _ _ ra, nd, by omega, q4⟩
  · rintro σ' Hx ⟨Sx, acc, eds, gx, ex1, ll, like, hL, hN, ra, nd, hle, hq⟩
    rw [List.drop_eq_nil_of_le (Nat.le_refl _)] at hq
    have hq' : DD.rt (dctD eds) := hq
    refine ⟨.ref F, (like i hio).trans at0, F, acc, rfl, hL, fun od => ?_⟩
    have ex := Ex.new (o := HO.frz od (.dK acc)) hN
    exact k.rt _ _ _ (dctD eds) (gx.ex.trans ex) (sv.g.trans (gx.frz nH hp hN hL)) (rOfDct ⟨od, upd_same⟩ (RK.mono ex _ _ ra)) hq'
section
variable {X : Cx} {W : Wc} {E : XK} {tg iter c kx vx : Expr} {wi : TI} {g : TG} {tt : TT} {tk tv : TE} {di : DA} {dg : DG} {dt : DT} {dk dv : DE} {vs : List Nat} {x : Str} {xp dp ap np sp ap2 ip fp rp rpp : Pos}
theorem pdss_build (i : Nat) (own : List Nat) (hu : X.A.units + 1 < cLine) (hN : X.N.Nodup) (hpo : PassesOwn (model X.prog X.w) X.A X.env X.xe) (hc : X.calm = true) (hi : PDI X W E tg iter wi di) (hg : PDG X W tg g dg vs) (ht : PDT X W L2.E0 c tt dt) (hk : PD X W L2.E0 kx tk dk) (hv : PD X W L2.E0 vx tv dv)
    (ho : ∀ j ∈ vs, j ∈ own := by decide) (hio : i ∉ own := by decide) (hx : X.N[i]? = some x := by rfl) (hl : Loc X.env.scope x := by first | exact Or.inl rfl | exact Or.inr rfl)
    (hs1 : swapsWith (.Dict [] [] dp) (some (.Name x xp)) ap.line X.env = pure false := by rfl) (hf : X.fn x = true ∨ X.env.scope.names.lookup x = some .local := by first | exact .inl rfl | exact .inr rfl)
    (hs2 : swapsWith vx (some (.Subscript (.Name x np) kx sp)) ap2.line X.env = pure false := by rfl) (hv2 : Vis X.env.scope x := by first | exact Or.inl rfl | exact Or.inr (Or.inl rfl) | exact Or.inr (Or.inr rfl)) (hd : (x == ("__debug__" : Str)) = false := by decide) (hcd : (x == ("__classdict__" : Str)) = false := by decide)
    (hfs : ∀ y, foldedSetIterable iter X.env y = pure y := by intro _; rfl) :
    PSs X [.Assign [.Name x xp] (.Dict [] [] dp) ap, .For tg iter [.If c [.Assign [.Subscript (.Name x np) kx sp] vx ap2] [] ip] [] fp, .Return (some (.Name x rp)) rpp] (tBuild i wi g tt tk tv) ∧
      ∀ p S0 H0 S H σ env xp, i < env.length → Sv X.K W p S0 H0 S H σ env → XOkS X.K W p S0 H0 S xp E → ∀ (D : Ends) (DD : DEnds), dBuild i di dg dt dk dv own DD xp env → EOk X.K W p S0 H0 S D DD → tBuild i wi g tt tk tv D σ H :=
  ⟨pss_cons (ps_set hN hx hl pe_dnewK hs1 hf) (pss_cons (ps_for hpo hc hi.pe hg.pe (pss_one (ps_if ht.pe (pss_one (ps_dput hu (pe_var hx hv2 hd hcd) hk.pe hv.pe hs2)) pss_nil)) hfs) (pss_one (ps_ret (pe_frz (pe_var hx hv2 hd hcd))))),
    ss_build ho hio hi.se hg.se ht.se hk.se hv.se (fun _ _ _ _ _ _ => trivial)⟩
end
/-- a def that is such a loop -/
def dBuildD (i : Nat) (di : DA) (dg : DG) (dt : DT) (dk dv : DE) (own : List Nat) : DS := fun DD xp env => i < env.length ∧ dBuild i di dg dt dk dv own DD xp env
theorem pdss_buildD {X : Cx} {W : Wc} {E : XK} {sts : List Stmt} {i : Nat} {wi : TI} {g : TG} {tt : TT} {tk tv : TE} {di : DA} {dg : DG} {dt : DT} {dk dv : DE} {own : List Nat} (h : PSs X sts (tBuild i wi g tt tk tv) ∧ ∀ p S0 H0 S H σ env xp, i < env.length → Sv X.K W p S0 H0 S H σ env → XOkS X.K W p S0 H0 S xp E → ∀ (D : Ends) (DD : DEnds), dBuild i di dg dt dk dv own DD xp env → EOk X.K W p S0 H0 S D DD → tBuild i wi g tt tk tv D σ H) :
    PDSs X W E sts (tBuild i wi g tt tk tv) (dBuildD i di dg dt dk dv own) := ⟨h.1, fun p S0 H0 S H σ env xp sv xo D DD q k => h.2 p S0 H0 S H σ env xp q.1 sv xo D DD q.2 k⟩
end DL

set_option Elab.async false
set_option linter.all false
set_option maxRecDepth 100000
set_option maxHeartbeats 1000000
/-! xs = [.. for ..]: an own list; with another own list lent -/
namespace DL
open PySem L2
section
variable {X : Cx} {W : Wc} {E : XK} {pos spos py : Pos} {y : Str}
theorem pds_setLcS (i : Nat) {elt tg iter : Expr} {ifs : List Expr} {scope : Scope} {own : List (Str × Nat)} {wi : TI} {g : TG} {tt : TT} {te : TE} {di : DA} {dg : DG} {dt : DT} {de : DE} {vs : List Nat} (hc : X.calm = true) (hN : X.N.Nodup) (hi : PDI X W E tg iter wi di) (ok : BlkOk X.N X.env.scope scope own)
    (hg : ∀ (s : Shared) (H : Hp) (C : Addr) (cl : List (Str × Addr)) (fp : List Addr), PDG (X.blk s H scope (compEnvC scope cl C X.env) fp) W tg g dg vs) (ht : ∀ (s : Shared) (H : Hp) (C : Addr) (cl : List (Str × Addr)) (fp : List Addr), PDTs (X.blk s H scope (compEnvC scope cl C X.env) fp) W E0 ifs tt dt)
    (he : ∀ (s : Shared) (H : Hp) (C : Addr) (cl : List (Str × Addr)) (fp : List Addr), PD (X.blk s H scope (compEnvC scope cl C X.env) fp) W E0 elt te de) (hv : ∀ i ∈ vs, i ∈ own.map (·.2) := by decide) (hs : ∀ x, foldedSetIterable iter X.env x = pure x := by intro _; rfl) (s0 : Shared)
    (hy : X.N[i]? = some y := by rfl) (hyl : X.env.scope.names.lookup y = some .local := by rfl) (hsw : swapsWith (.ListComp elt [⟨tg, iter, ifs, 0⟩] scope pos) (some (.Name y py)) spos.line X.env = pure true := by rfl) :
    PDS X W E (.Assign [.Name y py] (.ListComp elt [⟨tg, iter, ifs, 0⟩] scope pos) spos) (tAsg (tLc wi g tt te (own.map (·.2))) (gName i)) (dSetS (slN (dLc di dg dt de (own.map (·.2)))) i) :=
  ⟨ps_setLc hc hN hy hyl hsw hi.pe ok (fun s H C cl fp => (hg s H C cl fp).pe) (fun s H C cl fp => (ht s H C cl fp).pe) (fun s H C cl fp => (he s H C cl fp).pe) hs,
    ss_setS (PDN.sl (pdn_lc (pos := pos) hc hN hi ok hg ht he hv hs s0)).se⟩
end
section
variable {X : Cx} {M : MM} {E : XK} {pos spos py : Pos} {y : Str}
theorem pds_setLcW (i j : Nat) {elt tg iter : Expr} {ifs : List Expr} {scope : Scope} {own : List (Str × Nat)} {wi : TI} {g : TG} {tt : TT} {te : TE} {di : DA} {dg : DG} {dt : DT} {de : DE} {vs : List Nat} (hc : X.calm = true) (hN : X.N.Nodup) (hi : PDI X (WcOf M) E tg iter wi di) (ok : BlkOk X.N X.env.scope scope own)
    (hg : ∀ (s : Shared) (H : Hp) (C : Addr) (cl : List (Str × Addr)) (fp : List Addr), PDG (X.blk s H scope (compEnvC scope cl C X.env) fp) (WcOf M) tg g dg vs) (ht : ∀ (s : Shared) (H : Hp) (C : Addr) (cl : List (Str × Addr)) (fp : List Addr), PDTs (X.blk s H scope (compEnvC scope cl C X.env) fp) (WcOf M) E0 ifs tt dt)
    (he : ∀ (s : Shared) (H : Hp) (C : Addr) (cl : List (Str × Addr)) (fp : List Addr), PD (X.blk s H scope (compEnvC scope cl C X.env) fp) (WcOf M) E0 elt te de) (hv : ∀ i ∈ vs, i ∈ own.map (·.2) := by decide) (hs : ∀ x, foldedSetIterable iter X.env x = pure x := by intro _; rfl) (s0 : Shared)
    (hy : X.N[i]? = some y := by rfl) (hyl : X.env.scope.names.lookup y = some .local := by rfl) (hsw : swapsWith (.ListComp elt [⟨tg, iter, ifs, 0⟩] scope pos) (some (.Name y py)) spos.line X.env = pure true := by rfl) :
    PDS X (WcOf M) E (.Assign [.Name y py] (.ListComp elt [⟨tg, iter, ifs, 0⟩] scope pos) spos) (tAsg (tLc wi g tt te (own.map (·.2))) (gName i)) (dAsg (dLst (dWithN j (dLc di dg dt de (own.map (·.2))))) (dgName i)) :=
  ⟨ps_setLc hc hN hy hyl hsw hi.pe ok (fun s H C cl fp => (hg s H C cl fp).pe) (fun s H C cl fp => (ht s H C cl fp).pe) (fun s H C cl fp => (he s H C cl fp).pe) hs,
    ss_asg (PDN.pd (pdn_with j (pdn_lc (pos := pos) hc hN hi ok hg ht he hv hs s0))).se (sg_name i)⟩
end
end DL

set_option Elab.async false
set_option linter.all false
set_option maxRecDepth 100000
set_option maxHeartbeats 1000000
/-! an own operator with an object of the same class at the right -/
namespace DL
open PySem PySem.W PySem.Calls PyProof.Rows L2
section
variable {P : Program} {w : World} {A : Around} {E : Value → Shared → Prop} {s : Shared} {K : Frag} {x C L f : Addr} {h₀ : Heap} {m : Str → Option Value} {ox : Obj} {od : Option Obj}
theorem bin_same {op : Operator} {b : Value} {Q : Value → Shared → Prop} (F : Fr h₀ L s.heap m) (X₀ : K.In h₀) (I : InstAt s.heap x ox C od) (hb : Looks (model P w) s.heap (typeOf b) (.ref C)) (hc : selfFirst K C = true) (hs : findIn K (.ref C) (PySem.dunder op.info.2) = some (some (.ref f))) (hf : isFn K (.ref f) = true)
    (h : wpAny (model P w) A (call (.ref f) [.ref x, b]) (PySem.W.CmpBack Q) E s) : wpAny (model P w) A (binaryOp op (.ref x) b) Q E s := by
  have X := X₀.keeps F.keep
  obtain ⟨cd, rest, hcd, hm'⟩ := ksp_first hc
  rcases hi : op.info with ⟨sym, nm'⟩
  rw [hi] at hs
  dsimp only at hs
  have one := ksp_try X I hs hf h
  obtain ⟨hh, g, d, tt, os⟩ := s
  have a1 : Looks (model P w) hh (typeOf (.ref x)) (.ref C) := I.type
  have a2 : Looks (model P w) hh (typeOf b) (.ref C) := hb
  have a3 : Looks (model P w) hh (fillsNumberSlot (.ref C) nm') true := fills_K X hcd hm' hs
  simp only [binaryOp, hi]
  refine wpAny_holding (wpAny_bind ?_)
  unfold binaryOp1
  refine wpAny_bind (a1.at (wpAny_bind (a2.at (wpAny_bind (a3.at ?_)))))
  have e : (Value.ref C == Value.ref C) = true := by simp
  simp only [e, if_true]
  ksp_lk
  refine wpAny_mono one (fun r s' z => ?_) fun _ _ e => e
  obtain ⟨v, rfl, hq⟩ := z
  ksp_lk
  exact hq
end
structure OwnOpS (K : Frag) (C f : Addr) (op : Operator) : Prop where
  hc : selfFirst K C = true
  hs : findIn K (.ref C) (PySem.dunder op.info.2) = some (some (.ref f))
  hf : isFn K (.ref f) = true
section
variable {X : Cx} {W : Wc} {E : XK} {l r : Expr} {pos : Pos} {tl tr : TE} {dl dr : DE} {c c2 : Nat} {op : Operator}
theorem pe_ownS {CX : CXT} {k : Nat} {C f : Addr} {fd : FuncData} {ps : List Str} {sp : Sp} (O : OwnOpS X.K C f op) (F : FnOk X.prog X.w X.K X.mg X.base CX k f fd ps sp) (hr : Room k X.A) (hb : L2.Binds X.K fd ps []) (hx : Passes CX X E) (hl : PE X l tl) (hrr : PE X r tr) : PE X (.BinOp l op r pos) (tOwnO C C sp E tl tr) := by
  refine ⟨fun pins s σ H Q I h => ?_⟩
  refine wpAny_BinOp (thn (hl.run pins s σ H _ I h) fun u s1 ⟨x, H1, I1, rx, q1⟩ => thn (hrr.run pins s1 σ H1 _ I1 q1) fun v s2 ⟨y, H2, I2, ry, a, dx, fs, b, dy, gs, ex, ea, ey, eb, q2⟩ => ?_)
  subst ex ey
  obtain rfl : u = Value.ref a := rx
  obtain rfl : v = Value.ref b := ry
  obtain ⟨_, J, _⟩ := ins_get I2.hok ea
  obtain ⟨_, J, _⟩ := J.look
  obtain ⟨_, J2, _⟩ := ins_get I2.hok eb
  obtain ⟨_, J2, _⟩ := J2.look
  obtain ⟨m, fr⟩ := I2.fr
  refine bin_same fr I2.ok.mod.kin J J2.type O.hc O.hs O.hf ?_
  refine wpAny_mono (run_fn (us := [.ref a, .ref b]) (vs := [.ref a, .ref b]) F hr hb .nil hx I2 (.cons (show RelV (.ref a) (.ref a) from rfl) (.cons (show RelV (.ref b) (.ref b) from rfl) .nil)) q2) (fun v' s' hv => ?_) fun _ _ z => z
  obtain ⟨v0, H3, I3, rv, q3⟩ := hv
  exact notNI rv ⟨v0, H3, I3, rv, q3⟩
end
section
variable (P : Program) (w : World) (K : Frag) (W : Wc) (mg : Str → Option Value) (base : Heap)
structure OpSOk (k c : Nat) (op : Operator) (df : DF) : Prop where
  ex : ∃ (C f : Addr) (fd : FuncData) (ps : List Str), W.M c = some C ∧ OwnOpS K C f op ∧ FnOk P w K mg base (L2.CX P w) k f fd ps (spD K W df) ∧ L2.Binds K fd ps []
variable {P w K W mg base}
theorem pd_opSD {X : Cx} {E : XK} {l r : Expr} {pos : Pos} {tl tq : TE} {dl dq : DE} {j k c : Nat} {op : Operator} {df : DF} (F : OpSOk P w K W mg base j c op df) (hx : Passes (L2.CX X.prog X.w) X E) (hl : PD X W E l tl dl) (hrr : PD X W E r tq dq)
    (hX : X.prog = P ∧ X.w = w ∧ X.K = K ∧ X.mg = mg ∧ X.base = base := by exact ⟨rfl, rfl, rfl, rfl, rfl⟩) (hr : Room k X.A := by assumption) (hj : j ≤ k := by decide) : PD X W E (.BinOp l op r pos) (tC2 W c c fun C C2 => tOwnO C C2 (spD K W df) E tl tq) (dOwnO c c df dl dq) := by
  obtain ⟨rfl, rfl, rfl, rfl, rfl⟩ := hX
  obtain ⟨C, f, fd, ps, hM, O, F, hb⟩ := F.ex
  refine ⟨⟨fun pins s σ H Q I ⟨C', C2', h1, h2, q⟩ => ?_⟩, fun p S H σ env xp sv ev xo Q post q k => ⟨C, C, hM, hM, se_ownO hM hM hl.se hrr.se p S H σ env xp sv ev xo Q post q k⟩⟩
  obtain rfl : C' = C := Option.some.inj (h1.symm.trans hM)
  obtain rfl : C2' = C' := Option.some.inj (h2.symm.trans hM)
  exact (pe_ownS O F (hr.mono hj) hb hx hl.pe hrr.pe).run pins s σ H Q I q
end
end DL

set_option Elab.async false
set_option linter.all false
set_option maxRecDepth 100000
set_option maxHeartbeats 4000000
namespace DLlaw
open PySem L2 DL DX
abbrev f_law_draw (M : MM) : DF := fDraw
abbrev b_law_width (M : MM) : DS := (dRet (dOp bIx (dLst (dFit (dCons (dC .non) (dCons (dC (.int 0)) (dCons (dC (.int 1)) (dCons (dC (.int 2)) (dCons (dC (.int 5)) (dCons (dOp bPow (dC (.int 10)) (dC (.int 20))) dNil)))))))) (dCall (f_law_draw M) [] (dCons (dVar 0) (dCons (dC (.int 6)) dNil)))))
def f_law_width (M : MM) : DF := runF 1 1 (b_law_width M)
abbrev b_law_widths_by (M : MM) : DS := (dRet (dCB bDictP (dCons (dLst (dLc (dRng1 (dCons (dCall (f_law_draw M) [] (dCons (dVar 0) (dCons (dC (.int 9)) dNil))) dNil)) (dgName 1) dYes (dTup (dCons (dOp bSub (dCall (f_law_draw M) [] (dCons (dVar 0) (dCons (dC (.int 9)) dNil))) (dC (.int 4))) (dCons (dCall (f_law_width M) [] (dCons (dVar 0) dNil)) dNil))) [1])) dNil)))
def f_law_widths_by (M : MM) : DF := runF 2 1 (b_law_widths_by M)
abbrev b_is_integer (M : MM) : DS := (dRet (dAndV (dIsi .int (dVar 0)) (dNotV (dIsi .bool (dVar 0)))))
def f_is_integer (M : MM) : DF := runF 1 1 (b_is_integer M)
abbrev b_is_count (M : MM) : DS := (dRet (dAndV (dCall (f_is_integer M) [] (dCons (dVar 0) dNil)) (dOp bGe (dVar 0) (dC (.int 0)))))
def f_is_count (M : MM) : DF := runF 1 1 (b_is_count M)
abbrev b_is_form (M : MM) : DS := (dSeq (dIfS (dOr (dNot (dTest (dIsi .dict (dVar 0)))) (dNot (dTest (dCB bAll (dCons (dLst (dLc (dKeys (dVar 0)) (dgName 2) dYes (dCall (f_is_integer M) [] (dCons (dVar 2) dNil)) [2])) dNil))))) (dRet (dC (.bl false))) dNext)
  (dRet (dCB bAll (dCons (dLst (dLc (dVals (dVar 0)) (dgName 1) dYes (dOrV (dIsN (dVar 1)) (dCall (f_is_count M) [] (dCons (dVar 1) dNil))) [1])) dNil))))
def f_is_form (M : MM) : DF := runF 3 1 (b_is_form M)
abbrev b_Form_init (M : MM) : DBI := (bSeq (dIfS (dNot (dTest (dCall (f_is_form M) [] (dCons (dVar 1) dNil)))) (dRaise 1 "value" (dCons (dVar 1) dNil)) dNext)
  (bTail (diSet "kept_widths" (dDc (dSeqL (dCB bSortDI (dCons (dVar 1) dNil))) (dgName 2) dYes (dVar 2) (dDGetK (dVar 1) (dVar 2)) [2]) (diEnd 2))))
def f_Form_init (M : MM) : DF := runI 3 1 (b_Form_init M)
abbrev b_Form_contains (M : MM) : DS := (dRet (dAndV (dCall (f_is_integer M) [] (dCons (dVar 1) dNil)) (dInK false (dVar 1) (dFld 2 "kept_widths" (dVar 0)))))
def f_Form_contains (M : MM) : DF := runF 2 2 (b_Form_contains M)
abbrev b_Form_getitem (M : MM) : DS := (dSeq (dIfS (dTest (dOp (bOIn 2 (f_Form_contains M) true) (dVar 1) (dVar 0))) (dRaise 1 "value" (dCons (dVar 1) dNil)) dNext)
  (dRet (dDGetK (dFld 2 "kept_widths" (dVar 0)) (dVar 1))))
def f_Form_getitem (M : MM) : DF := runF 2 2 (b_Form_getitem M)
abbrev b_is_up_to (M : MM) : DS := (dRet (dOrV (dIsN (dVar 1)) (dAndV (dNotN (dVar 0)) (dOp bLe (dVar 0) (dVar 1)))))
def f_is_up_to (M : MM) : DF := runF 2 2 (b_is_up_to M)
abbrev b_Form_and (M : MM) : DS := (dSeq (dAsg (dLst (dLc (dKeys (dFld 2 "kept_widths" (dVar 0))) (dgName 3) (dTest (dOp (bOIn 2 (f_Form_contains M) false) (dVar 3) (dVar 1))) (dVar 3) [3])) (dgName 2))
  (dRet (dCall (f_Form_init M) [] (dCons (dDc (dSeqL (dVar 2)) (dgName 3) dYes (dVar 3) (dIf (dTest (dCall (f_is_up_to M) [] (dCons (dOSub 2 (f_Form_getitem M) (dVar 0) (dVar 3)) (dCons (dOSub 2 (f_Form_getitem M) (dVar 1) (dVar 3)) dNil)))) (dOSub 2 (f_Form_getitem M) (dVar 0) (dVar 3)) (dOSub 2 (f_Form_getitem M) (dVar 1) (dVar 3))) [3]) dNil))))
def f_Form_and (M : MM) : DF := runF 4 2 (b_Form_and M)
abbrev b_Form_shifts (M : MM) : DS := (dRet (dCB bListD (dCons (dFld 2 "kept_widths" (dVar 0)) dNil)))
def f_Form_shifts (M : MM) : DF := runF 1 1 (b_Form_shifts M)
abbrev b_law_read (M : MM) : DS := (dRet (dCB bDictP (dCons (dLst (dLc (dSeqL (dMeth 2 "shifts" (f_Form_shifts M) [] (dVar 0) dNil)) (dgName 1) dYes (dTup (dCons (dVar 1) (dCons (dOSub 2 (f_Form_getitem M) (dVar 0) (dVar 1)) dNil))) [1])) dNil)))
def f_law_read (M : MM) : DF := runF 2 1 (b_law_read M)
abbrev b_law_at_most (M : MM) : DS := (dRet (dOrV (dIsN (dVar 1)) (dAndV (dNotN (dVar 0)) (dOp bLe (dVar 0) (dVar 1)))))
def f_law_at_most (M : MM) : DF := runF 2 2 (b_law_at_most M)
abbrev b_law_lesser (M : MM) : DS := (dBuildD 2 (dKeys (dVar 0)) (dgName 3) (dTest (dInK false (dVar 3) (dVar 1))) (dVar 3) (dIf (dTest (dCall (f_law_at_most M) [] (dCons (dDGetK (dVar 0) (dVar 3)) (dCons (dDGetK (dVar 1) (dVar 3)) dNil)))) (dDGetK (dVar 0) (dVar 3)) (dDGetK (dVar 1) (dVar 3))) [3])
def f_law_lesser (M : MM) : DF := runF 4 2 (b_law_lesser M)
abbrev b_Form_eq (M : MM) : DS := (dRet (dAndV (dIsC 2 (dVar 1)) (dOp bDEq (dFld 2 "kept_widths" (dVar 0)) (dFld 2 "kept_widths" (dVar 1)))))
def f_Form_eq (M : MM) : DF := runF 2 2 (b_Form_eq M)
abbrev b_Form_is_under (M : MM) : DS := (dRet (dCB bAll (dCons (dLst (dLc (dKeys (dFld 2 "kept_widths" (dVar 0))) (dgName 2) dYes (dAndV (dOp (bOIn 2 (f_Form_contains M) false) (dVar 2) (dVar 1)) (dCall (f_is_up_to M) [] (dCons (dOSub 2 (f_Form_getitem M) (dVar 0) (dVar 2)) (dCons (dOSub 2 (f_Form_getitem M) (dVar 1) (dVar 2)) dNil)))) [2])) dNil)))
def f_Form_is_under (M : MM) : DF := runF 3 2 (b_Form_is_under M)
abbrev b_law_under (M : MM) : DS := (dRet (dOp bEq (dLst (dLc (dKeys (dVar 0)) (dgName 2) (dOr (dTest (dInK true (dVar 2) (dVar 1))) (dNot (dTest (dCall (f_law_at_most M) [] (dCons (dDGetK (dVar 0) (dVar 2)) (dCons (dDGetK (dVar 1) (dVar 2)) dNil)))))) (dVar 2) [2])) (dLst (dFit dNil))))
def f_law_under (M : MM) : DF := runF 3 2 (b_law_under M)
def r_law_pair_right_1 (M : MM) : DS := (dRet (dAndV (dMeth 2 "is_under" (f_Form_is_under M) [] (dVar 4) (dCons (dVar 0) dNil)) (dAndV (dMeth 2 "is_under" (f_Form_is_under M) [] (dVar 4) (dCons (dVar 1) dNil)) (dOp bEq (dOp (bOwnEq 2 (f_Form_eq M) false) (dVar 4) (dVar 0)) (dCall (f_law_under M) [] (dCons (dVar 2) (dCons (dVar 3) dNil)))))))
def r_law_pair_right_2 (M : MM) : DS := (dSeq (dIfS (dTest (dOp bNe (dOp (bOwnEq 2 (f_Form_eq M) false) (dVar 0) (dVar 1)) (dOp bDEq (dVar 2) (dVar 3)))) (dRet (dC (.bl false))) dNext)
  (r_law_pair_right_1 M))
def r_law_pair_right_3 (M : MM) : DS := (dSeq (dIfS (dTest (dOp bNe (dMeth 2 "is_under" (f_Form_is_under M) [] (dVar 0) (dCons (dVar 1) dNil)) (dCall (f_law_under M) [] (dCons (dVar 2) (dCons (dVar 3) dNil))))) (dRet (dC (.bl false))) dNext)
  (r_law_pair_right_2 M))
def r_law_pair_right_4 (M : MM) : DS := (dSeq (dIfS (dOr (dTest (dOp bDNe (dCall (f_law_read M) [] (dCons (dVar 4) dNil)) (dCall (f_law_lesser M) [] (dCons (dVar 2) (dCons (dVar 3) dNil))))) (dTest (dOp (bOwnEq 2 (f_Form_eq M) true) (dVar 4) (dOwnO 2 2 (f_Form_and M) (dVar 1) (dVar 0))))) (dRet (dC (.bl false))) dNext)
  (r_law_pair_right_3 M))
abbrev b_law_pair_right (M : MM) : DS := (dSeq (dAsg (dOwnO 2 2 (f_Form_and M) (dVar 0) (dVar 1)) (dgName 4))
  (r_law_pair_right_4 M))
def f_law_pair_right (M : MM) : DF := runF 5 4 (b_law_pair_right M)
def r_law_1 (M : MM) : DS := (dSetIx 3 (dC (.int 1)) (dWith 3 (dCB bDictP (dCons (dLst (dLc (dKeys (dOp bIx (dVar 3) (dC (.int 0)))) (dgName 13) dYes (dTup (dCons (dVar 13) (dCons (dCall (f_law_width M) [] (dCons (dVar 2) dNil)) dNil))) [13])) dNil))))
def r_law_2 (M : MM) : DS := (dIfS (dNot (dTest (dWith 3 (dCall (f_law_pair_right M) [] (dCons (dOp bIx (dVar 4) (dVar 5)) (dCons (dOp bIx (dVar 4) (dVar 6)) (dCons (dOp bIx (dVar 3) (dVar 5)) (dCons (dOp bIx (dVar 3) (dVar 6)) dNil)))))))) (dRet (dC (.bl false))) dNext)
def r_law_3 (M : MM) : DS := (dFor (dRng1 (dCons (dC (.int 3)) dNil)) (dgName 6) (r_law_2 M))
def r_law_4 (M : MM) : DS := (dIfS (dWithT 3 (dTest (dOp (bLstEq edDct true) (dLst (dLc (dSeqL (dVar 4)) (dgName 12) dYes (dCall (f_law_read M) [] (dCons (dVar 12) dNil)) [12])) (dVar 3)))) (dRet (dC (.bl false))) dNext)
def r_law_5 (M : MM) : DS := (dSeq (dIfS (dAnd (dTest (dMeth 2 "is_under" (f_Form_is_under M) [] (dVar 9) (dCons (dVar 7) dNil))) (dAnd (dTest (dMeth 2 "is_under" (f_Form_is_under M) [] (dVar 9) (dCons (dVar 8) dNil))) (dNot (dTest (dMeth 2 "is_under" (f_Form_is_under M) [] (dVar 9) (dCons (dOwnO 2 2 (f_Form_and M) (dVar 7) (dVar 8)) dNil)))))) (dRet (dC (.bl false))) dNext)
  (r_law_4 M))
def r_law_6 (M : MM) : DS := (dSeq (dIfS (dTest (dOp (bOwnEq 2 (f_Form_eq M) true) (dOwnO 2 2 (f_Form_and M) (dVar 7) (dVar 7)) (dVar 7))) (dRet (dC (.bl false))) dNext)
  (r_law_5 M))
def r_law_7 (M : MM) : DS := (dSeq (dIfS (dTest (dOp (bOwnEq 2 (f_Form_eq M) true) (dOwnO 2 2 (f_Form_and M) (dOwnO 2 2 (f_Form_and M) (dVar 7) (dVar 8)) (dVar 9)) (dOwnO 2 2 (f_Form_and M) (dVar 7) (dOwnO 2 2 (f_Form_and M) (dVar 8) (dVar 9))))) (dRet (dC (.bl false))) dNext)
  (r_law_6 M))
def r_law_8 (M : MM) : DS := (dSeq (dAsg (dVar 4) (dgLst 3 (dgCons (dgName 7) (dgCons (dgName 8) (dgCons (dgName 9) dgNil)))))
  (r_law_7 M))
def r_law_9 (M : MM) : DS := (dSeq (dFor (dRng1 (dCons (dC (.int 3)) dNil)) (dgName 5) (r_law_3 M))
  (r_law_8 M))
def r_law_10 (M : MM) : DS := (dSeq (dAsg (dLst (dWithN 3 (dLc (dSeqL (dVar 3)) (dgName 11) dYes (dCall (f_Form_init M) [] (dCons (dVar 11) dNil)) [11]))) (dgName 4))
  (r_law_9 M))
def r_law_11 (M : MM) : DS := (dSeq (dIfS (dTest (dOp bEq (dCall (f_law_draw M) [] (dCons (dVar 2) (dCons (dC (.int 4)) dNil))) (dC (.int 0)))) (dSetIx 3 (dC (.int 2)) (dWith 3 (dCB bDictD (dCons (dOp bIx (dVar 3) (dC (.int 0))) dNil)))) dNext)
  (r_law_10 M))
def r_law_12 (M : MM) : DS := (dSeq (dIfS (dTest (dOp bEq (dCall (f_law_draw M) [] (dCons (dVar 2) (dCons (dC (.int 2)) dNil))) (dC (.int 0)))) (r_law_1 M) dNext)
  (r_law_11 M))
abbrev b_law (M : MM) : DS := (dSeq (dSetS (slN (dLc (dRng1 (dCons (dC (.int 3)) dNil)) (dgName 10) dYes (dCall (f_law_widths_by M) [] (dCons (dVar 2) dNil)) [10])) 3)
  (r_law_12 M))

end DLlaw

set_option Elab.async false
set_option linter.all false
set_option maxRecDepth 100000
set_option maxHeartbeats 1000000
namespace DLlaw
open PySem L2 DL DX
variable {M : MM} {xp : XP} {post : D → Prop} {d : D}
def isInt : D → Bool
  | .int _ => true
  | _ => false
def isCnt : D → Bool
  | .int i => decide (0 ≤ i)
  | _ => false
def fine : D → Prop
  | .str z => z.length ≤ 100000
  | .obj _ _ => False
  | .dct _ => False
  | .tok => False
  | _ => True
@[simp] theorem fine_int {i : Int} : fine (.int i) := trivial
theorem is_integer_E (h : fine d) : f_is_integer M [d] xp post = post (.bl (isInt d)) := by
  cases d <;> first | exact h.elim | simp [f_is_integer, isTy, tyN, dVar, dC, dOp, dTest, dAnd, dOr, dNot, dAndV, dOrV, dNotV, dIf, dNil, dCons, dFit, dLst, dTup, dCB, dCall, dSeqL, dSeqT, dSeqS, dRng1, dRng2, dgName, dgNil, dgCons, dgTup, dgLst, wipeE, dOne, dLc, dYes, dNext, dSeq, dBreak, dCont, dRet, dRetN, dDrop, dIfS, dAsg, dPar, dFor, dNeg, dIsi, bAdd, bSub, bMod, bDiv, bMulI, bPow, bLt, bLe, bGt, bGe, bLen, bAll, bAny, bIntOf, bReprB, bIsB, bNotB, bInS, bNotInS, bIx, dBM, tyD, oJoin, runF, runI, dSetS, slN, slV, dParS, dOpO1, dOpO2, dApp, dAppPop, dRetO, dCBO, dListL, dListT, dTo, dFrom, dMeth, dProp, dFld, dOwn, dIsN, dNotN, bReprP, bReprG, bMulS, dStar, dRep, dIsC, dIsX, bSeq, bTail, diSet, diEnd, dRaise, plainD, bEq, bNe, List.getElem?_cons_succ, List.getElem?_cons_zero, List.set_cons_succ, List.set_cons_zero, List.map_cons, List.map_nil, List.length_cons, List.length_nil, List.append_nil, List.cons_append, List.nil_append, D.obj.injEq, and_assoc, true_and, and_true, exists_eq_left', exists_eq_left, dOSub, dTupL, dTupO, dSeqA, dIsi2, dOwnO, bInL, bNotInL, isNon_non, isNon_bl, isNon_int, isNon_str, isNon_lst, isNon_tup, isNon_obj, isNon_ety, isObj_non, isObj_bl, isObj_int, isObj_str, isObj_lst, isObj_tup, isObj_obj, isObj_ety, safe_at, Option.map_some, safe1_sh, ntd_non, ntd_bl, ntd_int, ntd_str, ntd_lst, ntd_tup, ntd_obj, ntA_nil, ntA_cons, ntF_nil, ntF_cons, Bool.true_and, Bool.and_true, fld_E, optP_some, oneD, exists_eq', D.int.injEq, D.str.injEq, D.lst.injEq, D.tup.injEq, D.bl.injEq, Option.some.injEq, atI_0, atI_1, atI_2, reduceCtorEq, or_false, false_or, olen_E, if_false, if_true, Bool.false_eq_true, Bool.not_true, Bool.not_false, pyOk_int, pyOk_non, pyOk_bl, Int.toNat_natCast, rangeD_len, isInt]
theorem is_count_E (h : fine d) : f_is_count M [d] xp post = post (.bl (isCnt d)) := by
  cases d with
  | int i => simp [f_is_count, isTy, tyN, dVar, dC, dOp, dTest, dAnd, dOr, dNot, dAndV, dOrV, dNotV, dIf, dNil, dCons, dFit, dLst, dTup, dCB, dCall, dSeqL, dSeqT, dSeqS, dRng1, dRng2, dgName, dgNil, dgCons, dgTup, dgLst, wipeE, dOne, dLc, dYes, dNext, dSeq, dBreak, dCont, dRet, dRetN, dDrop, dIfS, dAsg, dPar, dFor, dNeg, dIsi, bAdd, bSub, bMod, bDiv, bMulI, bPow, bLt, bLe, bGt, bGe, bLen, bAll, bAny, bIntOf, bReprB, bIsB, bNotB, bInS, bNotInS, bIx, dBM, tyD, oJoin, runF, runI, dSetS, slN, slV, dParS, dOpO1, dOpO2, dApp, dAppPop, dRetO, dCBO, dListL, dListT, dTo, dFrom, dMeth, dProp, dFld, dOwn, dIsN, dNotN, bReprP, bReprG, bMulS, dStar, dRep, dIsC, dIsX, bSeq, bTail, diSet, diEnd, dRaise, plainD, bEq, bNe, List.getElem?_cons_succ, List.getElem?_cons_zero, List.set_cons_succ, List.set_cons_zero, List.map_cons, List.map_nil, List.length_cons, List.length_nil, List.append_nil, List.cons_append, List.nil_append, D.obj.injEq, and_assoc, true_and, and_true, exists_eq_left', exists_eq_left, dOSub, dTupL, dTupO, dSeqA, dIsi2, dOwnO, bInL, bNotInL, isNon_non, isNon_bl, isNon_int, isNon_str, isNon_lst, isNon_tup, isNon_obj, isNon_ety, isObj_non, isObj_bl, isObj_int, isObj_str, isObj_lst, isObj_tup, isObj_obj, isObj_ety, safe_at, Option.map_some, safe1_sh, ntd_non, ntd_bl, ntd_int, ntd_str, ntd_lst, ntd_tup, ntd_obj, ntA_nil, ntA_cons, ntF_nil, ntF_cons, Bool.true_and, Bool.and_true, fld_E, optP_some, oneD, exists_eq', D.int.injEq, D.str.injEq, D.lst.injEq, D.tup.injEq, D.bl.injEq, Option.some.injEq, atI_0, atI_1, atI_2, reduceCtorEq, or_false, false_or, olen_E, if_false, if_true, Bool.false_eq_true, Bool.not_true, Bool.not_false, pyOk_int, pyOk_non, pyOk_bl, Int.toNat_natCast, rangeD_len, is_integer_E h, isInt, isCnt]
  | _ => first | exact h.elim | simp [f_is_count, isTy, tyN, dVar, dC, dOp, dTest, dAnd, dOr, dNot, dAndV, dOrV, dNotV, dIf, dNil, dCons, dFit, dLst, dTup, dCB, dCall, dSeqL, dSeqT, dSeqS, dRng1, dRng2, dgName, dgNil, dgCons, dgTup, dgLst, wipeE, dOne, dLc, dYes, dNext, dSeq, dBreak, dCont, dRet, dRetN, dDrop, dIfS, dAsg, dPar, dFor, dNeg, dIsi, bAdd, bSub, bMod, bDiv, bMulI, bPow, bLt, bLe, bGt, bGe, bLen, bAll, bAny, bIntOf, bReprB, bIsB, bNotB, bInS, bNotInS, bIx, dBM, tyD, oJoin, runF, runI, dSetS, slN, slV, dParS, dOpO1, dOpO2, dApp, dAppPop, dRetO, dCBO, dListL, dListT, dTo, dFrom, dMeth, dProp, dFld, dOwn, dIsN, dNotN, bReprP, bReprG, bMulS, dStar, dRep, dIsC, dIsX, bSeq, bTail, diSet, diEnd, dRaise, plainD, bEq, bNe, List.getElem?_cons_succ, List.getElem?_cons_zero, List.set_cons_succ, List.set_cons_zero, List.map_cons, List.map_nil, List.length_cons, List.length_nil, List.append_nil, List.cons_append, List.nil_append, D.obj.injEq, and_assoc, true_and, and_true, exists_eq_left', exists_eq_left, dOSub, dTupL, dTupO, dSeqA, dIsi2, dOwnO, bInL, bNotInL, isNon_non, isNon_bl, isNon_int, isNon_str, isNon_lst, isNon_tup, isNon_obj, isNon_ety, isObj_non, isObj_bl, isObj_int, isObj_str, isObj_lst, isObj_tup, isObj_obj, isObj_ety, safe_at, Option.map_some, safe1_sh, ntd_non, ntd_bl, ntd_int, ntd_str, ntd_lst, ntd_tup, ntd_obj, ntA_nil, ntA_cons, ntF_nil, ntF_cons, Bool.true_and, Bool.and_true, fld_E, optP_some, oneD, exists_eq', D.int.injEq, D.str.injEq, D.lst.injEq, D.tup.injEq, D.bl.injEq, Option.some.injEq, atI_0, atI_1, atI_2, reduceCtorEq, or_false, false_or, olen_E, if_false, if_true, Bool.false_eq_true, Bool.not_true, Bool.not_false, pyOk_int, pyOk_non, pyOk_bl, Int.toNat_natCast, rangeD_len, is_integer_E h, isInt, isCnt]
/-! widths -/
def wD : Option Int → D
  | none => .non
  | some n => .int n
def okW (w : Option Int) : Prop := ∀ n, w = some n → 0 ≤ n
def leO : Option Int → Option Int → Bool
  | _, none => true
  | none, some _ => false
  | some a, some b => decide (a ≤ b)
theorem most_E {a b : Option Int} (q : post (.bl (leO a b))) : f_law_at_most M [wD a, wD b] xp post := by
  cases a <;> cases b <;> simpa [f_law_at_most, wD, isTy, tyN, dVar, dC, dOp, dTest, dAnd, dOr, dNot, dAndV, dOrV, dNotV, dIf, dNil, dCons, dFit, dLst, dTup, dCB, dCall, dSeqL, dSeqT, dSeqS, dRng1, dRng2, dgName, dgNil, dgCons, dgTup, dgLst, wipeE, dOne, dLc, dYes, dNext, dSeq, dBreak, dCont, dRet, dRetN, dDrop, dIfS, dAsg, dPar, dFor, dNeg, dIsi, bAdd, bSub, bMod, bDiv, bMulI, bPow, bLt, bLe, bGt, bGe, bLen, bAll, bAny, bIntOf, bReprB, bIsB, bNotB, bInS, bNotInS, bIx, dBM, tyD, oJoin, runF, runI, dSetS, slN, slV, dParS, dOpO1, dOpO2, dApp, dAppPop, dRetO, dCBO, dListL, dListT, dTo, dFrom, dMeth, dProp, dFld, dOwn, dIsN, dNotN, bReprP, bReprG, bMulS, dStar, dRep, dIsC, dIsX, bSeq, bTail, diSet, diEnd, dRaise, plainD, bEq, bNe, List.getElem?_cons_succ, List.getElem?_cons_zero, List.set_cons_succ, List.set_cons_zero, List.map_cons, List.map_nil, List.length_cons, List.length_nil, List.append_nil, List.cons_append, List.nil_append, D.obj.injEq, and_assoc, true_and, and_true, exists_eq_left', exists_eq_left, dOSub, dTupL, dTupO, dSeqA, dIsi2, dOwnO, bInL, bNotInL, isNon_non, isNon_bl, isNon_int, isNon_str, isNon_lst, isNon_tup, isNon_obj, isNon_ety, isObj_non, isObj_bl, isObj_int, isObj_str, isObj_lst, isObj_tup, isObj_obj, isObj_ety, safe_at, Option.map_some, safe1_sh, ntd_non, ntd_bl, ntd_int, ntd_str, ntd_lst, ntd_tup, ntd_obj, ntA_nil, ntA_cons, ntF_nil, ntF_cons, Bool.true_and, Bool.and_true, fld_E, optP_some, oneD, exists_eq', D.int.injEq, D.str.injEq, D.lst.injEq, D.tup.injEq, D.bl.injEq, Option.some.injEq, atI_0, atI_1, atI_2, reduceCtorEq, or_false, false_or, olen_E, if_false, if_true, Bool.false_eq_true, Bool.not_true, Bool.not_false, pyOk_int, pyOk_non, pyOk_bl, Int.toNat_natCast, rangeD_len, leO] using q
theorem up_E {a b : Option Int} (q : post (.bl (leO a b))) : f_is_up_to M [wD a, wD b] xp post := by
  cases a <;> cases b <;> simpa [f_is_up_to, wD, isTy, tyN, dVar, dC, dOp, dTest, dAnd, dOr, dNot, dAndV, dOrV, dNotV, dIf, dNil, dCons, dFit, dLst, dTup, dCB, dCall, dSeqL, dSeqT, dSeqS, dRng1, dRng2, dgName, dgNil, dgCons, dgTup, dgLst, wipeE, dOne, dLc, dYes, dNext, dSeq, dBreak, dCont, dRet, dRetN, dDrop, dIfS, dAsg, dPar, dFor, dNeg, dIsi, bAdd, bSub, bMod, bDiv, bMulI, bPow, bLt, bLe, bGt, bGe, bLen, bAll, bAny, bIntOf, bReprB, bIsB, bNotB, bInS, bNotInS, bIx, dBM, tyD, oJoin, runF, runI, dSetS, slN, slV, dParS, dOpO1, dOpO2, dApp, dAppPop, dRetO, dCBO, dListL, dListT, dTo, dFrom, dMeth, dProp, dFld, dOwn, dIsN, dNotN, bReprP, bReprG, bMulS, dStar, dRep, dIsC, dIsX, bSeq, bTail, diSet, diEnd, dRaise, plainD, bEq, bNe, List.getElem?_cons_succ, List.getElem?_cons_zero, List.set_cons_succ, List.set_cons_zero, List.map_cons, List.map_nil, List.length_cons, List.length_nil, List.append_nil, List.cons_append, List.nil_append, D.obj.injEq, and_assoc, true_and, and_true, exists_eq_left', exists_eq_left, dOSub, dTupL, dTupO, dSeqA, dIsi2, dOwnO, bInL, bNotInL, isNon_non, isNon_bl, isNon_int, isNon_str, isNon_lst, isNon_tup, isNon_obj, isNon_ety, isObj_non, isObj_bl, isObj_int, isObj_str, isObj_lst, isObj_tup, isObj_obj, isObj_ety, safe_at, Option.map_some, safe1_sh, ntd_non, ntd_bl, ntd_int, ntd_str, ntd_lst, ntd_tup, ntd_obj, ntA_nil, ntA_cons, ntF_nil, ntF_cons, Bool.true_and, Bool.and_true, fld_E, optP_some, oneD, exists_eq', D.int.injEq, D.str.injEq, D.lst.injEq, D.tup.injEq, D.bl.injEq, Option.some.injEq, atI_0, atI_1, atI_2, reduceCtorEq, or_false, false_or, olen_E, if_false, if_true, Bool.false_eq_true, Bool.not_true, Bool.not_false, pyOk_int, pyOk_non, pyOk_bl, Int.toNat_natCast, rangeD_len, leO] using q
theorem width_P (h : ∀ w, okW w → post (wD w)) : f_law_width M [.tok] noX post := by
  simp only [f_law_width, dVar, dC, dOp, dTest, dAnd, dOr, dNot, dAndV, dOrV, dNotV, dIf, dNil, dCons, dFit, dLst, dTup, dCB, dCall, dSeqL, dSeqT, dSeqS, dRng1, dRng2, dgName, dgNil, dgCons, dgTup, dgLst, wipeE, dOne, dLc, dYes, dNext, dSeq, dBreak, dCont, dRet, dRetN, dDrop, dIfS, dAsg, dPar, dFor, dNeg, dIsi, bAdd, bSub, bMod, bDiv, bMulI, bPow, bLt, bLe, bGt, bGe, bLen, bAll, bAny, bIntOf, bReprB, bIsB, bNotB, bInS, bNotInS, bIx, dBM, tyD, oJoin, runF, runI, dSetS, slN, slV, dParS, dOpO1, dOpO2, dApp, dAppPop, dRetO, dCBO, dListL, dListT, dTo, dFrom, dMeth, dProp, dFld, dOwn, dIsN, dNotN, bReprP, bReprG, bMulS, dStar, dRep, dIsC, dIsX, bSeq, bTail, diSet, diEnd, dRaise, plainD, bEq, bNe, List.getElem?_cons_succ, List.getElem?_cons_zero, List.set_cons_succ, List.set_cons_zero, List.map_cons, List.map_nil, List.length_cons, List.length_nil, List.append_nil, List.cons_append, List.nil_append, D.obj.injEq, and_assoc, true_and, and_true, exists_eq_left', exists_eq_left, dOSub, dTupL, dTupO, dSeqA, dIsi2, dOwnO, bInL, bNotInL, isNon_non, isNon_bl, isNon_int, isNon_str, isNon_lst, isNon_tup, isNon_obj, isNon_ety, isObj_non, isObj_bl, isObj_int, isObj_str, isObj_lst, isObj_tup, isObj_obj, isObj_ety, safe_at, Option.map_some, safe1_sh, ntd_non, ntd_bl, ntd_int, ntd_str, ntd_lst, ntd_tup, ntd_obj, ntA_nil, ntA_cons, ntF_nil, ntF_cons, Bool.true_and, Bool.and_true, fld_E, optP_some, oneD, exists_eq', D.int.injEq, D.str.injEq, D.lst.injEq, D.tup.injEq, D.bl.injEq, Option.some.injEq, atI_0, atI_1, atI_2, reduceCtorEq, or_false, false_or, olen_E, if_false, if_true, Bool.false_eq_true, Bool.not_true, Bool.not_false, pyOk_int, pyOk_non, pyOk_bl, Int.toNat_natCast, rangeD_len, f_law_draw]
  iterate 4 first | refine ⟨by decide, ?_⟩ | skip
  rw [draw_E (by decide) (by decide)]
  intro r r0 r1
  obtain ⟨d, hd, e⟩ := atI_mem' (xs := [D.non, .int 0, .int 1, .int 2, .int 5, .int (10 ^ (20 : Int).toNat)]) r0 r1
  refine ⟨d, e, ?_⟩
  simp only [List.mem_cons, List.not_mem_nil, or_false] at hd
  rcases hd with rfl | rfl | rfl | rfl | rfl | rfl
  · exact h none (fun n e => nomatch e)
  · exact h (some _) (fun n e => by cases e; decide)
  · exact h (some _) (fun n e => by cases e; decide)
  · exact h (some _) (fun n e => by cases e; decide)
  · exact h (some _) (fun n e => by cases e; decide)
  · exact h (some _) (fun n e => by cases e; decide)
/-! rows: shifts and their widths -/
abbrev Rs := List (Int × Option Int)
abbrev rkD (rs : Rs) : List (Key × D) := rs.map fun r => (Sum.inl r.1, wD r.2)
structure GRs (rs : Rs) : Prop where
  nd : (rs.map (·.1)).Nodup
  len : rs.length ≤ 20
  pos : ∀ r ∈ rs, okW r.2
def putR : Rs → Int → Option Int → Rs
  | [], i, w => [(i, w)]
  | (n, e) :: rs, i, w => if n = i then (n, w) :: rs else (n, e) :: putR rs i w
theorem putR_E (i : Int) (w : Option Int) : ∀ rs : Rs, putKD (rkD rs) (.inl i) (wD w) = rkD (putR rs i w)
  | [] => rfl
  | (n, e) :: rs => by
    by_cases h : n = i
    · subst h
      simp [putKD, putR]
    · have : ¬ (Sum.inl n : Key) = Sum.inl i := fun z => h (Sum.inl.inj z)
      simp only [List.map_cons, putKD, putR, h, this, if_false]
      rw [putR_E i w rs]
theorem putR_mem {i : Int} {w : Option Int} {r : Int × Option Int} : ∀ {rs : Rs}, r ∈ putR rs i w → r ∈ rs ∨ r = (i, w)
  | [], h => .inr (by simpa [putR] using h)
  | (n, e) :: rs, h => by
    by_cases hn : n = i
    · unfold putR at h
      rw [if_pos hn, hn] at h
      rcases List.mem_cons.mp h with h | h
      · exact .inr h
      · exact .inl (List.mem_cons_of_mem _ h)
    · unfold putR at h
      rw [if_neg hn] at h
      rcases List.mem_cons.mp h with h | h
      · exact .inl (h ▸ List.mem_cons_self ..)
      · rcases putR_mem h with h | h
        · exact .inl (List.mem_cons_of_mem _ h)
        · exact .inr h
theorem putR_nd {i : Int} {w : Option Int} : ∀ {rs : Rs}, (rs.map (·.1)).Nodup → ((putR rs i w).map (·.1)).Nodup
  | [], _ => by simp [putR]
  | (n, e) :: rs, h => by
    rw [List.map_cons, List.nodup_cons] at h
    by_cases hn : n = i
    · unfold putR
      rw [if_pos hn, List.map_cons, List.nodup_cons]
      exact h
    · unfold putR
      rw [if_neg hn, List.map_cons, List.nodup_cons]
      refine ⟨fun z => ?_, putR_nd h.2⟩
      obtain ⟨r, hr, e⟩ := List.mem_map.mp z
      rcases putR_mem hr with hr | hr
      · exact h.1 (e ▸ List.mem_map_of_mem hr)
      · subst hr; exact hn e.symm
theorem putR_len {i : Int} {w : Option Int} : ∀ {rs : Rs}, (putR rs i w).length ≤ rs.length + 1
  | [] => by simp [putR]
  | (n, e) :: rs => by
    unfold putR
    split
    · simp
    · have := putR_len (i := i) (w := w) (rs := rs)
      simp only [List.length_cons]; omega
theorem merge_R : ∀ (ps acc : Rs), (acc.map (·.1)).Nodup → (∀ r ∈ acc, okW r.2) → (∀ r ∈ ps, okW r.2) → ∃ rs : Rs, (rkD ps).foldl (fun acc kv => putKD acc kv.1 kv.2) (rkD acc) = rkD rs ∧ (rs.map (·.1)).Nodup ∧ (∀ r ∈ rs, okW r.2) ∧ rs.length ≤ acc.length + ps.length
  | [], acc, nd, h, _ => ⟨acc, rfl, nd, h, by simp⟩
  | p :: ps, acc, nd, h, hp => by
    obtain ⟨rs, e, n2, h2, l2⟩ := merge_R ps (putR acc p.1 p.2) (putR_nd nd) (fun r hr => by
      rcases putR_mem hr with hr | hr
      · exact h r hr
      · subst hr; exact hp p (by simp)) (fun r hr => hp r (by simp [hr]))
    refine ⟨rs, ?_, n2, h2, ?_⟩
    · simp only [List.map_cons, List.foldl_cons]
      rw [putR_E]
      exact e
    · have := putR_len (i := p.1) (w := p.2) (rs := acc)
      simp only [List.length_cons] at l2 ⊢
      omega
theorem rows_P (h : ∀ rs, GRs rs → post (dctD (rkD rs))) : f_law_widths_by M [.tok] noX post := by
  simp only [f_law_widths_by, runF, List.map_cons, List.map_nil, List.length_cons, List.length_nil, List.replicate, List.cons_append, List.nil_append, true_and]
  refine ret_go ?_
  unfold dCB
  refine cons_go (lst_go ?_)
  unfold dLc dRng1
  refine cons_go (callA (cons_go (var_go rfl (cons_go (dC_go (nil_go ?_))))))
  show fDraw [.tok, .int 9] noX _
  rw [draw_E (by decide) (by decide)]
  intro r r0 r1
  have hl : (rangeD 0 r.toNat).length < 9 := by simp [rangeD]; omega
  refine nil_go ⟨by omega, by omega, by omega, ?_⟩
  refine dc_draw (α := Int × Option Int) (g := fun r => .tup [kD (Sum.inl r.1), wD r.2]) (ok := fun r => okW r.2) (fun x k hk => one_X ?_) _ _ fun ps hl2 hp => ?_
  · refine tup_go (cons_go (op_go (callA (cons_go (var_go rfl (cons_go (dC_go (nil_go ?_))))))))
    show fDraw [.tok, .int 9] noX _
    rw [draw_E (by decide) (by decide)]
    intro i i0 i1
    refine dC_go ?_
    unfold bSub
    refine cons_go (call1 rfl (width_P fun w hw => nil_go ⟨by simp, ?_⟩))
    exact hk (i - 4, w) hw
  · obtain ⟨rs, e, n2, h2, l2⟩ := merge_R ps [] List.nodup_nil (by simp) hp
    refine nil_go ⟨rkD ps, by rw [List.map_map]; rfl, ?_⟩
    unfold mergeKD
    rw [show ([] : List (Key × D)) = rkD [] from rfl, e]
    exact h rs ⟨n2, by simp at l2; omega, h2⟩
end DLlaw

set_option Elab.async false
set_option linter.all false
set_option maxRecDepth 100000
set_option maxHeartbeats 1000000
namespace DLlaw
open PySem L2 DL DX
variable {M : MM} {xp : XP} {post : D → Prop} {d : D}
theorem wD_non {w : Option Int} : isNon (wD w) = decide (w = none) := by cases w <;> rfl
theorem wD_cnt {w : Option Int} (h : okW w) (e : w ≠ none) : isCnt (wD w) = true := by
  cases w with
  | none => exact (e rfl).elim
  | some n => exact decide_eq_true (h n rfl)
theorem wD_fine {w : Option Int} : fine (wD w) := by cases w <;> trivial
theorem all_true {α : Type} (xs : List α) : (xs.map fun _ => true).all id = true := by simp
theorem is_form_E {rs : Rs} (h : GRs rs) (q : post (.bl true)) : f_is_form M [dctD (rkD rs)] xp post := by
  have l := h.len
  unfold f_is_form runF
  refine ⟨rfl, ?_⟩
  refine seq_go (orF_go (notT_go fun post q => ?_) (notT_go fun post q => ?_) ?_)
  · unfold dIsi
    exact var_go rfl ⟨⟨_, tyN_dct⟩, by rw [isTy_dct]; exact q⟩
  · unfold dCB
    refine cons_go (lst_go ?_)
    unfold dLc dKeys
    refine var_go rfl ⟨_, rfl, by simp; omega, ?_⟩
    rw [List.map_map]
    refine dc_all (g := fun _ => .bl true) rs _ (fun r _ k hk => one_X (call1 (List.getElem?_set_self (by simp [wipeE])) ?_)) (nil_go ⟨_, isBls_true rs, by rw [all_true]; exact q⟩)
    show f_is_integer M [.int r.1] noX _
    rw [is_integer_E fine_int]
    exact hk
  · dsimp only
    refine ret_go ?_
    unfold dCB
    refine cons_go (lst_go ?_)
    unfold dLc dVals
    refine var_go rfl ⟨_, rfl, by simp; omega, ?_⟩
    rw [List.map_map]
    refine dc_all (g := fun _ => .bl true) rs _ (fun r hr k hk => one_X ?_) (nil_go ⟨_, isBls_true rs, by rw [all_true]; exact q⟩)
    have ge : ∀ env : SEnv, 1 < env.length → (env.set 1 (.sh (wD r.2)))[1]? = some (.sh (wD r.2)) := fun env hl => List.getElem?_set_self hl
    unfold dOrV dIsN
    refine var_go (ge _ (by simp [wipeE])) ?_
    rw [wD_non]
    by_cases hn : r.2 = none
    · rw [decide_eq_true hn]; exact hk
    · rw [decide_eq_false hn]
      refine call1 (ge _ (by simp [wipeE])) ?_
      rw [is_count_E wD_fine, wD_cnt (h.pos r hr) hn]
      exact hk
/-! forms -/
def lookR (rs : Rs) (i : Int) : Option Int := ((rs.find? fun r => decide (r.1 = i)).map (·.2)).getD none
theorem look_in {i : Int} {w : Option Int} : ∀ {rs : Rs}, (i, w) ∈ rs → (rs.map (·.1)).Nodup → lookR rs i = w
  | (n, e) :: rs, h, nd => by
    rw [List.map_cons, List.nodup_cons] at nd
    by_cases hn : n = i
    · have : lookR ((n, e) :: rs) i = e := by simp [lookR, List.find?_cons, hn]
      rw [this]
      rcases List.mem_cons.mp h with h | h
      · cases h; rfl
      · exact (nd.1 (List.mem_map.mpr ⟨_, h, hn.symm⟩)).elim
    · have e1 : lookR ((n, e) :: rs) i = lookR rs i := by simp [lookR, List.find?_cons, hn]
      rw [e1]
      rcases List.mem_cons.mp h with h | h
      · cases h; exact (hn rfl).elim
      · exact look_in h nd.2
/-- the shifts, ascending -/
abbrev shR (rs : Rs) : List Int := sI (rs.map (·.1))
abbrev keptR (rs : Rs) : List (Key × D) := (shR rs).map fun i => (Sum.inl i, wD (lookR rs i))
abbrev formD (rs : Rs) : D := .obj 2 [("kept_widths", dctD (keptR rs))]
theorem inl_nd {ns : List Int} (h : ns.Nodup) : (ns.map (Sum.inl : Int → Key)).Nodup := List.pairwise_map.mpr (h.imp fun ne e => ne (Sum.inl.inj e))
theorem sh_nd {rs : Rs} (h : GRs rs) : (shR rs).Nodup := (sI_perm _).nodup_iff.mpr h.nd
theorem sh_mem {rs : Rs} {i : Int} : i ∈ shR rs ↔ i ∈ rs.map (·.1) := (sI_perm _).mem_iff
theorem rk_val {rs : Rs} (h : GRs rs) {i : Int} (hi : i ∈ rs.map (·.1)) : valKD (rkD rs) (.inl i) = some (wD (lookR rs i)) := by
  obtain ⟨r, hr, rfl⟩ := List.mem_map.mp hi
  rw [look_in (i := r.1) (w := r.2) hr h.nd]
  refine valKD_in (List.mem_map.mpr ⟨r, hr, rfl⟩) ?_
  rw [List.map_map]
  have := inl_nd h.nd
  rwa [List.map_map] at this
theorem kept_val {rs : Rs} (h : GRs rs) {i : Int} (hi : i ∈ rs.map (·.1)) : valKD (keptR rs) (.inl i) = some (wD (lookR rs i)) := by
  refine valKD_in (List.mem_map.mpr ⟨i, sh_mem.mpr hi, rfl⟩) ?_
  rw [List.map_map]
  exact inl_nd (sh_nd h)
theorem sh_len {rs : Rs} : (shR rs).length = rs.length := by rw [(sI_perm _).length_eq, List.length_map]
theorem form_E {rs : Rs} (h : GRs rs) (q : post (formD rs)) : f_Form_init M [dctD (rkD rs)] xp post := by
  have l := h.len
  unfold f_Form_init runI
  refine ⟨rfl, fun ad => ?_⟩
  unfold b_Form_init bSeq
  refine ifN_go (notT_go fun post q => call1 rfl (is_form_E h q)) ?_
  unfold bTail
  refine ⟨rfl, ?_⟩
  unfold diSet diEnd dDc dSeqL dCB
  refine cons_go (var_go rfl (nil_go ⟨rkD rs, rs.map (·.1), rfl, by rw [List.map_map, List.map_map]; rfl, by rw [List.length_map]; omega, ?_⟩))
  refine ⟨by rw [List.length_map, sh_len]; omega, ?_⟩
  refine ddc_new (key := fun i => (Sum.inl i : Key)) (v := fun i => wD (lookR rs i)) (shR rs) [] _ (by simpa using inl_nd (sh_nd h)) (fun i hi k hk => one_K (fun p hp => ?_) (fun p hp => ?_) hk) ?_
  · exact var_go (List.getElem?_set_self (by simp [wipeE])) hp
  · unfold dDGetK
    refine var_go rfl (var_go (List.getElem?_set_self (by simp [wipeE])) ⟨_, _, _, rfl, rfl, rk_val h (sh_mem.mp hi), hp⟩)
  · exact ⟨by simp, by rfl, q⟩
end DLlaw

set_option Elab.async false
set_option linter.all false
set_option maxRecDepth 100000
set_option maxHeartbeats 1000000
namespace DLlaw
open PySem L2 DL DX
variable {M : MM} {xp : XP} {post : D → Prop} {d : D}
/-! what a form has at a shift -/
def val (rs : Rs) (i : Int) : Option (Option Int) := (rs.find? fun r => decide (r.1 = i)).map (·.2)
theorem val_cons {n i : Int} {e : Option Int} {rs : Rs} : val ((n, e) :: rs) i = if n = i then some e else val rs i := by
  by_cases h : n = i
  · rw [if_pos h]; simp [val, List.find?_cons, h]
  · rw [if_neg h]; simp [val, List.find?_cons, h]
theorem val_look (rs : Rs) (i : Int) : lookR rs i = (val rs i).getD none := rfl
theorem val_mem {i : Int} : ∀ {rs : Rs}, (val rs i).isSome = true ↔ i ∈ rs.map (·.1)
  | [] => by simp [val]
  | (n, e) :: rs => by
    rw [val_cons, List.map_cons, List.mem_cons]
    by_cases h : n = i
    · rw [if_pos h]; simp [h]
    · rw [if_neg h, val_mem]
      exact ⟨.inr, fun z => z.resolve_left (Ne.symm h)⟩
theorem val_some {rs : Rs} {i : Int} (h : i ∈ rs.map (·.1)) : val rs i = some (lookR rs i) := by
  have := val_mem.mpr h
  rw [val_look]
  cases hv : val rs i with
  | none => rw [hv] at this; cases this
  | some w => rfl
theorem val_none {rs : Rs} {i : Int} (h : i ∉ rs.map (·.1)) : val rs i = none := by
  cases hv : val rs i with
  | none => rfl
  | some w => exact (h (val_mem.mp (by rw [hv]; rfl))).elim
theorem val_map {f : Int → Option Int} : ∀ {ns : List Int} {i : Int}, val (ns.map fun n => (n, f n)) i = if i ∈ ns then some (f i) else none
  | [], i => by simp [val]
  | n :: ns, i => by
    rw [List.map_cons, val_cons, val_map]
    by_cases h : n = i
    · subst h; simp
    · rw [if_neg h]
      have : (i ∈ n :: ns) ↔ i ∈ ns := by rw [List.mem_cons]; exact ⟨fun z => z.resolve_left (Ne.symm h), .inr⟩
      by_cases h2 : i ∈ ns
      · rw [if_pos h2, if_pos (this.mpr h2)]
      · rw [if_neg h2, if_neg (fun z => h2 (this.mp z))]
theorem val_kd (rs : Rs) (i : Int) : valKD (rkD rs) (.inl i) = (val rs i).map wD := by
  induction rs with
  | nil => rfl
  | cons r rs ih =>
    obtain ⟨n, e⟩ := r
    rw [val_cons]
    by_cases h : n = i
    · rw [if_pos h]; simp [valKD, List.find?_cons, h]
    · rw [if_neg h, ← ih]
      have : ¬ (Sum.inl n : Key) = Sum.inl i := fun z => h (Sum.inl.inj z)
      simp [valKD, List.find?_cons, this]
/-- in the order of the shifts -/
abbrev srt (rs : Rs) : Rs := (shR rs).map fun i => (i, lookR rs i)
theorem val_srt (rs : Rs) (i : Int) : val (srt rs) i = val rs i := by
  rw [val_map]
  by_cases h : i ∈ shR rs
  · rw [if_pos h, val_some (sh_mem.mp h)]
  · rw [if_neg h, val_none (fun z => h (sh_mem.mpr z))]
theorem keys_map {f : Int → Option Int} (ns : List Int) : (ns.map fun n => (n, f n)).map (·.1) = ns := by
  rw [List.map_map]
  exact (List.map_congr_left fun _ _ => rfl).trans (List.map_id ns)
theorem look_ok {rs : Rs} (h : GRs rs) (i : Int) : okW (lookR rs i) := by
  by_cases hi : i ∈ rs.map (·.1)
  · obtain ⟨r, hr, rfl⟩ := List.mem_map.mp hi
    rw [look_in (i := r.1) (w := r.2) hr h.nd]
    exact h.pos r hr
  · rw [val_look, val_none hi]
    exact fun n e => nomatch e
theorem GRs.of {ns : List Int} {f : Int → Option Int} (nd : ns.Nodup) (l : ns.length ≤ 20) (hf : ∀ i, okW (f i)) : GRs (ns.map fun n => (n, f n)) :=
  ⟨by rw [keys_map]; exact nd, by rw [List.length_map]; exact l, fun r hr => by obtain ⟨n, _, rfl⟩ := List.mem_map.mp hr; exact hf n⟩
theorem GRs.srt {rs : Rs} (h : GRs rs) : GRs (srt rs) := .of (sh_nd h) (by rw [sh_len]; exact h.len) (look_ok h)
/-! the order of widths -/
def less (a b : Option Int) : Option Int := if leO a b = true then a else b
theorem le_refl (a : Option Int) : leO a a = true := by cases a <;> simp [leO]
theorem le_tot (a b : Option Int) : leO a b = true ∨ leO b a = true := by
  cases a <;> cases b <;> simp [leO] <;> omega
theorem le_anti {a b : Option Int} (h1 : leO a b = true) (h2 : leO b a = true) : a = b := by
  cases a <;> cases b <;> simp [leO] at * <;> omega
theorem le_tr {a b c : Option Int} (h1 : leO a b = true) (h2 : leO b c = true) : leO a c = true := by
  cases a <;> cases b <;> cases c <;> simp [leO] at * <;> omega
theorem less_l (a b : Option Int) : leO (less a b) a = true := by
  unfold less
  split
  · exact le_refl a
  · rename_i h
    exact (le_tot a b).resolve_left h
theorem less_r (a b : Option Int) : leO (less a b) b = true := by
  unfold less
  split
  · assumption
  · exact le_refl b
theorem less_g {a b c : Option Int} (h1 : leO c a = true) (h2 : leO c b = true) : leO c (less a b) = true := by
  unfold less
  split
  · exact h1
  · exact h2
theorem less_comm (a b : Option Int) : less a b = less b a := le_anti (less_g (less_r a b) (less_l a b)) (less_g (less_r b a) (less_l b a))
theorem less_assoc (a b c : Option Int) : less (less a b) c = less a (less b c) :=
  le_anti (less_g (le_tr (less_l _ _) (less_l _ _)) (less_g (le_tr (less_l _ _) (less_r _ _)) (less_r _ _))) (less_g (less_g (less_l _ _) (le_tr (less_r _ _) (less_l _ _))) (le_tr (less_r _ _) (less_r _ _)))
theorem less_same (a : Option Int) : less a a = a := by unfold less; split <;> rfl
theorem less_eq {a b : Option Int} : less a b = a ↔ leO a b = true := by
  refine ⟨fun h => by rw [← h]; exact less_r a b, fun h => ?_⟩
  unfold less
  rw [if_pos h]
theorem less_ok {a b : Option Int} (h1 : okW a) (h2 : okW b) : okW (less a b) := by unfold less; split <;> assumption
/-! &, as the program has it -/
abbrev bothK (ns : List Int) (q : Rs) : List Int := ns.filter fun i => decide (i ∈ q.map (·.1))
abbrev andR (p q : Rs) : Rs := (bothK (shR p) q).map fun i => (i, less (lookR p i) (lookR q i))
abbrev lesR (p q : Rs) : Rs := (bothK (p.map (·.1)) q).map fun i => (i, less (lookR p i) (lookR q i))
theorem GRs.and {p q : Rs} (h1 : GRs p) (h2 : GRs q) : GRs (andR p q) :=
  .of ((sh_nd h1).sublist (List.filter_sublist ..)) (Nat.le_trans (List.length_filter_le _ _) (by rw [sh_len]; exact h1.len)) fun i => less_ok (look_ok h1 i) (look_ok h2 i)
theorem GRs.les {p q : Rs} (h1 : GRs p) (h2 : GRs q) : GRs (lesR p q) :=
  .of (h1.nd.sublist (List.filter_sublist ..)) (Nat.le_trans (List.length_filter_le _ _) (by rw [List.length_map]; exact h1.len)) fun i => less_ok (look_ok h1 i) (look_ok h2 i)
def vless : Option (Option Int) → Option (Option Int) → Option (Option Int)
  | some a, some b => some (less a b)
  | _, _ => none
theorem val_both {ns : List Int} {p q : Rs} {i : Int} (hm : i ∈ ns ↔ i ∈ p.map (·.1)) : val ((bothK ns q).map fun i => (i, less (lookR p i) (lookR q i))) i = vless (val p i) (val q i) := by
  rw [val_map]
  by_cases h1 : i ∈ p.map (·.1)
  · by_cases h2 : i ∈ q.map (·.1)
    · rw [if_pos (List.mem_filter.mpr ⟨hm.mpr h1, decide_eq_true h2⟩), val_some h1, val_some h2]
      rfl
    · have hn : i ∉ bothK ns q := fun z => h2 (of_decide_eq_true (List.mem_filter.mp z).2)
      rw [if_neg hn, val_none h2]
      cases val p i <;> rfl
  · have hn : i ∉ bothK ns q := fun z => h1 (hm.mp (List.mem_filter.mp z).1)
    rw [if_neg hn, val_none h1]
    rfl
theorem val_and (p q : Rs) (i : Int) : val (andR p q) i = vless (val p i) (val q i) := val_both sh_mem
theorem val_les (p q : Rs) (i : Int) : val (lesR p q) i = vless (val p i) (val q i) := val_both Iff.rfl
/-! same, under -/
def sameB (p q : Rs) : Bool := p.length == q.length && p.all fun r => decide (val q r.1 = some r.2)
theorem sub_all {p q : Rs} (np : (p.map (·.1)).Nodup) : (p.all fun r => decide (val q r.1 = some r.2)) = true ↔ ∀ i w, val p i = some w → val q i = some w := by
  rw [List.all_eq_true]
  constructor
  · intro h i w hv
    have hi : i ∈ p.map (·.1) := val_mem.mp (by rw [hv]; rfl)
    obtain ⟨r, hr, rfl⟩ := List.mem_map.mp hi
    have e := of_decide_eq_true (h r hr)
    rw [val_some hi, look_in (i := r.1) (w := r.2) hr np] at hv
    cases hv
    exact e
  · intro h r hr
    have hi : r.1 ∈ p.map (·.1) := List.mem_map_of_mem hr
    refine decide_eq_true (h r.1 r.2 ?_)
    rw [val_some hi, look_in (i := r.1) (w := r.2) hr np]
theorem nd_sub_len : ∀ {xs ys : List Int}, xs.Nodup → (∀ x ∈ xs, x ∈ ys) → xs.length ≤ ys.length
  | [], _, _, _ => Nat.zero_le _
  | x :: xs, ys, nd, h => by
    rw [List.nodup_cons] at nd
    have hx : x ∈ ys := h x (by simp)
    have := nd_sub_len (xs := xs) (ys := ys.erase x) nd.2 fun y hy => (List.mem_erase_of_ne (fun z : y = x => nd.1 (by rw [← z]; exact hy))).mpr (h y (by simp [hy]))
    rw [List.length_erase_of_mem hx] at this
    have pos : 0 < ys.length := List.length_pos_of_mem hx
    simp only [List.length_cons]
    omega
theorem same_iff {p q : Rs} (hp : GRs p) (hq : GRs q) : sameB p q = true ↔ ∀ i, val p i = val q i := by
  unfold sameB
  rw [Bool.and_eq_true, beq_iff_eq, sub_all hp.nd]
  constructor
  · rintro ⟨hl, h⟩ i
    cases hv : val p i with
    | some w => rw [h i w hv]
    | none =>
      cases hw : val q i with
      | none => rfl
      | some w =>
        exfalso
        have hi : i ∈ q.map (·.1) := val_mem.mp (by rw [hw]; rfl)
        have hn : i ∉ p.map (·.1) := fun z => by have := val_mem.mpr z; rw [hv] at this; cases this
        have := nd_sub_len (xs := i :: p.map (·.1)) (ys := q.map (·.1)) (List.nodup_cons.mpr ⟨hn, hp.nd⟩) (fun x hx => by
          rcases List.mem_cons.mp hx with rfl | hx
          · exact hi
          · exact val_mem.mp (by rw [h x _ (val_some hx)]; rfl))
        simp only [List.length_cons, List.length_map] at this
        omega
  · intro h
    refine ⟨?_, fun i w hv => by rw [← h i]; exact hv⟩
    have a := nd_sub_len (xs := p.map (·.1)) (ys := q.map (·.1)) hp.nd fun x hx => val_mem.mp (by rw [← h x, val_some hx]; rfl)
    have b := nd_sub_len (xs := q.map (·.1)) (ys := p.map (·.1)) hq.nd fun x hx => val_mem.mp (by rw [h x, val_some hx]; rfl)
    rw [List.length_map, List.length_map] at a b
    omega
theorem same_congr {p q p' q' : Rs} (hp : GRs p) (hq : GRs q) (hp' : GRs p') (hq' : GRs q') (h1 : ∀ i, val p i = val p' i) (h2 : ∀ i, val q i = val q' i) : sameB p q = sameB p' q' := by
  rw [Bool.eq_iff_iff, same_iff hp hq, same_iff hp' hq']
  exact ⟨fun h i => by rw [← h1, ← h2]; exact h i, fun h i => by rw [h1, h2]; exact h i⟩
def undK (ns : List Int) (p q : Rs) : Bool := ns.all fun i => decide (i ∈ q.map (·.1)) && leO (lookR p i) (lookR q i)
abbrev undR (p q : Rs) : Bool := undK (shR p) p q
abbrev undL (p q : Rs) : Bool := undK (p.map (·.1)) p q
theorem und_iff {ns : List Int} {p q : Rs} (hm : ∀ i, i ∈ ns ↔ i ∈ p.map (·.1)) : undK ns p q = true ↔ ∀ i a, val p i = some a → ∃ b, val q i = some b ∧ leO a b = true := by
  unfold undK
  rw [List.all_eq_true]
  constructor
  · intro h i a hv
    have hi : i ∈ p.map (·.1) := val_mem.mp (by rw [hv]; rfl)
    have := h i ((hm i).mpr hi)
    rw [Bool.and_eq_true, decide_eq_true_eq] at this
    refine ⟨_, val_some this.1, ?_⟩
    rw [val_some hi] at hv
    cases hv
    exact this.2
  · intro h i hi
    obtain ⟨b, hb, hl⟩ := h i _ (val_some ((hm i).mp hi))
    have hq : i ∈ q.map (·.1) := val_mem.mp (by rw [hb]; rfl)
    rw [val_some hq] at hb
    cases hb
    rw [Bool.and_eq_true, decide_eq_true_eq]
    exact ⟨hq, hl⟩
theorem undR_iff {p q : Rs} : undR p q = true ↔ ∀ i a, val p i = some a → ∃ b, val q i = some b ∧ leO a b = true := und_iff fun _ => sh_mem
theorem undL_iff {p q : Rs} : undL p q = true ↔ ∀ i a, val p i = some a → ∃ b, val q i = some b ∧ leO a b = true := und_iff fun _ => Iff.rfl
theorem und_RL (p q : Rs) : undR p q = undL p q := by rw [Bool.eq_iff_iff, undR_iff, undL_iff]
/-! the laws of & -/
theorem and_und_l (p q : Rs) : undR (andR p q) p = true := undR_iff.mpr fun i a h => by
  rw [val_and] at h
  cases hp : val p i with
  | none => rw [hp] at h; cases h
  | some x =>
    cases hq : val q i with
    | none => rw [hp, hq] at h; cases h
    | some y => rw [hp, hq] at h; cases h; exact ⟨x, rfl, less_l x y⟩
theorem and_und_r (p q : Rs) : undR (andR p q) q = true := undR_iff.mpr fun i a h => by
  rw [val_and] at h
  cases hp : val p i with
  | none => rw [hp] at h; cases h
  | some x =>
    cases hq : val q i with
    | none => rw [hp, hq] at h; cases h
    | some y => rw [hp, hq] at h; cases h; exact ⟨y, rfl, less_r x y⟩
theorem und_and {c p q : Rs} (h1 : undR c p = true) (h2 : undR c q = true) : undR c (andR p q) = true := undR_iff.mpr fun i a h => by
  obtain ⟨x, hx, lx⟩ := undR_iff.mp h1 i a h
  obtain ⟨y, hy, ly⟩ := undR_iff.mp h2 i a h
  exact ⟨less x y, by rw [val_and, hx, hy]; rfl, less_g lx ly⟩
theorem vless_comm (a b : Option (Option Int)) : vless a b = vless b a := by
  cases a <;> cases b <;> simp [vless, less_comm]
theorem vless_assoc (a b c : Option (Option Int)) : vless (vless a b) c = vless a (vless b c) := by
  cases a <;> cases b <;> cases c <;> simp [vless, less_assoc]
theorem vless_same (a : Option (Option Int)) : vless a a = a := by cases a <;> simp [vless, less_same]
theorem and_is_l {p q : Rs} (hp : GRs p) (hq : GRs q) : sameB (srt (andR p q)) (srt p) = undL p q := by
  rw [Bool.eq_iff_iff, same_iff (hp.and hq).srt hp.srt, undL_iff]
  constructor
  · intro h i a hv
    have := h i
    rw [val_srt, val_srt, val_and, hv] at this
    cases hw : val q i with
    | none => rw [hw] at this; cases this
    | some b =>
      rw [hw] at this
      exact ⟨b, rfl, less_eq.mp (Option.some.inj this)⟩
  · intro h i
    rw [val_srt, val_srt, val_and]
    cases hv : val p i with
    | none => cases val q i <;> rfl
    | some a =>
      obtain ⟨b, hb, hl⟩ := h i a hv
      rw [hb]
      exact congrArg some (less_eq.mpr hl)
end DLlaw

set_option Elab.async false
set_option linter.all false
set_option maxRecDepth 100000
set_option maxHeartbeats 1000000
namespace DLlaw
open PySem L2 DL DX
variable {M : MM} {xp : XP} {post : D → Prop} {d : D}
/-! readings of forms -/
theorem kept_srt (p : Rs) : keptR p = rkD (srt p) := by
  unfold keptR rkD srt
  rw [List.map_map]
  rfl
theorem lk_kw {x : D} : List.lookup (Str.ofString "kept_widths") [(Str.ofString "kept_widths", x)] = some x := by simp [List.lookup]
theorem kw_go {i : Nat} {env : SEnv} {p : Rs} (h : env[i]? = some (.sh (formD p))) (q : post (dctD (keptR p))) : dFld 2 "kept_widths" (dVar i) env xp post := by
  unfold dFld
  exact var_go h ⟨_, _, rfl, lk_kw, q⟩
theorem kt_no : (Str.ofString "shifts" == Str.ofString "kept_widths") = false := by decide +kernel
theorem lk_no {x : D} : List.lookup (Str.ofString "shifts") [(Str.ofString "kept_widths", x)] = none := by simp only [List.lookup, kt_no]
theorem ku_no : (Str.ofString "is_under" == Str.ofString "kept_widths") = false := by decide +kernel
theorem lu_no {x : D} : List.lookup (Str.ofString "is_under") [(Str.ofString "kept_widths", x)] = none := by simp only [List.lookup, ku_no]
theorem kept_any {p : Rs} (h : GRs p) (i : Int) : (valKD (keptR p) (.inl i)).isSome = decide (i ∈ p.map (·.1)) := by
  rw [kept_srt, val_kd, val_srt]
  by_cases hi : i ∈ p.map (·.1)
  · rw [val_some hi, decide_eq_true hi]; rfl
  · rw [val_none hi, decide_eq_false hi]; rfl
theorem cont_E {p : Rs} (h : GRs p) {i : Int} (q : post (.bl (decide (i ∈ p.map (·.1))))) : f_Form_contains M [formD p, .int i] xp post := by
  unfold f_Form_contains runF
  refine ⟨rfl, ret_go ?_⟩
  unfold dAndV
  refine call1 rfl ?_
  rw [is_integer_E fine_int]
  unfold dInK
  refine var_go rfl (kw_go rfl ⟨_, .inl i, rfl, rfl, ?_⟩)
  rw [kept_any h]
  simpa using q
theorem item_E {p : Rs} (h : GRs p) {i : Int} (hi : i ∈ p.map (·.1)) (q : post (wD (lookR p i))) : f_Form_getitem M [formD p, .int i] xp post := by
  unfold f_Form_getitem runF
  refine ⟨rfl, ?_⟩
  unfold b_Form_getitem
  refine seq_go (ifN_go (fun r hr => ?_) ?_)
  · refine test_go (op_go (var_go rfl (var_go rfl ⟨⟨_, rfl⟩, cont_E h ⟨_, rfl, ?_⟩⟩)))
    rw [decide_eq_true hi]
    exact hr
  · dsimp only
    refine ret_go ?_
    unfold dDGetK
    exact kw_go rfl (var_go rfl ⟨_, .inl i, _, rfl, rfl, kept_val h hi, q⟩)
theorem sub_go {env : SEnv} {j k : Nat} {p : Rs} (h : GRs p) {i : Int} (hj : env[j]? = some (.sh (formD p))) (hk : env[k]? = some (.sh (.int i))) (hi : i ∈ p.map (·.1)) (q : post (wD (lookR p i))) : dOSub 2 (f_Form_getitem M) (dVar j) (dVar k) env xp post := by
  unfold dOSub
  exact var_go hj (var_go hk ⟨⟨_, rfl⟩, item_E h hi q⟩)
theorem in_go {env : SEnv} {j k : Nat} {p : Rs} (h : GRs p) {i : Int} (hj : env[j]? = some (.sh (formD p))) (hk : env[k]? = some (.sh (.int i))) (q : post (.bl (decide (i ∈ p.map (·.1))))) : dOp (bOIn 2 (f_Form_contains M) false) (dVar k) (dVar j) env xp post := by
  refine op_go (var_go hk (var_go hj ⟨⟨_, rfl⟩, cont_E h ⟨_, rfl, ?_⟩⟩))
  simpa using q
theorem and_E {p q : Rs} (h1 : GRs p) (h2 : GRs q) (k : post (formD (andR p q))) : f_Form_and M [formD p, formD q] xp post := by
  have l := h1.len
  have lb : (bothK (shR p) q).length ≤ 20 := Nat.le_trans (List.length_filter_le _ _) (by rw [sh_len]; exact l)
  unfold f_Form_and runF
  refine ⟨rfl, ?_⟩
  unfold b_Form_and
  refine seq_go (asg_go (lst_go ?_))
  unfold dLc dKeys
  refine kw_go rfl ⟨_, rfl, by rw [List.length_map, List.length_map, sh_len]; omega, ?_⟩
  rw [List.map_map]
  refine dc_filter (g := D.int) (c := fun i => decide (i ∈ q.map (·.1))) (shR p) _ (fun i hi k hk => ?_) ?_
  · exact one_F (a := .int i) (c := decide (i ∈ q.map (·.1))) (fun r hr => test_go (in_go h2 rfl (List.getElem?_set_self (by simp [wipeE])) hr)) (fun r hr => var_go (List.getElem?_set_self (by simp [wipeE])) hr) hk
  · dsimp only
    refine ret_go (callA (cons_go ?_))
    unfold dDc dSeqL
    refine var_go rfl ⟨by rw [List.length_map]; exact Nat.lt_of_le_of_lt lb (by decide), ?_⟩
    refine ddc_new (key := fun i => (Sum.inl i : Key)) (v := fun i => wD (less (lookR p i) (lookR q i))) (bothK (shR p) q) [] _ (by simpa using inl_nd ((sh_nd h1).sublist (List.filter_sublist ..))) (fun i hi k hk => ?_) ?_
    · have hm := List.mem_filter.mp hi
      have ip : i ∈ p.map (·.1) := sh_mem.mp hm.1
      have iq : i ∈ q.map (·.1) := of_decide_eq_true hm.2
      refine one_K (key := Sum.inl i) (fun r hr => var_go (List.getElem?_set_self (by simp [wipeE])) hr) (fun r hr => ?_) hk
      unfold dIf
      refine test_go (callA (cons_go (sub_go h1 rfl (List.getElem?_set_self (by simp [wipeE])) ip (cons_go (sub_go h2 rfl (List.getElem?_set_self (by simp [wipeE])) iq (nil_go (up_E ?_)))))))
      show if leO (lookR p i) (lookR q i) = true then _ else _
      unfold less at hr
      split
      · rename_i hl
        rw [if_pos hl] at hr
        exact sub_go h1 rfl (List.getElem?_set_self (by simp [wipeE])) ip hr
      · rename_i hl
        rw [if_neg hl] at hr
        exact sub_go h2 rfl (List.getElem?_set_self (by simp [wipeE])) iq hr
    · rw [List.nil_append]
      have e : ((bothK (shR p) q).map fun i => ((Sum.inl i : Key), wD (less (lookR p i) (lookR q i)))) = rkD (andR p q) := by
        unfold rkD andR
        rw [List.map_map]
        rfl
      rw [e]
      exact nil_go (form_E (h1.and h2) k)
theorem under_E {p q : Rs} (h1 : GRs p) (h2 : GRs q) (k : post (.bl (undR p q))) : f_Form_is_under M [formD p, formD q] xp post := by
  have l := h1.len
  unfold f_Form_is_under runF
  refine ⟨rfl, ret_go ?_⟩
  unfold dCB
  refine cons_go (lst_go ?_)
  unfold dLc dKeys
  refine kw_go rfl ⟨_, rfl, by rw [List.length_map, List.length_map, sh_len]; omega, ?_⟩
  rw [List.map_map]
  refine dc_all (g := fun i => .bl (decide (i ∈ q.map (·.1)) && leO (lookR p i) (lookR q i))) (shR p) _ (fun i hi k hk => one_X ?_) (nil_go ⟨_, isBls_map (fun i => decide (i ∈ q.map (·.1)) && leO (lookR p i) (lookR q i)) (shR p), ?_⟩)
  · have ip : i ∈ p.map (·.1) := sh_mem.mp hi
    unfold dAndV
    refine in_go h2 rfl (List.getElem?_set_self (by simp [wipeE])) ?_
    by_cases iq : i ∈ q.map (·.1)
    · rw [decide_eq_true iq] at hk ⊢
      rw [Bool.true_and] at hk
      exact callA (cons_go (sub_go h1 rfl (List.getElem?_set_self (by simp [wipeE])) ip (cons_go (sub_go h2 rfl (List.getElem?_set_self (by simp [wipeE])) iq (nil_go (up_E hk))))))
    · rw [decide_eq_false iq] at hk ⊢
      exact hk
  · rw [show ((shR p).map fun i => decide (i ∈ q.map (·.1)) && leO (lookR p i) (lookR q i)).all id = undR p q by rw [List.all_map]; rfl]
    exact k
theorem py_w {rs : Rs} : ∀ kv ∈ rkD rs, pyB 63 kv.2 = true := fun kv h => by
  obtain ⟨r, _, rfl⟩ := List.mem_map.mp h
  show pyB 63 (wD r.2) = true
  cases r.2 with
  | none => simp [wD]
  | some n => simp [wD]
theorem wD_eq {a b : Option Int} : eqD (wD a) (wD b) = decide (a = b) := by
  cases a <;> cases b <;> simp [wD]
theorem eqK_R (p q : Rs) : ((rkD p).length == (rkD q).length && eqK (rkD p) (rkD q)) = sameB p q := by
  unfold sameB eqK
  rw [List.length_map, List.length_map, List.all_map]
  congr 1
  refine List.all_congr rfl fun r => ?_
  show (match valKD (rkD q) (.inl r.1) with | some d => eqD (wD r.2) d | none => false) = _
  rw [val_kd]
  cases val q r.1 with
  | none => rfl
  | some w =>
    show eqD (wD r.2) (wD w) = _
    rw [wD_eq, Bool.eq_iff_iff, decide_eq_true_eq, decide_eq_true_eq]
    exact ⟨fun z => by rw [z], fun z => (Option.some.inj z).symm⟩
theorem form_eq {neg : Bool} {p q : Rs} {k : D → Prop} (h : k (.bl (sameB (srt p) (srt q) != neg))) : bOwnEq 2 (f_Form_eq M) neg (formD p) (formD q) k := by
  refine ⟨⟨_, rfl⟩, by simp [kindD], ?_⟩
  unfold f_Form_eq runF
  refine ⟨rfl, ret_go ?_⟩
  unfold dAndV dIsC
  refine var_go rfl ⟨rfl, ?_⟩
  show dOp bDEq _ _ _ _ _
  refine op_go (kw_go rfl (kw_go rfl ⟨_, _, rfl, rfl, ?_, ?_, ?_⟩))
  · rw [kept_srt]; exact py_w
  · rw [kept_srt]; exact py_w
  · rw [kept_srt, kept_srt, eqK_R]
    exact ⟨_, rfl, h⟩
theorem merge_nd {ks : List (Key × D)} : ∀ (acc : List (Key × D)), ((acc ++ ks).map (·.1)).Nodup → ks.foldl (fun acc kv => putKD acc kv.1 kv.2) acc = acc ++ ks := by
  induction ks with
  | nil => intro acc _; simp
  | cons kv ks ih =>
    intro acc nd
    have hn : kv.1 ∉ acc.map (·.1) := fun z => by
      rw [List.map_append, List.map_cons] at nd
      exact (List.nodup_append.mp nd).2.2 _ z _ (by simp) rfl
    rw [List.foldl_cons, putKD_new hn, ih _ (by simpa using nd)]
    simp
theorem kd_nd {p : Rs} (h : GRs p) : ((rkD p).map (·.1)).Nodup := by
  rw [List.map_map]
  have := inl_nd h.nd
  rwa [List.map_map] at this
theorem read_E {p : Rs} (h : GRs p) (k : post (dctD (rkD (srt p)))) : f_law_read M [formD p] xp post := by
  have l := h.len
  unfold f_law_read runF
  refine ⟨rfl, ret_go ?_⟩
  unfold dCB
  refine cons_go (lst_go ?_)
  unfold dLc dSeqL dMeth
  refine var_go rfl ⟨_, rfl, lk_no, nil_go ?_⟩
  show f_Form_shifts M [formD p] xp _
  unfold f_Form_shifts runF
  refine ⟨rfl, ret_go ?_⟩
  unfold dCB
  refine cons_go (kw_go rfl (nil_go ⟨_, rfl, by rw [List.length_map, List.length_map, sh_len]; omega, ?_⟩))
  rw [List.map_map]
  refine dc_all (g := fun i => .tup [.int i, wD (lookR p i)]) (shR p) _ (fun i hi k hk => one_X ?_) (nil_go ⟨rkD (srt p), by rw [List.map_map, List.map_map]; rfl, ?_⟩)
  · exact tup_go (cons_go (var_go (List.getElem?_set_self (by simp [wipeE])) (cons_go (sub_go h rfl (List.getElem?_set_self (by simp [wipeE])) (sh_mem.mp hi) (nil_go ⟨by simp, hk⟩)))))
  · have e := merge_nd (ks := rkD (srt p)) [] (by simpa using kd_nd h.srt)
    unfold mergeKD
    rw [e, List.nil_append]
    exact k
theorem ddc_cond {α : Type} {one : D → (Option (Key × D) → Prop) → Prop} {f : α → D} {key : α → Key} {v : α → D} {c : α → Bool} : ∀ (xs : List α) (acc : List (Key × D)) (p : List (Key × D) → Prop), ((acc.map (·.1)) ++ (xs.filter c).map key).Nodup → (∀ x ∈ xs, ∀ k : Option (Key × D) → Prop, k (if c x = true then some (key x, v x) else none) → one (f x) k) → p (acc ++ (xs.filter c).map fun x => (key x, v x)) → ddc one (xs.map f) acc p
  | [], acc, p, _, _, q => by simpa [ddc] using q
  | x :: xs, acc, p, nd, h, q => by
    simp only [List.map_cons, ddc]
    refine h x (by simp) _ ?_
    cases hc : c x with
    | true =>
      rw [List.filter_cons_of_pos hc, List.map_cons] at nd q
      have hn : key x ∉ acc.map (·.1) := fun z => (List.nodup_append.mp nd).2.2 _ z _ (by simp) rfl
      show ddc one (xs.map f) (putKD acc (key x) (v x)) p
      rw [putKD_new hn]
      refine ddc_cond xs _ p (by simpa [List.append_assoc] using nd) (fun y hy => h y (by simp [hy])) ?_
      simpa [List.append_assoc] using q
    | false =>
      rw [List.filter_cons_of_neg (by simp [hc])] at nd q
      exact ddc_cond xs acc p nd (fun y hy => h y (by simp [hy])) q
theorem get_go {env : SEnv} {j k : Nat} {p : Rs} (h : GRs p) {i : Int} (hj : env[j]? = some (.sh (dctD (rkD p)))) (hk : env[k]? = some (.sh (.int i))) (hi : i ∈ p.map (·.1)) (q : post (wD (lookR p i))) : dDGetK (dVar j) (dVar k) env xp post := by
  unfold dDGetK
  exact var_go hj (var_go hk ⟨_, .inl i, _, rfl, rfl, rk_val h hi, q⟩)
theorem inK_any {p : Rs} (i : Int) : (valKD (rkD p) (.inl i)).isSome = decide (i ∈ p.map (·.1)) := by
  rw [val_kd]
  by_cases hi : i ∈ p.map (·.1)
  · rw [val_some hi, decide_eq_true hi]; rfl
  · rw [val_none hi, decide_eq_false hi]; rfl
theorem lesser_E {p q : Rs} (h1 : GRs p) (h2 : GRs q) (k : post (dctD (rkD (lesR p q)))) : f_law_lesser M [dctD (rkD p), dctD (rkD q)] xp post := by
  have l := h1.len
  unfold f_law_lesser runF
  refine ⟨rfl, by simp, ?_⟩
  unfold dBuild dKeys
  refine var_go rfl ⟨_, rfl, by rw [List.length_map, List.length_map]; omega, ?_⟩
  have ek : (rkD p).map (fun kv => kD kv.1) = (p.map (·.1)).map D.int := by rw [List.map_map, List.map_map]; rfl
  rw [ek]
  refine ddc_cond (key := fun i => (Sum.inl i : Key)) (v := fun i => wD (less (lookR p i) (lookR q i))) (c := fun i => decide (i ∈ q.map (·.1))) (p.map (·.1)) [] _ (by simpa using inl_nd (h1.nd.sublist (List.filter_sublist ..))) (fun i ip k hk => ?_) ?_
  · unfold dOneV dgName
    refine test_go ?_
    unfold dInK
    refine var_go (List.getElem?_set_self (by simp [wipeE])) (var_go rfl ⟨_, .inl i, rfl, rfl, ?_⟩)
    rw [inK_any]
    by_cases iq : i ∈ q.map (·.1)
    · rw [decide_eq_true iq] at hk ⊢
      show if (true = true) then _ else _
      rw [if_pos rfl]
      rw [if_pos rfl] at hk
      unfold dIf
      refine test_go (callA (cons_go (get_go h1 rfl (List.getElem?_set_self (by simp [wipeE])) ip (cons_go (get_go h2 rfl (List.getElem?_set_self (by simp [wipeE])) iq (nil_go (most_E ?_)))))))
      have fin : ∀ d, d = wD (less (lookR p i) (lookR q i)) → dVar 3 ((wipeE ([Sl.sh (dctD (rkD p)), .sh (dctD (rkD q)), .un, .un].set 2 .un) [3]).set 3 (.sh (.int i))) noX (fun kd => ∃ key, kd = kD key ∧ k (some (key, d))) := fun d e => by
        subst e
        exact var_go (List.getElem?_set_self (by simp [wipeE])) ⟨.inl i, rfl, hk⟩
      show if leO (lookR p i) (lookR q i) = true then _ else _
      by_cases hl : leO (lookR p i) (lookR q i) = true
      · rw [if_pos hl]
        exact get_go h1 rfl (List.getElem?_set_self (by simp [wipeE])) ip (fin _ (by unfold less; rw [if_pos hl]))
      · rw [if_neg hl]
        exact get_go h2 rfl (List.getElem?_set_self (by simp [wipeE])) iq (fin _ (by unfold less; rw [if_neg hl]))
    · rw [decide_eq_false iq] at hk ⊢
      exact hk
  · rw [List.nil_append]
    have e : ((bothK (p.map (·.1)) q).map fun i => ((Sum.inl i : Key), wD (less (lookR p i) (lookR q i)))) = rkD (lesR p q) := by
      unfold rkD lesR
      rw [List.map_map]
      rfl
    rw [show (List.map (fun x => ((Sum.inl x : Key), wD (less (lookR p x) (lookR q x)))) (List.filter (fun i => decide (i ∈ List.map (fun x => x.fst) q)) (List.map (fun x => x.fst) p))) = rkD (lesR p q) from e]
    exact k
theorem undlaw_E {p q : Rs} (h1 : GRs p) (h2 : GRs q) (k : post (.bl (undL p q))) : f_law_under M [dctD (rkD p), dctD (rkD q)] xp post := by
  have l := h1.len
  unfold f_law_under runF
  refine ⟨rfl, ret_go (op_go (lst_go ?_))⟩
  unfold dLc dKeys
  refine var_go rfl ⟨_, rfl, by rw [List.length_map, List.length_map]; omega, ?_⟩
  have ek : (rkD p).map (fun kv => kD kv.1) = (p.map (·.1)).map D.int := by rw [List.map_map, List.map_map]; rfl
  rw [ek]
  refine dc_filter (g := D.int) (c := fun i => !(decide (i ∈ q.map (·.1)) && leO (lookR p i) (lookR q i))) (p.map (·.1)) _ (fun i ip k hk => ?_) ?_
  · refine one_F (a := .int i) (c := !(decide (i ∈ q.map (·.1)) && leO (lookR p i) (lookR q i))) (fun r hr => ?_) (fun r hr => var_go (List.getElem?_set_self (by simp [wipeE])) hr) hk
    unfold dOr
    refine test_go ?_
    unfold dInK
    refine var_go (List.getElem?_set_self (by simp [wipeE])) (var_go rfl ⟨_, .inl i, rfl, rfl, ?_⟩)
    rw [inK_any]
    by_cases iq : i ∈ q.map (·.1)
    · rw [decide_eq_true iq] at hr ⊢
      show if ((true != true) = true) then _ else _
      rw [if_neg (by decide)]
      unfold dNot
      refine test_go (callA (cons_go (get_go h1 rfl (List.getElem?_set_self (by simp [wipeE])) ip (cons_go (get_go h2 rfl (List.getElem?_set_self (by simp [wipeE])) iq (nil_go (most_E ?_)))))))
      simpa using hr
    · rw [decide_eq_false iq] at hr ⊢
      exact hr
  · refine lst_go ⟨by decide, ?_⟩
    have py : ((List.filter (fun i => !(decide (i ∈ q.map (·.1)) && leO (lookR p i) (lookR q i))) (p.map (·.1))).map D.int).all (pyB 63) = true := by
      rw [List.all_map, List.all_eq_true]
      intro n _
      simp
    refine ⟨pyOk_lst.mpr py, pyOk_lst.mpr rfl, ?_⟩
    rw [eqD_lst]
    have e : eqA ((List.filter (fun i => !(decide (i ∈ q.map (·.1)) && leO (lookR p i) (lookR q i))) (p.map (·.1))).map D.int) [] = undL p q := by
      unfold undL undK
      generalize p.map (·.1) = ns
      induction ns with
      | nil => rfl
      | cons n ns ih =>
        cases hc : (decide (n ∈ q.map (·.1)) && leO (lookR p n) (lookR q n)) with
        | true => rw [List.filter_cons_of_neg (by simp [hc]), ih, List.all_cons, hc, Bool.true_and]
        | false => rw [List.filter_cons_of_pos (by simp [hc]), List.map_cons, eqA_cn, List.all_cons, hc, Bool.false_and]
    rw [e]
    exact k
end DLlaw

set_option Elab.async false
set_option linter.all false
set_option maxRecDepth 100000
set_option maxHeartbeats 1000000
namespace DLlaw
open PySem L2 DL DX
variable {M : MM} {xp : XP} {post : D → Prop} {d : D}
/-! one pair of forms -/
theorem v_go {env : SEnv} {i : Nat} {x : D} (h : env[i]? = some (.sh x)) : ∀ P : D → Prop, P x → dVar i env xp P := fun P q => var_go h q
theorem own_go {env : SEnv} {dl dr : DE} {p q : Rs} (h1 : GRs p) (h2 : GRs q) (hl : ∀ P : D → Prop, P (formD p) → dl env xp P) (hr : ∀ P : D → Prop, P (formD q) → dr env xp P) : ∀ P : D → Prop, P (formD (andR p q)) → dOwnO 2 2 (f_Form_and M) dl dr env xp P := fun P k => by
  unfold dOwnO
  exact hl _ (hr _ ⟨⟨_, rfl⟩, ⟨_, rfl⟩, and_E h1 h2 k⟩)
theorem und_go {env : SEnv} {i : Nat} {dr : DE} {p q : Rs} (h1 : GRs p) (h2 : GRs q) (hi : env[i]? = some (.sh (formD p))) (hr : ∀ P : D → Prop, P (formD q) → dr env xp P) : ∀ P : D → Prop, P (.bl (undR p q)) → dMeth 2 "is_under" (f_Form_is_under M) [] (dVar i) (dCons dr dNil) env xp P := fun P k => by
  unfold dMeth
  exact var_go hi ⟨_, rfl, lu_no, cons_go (hr _ (nil_go (under_E h1 h2 k)))⟩
theorem eq_go {env : SEnv} {neg : Bool} {dl dr : DE} {p q : Rs} (hl : ∀ P : D → Prop, P (formD p) → dl env xp P) (hr : ∀ P : D → Prop, P (formD q) → dr env xp P) : ∀ P : D → Prop, P (.bl (sameB (srt p) (srt q) != neg)) → dOp (bOwnEq 2 (f_Form_eq M) neg) dl dr env xp P := fun P k => op_go (hl _ (hr _ (form_eq k)))
theorem neB {b : Bool} {k : D → Prop} (h : k (.bl false)) : bNe (.bl b) (.bl b) k := ⟨by simp, by simp, by cases b <;> exact h⟩
theorem pair_E {p q : Rs} (h1 : GRs p) (h2 : GRs q) (k : post (.bl true)) : f_law_pair_right M [formD p, formD q, dctD (rkD p), dctD (rkD q)] xp post := by
  have h12 := h1.and h2
  unfold f_law_pair_right runF
  refine ⟨rfl, ?_⟩
  unfold b_law_pair_right
  refine seq_go (asg_go (own_go h1 h2 (v_go rfl) (v_go rfl) _ ?_))
  show r_law_pair_right_4 M _ xp [.sh (formD p), .sh (formD q), .sh (dctD (rkD p)), .sh (dctD (rkD q)), .sh (formD (andR p q))]
  unfold r_law_pair_right_4
  refine seq_go (orF_go (fun r hr => test_go (op_go (call1 rfl (read_E h12 ?_)))) (fun r hr => test_go (eq_go (v_go rfl) (own_go h2 h1 (v_go rfl) (v_go rfl)) _ ?_)) ?_)
  · refine call2 rfl rfl (lesser_E h1 h2 ?_)
    refine ⟨_, _, rfl, rfl, py_w, py_w, ?_⟩
    rw [eqK_R, (same_iff h12.srt (h1.les h2)).mpr fun i => by rw [val_srt, val_and, val_les]]
    exact hr
  · rw [(same_iff h12.srt (h2.and h1).srt).mpr fun i => by rw [val_srt, val_srt, val_and, val_and, vless_comm]]
    exact hr
  · show r_law_pair_right_3 M _ xp [.sh (formD p), .sh (formD q), .sh (dctD (rkD p)), .sh (dctD (rkD q)), .sh (formD (andR p q))]
    unfold r_law_pair_right_3
    refine seq_go (ifN_go (fun r hr => ?_) ?_)
    · refine test_go (op_go ?_)
      refine und_go h1 h2 rfl (v_go rfl) _ ?_
      refine call2 rfl rfl (undlaw_E h1 h2 ?_)
      rw [und_RL]
      exact neB hr
    · show r_law_pair_right_2 M _ xp [.sh (formD p), .sh (formD q), .sh (dctD (rkD p)), .sh (dctD (rkD q)), .sh (formD (andR p q))]
      unfold r_law_pair_right_2
      refine seq_go (ifN_go (fun r hr => ?_) ?_)
      · refine test_go (op_go ?_)
        refine eq_go (p := p) (q := q) (v_go rfl) (v_go rfl) _ ?_
        refine op_go (var_go rfl (var_go rfl ⟨_, _, rfl, rfl, py_w, py_w, ?_⟩))
        rw [eqK_R, same_congr h1.srt h2.srt h1 h2 (val_srt p) (val_srt q), Bool.bne_false]
        exact neB hr
      · show r_law_pair_right_1 M _ xp [.sh (formD p), .sh (formD q), .sh (dctD (rkD p)), .sh (dctD (rkD q)), .sh (formD (andR p q))]
        unfold r_law_pair_right_1
        refine ret_go ?_
        unfold dAndV
        refine und_go h12 h1 rfl (v_go rfl) _ ?_
        rw [and_und_l]
        refine und_go h12 h2 rfl (v_go rfl) _ ?_
        rw [and_und_r]
        refine op_go ?_
        refine eq_go (p := andR p q) (q := p) (v_go rfl) (v_go rfl) _ ?_
        refine call2 rfl rfl (undlaw_E h1 h2 ⟨by simp, by simp, ?_⟩)
        rw [and_is_l h1 h2, Bool.bne_false, eqD_bl, beq_self_eq_true]
        exact k
/-! the law -/
theorem nlK_rk (rs : Rs) : nlK (rkD rs) = true := by
  induction rs with
  | nil => rfl
  | cons r rs ih =>
    show (nlD (wD r.2) && nlK (rkD rs)) = true
    rw [ih]
    cases r.2 <;> rfl
theorem nl_rk (rs : Rs) : nlD (dctD (rkD rs)) = true := by
  have := nlK_rk rs
  cases rs with
  | nil => rfl
  | cons r rs => exact this
theorem nl_form (rs : Rs) : nlD (formD rs) = true := by
  show (nlD (dctD (keptR rs)) && nlF []) = true
  rw [kept_srt, nl_rk]
  rfl
theorem notInt (rs : Rs) : isIntD (dctD (rkD rs)) = false := by cases rs <;> rfl
theorem ed_ok {p : Rs} (h : GRs p) {k : Bool → Prop} (hk : k true) : edDct (dctD (rkD (srt p))) (dctD (rkD p)) k :=
  ⟨_, _, rfl, rfl, py_w, py_w, fun _ => hk, by rw [eqK_R, (same_iff h.srt h).mpr fun i => val_srt p i]; exact hk⟩
abbrev EV (a : Addr) (kk : Int) (ds fs : List D) (x y o t h : Sl) : SEnv := [.is a, .sh (.int kk), .sh .tok, .ow ds, .sh (.lst fs), x, y, o, t, h, .un, .un, .un, .un]
abbrev R3 (r0 r1 r2 : Rs) : List D := [dctD (rkD r0), dctD (rkD r1), dctD (rkD r2)]
abbrev F3 (r0 r1 r2 : Rs) : List D := [formD r0, formD r1, formD r2]
theorem R3_no (r0 r1 r2 : Rs) : ∃ d ∈ R3 r0 r1 r2, isIntD d = false := ⟨_, by simp, notInt r0⟩
section
variable {DD : DEnds} {a : Addr} {kk : Int} {ds fs : List D} {x y o t h : Sl} {r0 r1 r2 p q : Rs} {i j : Int}
theorem r2_D (h1 : GRs p) (h2 : GRs q) (hn : ∃ d ∈ ds, isIntD d = false) (e1 : atI fs i = some (formD p)) (e2 : atI fs j = some (formD q)) (e3 : atI ds i = some (dctD (rkD p))) (e4 : atI ds j = some (dctD (rkD q))) (k : DD.nx (EV a kk ds fs (.sh (.int i)) (.sh (.int j)) o t h)) : r_law_2 M DD noX (EV a kk ds fs (.sh (.int i)) (.sh (.int j)) o t h) := by
  unfold r_law_2
  refine ifN_go (fun r hr => ?_) k
  unfold dNot
  refine test_go ?_
  unfold dWith
  refine ⟨ds, rfl, hn, callA ?_⟩
  refine cons_go (op_go (var_go rfl (var_go rfl (bIx_go e1 ?_))))
  refine cons_go (op_go (var_go rfl (var_go rfl (bIx_go e2 ?_))))
  refine cons_go (op_go (var_go rfl (var_go rfl (bIx_go e3 ?_))))
  refine cons_go (op_go (var_go rfl (var_go rfl (bIx_go e4 (nil_go ?_)))))
  exact pair_E h1 h2 ⟨rfl, hr⟩
theorem r3_D (g0 : GRs r0) (g1 : GRs r1) (g2 : GRs r2) (h1 : GRs p) (e1 : atI (F3 r0 r1 r2) i = some (formD p)) (e3 : atI (R3 r0 r1 r2) i = some (dctD (rkD p))) (k : ∀ y, DD.nx (EV a kk (R3 r0 r1 r2) (F3 r0 r1 r2) (.sh (.int i)) y o t h)) : r_law_3 M DD noX (EV a kk (R3 r0 r1 r2) (F3 r0 r1 r2) (.sh (.int i)) y o t h) := by
  have hn := R3_no r0 r1 r2
  unfold r_law_3 dFor dRng1
  refine cons_go (dC_go (nil_go ⟨by decide, by decide, ?_⟩))
  show dforL (dgName 6) (r_law_2 M) [.int 0, .int 1, .int 2] DD noX _
  refine for_cons (r2_D h1 g0 hn e1 rfl e3 rfl ?_)
  show dforL (dgName 6) (r_law_2 M) [.int 1, .int 2] DD noX _
  refine for_cons (r2_D h1 g1 hn e1 rfl e3 rfl ?_)
  show dforL (dgName 6) (r_law_2 M) [.int 2] DD noX _
  refine for_cons (r2_D h1 g2 hn e1 rfl e3 rfl ?_)
  show dforL (dgName 6) (r_law_2 M) [] DD noX _
  exact for_nil (k _)
theorem r4_D (g : ∀ r ∈ [r0, r1, r2], GRs r) (k : DD.nx (EV a kk (R3 r0 r1 r2) (F3 r0 r1 r2) x y o t h)) : r_law_4 M DD noX (EV a kk (R3 r0 r1 r2) (F3 r0 r1 r2) x y o t h) := by
  unfold r_law_4
  refine ifN_go (fun r hr => ?_) k
  unfold dWithT
  refine ⟨_, rfl, R3_no r0 r1 r2, test_go (op_go (lst_go ?_))⟩
  unfold dLc dSeqL
  refine var_go rfl ⟨by simp, ?_⟩
  refine dc_all (f := formD) (g := fun r => dctD (rkD (srt r))) [r0, r1, r2] _ (fun r hr k hk => one_X (call1 (List.getElem?_set_self (by simp [wipeE])) (read_E (g r hr) hk))) (var_go rfl ⟨_, _, rfl, rfl, .inr ⟨rfl, ?_⟩⟩)
  refine ed_ok (g r0 (by simp)) ?_
  show if true = true then _ else _
  rw [if_pos rfl]
  refine ed_ok (g r1 (by simp)) ?_
  show if true = true then _ else _
  rw [if_pos rfl]
  refine ed_ok (g r2 (by simp)) ?_
  exact hr
theorem r5_D (g : ∀ r ∈ [r0, r1, r2], GRs r) (k : DD.nx (EV a kk (R3 r0 r1 r2) (F3 r0 r1 r2) x y (.sh (formD r0)) (.sh (formD r1)) (.sh (formD r2)))) : r_law_5 M DD noX (EV a kk (R3 r0 r1 r2) (F3 r0 r1 r2) x y (.sh (formD r0)) (.sh (formD r1)) (.sh (formD r2))) := by
  have g0 := g r0 (by simp)
  have g1 := g r1 (by simp)
  have g2 := g r2 (by simp)
  unfold r_law_5
  refine seq_go (ifN_go (fun r hr => ?_) ?_)
  rotate_left
  · exact r4_D g k
  unfold dAnd dNot
  refine test_go (und_go g2 g0 rfl (v_go rfl) _ ?_)
  show if undR r2 r0 = true then _ else _
  by_cases c0 : undR r2 r0 = true
  · rw [if_pos c0]
    refine test_go (und_go g2 g1 rfl (v_go rfl) _ ?_)
    show if undR r2 r1 = true then _ else _
    by_cases c1 : undR r2 r1 = true
    · rw [if_pos c1]
      refine test_go (und_go g2 (g0.and g1) rfl (own_go g0 g1 (v_go rfl) (v_go rfl)) _ ?_)
      rw [und_and c0 c1]
      exact hr
    · rw [if_neg c1]
      exact hr
  · rw [if_neg c0]
    exact hr
theorem r7_D (g : ∀ r ∈ [r0, r1, r2], GRs r) (k : DD.nx (EV a kk (R3 r0 r1 r2) (F3 r0 r1 r2) x y (.sh (formD r0)) (.sh (formD r1)) (.sh (formD r2)))) : r_law_7 M DD noX (EV a kk (R3 r0 r1 r2) (F3 r0 r1 r2) x y (.sh (formD r0)) (.sh (formD r1)) (.sh (formD r2))) := by
  have g0 := g r0 (by simp)
  have g1 := g r1 (by simp)
  have g2 := g r2 (by simp)
  unfold r_law_7
  refine seq_go (ifN_go (fun r hr => test_go (eq_go (own_go (g0.and g1) g2 (own_go g0 g1 (v_go rfl) (v_go rfl)) (v_go rfl)) (own_go g0 (g1.and g2) (v_go rfl) (own_go g1 g2 (v_go rfl) (v_go rfl))) _ ?_)) ?_)
  · rw [(same_iff ((g0.and g1).and g2).srt (g0.and (g1.and g2)).srt).mpr fun i => by rw [val_srt, val_srt, val_and, val_and, val_and, val_and, vless_assoc]]
    exact hr
  · show r_law_6 M DD noX (EV a kk (R3 r0 r1 r2) (F3 r0 r1 r2) x y (.sh (formD r0)) (.sh (formD r1)) (.sh (formD r2)))
    unfold r_law_6
    refine seq_go (ifN_go (fun r hr => ?_) ?_)
    rotate_left
    · exact r5_D g k
    refine test_go ?_
    refine eq_go (p := andR r0 r0) (q := r0) (own_go g0 g0 (v_go rfl) (v_go rfl)) (v_go rfl) _ ?_
    rw [(same_iff (g0.and g0).srt g0.srt).mpr fun i => by rw [val_srt, val_srt, val_and, vless_same]]
    exact hr
theorem r9_D (g : ∀ r ∈ [r0, r1, r2], GRs r) (k : ∀ x y o t h, DD.nx (EV a kk (R3 r0 r1 r2) (F3 r0 r1 r2) x y o t h)) : r_law_9 M DD noX (EV a kk (R3 r0 r1 r2) (F3 r0 r1 r2) x y o t h) := by
  have g0 := g r0 (by simp)
  have g1 := g r1 (by simp)
  have g2 := g r2 (by simp)
  have e8 : ∀ x y, r_law_8 M DD noX (EV a kk (R3 r0 r1 r2) (F3 r0 r1 r2) x y o t h) := fun x y => by
    unfold r_law_8
    refine seq_go ?_
    unfold dAsg
    exact var_go rfl ⟨rfl, r7_D g (k _ _ _ _ _)⟩
  unfold r_law_9
  refine seq_go ?_
  unfold dFor dRng1
  refine cons_go (dC_go (nil_go ⟨by decide, by decide, ?_⟩))
  show dforL (dgName 5) (r_law_3 M) [.int 0, .int 1, .int 2] _ noX _
  refine for_cons (r3_D g0 g1 g2 g0 rfl rfl fun y => ?_)
  show dforL (dgName 5) (r_law_3 M) [.int 1, .int 2] _ noX _
  refine for_cons (r3_D g0 g1 g2 g1 rfl rfl fun y => ?_)
  show dforL (dgName 5) (r_law_3 M) [.int 2] _ noX _
  refine for_cons (r3_D g0 g1 g2 g2 rfl rfl fun y => ?_)
  show dforL (dgName 5) (r_law_3 M) [] _ noX _
  exact for_nil (e8 _ _)
abbrev E0 (a : Addr) (kk : Int) (ds : List D) : SEnv := [.is a, .sh (.int kk), .sh .tok, .ow ds, .un, .un, .un, .un, .un, .un, .un, .un, .un, .un]
theorem r10_D (g : ∀ r ∈ [r0, r1, r2], GRs r) (k : ∀ x y o t h, DD.nx (EV a kk (R3 r0 r1 r2) (F3 r0 r1 r2) x y o t h)) : r_law_10 M DD noX (E0 a kk (R3 r0 r1 r2)) := by
  unfold r_law_10
  refine seq_go (asg_go (lst_go ?_))
  unfold dWithN
  refine ⟨_, rfl, R3_no r0 r1 r2, ?_⟩
  unfold dLc dSeqL
  refine var_go rfl ⟨by simp, ?_⟩
  refine dc_all (f := fun r => dctD (rkD r)) (g := formD) [r0, r1, r2] _ (fun r hr k hk => one_X (call1 (List.getElem?_set_self (by simp [wipeE])) (form_E (g r hr) hk))) ⟨?_, r9_D g k⟩
  show (nlD (formD r0) && (nlD (formD r1) && (nlD (formD r2) && true))) = true
  rw [nl_form, nl_form, nl_form]
  rfl
theorem r11_D (g : ∀ r ∈ [r0, r1, r2], GRs r) (k : ∀ ds fs x y o t h, DD.nx (EV a kk ds fs x y o t h)) : r_law_11 M DD noX (E0 a kk (R3 r0 r1 r2)) := by
  unfold r_law_11
  refine seq_go ?_
  unfold dIfS
  refine test_go (op_go (callA (cons_go (var_go rfl (cons_go (dC_go (nil_go ?_)))))))
  show fDraw [.tok, .int 4] noX _
  rw [draw_E (by decide) (by decide)]
  intro n n0 n1
  refine dC_go ⟨by simp, by simp, ?_⟩
  show if eqD (.int n) (.int 0) = true then _ else _
  split
  · unfold dSetIx dWith dCB
    refine ⟨_, rfl, R3_no r0 r1 r2, cons_go (op_go (var_go rfl (dC_go (bIx_go rfl (nil_go ⟨_, rfl, nl_rk r0, _, rfl, dC_go ⟨2, 2, rfl, rfl, ?_⟩⟩)))))⟩
    exact r10_D (r0 := r0) (r1 := r1) (r2 := r0) (fun r hr => g r (by simp at hr ⊢; rcases hr with h | h | h <;> simp [h])) fun _ _ _ _ _ => k _ _ _ _ _ _ _
  · exact next_go (r10_D g fun _ _ _ _ _ => k _ _ _ _ _ _ _)
theorem dc_dep {α β : Type} {one : D → (Option D → Prop) → Prop} {f : α → D} {g : α → β → D} {ok : β → Prop} : ∀ (xs : List α) (p : List D → Prop), (∀ x ∈ xs, ∀ k : Option D → Prop, (∀ b, ok b → k (some (g x b))) → one (f x) k) → (∀ bs : List β, bs.length = xs.length → (∀ b ∈ bs, ok b) → p ((xs.zip bs).map fun ab => g ab.1 ab.2)) → dcomp one (xs.map f) p
  | [], p, _, q => q [] rfl (by simp)
  | x :: xs, p, h, q => h x (by simp) _ fun b hb => dc_dep xs _ (fun y hy => h y (by simp [hy])) fun bs hl hbs => q (b :: bs) (by simp [hl]) (by
      intro c hc
      rcases List.mem_cons.mp hc with rfl | hc
      · exact hb
      · exact hbs c hc)
theorem r12_D (g : ∀ r ∈ [r0, r1, r2], GRs r) (k : ∀ ds fs x y o t h, DD.nx (EV a kk ds fs x y o t h)) : r_law_12 M DD noX (E0 a kk (R3 r0 r1 r2)) := by
  have g0 := g r0 (by simp)
  unfold r_law_12
  refine seq_go ?_
  unfold dIfS
  refine test_go (op_go (callA (cons_go (var_go rfl (cons_go (dC_go (nil_go ?_)))))))
  show fDraw [.tok, .int 2] noX _
  rw [draw_E (by decide) (by decide)]
  intro n n0 n1
  refine dC_go ⟨by simp, by simp, ?_⟩
  show if eqD (.int n) (.int 0) = true then _ else _
  split
  · unfold r_law_1 dSetIx dWith dCB
    refine ⟨_, rfl, R3_no r0 r1 r2, cons_go (lst_go ?_)⟩
    unfold dLc dKeys
    have l := g0.len
    refine op_go (var_go rfl (dC_go (bIx_go rfl ⟨_, rfl, by rw [List.length_map, List.length_map]; omega, ?_⟩)))
    have ek : (rkD r0).map (fun kv => kD kv.1) = (r0.map (·.1)).map D.int := by rw [List.map_map, List.map_map]; rfl
    rw [ek]
    refine dc_dep (g := fun i w => .tup [.int i, wD w]) (ok := okW) (r0.map (·.1)) _ (fun i hi k hk => one_X ?_) fun ws hl hw => ?_
    · exact tup_go (cons_go (var_go rfl (cons_go (call1 rfl (width_P fun w hw => nil_go ⟨by simp, hk w hw⟩)))))
    · have hf : ((r0.map (·.1)).zip ws).map (·.1) = r0.map (·.1) := List.map_fst_zip (by omega)
      have gz : GRs ((r0.map (·.1)).zip ws) := ⟨by rw [hf]; exact g0.nd, by rw [List.length_zip, List.length_map]; omega, fun r hr => hw _ (List.of_mem_zip hr).2⟩
      refine nil_go ⟨rkD ((r0.map (·.1)).zip ws), by unfold rkD; rw [List.map_map]; rfl, ?_⟩
      have e := merge_nd (ks := rkD ((r0.map (·.1)).zip ws)) [] (by simpa using kd_nd gz)
      unfold mergeKD
      rw [e, List.nil_append]
      refine ⟨nl_rk _, _, rfl, dC_go ⟨1, 1, rfl, rfl, ?_⟩⟩
      exact r11_D (r0 := r0) (r1 := (r0.map (·.1)).zip ws) (r2 := r2) (fun r hr => by
        simp only [List.mem_cons, List.not_mem_nil, or_false] at hr
        rcases hr with rfl | rfl | rfl
        · exact g0
        · exact gz
        · exact g _ (by simp)) k
  · exact next_go (r11_D g k)
end
theorem law_true (M : MM) : ∀ (a : Addr) (k : Int), b_law M { nx := fun env => env[0]? = some (.is a) ∧ env.length = 14, rt := fun d => d = .bl true } noX (.is a :: .sh (.int k) :: .sh .tok :: List.replicate 11 .un) := by
  intro a k
  unfold b_law
  refine seq_go ?_
  unfold dSetS slN dLc dRng1
  refine cons_go (dC_go (nil_go ⟨by decide, by decide, by decide, ?_⟩))
  refine dc_draw (g := fun rs => dctD (rkD rs)) (ok := GRs) (fun x k hk => one_X (call1 rfl (rows_P fun rs h => hk rs h))) _ _ fun rss hl hr => ?_
  match rss, hl, hr with
  | [r0, r1, r2], _, hr => exact r12_D hr fun _ _ _ _ _ _ _ => ⟨rfl, rfl⟩
end DLlaw


set_option Elab.async false
set_option linter.all false
set_option maxRecDepth 100000
set_option maxHeartbeats 4000000
namespace DLlaw
open PySem L2 DL DX
def topS (i : Nat) : Stmt := PySem.Challenge.pw_vectorwidths_k48_forms_compared.main.body.getD i (.Pass ⟨0, 0, 0, 0⟩)
def inS (i j : Nat) : Stmt := match topS i with
  | .ClassDef _ _ _ b .. => b.getD j (.Pass ⟨0, 0, 0, 0⟩)
  | _ => .Pass ⟨0, 0, 0, 0⟩
abbrev s_law_pool : Stmt := topS 12
abbrev s_law_draw : Stmt := topS 13
abbrev s_law_width : Stmt := topS 15
abbrev s_law_widths_by : Stmt := topS 16
abbrev s_is_integer : Stmt := topS 5
abbrev s_is_count : Stmt := topS 6
abbrev s_is_form : Stmt := topS 8
abbrev s_Form_init : Stmt := inS 10 0
abbrev s_Form_contains : Stmt := inS 10 7
abbrev s_Form_getitem : Stmt := inS 10 5
abbrev s_is_up_to : Stmt := topS 9
abbrev s_Form_and : Stmt := inS 10 8
abbrev s_Form_shifts : Stmt := inS 10 1
abbrev s_law_read : Stmt := topS 20
abbrev s_law_at_most : Stmt := topS 17
abbrev s_law_lesser : Stmt := topS 18
abbrev s_Form_eq : Stmt := inS 10 9
abbrev s_Form_is_under : Stmt := inS 10 2
abbrev s_law_under : Stmt := topS 19
abbrev s_law_pair_right : Stmt := topS 21
abbrev s_law : Stmt := topS 22
structure Tx (K : PySem.W.Frag) (mg : Str → Option Value) : Prop where
  b_all : mg "all" = none
  b_bool : mg "bool" = none
  b_dict : mg "dict" = none
  b_int : mg "int" = none
  b_isinstance : mg "isinstance" = none
  b_len : mg "len" = none
  b_list : mg "list" = none
  b_max : mg "max" = none
  b_min : mg "min" = none
  b_range : mg "range" = none
  b_sorted : mg "sorted" = none
  b_super : mg "super" = none
section
variable {P : Program} {w : World} {K : PySem.W.Frag} {mg : Str → Option Value} {base : Heap} {M : MM}
theorem sc_law_pool : FnScope ["script", "k", "cell", "great", "seed"] ["script", "k"] (defScope s_law_pool) := ⟨rfl, rfl, rfl, by decide +kernel, rfl, by decide +kernel, by decide +kernel⟩
theorem ok_law_pool {f : Addr} {fd : FuncData} (F : Fun K "_law_pool" "_law_pool" s_law_pool f fd) (T : Tx K mg) : FnOk P w K mg base (L2.CX P w) 1 f fd ["script", "k"] (spPool K) := okPool F sc_law_pool fun cdv A outer s H E =>
  (pss_cons (ps_set (i := 2) sc_law_pool.nd rfl (by first | exact Or.inl rfl | exact Or.inr rfl) pe_int)
  (pss_cons (ps_if (pt_cmpR op_lt (pv 1) (pe_callB call_len_seq (by rfl) T.b_len PySem.boot_len (pa_cons (pv 0) pa_nil)) (nomark _)) (pss_one (ps_set (i := 2) sc_law_pool.nd rfl (by first | exact Or.inl rfl | exact Or.inr rfl) (pe_ix ix_list (pv 0) (pv 1) (fun _ _ => rfl)))) pss_nil)
  (pss_cons (ps_set (i := 3) sc_law_pool.nd rfl (by first | exact Or.inl rfl | exact Or.inr rfl) (pe_callTy call_int1 (by rfl) T.b_int (by decide +kernel) (pa_cons (pv 2) pa_nil)))
  (pss_cons (ps_if (pt_cmpR op_lt (pv 3) (pe_op op_pow pe_int pe_int) (nomark _)) (pss_one (ps_set (i := 3) sc_law_pool.nd rfl (by first | exact Or.inl rfl | exact Or.inr rfl) pe_int)) pss_nil)
  (pss_cons (ps_set (i := 4) sc_law_pool.nd rfl (by first | exact Or.inl rfl | exact Or.inr rfl) (pe_op op_mod (pe_op op_pow (pe_op op_add (pe_op op_add (pe_op op_add (pe_op op_mod (pe_callTy call_int1 (by rfl) T.b_int (by decide +kernel) (pa_cons (pv 2) pa_nil)) pe_int) (pe_op op_mul (pe_op op_mul pe_int (pv 1)) (pv 1))) (pe_op op_mul pe_int (pv 1))) pe_int) pe_int) pe_int))
    (pss_one (ps_ret (pe_lst (pa_cons (pv 3) (pa_cons (pe_callTy call_int1 (by rfl) T.b_int (by decide +kernel) (pa_cons (pv 4) pa_nil)) pa_nil))))))))))
theorem sc_law_draw : FnScope ["pool", "many", "digit"] ["pool", "many"] (defScope s_law_draw) := ⟨rfl, rfl, rfl, by decide +kernel, rfl, by decide +kernel, by decide +kernel⟩
theorem ok_law_draw (hk : M.pk = true) {f : Addr} {fd : FuncData} (F : Fun K "_law_draw" "_law_draw" s_law_draw f fd) (T : Tx K mg) : FnOk P w K mg base (L2.CX P w) 1 f fd ["pool", "many"] (spD K (WcOf M) fDraw) := okDraw2 hk F sc_law_draw fun cdv A outer s H E =>
  (pss_cons (ps_if (pt_cmpR op_gt (pe_ix ix_list (pv 0) pe_int (fun _ _ => rfl)) pe_int (nomark _))
    (pss_cons (ps_set (i := 2) sc_law_draw.nd rfl (by first | exact Or.inl rfl | exact Or.inr rfl) (pe_op op_mod (pe_callTy call_int1 (by rfl) T.b_int (by decide +kernel) (pa_cons (pe_ix ix_list (pv 0) pe_int (fun _ _ => rfl)) pa_nil)) (pv 1)))
    (pss_cons (ps_asg (pe_op op_fdivW (pe_callTy call_int1 (by rfl) T.b_int (by decide +kernel) (pa_cons (pe_ix ix_list (pv 0) pe_int (fun _ _ => rfl)) pa_nil)) (pv 1)) (pg_sub (pv 0) pe_int set_list))
      (pss_one (ps_ret (pv 2))))) pss_nil)
  (pss_cons (ps_asg (pe_op op_mod (pe_callTy call_int1 (by rfl) T.b_int (by decide +kernel) (pa_cons (pe_op op_add (pe_op op_mul (pe_ix ix_list (pv 0) pe_int (fun _ _ => rfl)) pe_int) pe_int) pa_nil)) pe_int) (pg_sub (pv 0) pe_int set_list))
    (pss_one (ps_ret (pe_op op_mod (pe_op op_fdiv (pe_op op_mod (pe_callTy call_int1 (by rfl) T.b_int (by decide +kernel) (pa_cons (pe_op op_mul (pe_ix ix_list (pv 0) pe_int (fun _ _ => rfl)) (pe_ix ix_list (pv 0) pe_int (fun _ _ => rfl))) pa_nil)) pe_int) pe_int) (pv 1))))))
theorem sc_law_width : FnScope ["pool"] ["pool"] (defScope s_law_width) := ⟨rfl, rfl, rfl, by decide +kernel, rfl, by decide +kernel, by decide +kernel⟩
theorem ok_law_width {f : Addr} {fd : FuncData} (F : Fun K "_law_width" "_law_width" s_law_width f fd) (T : Tx K mg) (c_law_draw : DefOk P w K (WcOf M) mg base 1 "_law_draw" ["pool", "many"] (f_law_draw M) []) : FnOk P w K mg base (L2.CX P w) 2 f fd ["pool"] (spD K (WcOf M) (f_law_width M)) := okD (k := 1) F sc_law_width fun cdv A outer s H E hr => by
    have pX : Passes (L2.CX P w) (cxOf (L2.CX P w) P w K mg base ["pool"] "_law_width" (defScope s_law_width) f cdv A outer s H E) E := passX
    have tk : Takes (cxOf (L2.CX P w) P w K mg base ["pool"] "_law_width" (defScope s_law_width) f cdv A outer s H E) (fun cls d _ H' => E cls d H') := takes_of rfl rfl rfl rfl
    have hu : (A.deeper (PyProof.Rows.envOfC "_law_width" (defScope s_law_width) s.heap.objs.size f cdv)).units + 65 < cLine := by have := hr.un; omega
    have hu1 : (A.deeper (PyProof.Rows.envOfC "_law_width" (defScope s_law_width) s.heap.objs.size f cdv)).units + 1 < cLine := by have := hr.un; omega
    have hu2 : (A.deeper (PyProof.Rows.envOfC "_law_width" (defScope s_law_width) s.heap.objs.size f cdv)).units + 66 < cLine := by have := hr.un; omega
    exact ⟨_, (pdss_one (pds_ret (pd_ix K (PDN.pd (pdn_lst (pda_cons pd_non (pda_cons pd_int (pda_cons pd_int (pda_cons pd_int (pda_cons pd_int (pda_cons (pd_op op_pow rb_pow pd_int pd_int) pda_nil)))))))) (pd_callD c_law_draw pX (pda_cons (pd_var 0) (pda_cons pd_int pda_nil))))))⟩
theorem sc_law_widths_by : FnScope ["pool", "turn"] ["pool"] (defScope s_law_widths_by) := ⟨rfl, rfl, rfl, by decide +kernel, rfl, by decide +kernel, by decide +kernel⟩
theorem ok_law_widths_by {f : Addr} {fd : FuncData} (F : Fun K "_law_widths_by" "_law_widths_by" s_law_widths_by f fd) (T : Tx K mg) (c_law_draw : DefOk P w K (WcOf M) mg base 1 "_law_draw" ["pool", "many"] (f_law_draw M) []) (c_law_width : DefOk P w K (WcOf M) mg base 2 "_law_width" ["pool"] (f_law_width M) []) : FnOk P w K mg base (L2.CX P w) 3 f fd ["pool"] (spD K (WcOf M) (f_law_widths_by M)) := okD (k := 2) F sc_law_widths_by fun cdv A outer s H E hr => by
    have pX : Passes (L2.CX P w) (cxOf (L2.CX P w) P w K mg base ["pool", "turn"] "_law_widths_by" (defScope s_law_widths_by) f cdv A outer s H E) E := passX
    have tk : Takes (cxOf (L2.CX P w) P w K mg base ["pool", "turn"] "_law_widths_by" (defScope s_law_widths_by) f cdv A outer s H E) (fun cls d _ H' => E cls d H') := takes_of rfl rfl rfl rfl
    have hu : (A.deeper (PyProof.Rows.envOfC "_law_widths_by" (defScope s_law_widths_by) s.heap.objs.size f cdv)).units + 65 < cLine := by have := hr.un; omega
    have hu1 : (A.deeper (PyProof.Rows.envOfC "_law_widths_by" (defScope s_law_widths_by) s.heap.objs.size f cdv)).units + 1 < cLine := by have := hr.un; omega
    have hu2 : (A.deeper (PyProof.Rows.envOfC "_law_widths_by" (defScope s_law_widths_by) s.heap.objs.size f cdv)).units + 66 < cLine := by have := hr.un; omega
    exact ⟨_, (pdss_one (pds_ret (pd_callTy (cr_dictP K) rc_dictP (by rfl) T.b_dict (by decide +kernel) (pda_cons (PDN.pd (pdn_lc (own := [("turn", 1)]) rfl sc_law_widths_by.nd (pdi_range1 (by rfl) T.b_range (pda_cons (pd_callD c_law_draw pX (pda_cons (pd_var 0) (pda_cons pd_int pda_nil))) pda_nil)) (blkOk_by (N := ["pool", "turn"]) (sc := defScope s_law_widths_by) (by decide +kernel)) (fun _ _ _ _ _ => (pdg_name 1 sc_law_widths_by.nd)) (fun _ _ _ _ _ => pdts_nil) (fun _ _ _ _ _ => (pd_tup (pda_cons (pd_op op_sub rb_sub (pd_callD c_law_draw passL (pda_cons (pd_var 0) (pda_cons pd_int pda_nil))) pd_int) (pda_cons (pd_callD c_law_width passL (pda_cons (pd_var 0) pda_nil)) pda_nil)))) (by decide) (by intro _; rfl) s)) pda_nil))))⟩
theorem sc_is_integer : FnScope ["value"] ["value"] (defScope s_is_integer) := ⟨rfl, rfl, rfl, by decide +kernel, rfl, by decide +kernel, by decide +kernel⟩
theorem ok_is_integer {f : Addr} {fd : FuncData} (F : Fun K "is_integer" "is_integer" s_is_integer f fd) (T : Tx K mg)  : FnOk P w K mg base (L2.CX P w) 1 f fd ["value"] (spD K (WcOf M) (f_is_integer M)) := okD (k := 0) F sc_is_integer fun cdv A outer s H E hr => by
    have pX : Passes (L2.CX P w) (cxOf (L2.CX P w) P w K mg base ["value"] "is_integer" (defScope s_is_integer) f cdv A outer s H E) E := passX
    have tk : Takes (cxOf (L2.CX P w) P w K mg base ["value"] "is_integer" (defScope s_is_integer) f cdv A outer s H E) (fun cls d _ H' => E cls d H') := takes_of rfl rfl rfl rfl
    have hu : (A.deeper (PyProof.Rows.envOfC "is_integer" (defScope s_is_integer) s.heap.objs.size f cdv)).units + 65 < cLine := by have := hr.un; omega
    have hu1 : (A.deeper (PyProof.Rows.envOfC "is_integer" (defScope s_is_integer) s.heap.objs.size f cdv)).units + 1 < cLine := by have := hr.un; omega
    have hu2 : (A.deeper (PyProof.Rows.envOfC "is_integer" (defScope s_is_integer) s.heap.objs.size f cdv)).units + 66 < cLine := by have := hr.un; omega
    exact ⟨_, (pdss_one (pds_ret (pd_and (pd_isi K .int (by rfl) T.b_isinstance (pe_bltn (by rfl) T.b_int (by decide +kernel) rfl) (pd_var 0)) (pd_one (pd_not (pd_isi K .bool (by rfl) T.b_isinstance (pe_bltn (by rfl) T.b_bool (by decide +kernel) rfl) (pd_var 0)))))))⟩
theorem sc_is_count : FnScope ["value"] ["value"] (defScope s_is_count) := ⟨rfl, rfl, rfl, by decide +kernel, rfl, by decide +kernel, by decide +kernel⟩
theorem ok_is_count {f : Addr} {fd : FuncData} (F : Fun K "is_count" "is_count" s_is_count f fd) (T : Tx K mg) (c_is_integer : DefOk P w K (WcOf M) mg base 1 "is_integer" ["value"] (f_is_integer M) []) : FnOk P w K mg base (L2.CX P w) 2 f fd ["value"] (spD K (WcOf M) (f_is_count M)) := okD (k := 1) F sc_is_count fun cdv A outer s H E hr => by
    have pX : Passes (L2.CX P w) (cxOf (L2.CX P w) P w K mg base ["value"] "is_count" (defScope s_is_count) f cdv A outer s H E) E := passX
    have tk : Takes (cxOf (L2.CX P w) P w K mg base ["value"] "is_count" (defScope s_is_count) f cdv A outer s H E) (fun cls d _ H' => E cls d H') := takes_of rfl rfl rfl rfl
    have hu : (A.deeper (PyProof.Rows.envOfC "is_count" (defScope s_is_count) s.heap.objs.size f cdv)).units + 65 < cLine := by have := hr.un; omega
    have hu1 : (A.deeper (PyProof.Rows.envOfC "is_count" (defScope s_is_count) s.heap.objs.size f cdv)).units + 1 < cLine := by have := hr.un; omega
    have hu2 : (A.deeper (PyProof.Rows.envOfC "is_count" (defScope s_is_count) s.heap.objs.size f cdv)).units + 66 < cLine := by have := hr.un; omega
    exact ⟨_, (pdss_one (pds_ret (pd_and (pd_callD c_is_integer pX (pda_cons (pd_var 0) pda_nil)) (pd_one (pd_cmp op_ge rb_ge (pd_var 0) pd_int (nomark _))))))⟩
theorem sc_is_form : FnScope ["value", "width", "shift"] ["value"] (defScope s_is_form) := ⟨rfl, rfl, rfl, by decide +kernel, rfl, by decide +kernel, by decide +kernel⟩
theorem ok_is_form {f : Addr} {fd : FuncData} (F : Fun K "is_form" "is_form" s_is_form f fd) (T : Tx K mg) (c_is_integer : DefOk P w K (WcOf M) mg base 1 "is_integer" ["value"] (f_is_integer M) []) (c_is_count : DefOk P w K (WcOf M) mg base 2 "is_count" ["value"] (f_is_count M) []) : FnOk P w K mg base (L2.CX P w) 3 f fd ["value"] (spD K (WcOf M) (f_is_form M)) := okD (k := 2) F sc_is_form fun cdv A outer s H E hr => by
    have pX : Passes (L2.CX P w) (cxOf (L2.CX P w) P w K mg base ["value", "width", "shift"] "is_form" (defScope s_is_form) f cdv A outer s H E) E := passX
    have tk : Takes (cxOf (L2.CX P w) P w K mg base ["value", "width", "shift"] "is_form" (defScope s_is_form) f cdv A outer s H E) (fun cls d _ H' => E cls d H') := takes_of rfl rfl rfl rfl
    have hu : (A.deeper (PyProof.Rows.envOfC "is_form" (defScope s_is_form) s.heap.objs.size f cdv)).units + 65 < cLine := by have := hr.un; omega
    have hu1 : (A.deeper (PyProof.Rows.envOfC "is_form" (defScope s_is_form) s.heap.objs.size f cdv)).units + 1 < cLine := by have := hr.un; omega
    have hu2 : (A.deeper (PyProof.Rows.envOfC "is_form" (defScope s_is_form) s.heap.objs.size f cdv)).units + 66 < cLine := by have := hr.un; omega
    exact ⟨_, (pdss_cons (pds_if (PDW.pt (pdw_or (pdt_not (pdt_val (pd_isi K .dict (by rfl) T.b_isinstance (pe_bltn (by rfl) T.b_dict (by decide +kernel) rfl) (pd_var 0)))) (pdw_or1 (pdt_not (pdt_val (pd_callB (cr_allK K) rc_all (by rfl) T.b_all (by decide +kernel) (pda_cons (PDN.pd (pdn_lc (own := [("shift", 2)]) rfl sc_is_form.nd (pdi_keys (pd_var 0)) (blkOk_by (N := ["value", "width", "shift"]) (sc := defScope s_is_form) (by decide +kernel)) (fun _ _ _ _ _ => (pdg_name 2 sc_is_form.nd)) (fun _ _ _ _ _ => pdts_nil) (fun _ _ _ _ _ => (pd_callD c_is_integer passL (pda_cons (pd_var 2) pda_nil))) (by decide) (by intro _; rfl) s)) pda_nil))))))) (pdss_one (pds_ret pd_bl)) pdss_nil)
      (pdss_one (pds_ret (pd_callB (cr_allK K) rc_all (by rfl) T.b_all (by decide +kernel) (pda_cons (PDN.pd (pdn_lc (own := [("width", 1)]) rfl sc_is_form.nd (pdi_vals (pd_var 0)) (blkOk_by (N := ["value", "width", "shift"]) (sc := defScope s_is_form) (by decide +kernel)) (fun _ _ _ _ _ => (pdg_name 1 sc_is_form.nd)) (fun _ _ _ _ _ => pdts_nil) (fun _ _ _ _ _ => (pd_or (pd_isN (pd_var 1)) (pd_one (pd_callD c_is_count passL (pda_cons (pd_var 1) pda_nil))))) (by decide) (by intro _; rfl) s)) pda_nil)))))⟩
theorem sc_Form_init : FnScope ["self", "values", "shift"] ["self", "values"] (defScope s_Form_init) := ⟨rfl, rfl, rfl, by decide +kernel, rfl, by decide +kernel, by decide +kernel⟩
theorem ok_Form_init {f : Addr} {fd : FuncData} (F : Fn2 K "__init__" "Form.__init__" s_Form_init f fd) (T : Tx K mg) (hcl : ∀ C, (WcOf M).M 2 = some C → Cls K C) (h_Form_kept_widths : FldOk K (WcOf M) 2 "kept_widths") (c_is_form : DefOk P w K (WcOf M) mg base 3 "is_form" ["value"] (f_is_form M) []) (e_InvalidNumber : ErrOk P K (WcOf M) mg "InvalidNumber" 1 "value") : FnOk P w K mg base (L2.CX P w) 4 f fd ["self", "values"] (spI K (WcOf M) 2 (f_Form_init M)) := okI (k := 3) (N := ["values", "shift"]) (ps := ["values"]) F sc_Form_init hcl fun cdv A outer s H E hr => by
    have pX : Passes (L2.CX P w) (cxOf (L2.CX P w) P w K mg base ["self", "values", "shift"] "Form.__init__" (defScope s_Form_init) f cdv A outer s H E) E := passX
    have tk : Takes (cxOf (L2.CX P w) P w K mg base ["self", "values", "shift"] "Form.__init__" (defScope s_Form_init) f cdv A outer s H E) (fun cls d _ H' => E cls d H') := takes_of rfl rfl rfl rfl
    have hu : (A.deeper (PyProof.Rows.envOfC "Form.__init__" (defScope s_Form_init) s.heap.objs.size f cdv)).units + 65 < cLine := by have := hr.un; omega
    have hu1 : (A.deeper (PyProof.Rows.envOfC "Form.__init__" (defScope s_Form_init) s.heap.objs.size f cdv)).units + 1 < cLine := by have := hr.un; omega
    have hu2 : (A.deeper (PyProof.Rows.envOfC "Form.__init__" (defScope s_Form_init) s.heap.objs.size f cdv)).units + 66 < cLine := by have := hr.un; omega
    have b : PIB (cxOf (L2.CX P w) P w K mg base ["self", "values", "shift"] "Form.__init__" (defScope s_Form_init) f cdv A outer s H E) K (WcOf M) E 2 (defBody s_Form_init) _ (b_Form_init M) :=
      (pib_cons (pds_if (pdt_not (pdt_val (pd_callD c_is_form pX (pda_cons (pd_var 1) pda_nil)))) (pdss_one (pds_raiseD e_InvalidNumber rfl tk T.b_super (pda_cons (pd_var 1) pda_nil))) pdss_nil)
      (pib_tail (pit_cons h_Form_kept_widths (pd_dc (own := [("shift", 2)]) rfl sc_Form_init.nd (pdi_list K (pd_callB (cr_sortDI rfl) rc_sortDI (by rfl) T.b_sorted (by decide +kernel) (pda_cons (pd_var 1) pda_nil))) (blkOk_by (N := ["self", "values", "shift"]) (sc := defScope s_Form_init) (by decide +kernel)) (fun _ _ _ _ _ => (pdg_name 2 sc_Form_init.nd)) (fun _ _ _ _ _ => pdts_nil) (fun _ _ _ _ _ => (pd_var 2)) (fun _ _ _ _ _ => (pd_dgetK hu1 (pd_var 1) (pd_var 2))) (by decide) (by intro _; rfl) s) pit_nil)))
    exact ⟨_, b.pe, b.se⟩
theorem sc_Form_contains : FnScope ["self", "x"] ["self", "x"] (defScope s_Form_contains) := ⟨rfl, rfl, rfl, by decide +kernel, rfl, by decide +kernel, by decide +kernel⟩
theorem ok_Form_contains {f : Addr} {fd : FuncData} (F : Fun K "__contains__" "Form.__contains__" s_Form_contains f fd) (T : Tx K mg) (c_is_integer : DefOk P w K (WcOf M) mg base 1 "is_integer" ["value"] (f_is_integer M) []) (h_Form_kept_widths : FldOk K (WcOf M) 2 "kept_widths") : FnOk P w K mg base (L2.CX P w) 2 f fd ["self", "x"] (spD K (WcOf M) (f_Form_contains M)) := okD (k := 1) F sc_Form_contains fun cdv A outer s H E hr => by
    have pX : Passes (L2.CX P w) (cxOf (L2.CX P w) P w K mg base ["self", "x"] "Form.__contains__" (defScope s_Form_contains) f cdv A outer s H E) E := passX
    have tk : Takes (cxOf (L2.CX P w) P w K mg base ["self", "x"] "Form.__contains__" (defScope s_Form_contains) f cdv A outer s H E) (fun cls d _ H' => E cls d H') := takes_of rfl rfl rfl rfl
    have hu : (A.deeper (PyProof.Rows.envOfC "Form.__contains__" (defScope s_Form_contains) s.heap.objs.size f cdv)).units + 65 < cLine := by have := hr.un; omega
    have hu1 : (A.deeper (PyProof.Rows.envOfC "Form.__contains__" (defScope s_Form_contains) s.heap.objs.size f cdv)).units + 1 < cLine := by have := hr.un; omega
    have hu2 : (A.deeper (PyProof.Rows.envOfC "Form.__contains__" (defScope s_Form_contains) s.heap.objs.size f cdv)).units + 66 < cLine := by have := hr.un; omega
    exact ⟨_, (pdss_one (pds_ret (pd_and (pd_callD c_is_integer pX (pda_cons (pd_var 1) pda_nil)) (pd_one (pd_inK hu1 (pd_var 1) (pd_fldD h_Form_kept_widths (pd_var 0)))))))⟩
theorem sc_Form_getitem : FnScope ["self", "at"] ["self", "at"] (defScope s_Form_getitem) := ⟨rfl, rfl, rfl, by decide +kernel, rfl, by decide +kernel, by decide +kernel⟩
theorem ok_Form_getitem {f : Addr} {fd : FuncData} (F : Fun K "__getitem__" "Form.__getitem__" s_Form_getitem f fd) (T : Tx K mg) (j_Form : InOk P w K (WcOf M) mg base 2 2 (f_Form_contains M)) (e_InvalidNumber : ErrOk P K (WcOf M) mg "InvalidNumber" 1 "value") (h_Form_kept_widths : FldOk K (WcOf M) 2 "kept_widths") : FnOk P w K mg base (L2.CX P w) 4 f fd ["self", "at"] (spD K (WcOf M) (f_Form_getitem M)) := okD (k := 3) F sc_Form_getitem fun cdv A outer s H E hr => by
    have pX : Passes (L2.CX P w) (cxOf (L2.CX P w) P w K mg base ["self", "at"] "Form.__getitem__" (defScope s_Form_getitem) f cdv A outer s H E) E := passX
    have tk : Takes (cxOf (L2.CX P w) P w K mg base ["self", "at"] "Form.__getitem__" (defScope s_Form_getitem) f cdv A outer s H E) (fun cls d _ H' => E cls d H') := takes_of rfl rfl rfl rfl
    have hu : (A.deeper (PyProof.Rows.envOfC "Form.__getitem__" (defScope s_Form_getitem) s.heap.objs.size f cdv)).units + 65 < cLine := by have := hr.un; omega
    have hu1 : (A.deeper (PyProof.Rows.envOfC "Form.__getitem__" (defScope s_Form_getitem) s.heap.objs.size f cdv)).units + 1 < cLine := by have := hr.un; omega
    have hu2 : (A.deeper (PyProof.Rows.envOfC "Form.__getitem__" (defScope s_Form_getitem) s.heap.objs.size f cdv)).units + 66 < cLine := by have := hr.un; omega
    exact ⟨_, (pdss_cons (pds_if (pdt_cmp (op_niD j_Form) (rb_oin (j_Form.ex.imp fun _ z => z.choose_spec.choose_spec.choose_spec.1)) (pd_var 1) (pd_var 0) (by rfl)) (pdss_one (pds_raiseD e_InvalidNumber rfl tk T.b_super (pda_cons (pd_var 1) pda_nil))) pdss_nil)
      (pdss_one (pds_ret (pd_dgetK hu1 (pd_fldD h_Form_kept_widths (pd_var 0)) (pd_var 1)))))⟩
theorem sc_is_up_to : FnScope ["one", "other"] ["one", "other"] (defScope s_is_up_to) := ⟨rfl, rfl, rfl, by decide +kernel, rfl, by decide +kernel, by decide +kernel⟩
theorem ok_is_up_to {f : Addr} {fd : FuncData} (F : Fun K "is_up_to" "is_up_to" s_is_up_to f fd) (T : Tx K mg)  : FnOk P w K mg base (L2.CX P w) 1 f fd ["one", "other"] (spD K (WcOf M) (f_is_up_to M)) := okD (k := 0) F sc_is_up_to fun cdv A outer s H E hr => by
    have pX : Passes (L2.CX P w) (cxOf (L2.CX P w) P w K mg base ["one", "other"] "is_up_to" (defScope s_is_up_to) f cdv A outer s H E) E := passX
    have tk : Takes (cxOf (L2.CX P w) P w K mg base ["one", "other"] "is_up_to" (defScope s_is_up_to) f cdv A outer s H E) (fun cls d _ H' => E cls d H') := takes_of rfl rfl rfl rfl
    have hu : (A.deeper (PyProof.Rows.envOfC "is_up_to" (defScope s_is_up_to) s.heap.objs.size f cdv)).units + 65 < cLine := by have := hr.un; omega
    have hu1 : (A.deeper (PyProof.Rows.envOfC "is_up_to" (defScope s_is_up_to) s.heap.objs.size f cdv)).units + 1 < cLine := by have := hr.un; omega
    have hu2 : (A.deeper (PyProof.Rows.envOfC "is_up_to" (defScope s_is_up_to) s.heap.objs.size f cdv)).units + 66 < cLine := by have := hr.un; omega
    exact ⟨_, (pdss_one (pds_ret (pd_or (pd_isN (pd_var 1)) (pd_one (pd_and (pd_notN (pd_var 0)) (pd_one (pd_cmp op_leA rb_le (pd_var 0) (pd_var 1) (nomark _))))))))⟩
theorem sc_Form_and : FnScope ["self", "other", "both", "shift"] ["self", "other"] (defScope s_Form_and) := ⟨rfl, rfl, rfl, by decide +kernel, rfl, by decide +kernel, by decide +kernel⟩
theorem ok_Form_and {f : Addr} {fd : FuncData} (F : Fun K "__and__" "Form.__and__" s_Form_and f fd) (T : Tx K mg) (h_Form_kept_widths : FldOk K (WcOf M) 2 "kept_widths") (j_Form : InOk P w K (WcOf M) mg base 2 2 (f_Form_contains M)) (u_Form : SubOk P w K (WcOf M) mg base 4 2 (f_Form_getitem M)) (c_is_up_to : DefOk P w K (WcOf M) mg base 1 "is_up_to" ["one", "other"] (f_is_up_to M) []) (n_Form : NewOk P w K (WcOf M) mg base 4 "Form" 2 (f_Form_init M) [] []) : FnOk P w K mg base (L2.CX P w) 6 f fd ["self", "other"] (spD K (WcOf M) (f_Form_and M)) := okD (k := 5) F sc_Form_and fun cdv A outer s H E hr => by
    have pX : Passes (L2.CX P w) (cxOf (L2.CX P w) P w K mg base ["self", "other", "both", "shift"] "Form.__and__" (defScope s_Form_and) f cdv A outer s H E) E := passX
    have tk : Takes (cxOf (L2.CX P w) P w K mg base ["self", "other", "both", "shift"] "Form.__and__" (defScope s_Form_and) f cdv A outer s H E) (fun cls d _ H' => E cls d H') := takes_of rfl rfl rfl rfl
    have hu : (A.deeper (PyProof.Rows.envOfC "Form.__and__" (defScope s_Form_and) s.heap.objs.size f cdv)).units + 65 < cLine := by have := hr.un; omega
    have hu1 : (A.deeper (PyProof.Rows.envOfC "Form.__and__" (defScope s_Form_and) s.heap.objs.size f cdv)).units + 1 < cLine := by have := hr.un; omega
    have hu2 : (A.deeper (PyProof.Rows.envOfC "Form.__and__" (defScope s_Form_and) s.heap.objs.size f cdv)).units + 66 < cLine := by have := hr.un; omega
    exact ⟨_, (pdss_cons (pds_setLc 2 (own := [("shift", 3)]) rfl sc_Form_and.nd (pdi_keys (pd_fldD h_Form_kept_widths (pd_var 0))) (blkOk_by (N := ["self", "other", "both", "shift"]) (sc := defScope s_Form_and) (by decide +kernel)) (fun _ _ _ _ _ => (pdg_name 3 sc_Form_and.nd)) (fun _ _ _ _ _ => (pdts_one (pdt_cmp (op_inD j_Form) (rb_oin (j_Form.ex.imp fun _ z => z.choose_spec.choose_spec.choose_spec.1)) (pd_var 3) (pd_var 1) (by rfl)))) (fun _ _ _ _ _ => (pd_var 3)) (by decide) (by intro _; rfl) s)
      (pdss_one (pds_ret (pd_newD n_Form pX (pda_cons (pd_dc (own := [("shift", 3)]) rfl sc_Form_and.nd (pdi_list K (pd_var 2)) (blkOk_by (N := ["self", "other", "both", "shift"]) (sc := defScope s_Form_and) (by decide +kernel)) (fun _ _ _ _ _ => (pdg_name 3 sc_Form_and.nd)) (fun _ _ _ _ _ => pdts_nil) (fun _ _ _ _ _ => (pd_var 3)) (fun _ _ _ _ _ => (pd_ifExp (pdt_val (pd_callD c_is_up_to passL (pda_cons (pd_subD (E := fun _ _ _ => False) u_Form passes_no (pd_var 0) (pd_var 3)) (pda_cons (pd_subD (E := fun _ _ _ => False) u_Form passes_no (pd_var 1) (pd_var 3)) pda_nil)))) (pd_subD (E := fun _ _ _ => False) u_Form passes_no (pd_var 0) (pd_var 3)) (pd_subD (E := fun _ _ _ => False) u_Form passes_no (pd_var 1) (pd_var 3)))) (by decide) (by intro _; rfl) s) pda_nil)))))⟩
theorem sc_Form_shifts : FnScope ["self"] ["self"] (defScope s_Form_shifts) := ⟨rfl, rfl, rfl, by decide +kernel, rfl, by decide +kernel, by decide +kernel⟩
theorem ok_Form_shifts {f : Addr} {fd : FuncData} (F : Fun K "shifts" "Form.shifts" s_Form_shifts f fd) (T : Tx K mg) (h_Form_kept_widths : FldOk K (WcOf M) 2 "kept_widths") : FnOk P w K mg base (L2.CX P w) 1 f fd ["self"] (spD K (WcOf M) (f_Form_shifts M)) := okD (k := 0) F sc_Form_shifts fun cdv A outer s H E hr => by
    have pX : Passes (L2.CX P w) (cxOf (L2.CX P w) P w K mg base ["self"] "Form.shifts" (defScope s_Form_shifts) f cdv A outer s H E) E := passX
    have tk : Takes (cxOf (L2.CX P w) P w K mg base ["self"] "Form.shifts" (defScope s_Form_shifts) f cdv A outer s H E) (fun cls d _ H' => E cls d H') := takes_of rfl rfl rfl rfl
    have hu : (A.deeper (PyProof.Rows.envOfC "Form.shifts" (defScope s_Form_shifts) s.heap.objs.size f cdv)).units + 65 < cLine := by have := hr.un; omega
    have hu1 : (A.deeper (PyProof.Rows.envOfC "Form.shifts" (defScope s_Form_shifts) s.heap.objs.size f cdv)).units + 1 < cLine := by have := hr.un; omega
    have hu2 : (A.deeper (PyProof.Rows.envOfC "Form.shifts" (defScope s_Form_shifts) s.heap.objs.size f cdv)).units + 66 < cLine := by have := hr.un; omega
    exact ⟨_, (pdss_one (pds_ret (pd_callTy cr_listD rc_listD (by rfl) T.b_list (by decide +kernel) (pda_cons (pd_fldD h_Form_kept_widths (pd_var 0)) pda_nil))))⟩
theorem sc_law_read : FnScope ["form", "shift"] ["form"] (defScope s_law_read) := ⟨rfl, rfl, rfl, by decide +kernel, rfl, by decide +kernel, by decide +kernel⟩
theorem ok_law_read {f : Addr} {fd : FuncData} (F : Fun K "_law_read" "_law_read" s_law_read f fd) (T : Tx K mg) (m_Form_shifts : MethOk P w K (WcOf M) mg base 1 2 "shifts" (f_Form_shifts M) [] []) (u_Form : SubOk P w K (WcOf M) mg base 4 2 (f_Form_getitem M)) : FnOk P w K mg base (L2.CX P w) 6 f fd ["form"] (spD K (WcOf M) (f_law_read M)) := okD (k := 5) F sc_law_read fun cdv A outer s H E hr => by
    have pX : Passes (L2.CX P w) (cxOf (L2.CX P w) P w K mg base ["form", "shift"] "_law_read" (defScope s_law_read) f cdv A outer s H E) E := passX
    have tk : Takes (cxOf (L2.CX P w) P w K mg base ["form", "shift"] "_law_read" (defScope s_law_read) f cdv A outer s H E) (fun cls d _ H' => E cls d H') := takes_of rfl rfl rfl rfl
    have hu : (A.deeper (PyProof.Rows.envOfC "_law_read" (defScope s_law_read) s.heap.objs.size f cdv)).units + 65 < cLine := by have := hr.un; omega
    have hu1 : (A.deeper (PyProof.Rows.envOfC "_law_read" (defScope s_law_read) s.heap.objs.size f cdv)).units + 1 < cLine := by have := hr.un; omega
    have hu2 : (A.deeper (PyProof.Rows.envOfC "_law_read" (defScope s_law_read) s.heap.objs.size f cdv)).units + 66 < cLine := by have := hr.un; omega
    exact ⟨_, (pdss_one (pds_ret (pd_callTy (cr_dictP K) rc_dictP (by rfl) T.b_dict (by decide +kernel) (pda_cons (PDN.pd (pdn_lc (own := [("shift", 1)]) rfl sc_law_read.nd (pdi_list K (pd_methD0 m_Form_shifts pX (pd_var 0))) (blkOk_by (N := ["form", "shift"]) (sc := defScope s_law_read) (by decide +kernel)) (fun _ _ _ _ _ => (pdg_name 1 sc_law_read.nd)) (fun _ _ _ _ _ => pdts_nil) (fun _ _ _ _ _ => (pd_tup (pda_cons (pd_var 1) (pda_cons (pd_subD (E := fun _ _ _ => False) u_Form passes_no (pd_var 0) (pd_var 1)) pda_nil)))) (by decide) (by intro _; rfl) s)) pda_nil))))⟩
theorem sc_law_at_most : FnScope ["one", "other"] ["one", "other"] (defScope s_law_at_most) := ⟨rfl, rfl, rfl, by decide +kernel, rfl, by decide +kernel, by decide +kernel⟩
theorem ok_law_at_most {f : Addr} {fd : FuncData} (F : Fun K "_law_at_most" "_law_at_most" s_law_at_most f fd) (T : Tx K mg)  : FnOk P w K mg base (L2.CX P w) 1 f fd ["one", "other"] (spD K (WcOf M) (f_law_at_most M)) := okD (k := 0) F sc_law_at_most fun cdv A outer s H E hr => by
    have pX : Passes (L2.CX P w) (cxOf (L2.CX P w) P w K mg base ["one", "other"] "_law_at_most" (defScope s_law_at_most) f cdv A outer s H E) E := passX
    have tk : Takes (cxOf (L2.CX P w) P w K mg base ["one", "other"] "_law_at_most" (defScope s_law_at_most) f cdv A outer s H E) (fun cls d _ H' => E cls d H') := takes_of rfl rfl rfl rfl
    have hu : (A.deeper (PyProof.Rows.envOfC "_law_at_most" (defScope s_law_at_most) s.heap.objs.size f cdv)).units + 65 < cLine := by have := hr.un; omega
    have hu1 : (A.deeper (PyProof.Rows.envOfC "_law_at_most" (defScope s_law_at_most) s.heap.objs.size f cdv)).units + 1 < cLine := by have := hr.un; omega
    have hu2 : (A.deeper (PyProof.Rows.envOfC "_law_at_most" (defScope s_law_at_most) s.heap.objs.size f cdv)).units + 66 < cLine := by have := hr.un; omega
    exact ⟨_, (pdss_one (pds_ret (pd_or (pd_isN (pd_var 1)) (pd_one (pd_and (pd_notN (pd_var 0)) (pd_one (pd_cmp op_leA rb_le (pd_var 0) (pd_var 1) (nomark _))))))))⟩
theorem sc_law_lesser : FnScope ["one", "other", "found", "shift"] ["one", "other"] (defScope s_law_lesser) := ⟨rfl, rfl, rfl, by decide +kernel, rfl, by decide +kernel, by decide +kernel⟩
theorem ok_law_lesser {f : Addr} {fd : FuncData} (F : Fun K "_law_lesser" "_law_lesser" s_law_lesser f fd) (T : Tx K mg) (c_law_at_most : DefOk P w K (WcOf M) mg base 1 "_law_at_most" ["one", "other"] (f_law_at_most M) []) : FnOk P w K mg base (L2.CX P w) 2 f fd ["one", "other"] (spD K (WcOf M) (f_law_lesser M)) := okD (k := 1) F sc_law_lesser fun cdv A outer s H E hr => by
    have pX : Passes (L2.CX P w) (cxOf (L2.CX P w) P w K mg base ["one", "other", "found", "shift"] "_law_lesser" (defScope s_law_lesser) f cdv A outer s H E) E := passX
    have tk : Takes (cxOf (L2.CX P w) P w K mg base ["one", "other", "found", "shift"] "_law_lesser" (defScope s_law_lesser) f cdv A outer s H E) (fun cls d _ H' => E cls d H') := takes_of rfl rfl rfl rfl
    have hu : (A.deeper (PyProof.Rows.envOfC "_law_lesser" (defScope s_law_lesser) s.heap.objs.size f cdv)).units + 65 < cLine := by have := hr.un; omega
    have hu1 : (A.deeper (PyProof.Rows.envOfC "_law_lesser" (defScope s_law_lesser) s.heap.objs.size f cdv)).units + 1 < cLine := by have := hr.un; omega
    have hu2 : (A.deeper (PyProof.Rows.envOfC "_law_lesser" (defScope s_law_lesser) s.heap.objs.size f cdv)).units + 66 < cLine := by have := hr.un; omega
    exact ⟨_, (pdss_buildD (pdss_build 2 [3] hu1 sc_law_lesser.nd (passes_of rfl) rfl (pdi_keys (pd_var 0)) (pdg_name 3 sc_law_lesser.nd) (pdt_inK hu1 (pd_var 3) (pd_var 1)) (pd_var 3) (pd_ifExp (pdt_val (pd_callD c_law_at_most passL (pda_cons (pd_dgetK hu1 (pd_var 0) (pd_var 3)) (pda_cons (pd_dgetK hu1 (pd_var 1) (pd_var 3)) pda_nil)))) (pd_dgetK hu1 (pd_var 0) (pd_var 3)) (pd_dgetK hu1 (pd_var 1) (pd_var 3)))))⟩
theorem sc_Form_eq : FnScope ["self", "other"] ["self", "other"] (defScope s_Form_eq) := ⟨rfl, rfl, rfl, by decide +kernel, rfl, by decide +kernel, by decide +kernel⟩
theorem ok_Form_eq {f : Addr} {fd : FuncData} (F : Fun K "__eq__" "Form.__eq__" s_Form_eq f fd) (T : Tx K mg) (i_Form : IsOk K (WcOf M) mg "Form" 2) (h_Form_kept_widths : FldOk K (WcOf M) 2 "kept_widths") : FnOk P w K mg base (L2.CX P w) 1 f fd ["self", "other"] (spD K (WcOf M) (f_Form_eq M)) := okD (k := 0) F sc_Form_eq fun cdv A outer s H E hr => by
    have pX : Passes (L2.CX P w) (cxOf (L2.CX P w) P w K mg base ["self", "other"] "Form.__eq__" (defScope s_Form_eq) f cdv A outer s H E) E := passX
    have tk : Takes (cxOf (L2.CX P w) P w K mg base ["self", "other"] "Form.__eq__" (defScope s_Form_eq) f cdv A outer s H E) (fun cls d _ H' => E cls d H') := takes_of rfl rfl rfl rfl
    have hu : (A.deeper (PyProof.Rows.envOfC "Form.__eq__" (defScope s_Form_eq) s.heap.objs.size f cdv)).units + 65 < cLine := by have := hr.un; omega
    have hu1 : (A.deeper (PyProof.Rows.envOfC "Form.__eq__" (defScope s_Form_eq) s.heap.objs.size f cdv)).units + 1 < cLine := by have := hr.un; omega
    have hu2 : (A.deeper (PyProof.Rows.envOfC "Form.__eq__" (defScope s_Form_eq) s.heap.objs.size f cdv)).units + 66 < cLine := by have := hr.un; omega
    exact ⟨_, (pdss_one (pds_ret (pd_and (pd_isC K i_Form (by rfl) T.b_isinstance (pd_var 1)) (pd_one (pd_cmp (op_deqK K hu) rb_deq (pd_fldD h_Form_kept_widths (pd_var 0)) (pd_fldD h_Form_kept_widths (pd_var 1)) (nomark _))))))⟩
theorem sc_Form_is_under : FnScope ["self", "other", "shift"] ["self", "other"] (defScope s_Form_is_under) := ⟨rfl, rfl, rfl, by decide +kernel, rfl, by decide +kernel, by decide +kernel⟩
theorem ok_Form_is_under {f : Addr} {fd : FuncData} (F : Fun K "is_under" "Form.is_under" s_Form_is_under f fd) (T : Tx K mg) (h_Form_kept_widths : FldOk K (WcOf M) 2 "kept_widths") (j_Form : InOk P w K (WcOf M) mg base 2 2 (f_Form_contains M)) (u_Form : SubOk P w K (WcOf M) mg base 4 2 (f_Form_getitem M)) (c_is_up_to : DefOk P w K (WcOf M) mg base 1 "is_up_to" ["one", "other"] (f_is_up_to M) []) : FnOk P w K mg base (L2.CX P w) 6 f fd ["self", "other"] (spD K (WcOf M) (f_Form_is_under M)) := okD (k := 5) F sc_Form_is_under fun cdv A outer s H E hr => by
    have pX : Passes (L2.CX P w) (cxOf (L2.CX P w) P w K mg base ["self", "other", "shift"] "Form.is_under" (defScope s_Form_is_under) f cdv A outer s H E) E := passX
    have tk : Takes (cxOf (L2.CX P w) P w K mg base ["self", "other", "shift"] "Form.is_under" (defScope s_Form_is_under) f cdv A outer s H E) (fun cls d _ H' => E cls d H') := takes_of rfl rfl rfl rfl
    have hu : (A.deeper (PyProof.Rows.envOfC "Form.is_under" (defScope s_Form_is_under) s.heap.objs.size f cdv)).units + 65 < cLine := by have := hr.un; omega
    have hu1 : (A.deeper (PyProof.Rows.envOfC "Form.is_under" (defScope s_Form_is_under) s.heap.objs.size f cdv)).units + 1 < cLine := by have := hr.un; omega
    have hu2 : (A.deeper (PyProof.Rows.envOfC "Form.is_under" (defScope s_Form_is_under) s.heap.objs.size f cdv)).units + 66 < cLine := by have := hr.un; omega
    exact ⟨_, (pdss_one (pds_ret (pd_callB (cr_allK K) rc_all (by rfl) T.b_all (by decide +kernel) (pda_cons (PDN.pd (pdn_lc (own := [("shift", 2)]) rfl sc_Form_is_under.nd (pdi_keys (pd_fldD h_Form_kept_widths (pd_var 0))) (blkOk_by (N := ["self", "other", "shift"]) (sc := defScope s_Form_is_under) (by decide +kernel)) (fun _ _ _ _ _ => (pdg_name 2 sc_Form_is_under.nd)) (fun _ _ _ _ _ => pdts_nil) (fun _ _ _ _ _ => (pd_and (pd_cmp (op_inD j_Form) (rb_oin (j_Form.ex.imp fun _ z => z.choose_spec.choose_spec.choose_spec.1)) (pd_var 2) (pd_var 1) (by rfl)) (pd_one (pd_callD c_is_up_to passL (pda_cons (pd_subD (E := fun _ _ _ => False) u_Form passes_no (pd_var 0) (pd_var 2)) (pda_cons (pd_subD (E := fun _ _ _ => False) u_Form passes_no (pd_var 1) (pd_var 2)) pda_nil)))))) (by decide) (by intro _; rfl) s)) pda_nil))))⟩
theorem sc_law_under : FnScope ["one", "other", "shift"] ["one", "other"] (defScope s_law_under) := ⟨rfl, rfl, rfl, by decide +kernel, rfl, by decide +kernel, by decide +kernel⟩
theorem ok_law_under {f : Addr} {fd : FuncData} (F : Fun K "_law_under" "_law_under" s_law_under f fd) (T : Tx K mg) (c_law_at_most : DefOk P w K (WcOf M) mg base 1 "_law_at_most" ["one", "other"] (f_law_at_most M) []) : FnOk P w K mg base (L2.CX P w) 2 f fd ["one", "other"] (spD K (WcOf M) (f_law_under M)) := okD (k := 1) F sc_law_under fun cdv A outer s H E hr => by
    have pX : Passes (L2.CX P w) (cxOf (L2.CX P w) P w K mg base ["one", "other", "shift"] "_law_under" (defScope s_law_under) f cdv A outer s H E) E := passX
    have tk : Takes (cxOf (L2.CX P w) P w K mg base ["one", "other", "shift"] "_law_under" (defScope s_law_under) f cdv A outer s H E) (fun cls d _ H' => E cls d H') := takes_of rfl rfl rfl rfl
    have hu : (A.deeper (PyProof.Rows.envOfC "_law_under" (defScope s_law_under) s.heap.objs.size f cdv)).units + 65 < cLine := by have := hr.un; omega
    have hu1 : (A.deeper (PyProof.Rows.envOfC "_law_under" (defScope s_law_under) s.heap.objs.size f cdv)).units + 1 < cLine := by have := hr.un; omega
    have hu2 : (A.deeper (PyProof.Rows.envOfC "_law_under" (defScope s_law_under) s.heap.objs.size f cdv)).units + 66 < cLine := by have := hr.un; omega
    exact ⟨_, (pdss_one (pds_ret (pd_cmp (op_eqK K hr.units) rb_eq (PDN.pd (pdn_lc (own := [("shift", 2)]) rfl sc_law_under.nd (pdi_keys (pd_var 0)) (blkOk_by (N := ["one", "other", "shift"]) (sc := defScope s_law_under) (by decide +kernel)) (fun _ _ _ _ _ => (pdg_name 2 sc_law_under.nd)) (fun _ _ _ _ _ => (pdts_one (PDW.pt (pdw_or (pdt_notInK hu1 (pd_var 2) (pd_var 1)) (pdw_or1 (pdt_not (pdt_val (pd_callD c_law_at_most passL (pda_cons (pd_dgetK hu1 (pd_var 0) (pd_var 2)) (pda_cons (pd_dgetK hu1 (pd_var 1) (pd_var 2)) pda_nil)))))))))) (fun _ _ _ _ _ => (pd_var 2)) (by decide) (by intro _; rfl) s)) (PDN.pd (pdn_lst pda_nil)) (nomark _))))⟩
theorem sc_law_pair_right : FnScope ["one", "other", "mine", "yours", "both"] ["one", "other", "mine", "yours"] (defScope s_law_pair_right) := ⟨rfl, rfl, rfl, by decide +kernel, rfl, by decide +kernel, by decide +kernel⟩
theorem ok_law_pair_right {f : Addr} {fd : FuncData} (F : Fun K "_law_pair_right" "_law_pair_right" s_law_pair_right f fd) (T : Tx K mg) (O_Form_and_Form : OpSOk P w K (WcOf M) mg base 6 2 .BitAnd (f_Form_and M)) (c_law_read : DefOk P w K (WcOf M) mg base 6 "_law_read" ["form"] (f_law_read M) []) (c_law_lesser : DefOk P w K (WcOf M) mg base 2 "_law_lesser" ["one", "other"] (f_law_lesser M) []) (q_Form : EqOk P w K (WcOf M) mg base 1 2 (f_Form_eq M)) (m_Form_is_under : MethOk P w K (WcOf M) mg base 6 2 "is_under" (f_Form_is_under M) [] []) (c_law_under : DefOk P w K (WcOf M) mg base 2 "_law_under" ["one", "other"] (f_law_under M) []) : FnOk P w K mg base (L2.CX P w) 7 f fd ["one", "other", "mine", "yours"] (spD K (WcOf M) (f_law_pair_right M)) := okD (k := 6) F sc_law_pair_right fun cdv A outer s H E hr => by
    have pX : Passes (L2.CX P w) (cxOf (L2.CX P w) P w K mg base ["one", "other", "mine", "yours", "both"] "_law_pair_right" (defScope s_law_pair_right) f cdv A outer s H E) E := passX
    have tk : Takes (cxOf (L2.CX P w) P w K mg base ["one", "other", "mine", "yours", "both"] "_law_pair_right" (defScope s_law_pair_right) f cdv A outer s H E) (fun cls d _ H' => E cls d H') := takes_of rfl rfl rfl rfl
    have hu : (A.deeper (PyProof.Rows.envOfC "_law_pair_right" (defScope s_law_pair_right) s.heap.objs.size f cdv)).units + 65 < cLine := by have := hr.un; omega
    have hu1 : (A.deeper (PyProof.Rows.envOfC "_law_pair_right" (defScope s_law_pair_right) s.heap.objs.size f cdv)).units + 1 < cLine := by have := hr.un; omega
    have hu2 : (A.deeper (PyProof.Rows.envOfC "_law_pair_right" (defScope s_law_pair_right) s.heap.objs.size f cdv)).units + 66 < cLine := by have := hr.un; omega
    exact ⟨_, (pdss_cons (pds_set 4 sc_law_pair_right.nd (pd_opSD O_Form_and_Form pX (pd_var 0) (pd_var 1)))
      (pdss_cons (pds_if (PDW.pt (pdw_or (pdt_cmp (op_dneK K hu) rb_dne (pd_callD c_law_read pX (pda_cons (pd_var 4) pda_nil)) (pd_callD c_law_lesser pX (pda_cons (pd_var 2) (pda_cons (pd_var 3) pda_nil))) (nomark _)) (pdw_or1 (pdt_cmp (op_neD q_Form) (rb_ownEqC (q_Form.ex.imp fun _ z => z.choose_spec.choose_spec.choose_spec.1)) (pd_var 4) (pd_opSD O_Form_and_Form pX (pd_var 1) (pd_var 0)) (nomark _))))) (pdss_one (pds_ret pd_bl)) pdss_nil)
      (pdss_cons (pds_if (pdt_cmp (op_neK K hr.units) rb_ne (pd_methD m_Form_is_under pX (pd_var 0) (pda_cons (pd_var 1) pda_nil)) (pd_callD c_law_under pX (pda_cons (pd_var 2) (pda_cons (pd_var 3) pda_nil))) (nomark _)) (pdss_one (pds_ret pd_bl)) pdss_nil)
      (pdss_cons (pds_if (pdt_cmp (op_neK K hr.units) rb_ne (pd_cmp (op_eqD q_Form) (rb_ownEqC (q_Form.ex.imp fun _ z => z.choose_spec.choose_spec.choose_spec.1)) (pd_var 0) (pd_var 1) (nomark _)) (pd_cmp (op_deqK K hu) rb_deq (pd_var 2) (pd_var 3) (nomark _)) (nomark _)) (pdss_one (pds_ret pd_bl)) pdss_nil)
      (pdss_one (pds_ret (pd_and (pd_methD m_Form_is_under pX (pd_var 4) (pda_cons (pd_var 0) pda_nil)) (pd_and (pd_methD m_Form_is_under pX (pd_var 4) (pda_cons (pd_var 1) pda_nil)) (pd_one (pd_cmp (op_eqK K hr.units) rb_eq (pd_cmp (op_eqD q_Form) (rb_ownEqC (q_Form.ex.imp fun _ z => z.choose_spec.choose_spec.choose_spec.1)) (pd_var 4) (pd_var 0) (nomark _)) (pd_callD c_law_under pX (pda_cons (pd_var 2) (pda_cons (pd_var 3) pda_nil))) (nomark _)))))))))))⟩
theorem sc_law : FnScope ["script", "k", "pool", "rows", "forms", "at", "other", "one", "two", "three", "turn", "row", "form", "shift"] ["script"] (defScope s_law) := ⟨rfl, rfl, rfl, by decide +kernel, rfl, by decide +kernel, by decide +kernel⟩
abbrev forBody : Stmt → List Stmt
  | .For _ _ b .. => b
  | _ => []
theorem ok_law (hk : M.pk = true) {f : Addr} {fd : FuncData} (F : Fun K "law" "law" s_law f fd) (T : Tx K mg) {fb : Addr} {fdb : FuncData} (FB : FnOk P w K mg base (L2.CX P w) 1 fb fdb ["script", "k"] (spPool K)) (mB : mg "_law_pool" = some (.ref fb)) (kB : PySem.W.keepIn K (.ref fb) = true) (bB : Binds K fdb ["script", "k"] []) (c_law_widths_by : DefOk P w K (WcOf M) mg base 3 "_law_widths_by" ["pool"] (f_law_widths_by M) []) (c_law_draw : DefOk P w K (WcOf M) mg base 1 "_law_draw" ["pool", "many"] (f_law_draw M) []) (c_law_width : DefOk P w K (WcOf M) mg base 2 "_law_width" ["pool"] (f_law_width M) []) (n_Form : NewOk P w K (WcOf M) mg base 4 "Form" 2 (f_Form_init M) [] []) (c_law_pair_right : DefOk P w K (WcOf M) mg base 7 "_law_pair_right" ["one", "other", "mine", "yours"] (f_law_pair_right M) []) (O_Form_and_Form : OpSOk P w K (WcOf M) mg base 6 2 .BitAnd (f_Form_and M)) (q_Form : EqOk P w K (WcOf M) mg base 1 2 (f_Form_eq M)) (m_Form_is_under : MethOk P w K (WcOf M) mg base 6 2 "is_under" (f_Form_is_under M) [] []) (J_inj : ∀ c c' C, M.m c = some C → M.m c' = some C → c = c') (c_law_read : DefOk P w K (WcOf M) mg base 6 "_law_read" ["form"] (f_law_read M) []) : FnG P w K mg base (L2.CX P w) 8 f fd ["script"] (spLaw K M) :=
  okLawP (k := 7) (M := M) (m := 6) hk F sc_law (by decide) (by decide) (fun cdv A gA outer s H E hr => by
    have pX : Passes (L2.CX P w) (cxOf (L2.CX P w) P w K mg base ["script", "k", "pool", "rows", "forms", "at", "other", "one", "two", "three", "turn", "row", "form", "shift"] "law" (defScope s_law) f cdv A outer s H E) E := passX
    have tk : Takes (cxOf (L2.CX P w) P w K mg base ["script", "k", "pool", "rows", "forms", "at", "other", "one", "two", "three", "turn", "row", "form", "shift"] "law" (defScope s_law) f cdv A outer s H E) (fun cls d _ H' => E cls d H') := takes_of rfl rfl rfl rfl
    have hu : (A.deeper (PyProof.Rows.envOfC "law" (defScope s_law) s.heap.objs.size f cdv)).units + 65 < cLine := by have := hr.un; omega
    have hu1 : (A.deeper (PyProof.Rows.envOfC "law" (defScope s_law) s.heap.objs.size f cdv)).units + 1 < cLine := by have := hr.un; omega
    have hu2 : (A.deeper (PyProof.Rows.envOfC "law" (defScope s_law) s.heap.objs.size f cdv)).units + 66 < cLine := by have := hr.un; omega
    have b : PDSs (cxOf (L2.CX P w) P w K mg base ["script", "k", "pool", "rows", "forms", "at", "other", "one", "two", "three", "turn", "row", "form", "shift"] "law" (defScope s_law) f cdv A outer s H E) (WcOf M) E ((forBody ((defBody s_law).getD 0 (.Pass ⟨0, 0, 0, 0⟩))).drop 1) _ (b_law M) :=
      (pdss_cons (pds_setLcS 3 (own := [("turn", 10)]) rfl sc_law.nd (pdi_range1 (by rfl) T.b_range (pda_cons pd_int pda_nil)) (blkOk_by (N := ["script", "k", "pool", "rows", "forms", "at", "other", "one", "two", "three", "turn", "row", "form", "shift"]) (sc := defScope s_law) (by decide +kernel)) (fun _ _ _ _ _ => (pdg_name 10 sc_law.nd)) (fun _ _ _ _ _ => pdts_nil) (fun _ _ _ _ _ => (pd_callD c_law_widths_by passL (pda_cons (pd_var 2) pda_nil))) (by decide) (by intro _; rfl) s)
      (pdss_cons (pds_if (pdt_cmp (op_eqK K hr.units) rb_eq (pd_callD c_law_draw pX (pda_cons (pd_var 2) (pda_cons pd_int pda_nil))) pd_int (nomark _)) (pdss_one (pds_setIx 3 (pd_with 3 (pd_callTy (cr_dictP K) rc_dictP (by rfl) T.b_dict (by decide +kernel) (pda_cons (PDN.pd (pdn_lc (own := [("shift", 13)]) rfl sc_law.nd (pdi_keys (pd_ix K (pd_var 3) pd_int)) (blkOk_by (N := ["script", "k", "pool", "rows", "forms", "at", "other", "one", "two", "three", "turn", "row", "form", "shift"]) (sc := defScope s_law) (by decide +kernel)) (fun _ _ _ _ _ => (pdg_name 13 sc_law.nd)) (fun _ _ _ _ _ => pdts_nil) (fun _ _ _ _ _ => (pd_tup (pda_cons (pd_var 13) (pda_cons (pd_callD c_law_width passL (pda_cons (pd_var 2) pda_nil)) pda_nil)))) (by decide) (by intro _; rfl) s)) pda_nil))) pd_int)) pdss_nil)
      (pdss_cons (pds_if (pdt_cmp (op_eqK K hr.units) rb_eq (pd_callD c_law_draw pX (pda_cons (pd_var 2) (pda_cons pd_int pda_nil))) pd_int (nomark _)) (pdss_one (pds_setIx 3 (pd_with 3 (pd_callTy cr_dictD rc_dictD (by rfl) T.b_dict (by decide +kernel) (pda_cons (pd_ix K (pd_var 3) pd_int) pda_nil))) pd_int)) pdss_nil)
      (pdss_cons (pds_setLcW 4 3 (own := [("row", 11)]) rfl sc_law.nd (pdi_list K (pd_var 3)) (blkOk_by (N := ["script", "k", "pool", "rows", "forms", "at", "other", "one", "two", "three", "turn", "row", "form", "shift"]) (sc := defScope s_law) (by decide +kernel)) (fun _ _ _ _ _ => (pdg_name 11 sc_law.nd)) (fun _ _ _ _ _ => pdts_nil) (fun _ _ _ _ _ => (pd_newD (E := fun _ _ _ => False) n_Form passes_no (pda_cons (pd_var 11) pda_nil))) (by decide) (by intro _; rfl) s)
      (pdss_cons (pds_for (passes_of rfl) rfl (pdi_range1 (by rfl) T.b_range (pda_cons pd_int pda_nil)) (pdg_name 5 sc_law.nd) (pdss_one (pds_for (passes_of rfl) rfl (pdi_range1 (by rfl) T.b_range (pda_cons pd_int pda_nil)) (pdg_name 6 sc_law.nd) (pdss_one (pds_if (pdt_not (pdt_val (pd_with 3 (pd_callD c_law_pair_right pX (pda_cons (pd_ix K (pd_var 4) (pd_var 5)) (pda_cons (pd_ix K (pd_var 4) (pd_var 6)) (pda_cons (pd_ix K (pd_var 3) (pd_var 5)) (pda_cons (pd_ix K (pd_var 3) (pd_var 6)) pda_nil)))))))) (pdss_one (pds_ret pd_bl)) pdss_nil)))))
      (pdss_cons (pds_asg (pd_var 4) (pdg_lst K rfl (pdgs_cons (pdg_name 7 sc_law.nd) (pdgs_cons (pdg_name 8 sc_law.nd) (pdgs_cons (pdg_name 9 sc_law.nd) pdgs_nil)))))
      (pdss_cons (pds_if (pdt_cmp (op_neD q_Form) (rb_ownEqC (q_Form.ex.imp fun _ z => z.choose_spec.choose_spec.choose_spec.1)) (pd_opSD O_Form_and_Form pX (pd_opSD O_Form_and_Form pX (pd_var 7) (pd_var 8)) (pd_var 9)) (pd_opSD O_Form_and_Form pX (pd_var 7) (pd_opSD O_Form_and_Form pX (pd_var 8) (pd_var 9))) (nomark _)) (pdss_one (pds_ret pd_bl)) pdss_nil)
      (pdss_cons (pds_if (pdt_cmp (op_neD q_Form) (rb_ownEqC (q_Form.ex.imp fun _ z => z.choose_spec.choose_spec.choose_spec.1)) (pd_opSD O_Form_and_Form pX (pd_var 7) (pd_var 7)) (pd_var 7) (nomark _)) (pdss_one (pds_ret pd_bl)) pdss_nil)
      (pdss_cons (pds_if (PDW.pt (pdw_and (pdt_val (pd_methD m_Form_is_under pX (pd_var 9) (pda_cons (pd_var 7) pda_nil))) (pdw_and (pdt_val (pd_methD m_Form_is_under pX (pd_var 9) (pda_cons (pd_var 8) pda_nil))) (pdw_and1 (pdt_not (pdt_val (pd_methD m_Form_is_under pX (pd_var 9) (pda_cons (pd_opSD O_Form_and_Form pX (pd_var 7) (pd_var 8)) pda_nil)))))))) (pdss_one (pds_ret pd_bl)) pdss_nil)
      (pdss_one (pds_if (pdt_with 3 (pdt_cmp (op_dctsNe hr) (rb_dcts J_inj) (PDN.pd (pdn_lc (own := [("form", 12)]) rfl sc_law.nd (pdi_list K (pd_var 4)) (blkOk_by (N := ["script", "k", "pool", "rows", "forms", "at", "other", "one", "two", "three", "turn", "row", "form", "shift"]) (sc := defScope s_law) (by decide +kernel)) (fun _ _ _ _ _ => (pdg_name 12 sc_law.nd)) (fun _ _ _ _ _ => pdts_nil) (fun _ _ _ _ _ => (pd_callD c_law_read passL (pda_cons (pd_var 12) pda_nil))) (by decide) (by intro _; rfl) s)) (pd_var 3) (nomark _))) (pdss_one (pds_ret pd_bl)) pdss_nil)))))))))))
    exact ⟨_, pss_cons (ps_for (passes_of rfl) rfl (pi_range1 (by rfl) T.b_range (pa_cons (pe_callB (call_max2 rfl) (by rfl) T.b_max (by decide +kernel) (pa_cons pe_int (pa_cons (pe_callB (call_min2 rfl) (by rfl) T.b_min (by decide +kernel) (pa_cons (pe_callB call_len_seq (by rfl) T.b_len PySem.boot_len (pa_cons (pv 0) pa_nil)) (pa_cons pe_int pa_nil))) pa_nil))) pa_nil)) (pg_name (i := 1) sc_law.nd rfl (by first | exact Or.inl rfl | exact Or.inr rfl)) (pss_cons (ps_set (i := 2) sc_law.nd rfl (by first | exact Or.inl rfl | exact Or.inr rfl) (pe_call FB (hr.mono (by decide)) rfl mB kB bB .nil passL (pa_cons (pv 0) (pa_cons (pv 1) pa_nil)))) b.pe)) (pss_one (ps_ret pe_bl)), b.se⟩) (law_true M)
end
theorem all_mk {l : PySem.W.OpenLaw} {w : World} {K : PySem.W.Frag} {h : Heap} {mg : Str → Option Value} {fa C_WidthError C_InvalidNumber C_Form w_law_pool w_law_draw w_law_width w_law_widths_by w_is_integer w_is_count w_is_form w_Form_init w_Form_contains w_Form_getitem w_is_up_to w_Form_and w_Form_shifts w_law_read w_law_at_most w_law_lesser w_Form_eq w_Form_is_under w_law_under w_law_pair_right w_law f1_InvalidNumber cc_InvalidNumber cda_InvalidNumber B_InvalidNumber N_InvalidNumber : Addr} {od_law_pool an_law_pool od_law_draw an_law_draw od_law_width an_law_width od_law_widths_by an_law_widths_by od_is_integer an_is_integer od_is_count an_is_count od_is_form an_is_form od_Form_init an_Form_init od_Form_contains an_Form_contains od_Form_getitem an_Form_getitem od_is_up_to an_is_up_to od_Form_and an_Form_and od_Form_shifts an_Form_shifts od_law_read an_law_read od_law_at_most an_law_at_most od_law_lesser an_law_lesser od_Form_eq an_Form_eq od_Form_is_under an_Form_is_under od_law_under an_law_under od_law_pair_right an_law_pair_right od_law an_law : Option Addr} {sl_law_pool sl_law_draw sl_law_width sl_law_widths_by sl_is_integer sl_is_count sl_is_form sl_Form_init sl_Form_contains sl_Form_getitem sl_is_up_to sl_Form_and sl_Form_shifts sl_law_read sl_law_at_most sl_law_lesser sl_Form_eq sl_Form_is_under sl_law_under sl_law_pair_right sl_law : Array (Option Value)} {oc_law_pool kV_law_pool dc_law_pool pm_law_pool cd_law_pool ct_law_pool oc_law_draw kV_law_draw dc_law_draw pm_law_draw cd_law_draw ct_law_draw oc_law_width kV_law_width dc_law_width pm_law_width cd_law_width ct_law_width oc_law_widths_by kV_law_widths_by dc_law_widths_by pm_law_widths_by cd_law_widths_by ct_law_widths_by oc_is_integer kV_is_integer dc_is_integer pm_is_integer cd_is_integer ct_is_integer oc_is_count kV_is_count dc_is_count pm_is_count cd_is_count ct_is_count oc_is_form kV_is_form dc_is_form pm_is_form cd_is_form ct_is_form oc_Form_init kV_Form_init dc_Form_init pm_Form_init cd_Form_init ct_Form_init oc_Form_contains kV_Form_contains dc_Form_contains pm_Form_contains cd_Form_contains ct_Form_contains oc_Form_getitem kV_Form_getitem dc_Form_getitem pm_Form_getitem cd_Form_getitem ct_Form_getitem oc_is_up_to kV_is_up_to dc_is_up_to pm_is_up_to cd_is_up_to ct_is_up_to oc_Form_and kV_Form_and dc_Form_and pm_Form_and cd_Form_and ct_Form_and oc_Form_shifts kV_Form_shifts dc_Form_shifts pm_Form_shifts cd_Form_shifts ct_Form_shifts oc_law_read kV_law_read dc_law_read pm_law_read cd_law_read ct_law_read oc_law_at_most kV_law_at_most dc_law_at_most pm_law_at_most cd_law_at_most ct_law_at_most oc_law_lesser kV_law_lesser dc_law_lesser pm_law_lesser cd_law_lesser ct_law_lesser oc_Form_eq kV_Form_eq dc_Form_eq pm_Form_eq cd_Form_eq ct_Form_eq oc_Form_is_under kV_Form_is_under dc_Form_is_under pm_Form_is_under cd_Form_is_under ct_Form_is_under oc_law_under kV_law_under dc_law_under pm_law_under cd_law_under ct_law_under oc_law_pair_right kV_law_pair_right dc_law_pair_right pm_law_pair_right cd_law_pair_right ct_law_pair_right oc_law kV_law dc_law pm_law cd_law ct_law : Value} 
    {nm_InvalidNumber qq_InvalidNumber name_InvalidNumber qual_InvalidNumber msg_InvalidNumber file_InvalidNumber : Str} {bs_InvalidNumber sub_InvalidNumber : List Value} {sn_InvalidNumber : List Str} {ab_InvalidNumber : Bool} {col_InvalidNumber : Option Bool} {dd_InvalidNumber ed_InvalidNumber cdd_InvalidNumber cld_InvalidNumber ea_InvalidNumber : Option Addr} {m0_InvalidNumber m1_InvalidNumber m2_InvalidNumber m3_InvalidNumber m5_InvalidNumber : Option Value} {n_InvalidNumber : Nat} {p0_InvalidNumber p1_InvalidNumber p2_InvalidNumber p3_InvalidNumber p4_InvalidNumber p5_InvalidNumber q1_InvalidNumber q2_InvalidNumber q3_InvalidNumber q4_InvalidNumber r1_InvalidNumber r2_InvalidNumber : Pos} {eo_InvalidNumber ccl_InvalidNumber cl_InvalidNumber ek_InvalidNumber ec_InvalidNumber ep_InvalidNumber et_InvalidNumber : Value} {es_InvalidNumber ccs_InvalidNumber csl_InvalidNumber : Array (Option Value)} {vs_InvalidNumber : Array Value} {tf_InvalidNumber : Tok}
    (X : K.In h) (G : h.Ns mainGlobals mg) (hfa : mg "law" = some (.ref fa))
    (aC_WidthError : PySem.W.nsIn K mainGlobals "WidthError" = some (some (.ref C_WidthError)))
    (aC_InvalidNumber : PySem.W.nsIn K mainGlobals "InvalidNumber" = some (some (.ref C_InvalidNumber)))
    (aC_Form : PySem.W.nsIn K mainGlobals "Form" = some (some (.ref C_Form)))
    (a_law_pool : PySem.W.nsIn K mainGlobals "_law_pool" = some (some (.ref w_law_pool)))
    (l_law_pool : K.lookup w_law_pool = some ⟨oc_law_pool, od_law_pool, .func (PySem.W.fnOf "_law_pool" "_law_pool" (defArgs s_law_pool) (defBody s_law_pool) (defScope s_law_pool) .none kV_law_pool dc_law_pool pm_law_pool an_law_pool cd_law_pool ct_law_pool), sl_law_pool⟩)
    (q_law_pool : PySem.W.codeIn K cd_law_pool "_law_pool" = true)
    (k_law_pool : PySem.W.keepIn K (.ref w_law_pool) = true)
    (a_law_draw : PySem.W.nsIn K mainGlobals "_law_draw" = some (some (.ref w_law_draw)))
    (l_law_draw : K.lookup w_law_draw = some ⟨oc_law_draw, od_law_draw, .func (PySem.W.fnOf "_law_draw" "_law_draw" (defArgs s_law_draw) (defBody s_law_draw) (defScope s_law_draw) .none kV_law_draw dc_law_draw pm_law_draw an_law_draw cd_law_draw ct_law_draw), sl_law_draw⟩)
    (q_law_draw : PySem.W.codeIn K cd_law_draw "_law_draw" = true)
    (k_law_draw : PySem.W.keepIn K (.ref w_law_draw) = true)
    (a_law_width : PySem.W.nsIn K mainGlobals "_law_width" = some (some (.ref w_law_width)))
    (l_law_width : K.lookup w_law_width = some ⟨oc_law_width, od_law_width, .func (PySem.W.fnOf "_law_width" "_law_width" (defArgs s_law_width) (defBody s_law_width) (defScope s_law_width) .none kV_law_width dc_law_width pm_law_width an_law_width cd_law_width ct_law_width), sl_law_width⟩)
    (q_law_width : PySem.W.codeIn K cd_law_width "_law_width" = true)
    (k_law_width : PySem.W.keepIn K (.ref w_law_width) = true)
    (a_law_widths_by : PySem.W.nsIn K mainGlobals "_law_widths_by" = some (some (.ref w_law_widths_by)))
    (l_law_widths_by : K.lookup w_law_widths_by = some ⟨oc_law_widths_by, od_law_widths_by, .func (PySem.W.fnOf "_law_widths_by" "_law_widths_by" (defArgs s_law_widths_by) (defBody s_law_widths_by) (defScope s_law_widths_by) .none kV_law_widths_by dc_law_widths_by pm_law_widths_by an_law_widths_by cd_law_widths_by ct_law_widths_by), sl_law_widths_by⟩)
    (q_law_widths_by : PySem.W.codeIn K cd_law_widths_by "_law_widths_by" = true)
    (k_law_widths_by : PySem.W.keepIn K (.ref w_law_widths_by) = true)
    (a_is_integer : PySem.W.nsIn K mainGlobals "is_integer" = some (some (.ref w_is_integer)))
    (l_is_integer : K.lookup w_is_integer = some ⟨oc_is_integer, od_is_integer, .func (PySem.W.fnOf "is_integer" "is_integer" (defArgs s_is_integer) (defBody s_is_integer) (defScope s_is_integer) .none kV_is_integer dc_is_integer pm_is_integer an_is_integer cd_is_integer ct_is_integer), sl_is_integer⟩)
    (q_is_integer : PySem.W.codeIn K cd_is_integer "is_integer" = true)
    (k_is_integer : PySem.W.keepIn K (.ref w_is_integer) = true)
    (a_is_count : PySem.W.nsIn K mainGlobals "is_count" = some (some (.ref w_is_count)))
    (l_is_count : K.lookup w_is_count = some ⟨oc_is_count, od_is_count, .func (PySem.W.fnOf "is_count" "is_count" (defArgs s_is_count) (defBody s_is_count) (defScope s_is_count) .none kV_is_count dc_is_count pm_is_count an_is_count cd_is_count ct_is_count), sl_is_count⟩)
    (q_is_count : PySem.W.codeIn K cd_is_count "is_count" = true)
    (k_is_count : PySem.W.keepIn K (.ref w_is_count) = true)
    (a_is_form : PySem.W.nsIn K mainGlobals "is_form" = some (some (.ref w_is_form)))
    (l_is_form : K.lookup w_is_form = some ⟨oc_is_form, od_is_form, .func (PySem.W.fnOf "is_form" "is_form" (defArgs s_is_form) (defBody s_is_form) (defScope s_is_form) .none kV_is_form dc_is_form pm_is_form an_is_form cd_is_form ct_is_form), sl_is_form⟩)
    (q_is_form : PySem.W.codeIn K cd_is_form "is_form" = true)
    (k_is_form : PySem.W.keepIn K (.ref w_is_form) = true)
    (a_is_up_to : PySem.W.nsIn K mainGlobals "is_up_to" = some (some (.ref w_is_up_to)))
    (l_is_up_to : K.lookup w_is_up_to = some ⟨oc_is_up_to, od_is_up_to, .func (PySem.W.fnOf "is_up_to" "is_up_to" (defArgs s_is_up_to) (defBody s_is_up_to) (defScope s_is_up_to) .none kV_is_up_to dc_is_up_to pm_is_up_to an_is_up_to cd_is_up_to ct_is_up_to), sl_is_up_to⟩)
    (q_is_up_to : PySem.W.codeIn K cd_is_up_to "is_up_to" = true)
    (k_is_up_to : PySem.W.keepIn K (.ref w_is_up_to) = true)
    (a_law_read : PySem.W.nsIn K mainGlobals "_law_read" = some (some (.ref w_law_read)))
    (l_law_read : K.lookup w_law_read = some ⟨oc_law_read, od_law_read, .func (PySem.W.fnOf "_law_read" "_law_read" (defArgs s_law_read) (defBody s_law_read) (defScope s_law_read) .none kV_law_read dc_law_read pm_law_read an_law_read cd_law_read ct_law_read), sl_law_read⟩)
    (q_law_read : PySem.W.codeIn K cd_law_read "_law_read" = true)
    (k_law_read : PySem.W.keepIn K (.ref w_law_read) = true)
    (a_law_at_most : PySem.W.nsIn K mainGlobals "_law_at_most" = some (some (.ref w_law_at_most)))
    (l_law_at_most : K.lookup w_law_at_most = some ⟨oc_law_at_most, od_law_at_most, .func (PySem.W.fnOf "_law_at_most" "_law_at_most" (defArgs s_law_at_most) (defBody s_law_at_most) (defScope s_law_at_most) .none kV_law_at_most dc_law_at_most pm_law_at_most an_law_at_most cd_law_at_most ct_law_at_most), sl_law_at_most⟩)
    (q_law_at_most : PySem.W.codeIn K cd_law_at_most "_law_at_most" = true)
    (k_law_at_most : PySem.W.keepIn K (.ref w_law_at_most) = true)
    (a_law_lesser : PySem.W.nsIn K mainGlobals "_law_lesser" = some (some (.ref w_law_lesser)))
    (l_law_lesser : K.lookup w_law_lesser = some ⟨oc_law_lesser, od_law_lesser, .func (PySem.W.fnOf "_law_lesser" "_law_lesser" (defArgs s_law_lesser) (defBody s_law_lesser) (defScope s_law_lesser) .none kV_law_lesser dc_law_lesser pm_law_lesser an_law_lesser cd_law_lesser ct_law_lesser), sl_law_lesser⟩)
    (q_law_lesser : PySem.W.codeIn K cd_law_lesser "_law_lesser" = true)
    (k_law_lesser : PySem.W.keepIn K (.ref w_law_lesser) = true)
    (a_law_under : PySem.W.nsIn K mainGlobals "_law_under" = some (some (.ref w_law_under)))
    (l_law_under : K.lookup w_law_under = some ⟨oc_law_under, od_law_under, .func (PySem.W.fnOf "_law_under" "_law_under" (defArgs s_law_under) (defBody s_law_under) (defScope s_law_under) .none kV_law_under dc_law_under pm_law_under an_law_under cd_law_under ct_law_under), sl_law_under⟩)
    (q_law_under : PySem.W.codeIn K cd_law_under "_law_under" = true)
    (k_law_under : PySem.W.keepIn K (.ref w_law_under) = true)
    (a_law_pair_right : PySem.W.nsIn K mainGlobals "_law_pair_right" = some (some (.ref w_law_pair_right)))
    (l_law_pair_right : K.lookup w_law_pair_right = some ⟨oc_law_pair_right, od_law_pair_right, .func (PySem.W.fnOf "_law_pair_right" "_law_pair_right" (defArgs s_law_pair_right) (defBody s_law_pair_right) (defScope s_law_pair_right) .none kV_law_pair_right dc_law_pair_right pm_law_pair_right an_law_pair_right cd_law_pair_right ct_law_pair_right), sl_law_pair_right⟩)
    (q_law_pair_right : PySem.W.codeIn K cd_law_pair_right "_law_pair_right" = true)
    (k_law_pair_right : PySem.W.keepIn K (.ref w_law_pair_right) = true)
    (a_law : PySem.W.nsIn K mainGlobals "law" = some (some (.ref w_law)))
    (l_law : K.lookup w_law = some ⟨oc_law, od_law, .func (PySem.W.fnOf "law" "law" (defArgs s_law) (defBody s_law) (defScope s_law) .none kV_law dc_law pm_law an_law cd_law ct_law), sl_law⟩)
    (q_law : PySem.W.codeIn K cd_law "law" = true)
    (k_law : PySem.W.keepIn K (.ref w_law) = true)
    (y_all : PySem.W.nsIn K mainGlobals "all" = some none)
    (y_bool : PySem.W.nsIn K mainGlobals "bool" = some none)
    (y_dict : PySem.W.nsIn K mainGlobals "dict" = some none)
    (y_int : PySem.W.nsIn K mainGlobals "int" = some none)
    (y_isinstance : PySem.W.nsIn K mainGlobals "isinstance" = some none)
    (y_len : PySem.W.nsIn K mainGlobals "len" = some none)
    (y_list : PySem.W.nsIn K mainGlobals "list" = some none)
    (y_max : PySem.W.nsIn K mainGlobals "max" = some none)
    (y_min : PySem.W.nsIn K mainGlobals "min" = some none)
    (y_range : PySem.W.nsIn K mainGlobals "range" = some none)
    (y_sorted : PySem.W.nsIn K mainGlobals "sorted" = some none)
    (y_super : PySem.W.nsIn K mainGlobals "super" = some none)
    (xL_InvalidNumber : K.lookup C_InvalidNumber = some (excClassObj nm_InvalidNumber qq_InvalidNumber C_InvalidNumber N_InvalidNumber bs_InvalidNumber [.ref B_InvalidNumber, .type "ValueError", .type "Exception", .type "BaseException", .type "object"] true sn_InvalidNumber sub_InvalidNumber ab_InvalidNumber col_InvalidNumber dd_InvalidNumber m0_InvalidNumber m1_InvalidNumber m2_InvalidNumber m3_InvalidNumber m5_InvalidNumber "ValueError.__new__"))
    (sa_InvalidNumber : PySem.W.findIn K (.ref C_InvalidNumber) "__setattr__" = some (some (.builtin "object.__setattr__")))
    (nv_InvalidNumber : PySem.W.findIn K (.ref C_InvalidNumber) "value" = some none)
    (iC_InvalidNumber : PySem.W.findIn K (.ref C_InvalidNumber) "__init__" = some (some (.ref f1_InvalidNumber)))
    (tI_InvalidNumber : PySem.W.typeIn K (.ref f1_InvalidNumber) = some (.type "function"))
    (l1_InvalidNumber : K.lookup f1_InvalidNumber = some ⟨eo_InvalidNumber, ed_InvalidNumber, .func (PySem.W.fnX name_InvalidNumber qual_InvalidNumber { posonlyargs := [], args := [{ arg := "self", annotation := none, pos := r1_InvalidNumber }, { arg := "value", annotation := none, pos := r2_InvalidNumber }], vararg := none, kwonlyargs := [], kw_defaults := [], kwarg := none, defaults := [] }
      (inB "value" "value" msg_InvalidNumber n_InvalidNumber p0_InvalidNumber p1_InvalidNumber p2_InvalidNumber p3_InvalidNumber p4_InvalidNumber p5_InvalidNumber q1_InvalidNumber q2_InvalidNumber q3_InvalidNumber q4_InvalidNumber)
      { kind := .function, names := [("self", .local), ("value", .local), ("__class__", .free), ("super", .globalImplicit)], isGenerator := false, isCoroutine := false, more := [] } [("__class__", cc_InvalidNumber)] .none ek_InvalidNumber ec_InvalidNumber ep_InvalidNumber ea_InvalidNumber (.ref cda_InvalidNumber) et_InvalidNumber), es_InvalidNumber⟩)
    (c1_InvalidNumber : PySem.W.codeIn K (.ref cda_InvalidNumber) qual_InvalidNumber = true)
    (lc_InvalidNumber : K.lookup cda_InvalidNumber = some ⟨ccl_InvalidNumber, cdd_InvalidNumber, .fields vs_InvalidNumber, ccs_InvalidNumber⟩)
    (hp_InvalidNumber : (p2_InvalidNumber.endLine == p4_InvalidNumber.line) = true)
    (hv_InvalidNumber : vs_InvalidNumber[2]? = some (.str file_InvalidNumber tf_InvalidNumber))
    (hf_InvalidNumber : ((l.prog.main.file : Str) == file_InvalidNumber) = true)
    (lcc_InvalidNumber : K.lookup cc_InvalidNumber = some ⟨cl_InvalidNumber, cld_InvalidNumber, .cell (some (.ref C_InvalidNumber)), csl_InvalidNumber⟩)
    (kC_InvalidNumber : PySem.W.keepIn K (.ref C_InvalidNumber) = true)
    (eC_InvalidNumber : PySem.W.subIn K (.ref C_InvalidNumber) (.type "BaseException") = some true)
    (tC_InvalidNumber : PySem.W.typeIn K (.ref C_InvalidNumber) = some (.type "type"))
    (sup_InvalidNumber : PySem.W.ks_superIn K C_InvalidNumber C_InvalidNumber "__init__" = some (some (.builtin "ValueError.__init__")))
    (sb_InvalidNumber : PySem.W.subIn K (.ref C_InvalidNumber) (.type "ValueError") = some true)
    (sf_InvalidNumber : PySem.W.mroIn K C_InvalidNumber (.ref C_InvalidNumber) = some true)
    (any : PySem.W.nsIn K cStatics "thirdparty.any" = some none)
    (top : (l.prog.main.scope.names.lookup ("super" : Str)).isSome = false)
    (g1_Form : PySem.W.plainGet K C_Form Str.empty = true)
    (g2_Form : PySem.W.hasDictIn K C_Form = true)
    (g3_Form : PySem.W.plainOver K C_Form = true)
    (g4_Form : PySem.W.findIn K (.ref C_Form) "__setattr__" = some (some (.builtin "object.__setattr__")))
    (tt_Form : PySem.W.typeIn K (.ref C_Form) = some (.type "type"))
    (mr_Form : PySem.W.mroIn K C_Form (.type "object") = some true)
    (ca_Form : PySem.W.findIn K (.ref C_Form) "__class__" = some (some (.builtin "object.__class__")))
    (s7_Form_NoneType : PySem.W.subIn K (.type "NoneType") (.ref C_Form) = some false)
    (s7_Form_bool : PySem.W.subIn K (.type "bool") (.ref C_Form) = some false)
    (s7_Form_int : PySem.W.subIn K (.type "int") (.ref C_Form) = some false)
    (s7_Form_str : PySem.W.subIn K (.type "str") (.ref C_Form) = some false)
    (s7_Form_list : PySem.W.subIn K (.type "list") (.ref C_Form) = some false)
    (s7_Form_tuple : PySem.W.subIn K (.type "tuple") (.ref C_Form) = some false)
    (s7_Form_dict : PySem.W.subIn K (.type "dict") (.ref C_Form) = some false)
    (gs_c : PySem.W.specialIn K (.builtin "object.__class__") "__get__" = some (some (.builtin "getset_descriptor.__get__")))
    (tk_c : PySem.W.takesIn K (.builtin "object.__class__") = some true)
    (qe_Form : PySem.W.findIn K (.ref C_Form) "__eq__" = some (some (.ref w_Form_eq)))
    (qf_Form : PySem.W.isFn K (.ref w_Form_eq) = true)
    (qn_Form : PySem.W.findIn K (.ref C_Form) "__ne__" = some (some (.builtin "object.__ne__")))
    (qo_Form : PySem.W.subIn K (.ref C_Form) (.type "object") = some true)
    (nq : allNe [C_WidthError, C_InvalidNumber, C_Form] = true)
    (O1_Form_and_Form : PySem.W.selfFirst K C_Form = true)
    (O2_Form_and_Form : PySem.W.findIn K (.ref C_Form) "__and__" = some (some (.ref w_Form_and)))
    (O3_Form_and_Form : PySem.W.isFn K (.ref w_Form_and) = true)
    (u1_Form : PySem.W.findIn K (.ref C_Form) "__getitem__" = some (some (.ref w_Form_getitem)))
    (u2_Form : PySem.W.fnIn K w_Form_getitem = true)
    (u3_Form : PySem.W.isFn K (.ref w_Form_getitem) = true)
    (j1_Form : PySem.W.findIn K (.ref C_Form) "__contains__" = some (some (.ref w_Form_contains)))
    (j2_Form : PySem.W.isFn K (.ref w_Form_contains) = true)
    (na_Form_kept_widths : PySem.W.findIn K (.ref C_Form) "kept_widths" = some none)
    (mk_Form : PySem.W.makesIn K C_Form = true)
    (mi_Form : PySem.W.findIn K (.ref C_Form) "__init__" = some (some (.ref w_Form_init)))
    (mf_Form : PySem.W.isFn K (.ref w_Form_init) = true)
    (mc_Form : PySem.W.keepIn K (.ref C_Form) = true)
    (e1_Form_is_under : PySem.W.findIn K (.ref C_Form) "is_under" = some (some (.ref w_Form_is_under)))
    (e2_Form_is_under : PySem.W.isFn K (.ref w_Form_is_under) = true)
    (e1_Form_shifts : PySem.W.findIn K (.ref C_Form) "shifts" = some (some (.ref w_Form_shifts)))
    (e2_Form_shifts : PySem.W.isFn K (.ref w_Form_shifts) = true)
    (l_Form_init : K.lookup w_Form_init = some ⟨oc_Form_init, od_Form_init, .func (PySem.W.fnOf "__init__" "Form.__init__" (defArgs s_Form_init) (defBody s_Form_init) (defScope s_Form_init) .none kV_Form_init dc_Form_init pm_Form_init an_Form_init cd_Form_init ct_Form_init), sl_Form_init⟩)
    (q_Form_init : PySem.W.codeIn K cd_Form_init "Form.__init__" = true)
    (l_Form_contains : K.lookup w_Form_contains = some ⟨oc_Form_contains, od_Form_contains, .func (PySem.W.fnOf "__contains__" "Form.__contains__" (defArgs s_Form_contains) (defBody s_Form_contains) (defScope s_Form_contains) .none kV_Form_contains dc_Form_contains pm_Form_contains an_Form_contains cd_Form_contains ct_Form_contains), sl_Form_contains⟩)
    (q_Form_contains : PySem.W.codeIn K cd_Form_contains "Form.__contains__" = true)
    (k_Form_contains : PySem.W.keepIn K (.ref w_Form_contains) = true)
    (l_Form_getitem : K.lookup w_Form_getitem = some ⟨oc_Form_getitem, od_Form_getitem, .func (PySem.W.fnOf "__getitem__" "Form.__getitem__" (defArgs s_Form_getitem) (defBody s_Form_getitem) (defScope s_Form_getitem) .none kV_Form_getitem dc_Form_getitem pm_Form_getitem an_Form_getitem cd_Form_getitem ct_Form_getitem), sl_Form_getitem⟩)
    (q_Form_getitem : PySem.W.codeIn K cd_Form_getitem "Form.__getitem__" = true)
    (k_Form_getitem : PySem.W.keepIn K (.ref w_Form_getitem) = true)
    (l_Form_and : K.lookup w_Form_and = some ⟨oc_Form_and, od_Form_and, .func (PySem.W.fnOf "__and__" "Form.__and__" (defArgs s_Form_and) (defBody s_Form_and) (defScope s_Form_and) .none kV_Form_and dc_Form_and pm_Form_and an_Form_and cd_Form_and ct_Form_and), sl_Form_and⟩)
    (q_Form_and : PySem.W.codeIn K cd_Form_and "Form.__and__" = true)
    (k_Form_and : PySem.W.keepIn K (.ref w_Form_and) = true)
    (l_Form_shifts : K.lookup w_Form_shifts = some ⟨oc_Form_shifts, od_Form_shifts, .func (PySem.W.fnOf "shifts" "Form.shifts" (defArgs s_Form_shifts) (defBody s_Form_shifts) (defScope s_Form_shifts) .none kV_Form_shifts dc_Form_shifts pm_Form_shifts an_Form_shifts cd_Form_shifts ct_Form_shifts), sl_Form_shifts⟩)
    (q_Form_shifts : PySem.W.codeIn K cd_Form_shifts "Form.shifts" = true)
    (k_Form_shifts : PySem.W.keepIn K (.ref w_Form_shifts) = true)
    (l_Form_eq : K.lookup w_Form_eq = some ⟨oc_Form_eq, od_Form_eq, .func (PySem.W.fnOf "__eq__" "Form.__eq__" (defArgs s_Form_eq) (defBody s_Form_eq) (defScope s_Form_eq) .none kV_Form_eq dc_Form_eq pm_Form_eq an_Form_eq cd_Form_eq ct_Form_eq), sl_Form_eq⟩)
    (q_Form_eq : PySem.W.codeIn K cd_Form_eq "Form.__eq__" = true)
    (k_Form_eq : PySem.W.keepIn K (.ref w_Form_eq) = true)
    (l_Form_is_under : K.lookup w_Form_is_under = some ⟨oc_Form_is_under, od_Form_is_under, .func (PySem.W.fnOf "is_under" "Form.is_under" (defArgs s_Form_is_under) (defBody s_Form_is_under) (defScope s_Form_is_under) .none kV_Form_is_under dc_Form_is_under pm_Form_is_under an_Form_is_under cd_Form_is_under ct_Form_is_under), sl_Form_is_under⟩)
    (q_Form_is_under : PySem.W.codeIn K cd_Form_is_under "Form.is_under" = true)
    (k_Form_is_under : PySem.W.keepIn K (.ref w_Form_is_under) = true) :
    ∃ (fd : FuncData) (M : MM), M.tb = none ∧ (∀ (s : Shared) (v : Value), BindsTo s fd ⟨[v], []⟩ [("script", v)]) ∧ ∀ base : Heap, K.In base → base.Ns mainGlobals mg → FnG l.prog w K mg base (L2.CX l.prog w) 8 fa fd ["script"] (spLaw K M) := by
  have e := hfa.symm.trans (PySem.W.mg_of X G a_law)
  cases e
  have T : Tx K mg := ⟨PySem.W.mg_none_of X G y_all, PySem.W.mg_none_of X G y_bool, PySem.W.mg_none_of X G y_dict, PySem.W.mg_none_of X G y_int, PySem.W.mg_none_of X G y_isinstance, PySem.W.mg_none_of X G y_len, PySem.W.mg_none_of X G y_list, PySem.W.mg_none_of X G y_max, PySem.W.mg_none_of X G y_min, PySem.W.mg_none_of X G y_range, PySem.W.mg_none_of X G y_sorted, PySem.W.mg_none_of X G y_super⟩
  let M : MM := MofP [C_WidthError, C_InvalidNumber, C_Form]
  have J_inj : ∀ c c' C, M.m c = some C → M.m c' = some C → c = c' := get_inj (allNe_nd nq)
  have F_law_pool := fun_mk (st := s_law_pool) l_law_pool q_law_pool k_law_pool
  have b_law_pool := F_law_pool.binds (ps := ["script", "k"]) fun _ _ _ _ _ _ us hl => match us, hl with | [_, _], _ => rfl
  have F_law_draw := fun_mk (st := s_law_draw) l_law_draw q_law_draw k_law_draw
  have b_law_draw := F_law_draw.binds (ps := ["pool", "many"]) fun _ _ _ _ _ _ us hl => match us, hl with | [_, _], _ => rfl
  have F_law_width := fun_mk (st := s_law_width) l_law_width q_law_width k_law_width
  have b_law_width := F_law_width.binds (ps := ["pool"]) fun _ _ _ _ _ _ us hl => match us, hl with | [_], _ => rfl
  have F_law_widths_by := fun_mk (st := s_law_widths_by) l_law_widths_by q_law_widths_by k_law_widths_by
  have b_law_widths_by := F_law_widths_by.binds (ps := ["pool"]) fun _ _ _ _ _ _ us hl => match us, hl with | [_], _ => rfl
  have F_is_integer := fun_mk (st := s_is_integer) l_is_integer q_is_integer k_is_integer
  have b_is_integer := F_is_integer.binds (ps := ["value"]) fun _ _ _ _ _ _ us hl => match us, hl with | [_], _ => rfl
  have F_is_count := fun_mk (st := s_is_count) l_is_count q_is_count k_is_count
  have b_is_count := F_is_count.binds (ps := ["value"]) fun _ _ _ _ _ _ us hl => match us, hl with | [_], _ => rfl
  have F_is_form := fun_mk (st := s_is_form) l_is_form q_is_form k_is_form
  have b_is_form := F_is_form.binds (ps := ["value"]) fun _ _ _ _ _ _ us hl => match us, hl with | [_], _ => rfl
  have F_Form_init : Fn2 K "__init__" "Form.__init__" s_Form_init w_Form_init _ := ⟨⟨_, _, _, _, _, _, _, _, _, _, rfl, l_Form_init, q_Form_init⟩⟩
  have b_Form_init : Binds K (PySem.W.fnOf "__init__" "Form.__init__" (defArgs s_Form_init) (defBody s_Form_init) (defScope s_Form_init) .none kV_Form_init dc_Form_init pm_Form_init an_Form_init cd_Form_init ct_Form_init) ["self", "values"] [] := .all fun us hl => match us, hl with | [_, _], _ => rfl
  have F_Form_contains := fun_mk (st := s_Form_contains) l_Form_contains q_Form_contains k_Form_contains
  have b_Form_contains := F_Form_contains.binds (ps := ["self", "x"]) fun _ _ _ _ _ _ us hl => match us, hl with | [_, _], _ => rfl
  have F_Form_getitem := fun_mk (st := s_Form_getitem) l_Form_getitem q_Form_getitem k_Form_getitem
  have b_Form_getitem := F_Form_getitem.binds (ps := ["self", "at"]) fun _ _ _ _ _ _ us hl => match us, hl with | [_, _], _ => rfl
  have F_is_up_to := fun_mk (st := s_is_up_to) l_is_up_to q_is_up_to k_is_up_to
  have b_is_up_to := F_is_up_to.binds (ps := ["one", "other"]) fun _ _ _ _ _ _ us hl => match us, hl with | [_, _], _ => rfl
  have F_Form_and := fun_mk (st := s_Form_and) l_Form_and q_Form_and k_Form_and
  have b_Form_and := F_Form_and.binds (ps := ["self", "other"]) fun _ _ _ _ _ _ us hl => match us, hl with | [_, _], _ => rfl
  have F_Form_shifts := fun_mk (st := s_Form_shifts) l_Form_shifts q_Form_shifts k_Form_shifts
  have b_Form_shifts := F_Form_shifts.binds (ps := ["self"]) fun _ _ _ _ _ _ us hl => match us, hl with | [_], _ => rfl
  have F_law_read := fun_mk (st := s_law_read) l_law_read q_law_read k_law_read
  have b_law_read := F_law_read.binds (ps := ["form"]) fun _ _ _ _ _ _ us hl => match us, hl with | [_], _ => rfl
  have F_law_at_most := fun_mk (st := s_law_at_most) l_law_at_most q_law_at_most k_law_at_most
  have b_law_at_most := F_law_at_most.binds (ps := ["one", "other"]) fun _ _ _ _ _ _ us hl => match us, hl with | [_, _], _ => rfl
  have F_law_lesser := fun_mk (st := s_law_lesser) l_law_lesser q_law_lesser k_law_lesser
  have b_law_lesser := F_law_lesser.binds (ps := ["one", "other"]) fun _ _ _ _ _ _ us hl => match us, hl with | [_, _], _ => rfl
  have F_Form_eq := fun_mk (st := s_Form_eq) l_Form_eq q_Form_eq k_Form_eq
  have b_Form_eq := F_Form_eq.binds (ps := ["self", "other"]) fun _ _ _ _ _ _ us hl => match us, hl with | [_, _], _ => rfl
  have F_Form_is_under := fun_mk (st := s_Form_is_under) l_Form_is_under q_Form_is_under k_Form_is_under
  have b_Form_is_under := F_Form_is_under.binds (ps := ["self", "other"]) fun _ _ _ _ _ _ us hl => match us, hl with | [_, _], _ => rfl
  have F_law_under := fun_mk (st := s_law_under) l_law_under q_law_under k_law_under
  have b_law_under := F_law_under.binds (ps := ["one", "other"]) fun _ _ _ _ _ _ us hl => match us, hl with | [_, _], _ => rfl
  have F_law_pair_right := fun_mk (st := s_law_pair_right) l_law_pair_right q_law_pair_right k_law_pair_right
  have b_law_pair_right := F_law_pair_right.binds (ps := ["one", "other", "mine", "yours"]) fun _ _ _ _ _ _ us hl => match us, hl with | [_, _, _, _], _ => rfl
  have F_law := fun_mk (st := s_law) l_law q_law k_law
  have b_law := F_law.binds (ps := ["script"]) fun _ _ _ _ _ _ us hl => match us, hl with | [_], _ => rfl
  have e_InvalidNumber : ErrOk l.prog K (WcOf M) mg "InvalidNumber" 1 "value" := ⟨⟨C_InvalidNumber, f1_InvalidNumber, _, rfl, val_mk xL_InvalidNumber sa_InvalidNumber nv_InvalidNumber iC_InvalidNumber tI_InvalidNumber l1_InvalidNumber c1_InvalidNumber lc_InvalidNumber hp_InvalidNumber hv_InvalidNumber hf_InvalidNumber lcc_InvalidNumber kC_InvalidNumber eC_InvalidNumber tC_InvalidNumber sup_InvalidNumber sb_InvalidNumber any sf_InvalidNumber top, PySem.W.mg_of X G aC_InvalidNumber⟩⟩
  have cl_Form : Cls K C_Form := ⟨g1_Form, g2_Form, g3_Form, g4_Form⟩
  have i_Form : IsOk K (WcOf M) mg "Form" 2 := ⟨⟨C_Form, rfl, PySem.W.mg_of X G aC_Form, (fun T hT => by
      simp only [List.mem_cons, List.not_mem_nil, or_false] at hT
      rcases hT with rfl | rfl | rfl | rfl | rfl | rfl | rfl
      · exact kit_sub g2_Form tt_Form s7_Form_NoneType (.inr rfl)
      · exact kit_sub g2_Form tt_Form s7_Form_bool (.inr rfl)
      · exact kit_sub g2_Form tt_Form s7_Form_int (.inr rfl)
      · exact kit_sub g2_Form tt_Form s7_Form_str (.inr rfl)
      · exact kit_sub g2_Form tt_Form s7_Form_list (.inr rfl)
      · exact kit_sub g2_Form tt_Form s7_Form_tuple (.inr rfl)
      · exact kit_sub g2_Form tt_Form s7_Form_dict (.inr rfl)), cl_Form, ca_Form, gs_c, tk_c, mr_Form⟩⟩
  have h_Form_kept_widths : FldOk K (WcOf M) 2 "kept_widths" := ⟨⟨C_Form, rfl, cl_Form, na_Form_kept_widths⟩⟩
  refine ⟨PySem.W.fnOf "law" "law" (defArgs s_law) (defBody s_law) (defScope s_law) .none kV_law dc_law pm_law an_law cd_law ct_law, M, rfl, fun s v => .of_eq rfl, fun base _ _ => ?_⟩
  have g_law_draw := ok_law_draw (P := l.prog) (w := w) (base := base) (M := M) rfl F_law_draw T
  have c_law_draw := defOk (W := WcOf M) (P := l.prog) (w := w) (base := base) g_law_draw (PySem.W.mg_of X G a_law_draw) k_law_draw b_law_draw
  have g_law_width := ok_law_width (P := l.prog) (w := w) (base := base) (M := M) F_law_width T c_law_draw
  have c_law_width := defOk (W := WcOf M) (P := l.prog) (w := w) (base := base) g_law_width (PySem.W.mg_of X G a_law_width) k_law_width b_law_width
  have g_law_widths_by := ok_law_widths_by (P := l.prog) (w := w) (base := base) (M := M) F_law_widths_by T c_law_draw c_law_width
  have c_law_widths_by := defOk (W := WcOf M) (P := l.prog) (w := w) (base := base) g_law_widths_by (PySem.W.mg_of X G a_law_widths_by) k_law_widths_by b_law_widths_by
  have g_is_integer := ok_is_integer (P := l.prog) (w := w) (base := base) (M := M) F_is_integer T 
  have c_is_integer := defOk (W := WcOf M) (P := l.prog) (w := w) (base := base) g_is_integer (PySem.W.mg_of X G a_is_integer) k_is_integer b_is_integer
  have g_is_count := ok_is_count (P := l.prog) (w := w) (base := base) (M := M) F_is_count T c_is_integer
  have c_is_count := defOk (W := WcOf M) (P := l.prog) (w := w) (base := base) g_is_count (PySem.W.mg_of X G a_is_count) k_is_count b_is_count
  have g_is_form := ok_is_form (P := l.prog) (w := w) (base := base) (M := M) F_is_form T c_is_integer c_is_count
  have c_is_form := defOk (W := WcOf M) (P := l.prog) (w := w) (base := base) g_is_form (PySem.W.mg_of X G a_is_form) k_is_form b_is_form
  have g_Form_init := ok_Form_init (P := l.prog) (w := w) (base := base) (M := M) F_Form_init T (fun C h => by cases h; exact cl_Form) h_Form_kept_widths c_is_form e_InvalidNumber
  have n_Form : NewOk l.prog w K (WcOf M) mg base 4 "Form" 2 (f_Form_init M) [] [] := ⟨⟨C_Form, w_Form_init, _, ["self", "values"], [], rfl, ⟨mk_Form, mi_Form, mf_Form, mc_Form⟩, g_Form_init, PySem.W.mg_of X G aC_Form, b_Form_init, .nil, fun _ _ => RA.nil⟩⟩
  have g_Form_contains := ok_Form_contains (P := l.prog) (w := w) (base := base) (M := M) F_Form_contains T c_is_integer h_Form_kept_widths
  have j_Form : InOk l.prog w K (WcOf M) mg base 2 2 (f_Form_contains M) := ⟨⟨C_Form, w_Form_contains, _, ["self", "x"], rfl, ⟨j1_Form, j2_Form⟩, g_Form_contains, b_Form_contains⟩⟩
  have g_Form_getitem := ok_Form_getitem (P := l.prog) (w := w) (base := base) (M := M) F_Form_getitem T j_Form e_InvalidNumber h_Form_kept_widths
  have u_Form : SubOk l.prog w K (WcOf M) mg base 4 2 (f_Form_getitem M) := ⟨⟨C_Form, w_Form_getitem, _, ["self", "at"], rfl, ⟨u1_Form, u2_Form, u3_Form⟩, g_Form_getitem, b_Form_getitem⟩⟩
  have g_is_up_to := ok_is_up_to (P := l.prog) (w := w) (base := base) (M := M) F_is_up_to T 
  have c_is_up_to := defOk (W := WcOf M) (P := l.prog) (w := w) (base := base) g_is_up_to (PySem.W.mg_of X G a_is_up_to) k_is_up_to b_is_up_to
  have g_Form_and := ok_Form_and (P := l.prog) (w := w) (base := base) (M := M) F_Form_and T h_Form_kept_widths j_Form u_Form c_is_up_to n_Form
  have O_Form_and_Form : OpSOk l.prog w K (WcOf M) mg base 6 2 .BitAnd (f_Form_and M) := ⟨⟨C_Form, w_Form_and, _, ["self", "other"], rfl, ⟨O1_Form_and_Form, O2_Form_and_Form, O3_Form_and_Form⟩, g_Form_and, b_Form_and⟩⟩
  have g_Form_shifts := ok_Form_shifts (P := l.prog) (w := w) (base := base) (M := M) F_Form_shifts T h_Form_kept_widths
  have m_Form_shifts : MethOk l.prog w K (WcOf M) mg base 1 2 "shifts" (f_Form_shifts M) [] [] := ⟨⟨C_Form, w_Form_shifts, _, ["self"], [], rfl, cl_Form, ⟨e1_Form_shifts, e2_Form_shifts, k_Form_shifts⟩, g_Form_shifts, b_Form_shifts, .nil, fun _ _ => RA.nil⟩⟩
  have g_law_read := ok_law_read (P := l.prog) (w := w) (base := base) (M := M) F_law_read T m_Form_shifts u_Form
  have c_law_read := defOk (W := WcOf M) (P := l.prog) (w := w) (base := base) g_law_read (PySem.W.mg_of X G a_law_read) k_law_read b_law_read
  have g_law_at_most := ok_law_at_most (P := l.prog) (w := w) (base := base) (M := M) F_law_at_most T 
  have c_law_at_most := defOk (W := WcOf M) (P := l.prog) (w := w) (base := base) g_law_at_most (PySem.W.mg_of X G a_law_at_most) k_law_at_most b_law_at_most
  have g_law_lesser := ok_law_lesser (P := l.prog) (w := w) (base := base) (M := M) F_law_lesser T c_law_at_most
  have c_law_lesser := defOk (W := WcOf M) (P := l.prog) (w := w) (base := base) g_law_lesser (PySem.W.mg_of X G a_law_lesser) k_law_lesser b_law_lesser
  have g_Form_eq := ok_Form_eq (P := l.prog) (w := w) (base := base) (M := M) F_Form_eq T i_Form h_Form_kept_widths
  have q_Form : EqOk l.prog w K (WcOf M) mg base 1 2 (f_Form_eq M) := ⟨⟨C_Form, w_Form_eq, _, ["self", "other"], rfl, ⟨qe_Form, qf_Form, qn_Form, qo_Form, (fun T hT => by
      simp only [List.mem_cons, List.not_mem_nil, or_false] at hT
      rcases hT with rfl | rfl | rfl | rfl | rfl | rfl | rfl
      · exact s7_Form_NoneType
      · exact s7_Form_bool
      · exact s7_Form_int
      · exact s7_Form_str
      · exact s7_Form_list
      · exact s7_Form_tuple
      · exact s7_Form_dict)⟩, g_Form_eq, b_Form_eq⟩⟩
  have g_Form_is_under := ok_Form_is_under (P := l.prog) (w := w) (base := base) (M := M) F_Form_is_under T h_Form_kept_widths j_Form u_Form c_is_up_to
  have m_Form_is_under : MethOk l.prog w K (WcOf M) mg base 6 2 "is_under" (f_Form_is_under M) [] [] := ⟨⟨C_Form, w_Form_is_under, _, ["self", "other"], [], rfl, cl_Form, ⟨e1_Form_is_under, e2_Form_is_under, k_Form_is_under⟩, g_Form_is_under, b_Form_is_under, .nil, fun _ _ => RA.nil⟩⟩
  have g_law_under := ok_law_under (P := l.prog) (w := w) (base := base) (M := M) F_law_under T c_law_at_most
  have c_law_under := defOk (W := WcOf M) (P := l.prog) (w := w) (base := base) g_law_under (PySem.W.mg_of X G a_law_under) k_law_under b_law_under
  have g_law_pair_right := ok_law_pair_right (P := l.prog) (w := w) (base := base) (M := M) F_law_pair_right T O_Form_and_Form c_law_read c_law_lesser q_Form m_Form_is_under c_law_under
  have c_law_pair_right := defOk (W := WcOf M) (P := l.prog) (w := w) (base := base) g_law_pair_right (PySem.W.mg_of X G a_law_pair_right) k_law_pair_right b_law_pair_right
  exact ok_law (M := M) rfl F_law T (ok_law_pool F_law_pool T) (PySem.W.mg_of X G a_law_pool) k_law_pool b_law_pool c_law_widths_by c_law_draw c_law_width n_Form c_law_pair_right O_Form_and_Form q_Form m_Form_is_under J_inj c_law_read
theorem walk {l : PySem.W.OpenLaw} {q : Program} {loose : List Str} {XP : (Str → Option Value) → Heap → Prop} {YP : World → Heap → Prop} {d : DefRec} {K : Params → PySem.W.Frag} (hn : l.most = some 63) (hdf : d.params.defaults = [])
    (hY : ∀ (w : World) (h : Heap), YP w h → (K w.params).In h)
    (F : ∀ (w : World) (mg : Str → Option Value) (fa : Addr) (h : Heap), (K w.params).In h → h.Ns mainGlobals mg → mg d.name = some (.ref fa) →
      ∃ (fd : FuncData) (M : MM), M.tb = none ∧ (∀ (s : Shared) (u : Value), BindsTo s fd ⟨[u], []⟩ [("script", u)]) ∧ ∀ base : Heap, (K w.params).In base → base.Ns mainGlobals mg → FnG l.prog w (K w.params) mg base (L2.CX l.prog w) 8 fa fd ["script"] (spLaw (K w.params) M)) :
    PySem.W.WalkO q loose XP YP l.row.toRowW d [] (fun f vs => PySem.call f vs) := walkG (k := 8) hn hdf ⟨rfl, by decide, by decide⟩ hY F
end DLlaw
open PySem PySem.W PyProof.Rows
set_option maxRecDepth 100000 in
set_option maxHeartbeats 0 in
theorem PySem.Challenge.cw_vectorwidths_k48_forms_compared_holds : PySem.Challenge.rw_vectorwidths_k48_forms_compared.Holds := by
  w_on; o_law; k_head; (case hw => w_witness2)
  k_fill
  refine DLlaw.walk (l := PySem.Challenge.rw_vectorwidths_k48_forms_compared) rfl rfl (fun w h Y => PySem.W.kIn_of Y) ?F
  case F =>
    intro w mg fa h KX G hmg
    refine' DLlaw.all_mk KX G hmg ?aC_WidthError ?aC_InvalidNumber ?aC_Form ?a_law_pool ?l_law_pool ?q_law_pool ?k_law_pool ?a_law_draw ?l_law_draw ?q_law_draw ?k_law_draw ?a_law_width ?l_law_width ?q_law_width ?k_law_width ?a_law_widths_by ?l_law_widths_by ?q_law_widths_by ?k_law_widths_by ?a_is_integer ?l_is_integer ?q_is_integer ?k_is_integer ?a_is_count ?l_is_count ?q_is_count ?k_is_count ?a_is_form ?l_is_form ?q_is_form ?k_is_form ?a_is_up_to ?l_is_up_to ?q_is_up_to ?k_is_up_to ?a_law_read ?l_law_read ?q_law_read ?k_law_read ?a_law_at_most ?l_law_at_most ?q_law_at_most ?k_law_at_most ?a_law_lesser ?l_law_lesser ?q_law_lesser ?k_law_lesser ?a_law_under ?l_law_under ?q_law_under ?k_law_under ?a_law_pair_right ?l_law_pair_right ?q_law_pair_right ?k_law_pair_right ?a_law ?l_law ?q_law ?k_law ?y_all ?y_bool ?y_dict ?y_int ?y_isinstance ?y_len ?y_list ?y_max ?y_min ?y_range ?y_sorted ?y_super ?xL_InvalidNumber ?sa_InvalidNumber ?nv_InvalidNumber ?iC_InvalidNumber ?tI_InvalidNumber ?l1_InvalidNumber ?c1_InvalidNumber ?lc_InvalidNumber ?hp_InvalidNumber ?hv_InvalidNumber ?hf_InvalidNumber ?lcc_InvalidNumber ?kC_InvalidNumber ?eC_InvalidNumber ?tC_InvalidNumber ?sup_InvalidNumber ?sb_InvalidNumber ?sf_InvalidNumber ?any ?top ?g1_Form ?g2_Form ?g3_Form ?g4_Form ?tt_Form ?mr_Form ?ca_Form ?s7_Form_NoneType ?s7_Form_bool ?s7_Form_int ?s7_Form_str ?s7_Form_list ?s7_Form_tuple ?s7_Form_dict ?gs_c ?tk_c ?qe_Form ?qf_Form ?qn_Form ?qo_Form ?nq ?O1_Form_and_Form ?O2_Form_and_Form ?O3_Form_and_Form ?u1_Form ?u2_Form ?u3_Form ?j1_Form ?j2_Form ?na_Form_kept_widths ?mk_Form ?mi_Form ?mf_Form ?mc_Form ?e1_Form_is_under ?e2_Form_is_under ?e1_Form_shifts ?e2_Form_shifts ?l_Form_init ?q_Form_init ?l_Form_contains ?q_Form_contains ?k_Form_contains ?l_Form_getitem ?q_Form_getitem ?k_Form_getitem ?l_Form_and ?q_Form_and ?k_Form_and ?l_Form_shifts ?q_Form_shifts ?k_Form_shifts ?l_Form_eq ?q_Form_eq ?k_Form_eq ?l_Form_is_under ?q_Form_is_under ?k_Form_is_under
    (case aC_WidthError => first | k_is | rfl | decide)
    (case aC_InvalidNumber => first | k_is | rfl | decide)
    (case aC_Form => first | k_is | rfl | decide)
    (case a_law_pool => first | k_is | rfl | decide)
    (case l_law_pool => first | k_is | rfl | decide)
    (case q_law_pool => first | k_is | rfl | decide)
    (case k_law_pool => first | k_is | rfl | decide)
    (case a_law_draw => first | k_is | rfl | decide)
    (case l_law_draw => first | k_is | rfl | decide)
    (case q_law_draw => first | k_is | rfl | decide)
    (case k_law_draw => first | k_is | rfl | decide)
    (case a_law_width => first | k_is | rfl | decide)
    (case l_law_width => first | k_is | rfl | decide)
    (case q_law_width => first | k_is | rfl | decide)
    (case k_law_width => first | k_is | rfl | decide)
    (case a_law_widths_by => first | k_is | rfl | decide)
    (case l_law_widths_by => first | k_is | rfl | decide)
    (case q_law_widths_by => first | k_is | rfl | decide)
    (case k_law_widths_by => first | k_is | rfl | decide)
    (case a_is_integer => first | k_is | rfl | decide)
    (case l_is_integer => first | k_is | rfl | decide)
    (case q_is_integer => first | k_is | rfl | decide)
    (case k_is_integer => first | k_is | rfl | decide)
    (case a_is_count => first | k_is | rfl | decide)
    (case l_is_count => first | k_is | rfl | decide)
    (case q_is_count => first | k_is | rfl | decide)
    (case k_is_count => first | k_is | rfl | decide)
    (case a_is_form => first | k_is | rfl | decide)
    (case l_is_form => first | k_is | rfl | decide)
    (case q_is_form => first | k_is | rfl | decide)
    (case k_is_form => first | k_is | rfl | decide)
    (case a_is_up_to => first | k_is | rfl | decide)
    (case l_is_up_to => first | k_is | rfl | decide)
    (case q_is_up_to => first | k_is | rfl | decide)
    (case k_is_up_to => first | k_is | rfl | decide)
    (case a_law_read => first | k_is | rfl | decide)
    (case l_law_read => first | k_is | rfl | decide)
    (case q_law_read => first | k_is | rfl | decide)
    (case k_law_read => first | k_is | rfl | decide)
    (case a_law_at_most => first | k_is | rfl | decide)
    (case l_law_at_most => first | k_is | rfl | decide)
    (case q_law_at_most => first | k_is | rfl | decide)
    (case k_law_at_most => first | k_is | rfl | decide)
    (case a_law_lesser => first | k_is | rfl | decide)
    (case l_law_lesser => first | k_is | rfl | decide)
    (case q_law_lesser => first | k_is | rfl | decide)
    (case k_law_lesser => first | k_is | rfl | decide)
    (case a_law_under => first | k_is | rfl | decide)
    (case l_law_under => first | k_is | rfl | decide)
    (case q_law_under => first | k_is | rfl | decide)
    (case k_law_under => first | k_is | rfl | decide)
    (case a_law_pair_right => first | k_is | rfl | decide)
    (case l_law_pair_right => first | k_is | rfl | decide)
    (case q_law_pair_right => first | k_is | rfl | decide)
    (case k_law_pair_right => first | k_is | rfl | decide)
    (case a_law => first | k_is | rfl | decide)
    (case l_law => first | k_is | rfl | decide)
    (case q_law => first | k_is | rfl | decide)
    (case k_law => first | k_is | rfl | decide)
    (case y_all => first | k_is | rfl | decide)
    (case y_bool => first | k_is | rfl | decide)
    (case y_dict => first | k_is | rfl | decide)
    (case y_int => first | k_is | rfl | decide)
    (case y_isinstance => first | k_is | rfl | decide)
    (case y_len => first | k_is | rfl | decide)
    (case y_list => first | k_is | rfl | decide)
    (case y_max => first | k_is | rfl | decide)
    (case y_min => first | k_is | rfl | decide)
    (case y_range => first | k_is | rfl | decide)
    (case y_sorted => first | k_is | rfl | decide)
    (case y_super => first | k_is | rfl | decide)
    (case xL_InvalidNumber => first | k_is | rfl | decide)
    (case sa_InvalidNumber => first | k_is | rfl | decide)
    (case nv_InvalidNumber => first | k_is | rfl | decide)
    (case iC_InvalidNumber => first | k_is | rfl | decide)
    (case tI_InvalidNumber => first | k_is | rfl | decide)
    (case l1_InvalidNumber => first | k_is | rfl | decide)
    (case c1_InvalidNumber => first | k_is | rfl | decide)
    (case lc_InvalidNumber => first | k_is | rfl | decide)
    (case hp_InvalidNumber => first | k_is | rfl | decide)
    (case hv_InvalidNumber => first | k_is | rfl | decide)
    (case hf_InvalidNumber => first | k_is | rfl | decide)
    (case lcc_InvalidNumber => first | k_is | rfl | decide)
    (case kC_InvalidNumber => first | k_is | rfl | decide)
    (case eC_InvalidNumber => first | k_is | rfl | decide)
    (case tC_InvalidNumber => first | k_is | rfl | decide)
    (case sup_InvalidNumber => first | k_is | rfl | decide)
    (case sb_InvalidNumber => first | k_is | rfl | decide)
    (case sf_InvalidNumber => first | k_is | rfl | decide)
    (case any => first | k_is | rfl | decide)
    (case top => first | k_is | rfl | decide)
    (case g1_Form => first | k_is | rfl | decide)
    (case g2_Form => first | k_is | rfl | decide)
    (case g3_Form => first | k_is | rfl | decide)
    (case g4_Form => first | k_is | rfl | decide)
    (case tt_Form => first | k_is | rfl | decide)
    (case mr_Form => first | k_is | rfl | decide)
    (case ca_Form => first | k_is | rfl | decide)
    (case s7_Form_NoneType => first | k_is | rfl | decide)
    (case s7_Form_bool => first | k_is | rfl | decide)
    (case s7_Form_int => first | k_is | rfl | decide)
    (case s7_Form_str => first | k_is | rfl | decide)
    (case s7_Form_list => first | k_is | rfl | decide)
    (case s7_Form_tuple => first | k_is | rfl | decide)
    (case s7_Form_dict => first | k_is | rfl | decide)
    (case gs_c => first | k_is | rfl | decide)
    (case tk_c => first | k_is | rfl | decide)
    (case qe_Form => first | k_is | rfl | decide)
    (case qf_Form => first | k_is | rfl | decide)
    (case qn_Form => first | k_is | rfl | decide)
    (case qo_Form => first | k_is | rfl | decide)
    (case nq => first | k_is | rfl | decide)
    (case O1_Form_and_Form => first | k_is | rfl | decide)
    (case O2_Form_and_Form => first | k_is | rfl | decide)
    (case O3_Form_and_Form => first | k_is | rfl | decide)
    (case u1_Form => first | k_is | rfl | decide)
    (case u2_Form => first | k_is | rfl | decide)
    (case u3_Form => first | k_is | rfl | decide)
    (case j1_Form => first | k_is | rfl | decide)
    (case j2_Form => first | k_is | rfl | decide)
    (case na_Form_kept_widths => first | k_is | rfl | decide)
    (case mk_Form => first | k_is | rfl | decide)
    (case mi_Form => first | k_is | rfl | decide)
    (case mf_Form => first | k_is | rfl | decide)
    (case mc_Form => first | k_is | rfl | decide)
    (case e1_Form_is_under => first | k_is | rfl | decide)
    (case e2_Form_is_under => first | k_is | rfl | decide)
    (case e1_Form_shifts => first | k_is | rfl | decide)
    (case e2_Form_shifts => first | k_is | rfl | decide)
    (case l_Form_init => first | k_is | rfl | decide)
    (case q_Form_init => first | k_is | rfl | decide)
    (case l_Form_contains => first | k_is | rfl | decide)
    (case q_Form_contains => first | k_is | rfl | decide)
    (case k_Form_contains => first | k_is | rfl | decide)
    (case l_Form_getitem => first | k_is | rfl | decide)
    (case q_Form_getitem => first | k_is | rfl | decide)
    (case k_Form_getitem => first | k_is | rfl | decide)
    (case l_Form_and => first | k_is | rfl | decide)
    (case q_Form_and => first | k_is | rfl | decide)
    (case k_Form_and => first | k_is | rfl | decide)
    (case l_Form_shifts => first | k_is | rfl | decide)
    (case q_Form_shifts => first | k_is | rfl | decide)
    (case k_Form_shifts => first | k_is | rfl | decide)
    (case l_Form_eq => first | k_is | rfl | decide)
    (case q_Form_eq => first | k_is | rfl | decide)
    (case k_Form_eq => first | k_is | rfl | decide)
    (case l_Form_is_under => first | k_is | rfl | decide)
    (case q_Form_is_under => first | k_is | rfl | decide)
    (case k_Form_is_under => first | k_is | rfl | decide)

