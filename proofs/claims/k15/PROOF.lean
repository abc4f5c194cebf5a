import PyProof.Rows.All
import Wide.All
import OpenK.AllK
import Wide.FinOn
import HandS.ForMost
import HandS.ForExc
import HandS.TupAny
import HandS.Conv
import HandS.RevRange
import HandS.RaiseMore
import HandS.FStr
import HandS.ExcIs
import HandS.IsInst
import HandS.Wide
import HandS.Gcd
import HandS.Zip
import KE.KMathGC
import KE.SortCalls
import KE.SortData
import KE.SortLaws
import HandS.Strs
import HandS.Deep
import KE.GoesEnum
import HandS.Defaults
import HandS.CallSlots
import HandS.More
import HandS.Text
import HandS.Rev
import HandS.Star
import PySem.Challenge.RW_provedunseen_k15_alike_like_paths
set_option Elab.async false
set_option linter.all false
set_option maxRecDepth 100000
namespace DL
open PySem PySem.Spec L2
open PyProof.Rows hiding St

/-! ### values as data -/
inductive D where
  | non | bl (b : Bool) | int (i : Int) | str (x : Str) | tup (xs : List D) | lst (xs : List D) | obj (c : Nat) (fs : List D)

structure G0 where
  cl : Nat → Addr
  fl : Nat → List Str
abbrev Av := Addr → Prop

/-- a tuple whose object is known to have no dict: one that the program made, or one of the written part -/
def Tu (K : PySem.W.Frag) (H : Hp) (a : Addr) (vs : List V) : Prop :=
  (∃ o : Obj, H a = some (.frz o (.tup vs)) ∧ o.cls = .type "tuple" ∧ o.dict = none) ∨
    ∃ (o : Obj) (its : Array Value) (n : Nat), K.lookup a = some o ∧ o.cls = .type "tuple" ∧ o.dict = none ∧ o.data = .seq its n ∧ its.size ≤ sizeLine ∧ Vals vs its.toList
theorem Tu.sqT {K : PySem.W.Frag} {H : Hp} {a : Addr} {vs : List V} (h : Tu K H a vs) : SqT K H a vs := by
  rcases h with ⟨o, e, _⟩ | ⟨o, its, n, h1, h2, _, h3, h4, h5⟩
  · exact .inl (.inr ⟨o, e⟩)
  · exact .inr ⟨o, its, n, h1, h2, h3, h4, h5⟩

/-- a list that no slot owns -/
def Ls (K : PySem.W.Frag) (H : Hp) (Z : Av) (a : Addr) (vs : List V) : Prop :=
  (¬ Z a ∧ Rd H a (.lst vs)) ∨
    ∃ (o : Obj) (its : Array Value) (n : Nat), K.lookup a = some o ∧ o.cls = .type "list" ∧ o.dict = none ∧ o.data = .seq its n ∧ its.size ≤ sizeLine ∧ Vals vs its.toList
theorem Ls.sq {K : PySem.W.Frag} {H : Hp} {Z : Av} {a : Addr} {vs : List V} (h : Ls K H Z a vs) : SqL K H a vs := h.elim (fun h => .inl h.2) .inr

section
variable (K : PySem.W.Frag) (g : G0) (H : Hp) (Z : Av)
mutual
def Rep : D → V → Prop
  | .non, v => v = .non
  | .bl b, v => v = .bl b
  | .int i, v => v = .int i
  | .str x, v => v = .str x
  | .tup xs, v => ∃ a vs, v = .ref a ∧ Tu K H a vs ∧ RepL xs vs
  | .lst xs, v => ∃ a vs, v = .ref a ∧ Ls K H Z a vs ∧ RepL xs vs
  | .obj c fs, v => ∃ a dx vs, v = .ref a ∧ ¬ Z a ∧ H a = some (.ins (g.cl c) dx ((g.fl c).zip vs)) ∧ (g.fl c).length = vs.length ∧ RepL fs vs
def RepL : List D → List V → Prop
  | [], vs => vs = []
  | x :: xs, vs => ∃ v r, vs = v :: r ∧ Rep x v ∧ RepL xs r
end
end

/-- what is read of (H, Z) is there in (H', Z') -/
structure Kp (H : Hp) (Z : Av) (H' : Hp) (Z' : Av) : Prop where
  same : ∀ a o, H a = some o → ¬ Z a → H' a = some o
  tups : ∀ a o xs, H a = some (.frz o (.tup xs)) → H' a = some (.frz o (.tup xs))
  z : ∀ a, H a ≠ none → ¬ Z a → ¬ Z' a
theorem Kp.of {H H' : Hp} {Z Z' : Av} (s : Same H H') (z : ∀ a, H a ≠ none → Z' a → Z a) : Kp H Z H' Z' :=
  ⟨fun a o e _ => s a o e, fun a o xs h => s a _ h, fun a h n z' => n (z a h z')⟩
theorem Kp.same_ {H H' : Hp} {Z : Av} (s : Same H H') : Kp H Z H' Z := .of s fun _ _ z => z
theorem Kp.tu {H H' : Hp} {Z Z' : Av} {K : PySem.W.Frag} {a : Addr} {vs : List V} (k : Kp H Z H' Z') (h : Tu K H a vs) : Tu K H' a vs := by
  rcases h with ⟨o, e, c⟩ | h
  · exact .inl ⟨o, k.tups _ _ _ e, c⟩
  · exact .inr h
theorem Kp.rd {H H' : Hp} {Z Z' : Av} {a : Addr} {o : HO} (k : Kp H Z H' Z') (n : ¬ Z a) (h : Rd H a o) : Rd H' a o ∧ ¬ Z' a := by
  rcases h with h | ⟨u, h⟩
  · exact ⟨.inl (k.same _ _ h n), k.z a (by rw [h]; simp) n⟩
  · exact ⟨.inr ⟨u, k.same _ _ h n⟩, k.z a (by rw [h]; simp) n⟩

theorem Kp.ls {H H' : Hp} {Z Z' : Av} {K : PySem.W.Frag} {a : Addr} {vs : List V} (k : Kp H Z H' Z') (h : Ls K H Z a vs) : Ls K H' Z' a vs := by
  rcases h with ⟨n, h⟩ | h
  · exact .inl ⟨(k.rd n h).2, (k.rd n h).1⟩
  · exact .inr h
section
variable {K : PySem.W.Frag} {g : G0} {H H' : Hp} {Z Z' : Av}
mutual
theorem Rep.mono (k : Kp H Z H' Z') : ∀ (d : D) (v : V), Rep K g H Z d v → Rep K g H' Z' d v
  | .non, v, h => by unfold Rep at h ⊢; exact h
  | .bl b, v, h => by unfold Rep at h ⊢; exact h
  | .int i, v, h => by unfold Rep at h ⊢; exact h
  | .str x, v, h => by unfold Rep at h ⊢; exact h
  | .tup xs, v, h => by
    unfold Rep at h ⊢
    obtain ⟨a, vs, e, s, r⟩ := h
    exact ⟨a, vs, e, k.tu s, RepL.mono k xs vs r⟩
  | .lst xs, v, h => by
    unfold Rep at h ⊢
    obtain ⟨a, vs, e, s, r⟩ := h
    exact ⟨a, vs, e, k.ls s, RepL.mono k xs vs r⟩
  | .obj c fs, v, h => by
    unfold Rep at h ⊢
    obtain ⟨a, dx, vs, e, n, s, l, r⟩ := h
    exact ⟨a, dx, vs, e, k.z a (by rw [s]; simp) n, k.same _ _ s n, l, RepL.mono k fs vs r⟩
theorem RepL.mono (k : Kp H Z H' Z') : ∀ (ds : List D) (vs : List V), RepL K g H Z ds vs → RepL K g H' Z' ds vs
  | [], vs, h => by unfold RepL at h ⊢; exact h
  | d :: ds, vs, h => by
    unfold RepL at h ⊢
    obtain ⟨v, r, e, h1, h2⟩ := h
    exact ⟨v, r, e, Rep.mono k d v h1, RepL.mono k ds r h2⟩
end
theorem Rep.tup_ {xs : List D} {v : V} : Rep K g H Z (.tup xs) v ↔ ∃ a vs, v = .ref a ∧ Tu K H a vs ∧ RepL K g H Z xs vs := by unfold Rep; exact Iff.rfl
theorem Rep.lst_ {xs : List D} {v : V} : Rep K g H Z (.lst xs) v ↔ ∃ a vs, v = .ref a ∧ Ls K H Z a vs ∧ RepL K g H Z xs vs := by unfold Rep; exact Iff.rfl
theorem Rep.obj_ {c : Nat} {fs : List D} {v : V} : Rep K g H Z (.obj c fs) v ↔ ∃ a dx vs, v = .ref a ∧ ¬ Z a ∧ H a = some (.ins (g.cl c) dx ((g.fl c).zip vs)) ∧ (g.fl c).length = vs.length ∧ RepL K g H Z fs vs := by unfold Rep; exact Iff.rfl
theorem Rep.int_ {i : Int} {v : V} : Rep K g H Z (.int i) v ↔ v = .int i := by unfold Rep; exact Iff.rfl
theorem Rep.bl_ {i : Bool} {v : V} : Rep K g H Z (.bl i) v ↔ v = .bl i := by unfold Rep; exact Iff.rfl
theorem Rep.str_ {i : Str} {v : V} : Rep K g H Z (.str i) v ↔ v = .str i := by unfold Rep; exact Iff.rfl
theorem Rep.non_ {v : V} : Rep K g H Z .non v ↔ v = .non := by unfold Rep; exact Iff.rfl
theorem RepL.nil_ {vs : List V} : RepL K g H Z [] vs ↔ vs = [] := by unfold RepL; exact Iff.rfl
theorem RepL.cons_ {d : D} {ds : List D} {vs : List V} : RepL K g H Z (d :: ds) vs ↔ ∃ v r, vs = v :: r ∧ Rep K g H Z d v ∧ RepL K g H Z ds r := by
  constructor
  · intro h; unfold RepL at h; exact h
  · intro h; unfold RepL; exact h
theorem RepL.length : ∀ {ds : List D} {vs : List V}, RepL K g H Z ds vs → ds.length = vs.length
  | [], vs, h => by rw [RepL.nil_.mp h]; rfl
  | d :: ds, vs, h => by
    obtain ⟨v, r, e, _, h2⟩ := RepL.cons_.mp h
    rw [e, List.length_cons, List.length_cons, RepL.length h2]
theorem RepL.append : ∀ {ds es : List D} {vs ws : List V}, RepL K g H Z ds vs → RepL K g H Z es ws → RepL K g H Z (ds ++ es) (vs ++ ws)
  | [], es, vs, ws, h, h' => by rw [RepL.nil_.mp h]; exact h'
  | d :: ds, es, vs, ws, h, h' => by
    obtain ⟨v, r, e, h1, h2⟩ := RepL.cons_.mp h
    rw [e]
    exact RepL.cons_.mpr ⟨v, r ++ ws, rfl, h1, RepL.append h2 h'⟩
theorem RepL.one {d : D} {v : V} (h : Rep K g H Z d v) : RepL K g H Z [d] [v] := RepL.cons_.mpr ⟨v, [], rfl, h, RepL.nil_.mpr rfl⟩
theorem RepL.get : ∀ {ds : List D} {vs : List V} {i : Nat} {d : D}, RepL K g H Z ds vs → ds[i]? = some d → ∃ v, vs[i]? = some v ∧ Rep K g H Z d v
  | [], vs, i, d, h, e => by simp at e
  | c :: ds, vs, 0, d, h, e => by
    obtain ⟨v, r, ev, h1, h2⟩ := RepL.cons_.mp h
    simp at e
    subst e ev
    exact ⟨v, rfl, h1⟩
  | c :: ds, vs, i + 1, d, h, e => by
    obtain ⟨v, r, ev, h1, h2⟩ := RepL.cons_.mp h
    subst ev
    obtain ⟨w, e2, h3⟩ := RepL.get (i := i) h2 (by simpa using e)
    exact ⟨w, by simpa using e2, h3⟩
theorem RepL.set : ∀ {ds : List D} {vs : List V} (i : Nat) {d : D} {v : V}, RepL K g H Z ds vs → Rep K g H Z d v → RepL K g H Z (ds.set i d) (vs.set i v)
  | [], vs, i, d, v, h, _ => by rw [RepL.nil_.mp h]; exact RepL.nil_.mpr rfl
  | c :: ds, vs, 0, d, v, h, hd => by
    obtain ⟨v', r, ev, h1, h2⟩ := RepL.cons_.mp h
    subst ev
    exact RepL.cons_.mpr ⟨v, r, rfl, hd, h2⟩
  | c :: ds, vs, i + 1, d, v, h, hd => by
    obtain ⟨v', r, ev, h1, h2⟩ := RepL.cons_.mp h
    subst ev
    exact RepL.cons_.mpr ⟨v', r.set i v, rfl, h1, RepL.set i h2 hd⟩
theorem RepL.drop : ∀ {ds : List D} {vs : List V} (n : Nat), RepL K g H Z ds vs → RepL K g H Z (ds.drop n) (vs.drop n)
  | ds, vs, 0, h => h
  | [], vs, n + 1, h => by rw [RepL.nil_.mp h]; exact RepL.nil_.mpr rfl
  | c :: ds, vs, n + 1, h => by
    obtain ⟨v', r, ev, h1, h2⟩ := RepL.cons_.mp h
    subst ev
    exact RepL.drop n h2
theorem RepL.take : ∀ {ds : List D} {vs : List V} (n : Nat), RepL K g H Z ds vs → RepL K g H Z (ds.take n) (vs.take n)
  | ds, vs, 0, h => by rw [List.take_zero, List.take_zero]; exact RepL.nil_.mpr rfl
  | [], vs, n + 1, h => by rw [RepL.nil_.mp h]; exact RepL.nil_.mpr rfl
  | c :: ds, vs, n + 1, h => by
    obtain ⟨v', r, ev, h1, h2⟩ := RepL.cons_.mp h
    subst ev
    exact RepL.cons_.mpr ⟨v', r.take n, rfl, h1, RepL.take n h2⟩
theorem RepL.eraseIdx : ∀ {ds : List D} {vs : List V} (i : Nat), RepL K g H Z ds vs → RepL K g H Z (ds.eraseIdx i) (vs.eraseIdx i)
  | [], vs, i, h => by rw [RepL.nil_.mp h]; exact RepL.nil_.mpr rfl
  | c :: ds, vs, 0, h => by
    obtain ⟨v', r, ev, h1, h2⟩ := RepL.cons_.mp h
    subst ev
    exact h2
  | c :: ds, vs, i + 1, h => by
    obtain ⟨v', r, ev, h1, h2⟩ := RepL.cons_.mp h
    subst ev
    exact RepL.cons_.mpr ⟨v', r.eraseIdx i, rfl, h1, RepL.eraseIdx i h2⟩
end

/-! ### slots -/
inductive Sl where
  | fr (d : D) | ow (xs : List D)
def Sl.d : Sl → D
  | .fr d => d
  | .ow xs => .lst xs
abbrev En := List (Option Sl)
abbrev Pl := Option (Str × D)
inductive R (α : Type) where
  | ok (a : α) | ex (c : Nat) (p : Pl) | st
def R.bind {α β : Type} : R α → (α → R β) → R β
  | .ok a, f => f a
  | .ex c p, _ => .ex c p
  | .st, _ => .st
inductive RS where
  | nx (e : En) | rt (s : Sl) | bk (e : En) | ct (e : En) | ex (c : Nat) (p : Pl) (e : En) | st
abbrev M := En → R Sl
abbrev MS := En → RS

def SlIn (K : PySem.W.Frag) (g : G0) (H : Hp) (Z : Av) : Sl → V → Prop
  | .fr d, v => Rep K g H Z d v
  | .ow xs, v => ∃ a vs, v = .ref a ∧ Z a ∧ H a = some (.lst vs) ∧ RepL K g H Z xs vs
structure ERel (K : PySem.W.Frag) (g : G0) (x : St → Prop) (Z : Av) (env : En) (σ : St) (H : Hp) : Prop where
  dom : ∀ a, Z a → H a ≠ none
  ex : x σ
  len : env.length = σ.length
  at_ : ∀ (i : Nat) (s : Sl), env[i]? = some (some s) → ∃ v, σ[i]? = some (some v) ∧ SlIn K g H Z s v
def ExP (K : PySem.W.Frag) (g : G0) (H : Hp) (Z : Av) : Pl → Option Addr → Prop
  | none, dd => dd = none
  | some (f, x), dd => ∃ da v, dd = some da ∧ H da = some (.xd [(f, v)]) ∧ Rep K g H Z x v
def PostE (K : PySem.W.Frag) (g : G0) (W : WX) (Z : Av) (σ : St) (H : Hp) (Q : VK) : R Sl → Prop
  | .ok (.fr d) => ∀ v H', Same H H' → Rep K g H' Z d v → Q v H'
  | .ok (.ow xs) => ∀ a vs H', Same H H' → H a = none → H' a = some (.lst vs) → RepL K g H' (fun b => Z b ∨ b = a) xs vs → Q (.ref a) H'
  | .ex c p => ∀ H' dd, Same H H' → ExP K g H' Z p dd → W (.ref (g.cl c)) dd σ H'
  | .st => False
def PostD (K : PySem.W.Frag) (g : G0) (W : WX) (Z : Av) (σ : St) (H : Hp) (Q : VK) : R Sl → Prop
  | .ok s => ∀ v H', Same H H' → Rep K g H' Z s.d v → Q v H'
  | .ex c p => ∀ H' dd, Same H H' → ExP K g H' Z p dd → W (.ref (g.cl c)) dd σ H'
  | .st => False
def PostA (K : PySem.W.Frag) (g : G0) (W : WX) (Z : Av) (σ : St) (H : Hp) (Q : List V → Hp → Prop) : R (List D) → Prop
  | .ok ds => ∀ vs H', Same H H' → RepL K g H' Z ds vs → Q vs H'
  | .ex c p => ∀ H' dd, Same H H' → ExP K g H' Z p dd → W (.ref (g.cl c)) dd σ H'
  | .st => False
def PostT (K : PySem.W.Frag) (g : G0) (W : WX) (Z : Av) (σ : St) (H : Hp) (Q : Bool → Hp → Prop) : R Bool → Prop
  | .ok b => ∀ H', Same H H' → Q b H'
  | .ex c p => ∀ H' dd, Same H H' → ExP K g H' Z p dd → W (.ref (g.cl c)) dd σ H'
  | .st => False

def tM (K : PySem.W.Frag) (g : G0) (x : St → Prop) (W : WX) (m : M) : TE := fun σ H Q => ∃ env Z, ERel K g x Z env σ H ∧ PostE K g W Z σ H Q (m env)
def tA (K : PySem.W.Frag) (g : G0) (x : St → Prop) (W : WX) (m : En → R (List D)) : TA := fun σ H Q => ∃ env Z, ERel K g x Z env σ H ∧ PostA K g W Z σ H Q (m env)
def tT (K : PySem.W.Frag) (g : G0) (x : St → Prop) (W : WX) (m : En → R Bool) : TT := fun σ H Q => ∃ env Z, ERel K g x Z env σ H ∧ PostT K g W Z σ H Q (m env)
abbrev PEd (g : G0) (x : St → Prop) (W : WX) (X : Cx) (e : Expr) (m : M) : Prop := PE X e (tM X.K g x W m)
abbrev PAd (g : G0) (x : St → Prop) (W : WX) (X : Cx) (es : List Expr) (m : En → R (List D)) : Prop := PA X es (tA X.K g x W m)
abbrev PTd (g : G0) (x : St → Prop) (W : WX) (X : Cx) (e : Expr) (m : En → R Bool) : Prop := PT X e (tT X.K g x W m)

theorem weakE {X : Cx} {e : Expr} {t t' : TE} (h : PE X e t) (w : ∀ σ H Q, t' σ H Q → t σ H Q) : PE X e t' := ⟨fun pins s σ H Q I q => h.run pins s σ H Q I (w _ _ _ q)⟩
theorem weakA {X : Cx} {e : List Expr} {t t' : TA} (h : PA X e t) (w : ∀ σ H Q, t' σ H Q → t σ H Q) : PA X e t' := ⟨fun pos pins s σ H Q I q => h.run pos pins s σ H Q I (w _ _ _ q)⟩
theorem weakT {X : Cx} {e : Expr} {t t' : TT} (h : PT X e t) (w : ∀ σ H Q, t' σ H Q → t σ H Q) : PT X e t' := ⟨fun pins s σ H Q I q => h.run pins s σ H Q I (w _ _ _ q)⟩
theorem weakS {X : Cx} {e : Stmt} {t t' : TS} (h : PS X e t) (w : ∀ D σ H, t' D σ H → t D σ H) : PS X e t' := ⟨fun pins s σ H D I q => h.run pins s σ H D I (w _ _ _ q)⟩
theorem weakSs {X : Cx} {e : List Stmt} {t t' : TS} (h : PSs X e t) (w : ∀ D σ H, t' D σ H → t D σ H) : PSs X e t' := ⟨fun pins s σ H D I q => h.run pins s σ H D I (w _ _ _ q)⟩

section
variable {K : PySem.W.Frag} {g : G0} {x : St → Prop} {W : WX} {Z : Av} {env : En} {σ : St} {H H' : Hp}
theorem SlIn.mono {s : Sl} {v : V} (k : Same H H') (h : SlIn K g H Z s v) : SlIn K g H' Z s v := by
  cases s with
  | fr d => exact Rep.mono (.same_ k) d v h
  | ow xs =>
    obtain ⟨a, vs, e, z, p, r⟩ := h
    exact ⟨a, vs, e, z, k _ _ p, RepL.mono (.same_ k) xs vs r⟩
theorem dom_mono (k : Same H H') (h : ∀ a, Z a → H a ≠ none) : ∀ a, Z a → H' a ≠ none := fun a z e => h a z (k.free e)
theorem ERel.mono (k : Same H H') (h : ERel K g x Z env σ H) : ERel K g x Z env σ H' :=
  ⟨dom_mono k h.dom, h.ex, h.len, fun i s e => let ⟨v, e2, r⟩ := h.at_ i s e; ⟨v, e2, r.mono k⟩⟩
theorem PostE.later {Q : VK} {r : R Sl} (k : Same H H') (h : PostE K g W Z σ H Q r) : PostE K g W Z σ H' Q r := by
  cases r with
  | ok s =>
    cases s with
    | fr d => exact fun v H2 k2 q => h v H2 (k.trans k2) q
    | ow xs => exact fun a vs H2 k2 n e q => h a vs H2 (k.trans k2) (k.free n) e q
  | ex c p => exact fun H2 dd k2 q => h H2 dd (k.trans k2) q
  | st => exact h
theorem PostA.later {Q : List V → Hp → Prop} {r : R (List D)} (k : Same H H') (h : PostA K g W Z σ H Q r) : PostA K g W Z σ H' Q r := by
  cases r with
  | ok s => exact fun v H2 k2 q => h v H2 (k.trans k2) q
  | ex c p => exact fun H2 dd k2 q => h H2 dd (k.trans k2) q
  | st => exact h
theorem PostT.later {Q : Bool → Hp → Prop} {r : R Bool} (k : Same H H') (h : PostT K g W Z σ H Q r) : PostT K g W Z σ H' Q r := by
  cases r with
  | ok s => exact fun H2 k2 => h H2 (k.trans k2)
  | ex c p => exact fun H2 dd k2 q => h H2 dd (k.trans k2) q
  | st => exact h
/-- a fresh list's value, kept -/
theorem rep_fresh {xs : List D} {a : Addr} {vs : List V} (dom : ∀ a, Z a → H a ≠ none) (n : H a = none) (e : H' a = some (.lst vs)) (r : RepL K g H' (fun b => Z b ∨ b = a) xs vs) : Rep K g H' Z (.lst xs) (.ref a) :=
  Rep.lst_.mpr ⟨a, vs, rfl, .inl ⟨fun z => dom a z n, .inl e⟩, RepL.mono (.of (Same.refl _) fun b _ z => .inl z) xs vs r⟩
theorem use {m : M} {Q : VK} (er : ERel K g x Z env σ H) (h : PostD K g W Z σ H Q (m env)) : tM K g x W m σ H Q := by
  refine ⟨env, Z, er, ?_⟩
  cases e : m env with
  | ok s =>
    rw [e] at h
    cases s with
    | fr d => exact h
    | ow xs => exact fun a vs H' k n p r => h (.ref a) H' k (rep_fresh er.dom n p r)
  | ex c p => rw [e] at h; exact h
  | st => rw [e] at h; exact h
/-- operands, one behind the other -/
theorem use1 {m : M} {f : Sl → R Sl} {Q Q' : VK} (er : ERel K g x Z env σ H) (hp : PostE K g W Z σ H Q ((m env).bind f))
    (h : ∀ s v H', m env = .ok s → Same H H' → Rep K g H' Z s.d v → PostE K g W Z σ H' Q (f s) → Q' v H') : tM K g x W m σ H Q' := by
  refine use er ?_
  cases e : m env with
  | ok s =>
    rw [e] at hp
    exact fun v H' k r => h s v H' e k r (hp.later k)
  | ex c p => rw [e] at hp; exact hp
  | st => rw [e] at hp; exact hp
theorem use1A {m : M} {f : Sl → R (List D)} {Q : List V → Hp → Prop} {Q' : VK} (er : ERel K g x Z env σ H) (hp : PostA K g W Z σ H Q ((m env).bind f))
    (h : ∀ s v H', m env = .ok s → Same H H' → Rep K g H' Z s.d v → PostA K g W Z σ H' Q (f s) → Q' v H') : tM K g x W m σ H Q' := by
  refine use er ?_
  cases e : m env with
  | ok s =>
    rw [e] at hp
    exact fun v H' k r => h s v H' e k r (hp.later k)
  | ex c p => rw [e] at hp; exact hp
  | st => rw [e] at hp; exact hp
theorem use1T {m : M} {f : Sl → R Bool} {Q : Bool → Hp → Prop} {Q' : VK} (er : ERel K g x Z env σ H) (hp : PostT K g W Z σ H Q ((m env).bind f))
    (h : ∀ s v H', m env = .ok s → Same H H' → Rep K g H' Z s.d v → PostT K g W Z σ H' Q (f s) → Q' v H') : tM K g x W m σ H Q' := by
  refine use er ?_
  cases e : m env with
  | ok s =>
    rw [e] at hp
    exact fun v H' k r => h s v H' e k r (hp.later k)
  | ex c p => rw [e] at hp; exact hp
  | st => rw [e] at hp; exact hp
theorem useA {m : En → R (List D)} {f : List D → R Sl} {Q : VK} {Q' : List V → Hp → Prop} (er : ERel K g x Z env σ H) (hp : PostE K g W Z σ H Q ((m env).bind f))
    (h : ∀ ds vs H', m env = .ok ds → Same H H' → RepL K g H' Z ds vs → PostE K g W Z σ H' Q (f ds) → Q' vs H') : tA K g x W m σ H Q' := by
  refine ⟨env, Z, er, ?_⟩
  cases e : m env with
  | ok s =>
    rw [e] at hp
    exact fun v H' k r => h s v H' e k r (hp.later k)
  | ex c p => rw [e] at hp; exact hp
  | st => rw [e] at hp; exact hp
theorem useAA {m : En → R (List D)} {f : List D → R (List D)} {Q : List V → Hp → Prop} {Q' : List V → Hp → Prop} (er : ERel K g x Z env σ H) (hp : PostA K g W Z σ H Q ((m env).bind f))
    (h : ∀ ds vs H', m env = .ok ds → Same H H' → RepL K g H' Z ds vs → PostA K g W Z σ H' Q (f ds) → Q' vs H') : tA K g x W m σ H Q' := by
  refine ⟨env, Z, er, ?_⟩
  cases e : m env with
  | ok s =>
    rw [e] at hp
    exact fun v H' k r => h s v H' e k r (hp.later k)
  | ex c p => rw [e] at hp; exact hp
  | st => rw [e] at hp; exact hp
theorem useT {m : En → R Bool} {f : Bool → R Sl} {Q : VK} {Q' : Bool → Hp → Prop} (er : ERel K g x Z env σ H) (hp : PostE K g W Z σ H Q ((m env).bind f))
    (h : ∀ b H', m env = .ok b → Same H H' → PostE K g W Z σ H' Q (f b) → Q' b H') : tT K g x W m σ H Q' := by
  refine ⟨env, Z, er, ?_⟩
  cases e : m env with
  | ok s =>
    rw [e] at hp
    exact fun H' k => h s H' e k (hp.later k)
  | ex c p => rw [e] at hp; exact hp
  | st => rw [e] at hp; exact hp
theorem useTT {m : En → R Bool} {f : Bool → R Bool} {Q : Bool → Hp → Prop} {Q' : Bool → Hp → Prop} (er : ERel K g x Z env σ H) (hp : PostT K g W Z σ H Q ((m env).bind f))
    (h : ∀ b H', m env = .ok b → Same H H' → PostT K g W Z σ H' Q (f b) → Q' b H') : tT K g x W m σ H Q' := by
  refine ⟨env, Z, er, ?_⟩
  cases e : m env with
  | ok s =>
    rw [e] at hp
    exact fun H' k => h s H' e k (hp.later k)
  | ex c p => rw [e] at hp; exact hp
  | st => rw [e] at hp; exact hp
theorem PostE.put {Q : VK} {d : D} {v : V} {W : WX} (h : PostE K g W Z σ H Q (.ok (.fr d))) (r : Rep K g H Z d v) : Q v H := h v H (Same.refl _) r
end
end DL
set_option Elab.async false
set_option linter.all false
set_option maxRecDepth 100000
namespace DL
open PySem PySem.Spec L2
open PyProof.Rows hiding St

/-! ### expressions -/
def mVar (i : Nat) : M := fun env => match env[i]? with
  | some (some (.fr d)) => .ok (.fr d)
  | _ => .st
def mC (d : D) : M := fun _ => .ok (.fr d)
abbrev B := En → R D
def mB (m : M) : B := fun env => (m env).bind fun s => .ok s.d
def mBV (i : Nat) : B := fun env => match env[i]? with
  | some (some s) => .ok s.d
  | _ => .st
def mBin (F : D → D → R Sl) (ma mb : B) : M := fun env => (ma env).bind fun x => (mb env).bind fun y => F x y
def mUn (F : D → R Sl) (ma : B) : M := fun env => (ma env).bind F
def bNil : En → R (List D) := fun _ => .ok []
def bCons (ma : B) (mr : En → R (List D)) : En → R (List D) := fun env => (ma env).bind fun x => (mr env).bind fun xs => .ok (x :: xs)
def mNil : En → R (List D) := fun _ => .ok []
def mCons (ma : M) (mr : En → R (List D)) : En → R (List D) := fun env => (ma env).bind fun x => (mr env).bind fun xs => .ok (x.d :: xs)
def mCall (F : List D → R Sl) (ma : En → R (List D)) : M := fun env => (ma env).bind F
def lim : Nat := 1000000
def fTup (xs : List D) : R Sl := if xs.length ≤ lim then .ok (.fr (.tup xs)) else .st
def fLst (xs : List D) : R Sl := if xs.length ≤ lim then .ok (.ow xs) else .st
def asB : D → R Bool
  | .bl b => .ok b
  | _ => .st
def mTest (m : B) : En → R Bool := fun env => (m env).bind asB
def tNotM (t : En → R Bool) : En → R Bool := fun env => (t env).bind fun b => .ok (!b)
def tAndM (t u : En → R Bool) : En → R Bool := fun env => (t env).bind fun b => if b = true then u env else .ok false
def tOrM (t u : En → R Bool) : En → R Bool := fun env => (t env).bind fun b => if b = true then .ok true else u env
def mAnd (a b : B) : M := fun env => (a env).bind fun s => (asB s).bind fun c => if c = true then (b env).bind fun s => (asB s).bind fun e => .ok (.fr (.bl e)) else .ok (.fr (.bl false))
def mOr (a b : B) : M := fun env => (a env).bind fun s => (asB s).bind fun c => if c = true then .ok (.fr (.bl true)) else (b env).bind fun s => (asB s).bind fun e => .ok (.fr (.bl e))
def mNot (a : B) : M := fun env => (a env).bind fun s => (asB s).bind fun c => .ok (.fr (.bl (!c)))
def mIf (t : En → R Bool) (a b : M) : M := fun env => (t env).bind fun c => if c = true then (a env).bind fun s => .ok (.fr s.d) else (b env).bind fun s => .ok (.fr s.d)

/-! ### rules of values -/
/-- a value that is looked at: a list may be one that a slot owns -/
def RepB (K : PySem.W.Frag) (g : G0) (H : Hp) (Z : Av) (d : D) (v : V) : Prop :=
  Rep K g H Z d v ∨ ∃ xs a vs, d = .lst xs ∧ v = .ref a ∧ H a = some (.lst vs) ∧ RepL K g H Z xs vs
def RepBL (K : PySem.W.Frag) (g : G0) (H : Hp) (Z : Av) : List D → List V → Prop
  | [], vs => vs = []
  | d :: ds, vs => ∃ v r, vs = v :: r ∧ RepB K g H Z d v ∧ RepBL K g H Z ds r
def PostB (K : PySem.W.Frag) (g : G0) (W : WX) (Z : Av) (σ : L2.St) (H : Hp) (Q : VK) : R D → Prop
  | .ok d => ∀ v H', Same H H' → RepB K g H' Z d v → Q v H'
  | .ex c p => ∀ H' dd, Same H H' → ExP K g H' Z p dd → W (.ref (g.cl c)) dd σ H'
  | .st => False
def PostBA (K : PySem.W.Frag) (g : G0) (W : WX) (Z : Av) (σ : L2.St) (H : Hp) (Q : List V → Hp → Prop) : R (List D) → Prop
  | .ok ds => ∀ vs H', Same H H' → RepBL K g H' Z ds vs → Q vs H'
  | .ex c p => ∀ H' dd, Same H H' → ExP K g H' Z p dd → W (.ref (g.cl c)) dd σ H'
  | .st => False
def tB (K : PySem.W.Frag) (g : G0) (x : L2.St → Prop) (W : WX) (m : B) : TE := fun σ H Q => ∃ env Z, ERel K g x Z env σ H ∧ PostB K g W Z σ H Q (m env)
def tBA (K : PySem.W.Frag) (g : G0) (x : L2.St → Prop) (W : WX) (m : En → R (List D)) : TA := fun σ H Q => ∃ env Z, ERel K g x Z env σ H ∧ PostBA K g W Z σ H Q (m env)
abbrev PBd (g : G0) (x : L2.St → Prop) (W : WX) (X : Cx) (e : Expr) (m : B) : Prop := PE X e (tB X.K g x W m)
abbrev PBAd (g : G0) (x : L2.St → Prop) (W : WX) (X : Cx) (es : List Expr) (m : En → R (List D)) : Prop := PA X es (tBA X.K g x W m)
section
variable {K : PySem.W.Frag} {g : G0} {x : L2.St → Prop} {W : WX} {Z : Av} {env : En} {σ : L2.St} {H H' : Hp}
theorem RepB.mono (k : Same H H') {d : D} {v : V} (h : RepB K g H Z d v) : RepB K g H' Z d v := by
  rcases h with h | ⟨xs, a, vs, e1, e2, e3, r⟩
  · exact .inl (Rep.mono (.same_ k) _ _ h)
  · exact .inr ⟨xs, a, vs, e1, e2, k _ _ e3, RepL.mono (.same_ k) _ _ r⟩
theorem RepBL.mono (k : Same H H') : ∀ {ds : List D} {vs : List V}, RepBL K g H Z ds vs → RepBL K g H' Z ds vs
  | [], vs, h => h
  | d :: ds, vs, ⟨v, r, e, h1, h2⟩ => ⟨v, r, e, h1.mono k, RepBL.mono k h2⟩
theorem RepB.int_ {i : Int} {v : V} (h : RepB K g H Z (.int i) v) : v = .int i := h.elim Rep.int_.mp fun ⟨_, _, _, e, _⟩ => by cases e
theorem RepB.bl_ {i : Bool} {v : V} (h : RepB K g H Z (.bl i) v) : v = .bl i := h.elim Rep.bl_.mp fun ⟨_, _, _, e, _⟩ => by cases e
theorem RepB.str_ {i : Str} {v : V} (h : RepB K g H Z (.str i) v) : v = .str i := h.elim Rep.str_.mp fun ⟨_, _, _, e, _⟩ => by cases e
theorem RepB.non_ {v : V} (h : RepB K g H Z .non v) : v = .non := h.elim Rep.non_.mp fun ⟨_, _, _, e, _⟩ => by cases e
theorem RepB.tup_ {xs : List D} {v : V} (h : RepB K g H Z (.tup xs) v) : ∃ a vs, v = .ref a ∧ Tu K H a vs ∧ RepL K g H Z xs vs := h.elim Rep.tup_.mp fun ⟨_, _, _, e, _⟩ => by cases e
theorem RepB.lst_ {xs : List D} {v : V} (h : RepB K g H Z (.lst xs) v) : ∃ a vs, v = .ref a ∧ SqL K H a vs ∧ RepL K g H Z xs vs := by
  rcases h with h | ⟨ys, a, vs, e1, e2, e3, r⟩
  · obtain ⟨a, vs, e, rd, r⟩ := Rep.lst_.mp h
    exact ⟨a, vs, e, rd.sq, r⟩
  · cases e1
    exact ⟨a, vs, e2, SqL.of e3, r⟩
theorem PostB.later {Q : VK} {r : R D} (k : Same H H') (h : PostB K g W Z σ H Q r) : PostB K g W Z σ H' Q r := by
  cases r with
  | ok s => exact fun v H2 k2 q => h v H2 (k.trans k2) q
  | ex c p => exact fun H2 dd k2 q => h H2 dd (k.trans k2) q
  | st => exact h
theorem PostBA.later {Q : List V → Hp → Prop} {r : R (List D)} (k : Same H H') (h : PostBA K g W Z σ H Q r) : PostBA K g W Z σ H' Q r := by
  cases r with
  | ok s => exact fun v H2 k2 q => h v H2 (k.trans k2) q
  | ex c p => exact fun H2 dd k2 q => h H2 dd (k.trans k2) q
  | st => exact h
theorem useB {m : B} {f : D → R Sl} {Q Q' : VK} (er : ERel K g x Z env σ H) (hp : PostE K g W Z σ H Q ((m env).bind f))
    (h : ∀ d v H', m env = .ok d → Same H H' → RepB K g H' Z d v → PostE K g W Z σ H' Q (f d) → Q' v H') : tB K g x W m σ H Q' := by
  refine ⟨env, Z, er, ?_⟩
  cases e : m env with
  | ok s => rw [e] at hp; exact fun v H' k r => h s v H' e k r (hp.later k)
  | ex c p => rw [e] at hp; exact hp
  | st => rw [e] at hp; exact hp
theorem useBA {m : B} {f : D → R (List D)} {Q : List V → Hp → Prop} {Q' : VK} (er : ERel K g x Z env σ H) (hp : PostBA K g W Z σ H Q ((m env).bind f))
    (h : ∀ d v H', m env = .ok d → Same H H' → RepB K g H' Z d v → PostBA K g W Z σ H' Q (f d) → Q' v H') : tB K g x W m σ H Q' := by
  refine ⟨env, Z, er, ?_⟩
  cases e : m env with
  | ok s => rw [e] at hp; exact fun v H' k r => h s v H' e k r (hp.later k)
  | ex c p => rw [e] at hp; exact hp
  | st => rw [e] at hp; exact hp
theorem useBT {m : B} {f : D → R Bool} {Q : Bool → Hp → Prop} {Q' : VK} (er : ERel K g x Z env σ H) (hp : PostT K g W Z σ H Q ((m env).bind f))
    (h : ∀ d v H', m env = .ok d → Same H H' → RepB K g H' Z d v → PostT K g W Z σ H' Q (f d) → Q' v H') : tB K g x W m σ H Q' := by
  refine ⟨env, Z, er, ?_⟩
  cases e : m env with
  | ok s => rw [e] at hp; exact fun v H' k r => h s v H' e k r (hp.later k)
  | ex c p => rw [e] at hp; exact hp
  | st => rw [e] at hp; exact hp
theorem useBL {m : En → R (List D)} {f : List D → R Sl} {Q : VK} {Q' : List V → Hp → Prop} (er : ERel K g x Z env σ H) (hp : PostE K g W Z σ H Q ((m env).bind f))
    (h : ∀ ds vs H', m env = .ok ds → Same H H' → RepBL K g H' Z ds vs → PostE K g W Z σ H' Q (f ds) → Q' vs H') : tBA K g x W m σ H Q' := by
  refine ⟨env, Z, er, ?_⟩
  cases e : m env with
  | ok s => rw [e] at hp; exact fun v H' k r => h s v H' e k r (hp.later k)
  | ex c p => rw [e] at hp; exact hp
  | st => rw [e] at hp; exact hp
theorem useBLA {m : En → R (List D)} {f : List D → R (List D)} {Q : List V → Hp → Prop} {Q' : List V → Hp → Prop} (er : ERel K g x Z env σ H) (hp : PostBA K g W Z σ H Q ((m env).bind f))
    (h : ∀ ds vs H', m env = .ok ds → Same H H' → RepBL K g H' Z ds vs → PostBA K g W Z σ H' Q (f ds) → Q' vs H') : tBA K g x W m σ H Q' := by
  refine ⟨env, Z, er, ?_⟩
  cases e : m env with
  | ok s => rw [e] at hp; exact fun v H' k r => h s v H' e k r (hp.later k)
  | ex c p => rw [e] at hp; exact hp
  | st => rw [e] at hp; exact hp
end
def OpF (K : PySem.W.Frag) (r : R2) (F : D → D → R Sl) : Prop := ∀ (g : G0) (W : WX) (H : Hp) (Z : Av) (σ : L2.St) (x y : D) (v u : V) (Q : VK),
  (∀ a, Z a → H a ≠ none) → RepB K g H Z x v → RepB K g H Z y u → PostE K g W Z σ H Q (F x y) → r v u H Q
def UnF (K : PySem.W.Frag) (r : V → Hp → VK → Prop) (F : D → R Sl) : Prop := ∀ (g : G0) (W : WX) (H : Hp) (Z : Av) (σ : L2.St) (x : D) (v : V) (Q : VK),
  (∀ a, Z a → H a ≠ none) → RepB K g H Z x v → PostE K g W Z σ H Q (F x) → r v H Q
def CallF (K : PySem.W.Frag) (r : List V → Hp → VK → Prop) (F : List D → R Sl) : Prop := ∀ (g : G0) (W : WX) (H : Hp) (Z : Av) (σ : L2.St) (xs : List D) (vs : List V) (Q : VK),
  (∀ a, Z a → H a ≠ none) → RepBL K g H Z xs vs → PostE K g W Z σ H Q (F xs) → r vs H Q

theorem limLine {n : Nat} (h : n ≤ lim) : n ≤ sizeLine := by rw [sizeLine_eq]; unfold lim at h; omega
theorem limLine' {n : Nat} (h : n < lim) : n < sizeLine := by rw [sizeLine_eq]; unfold lim at h; omega

section
variable {g : G0} {x : L2.St → Prop} {W : WX} {X : Cx} {a b e : Expr} {es : List Expr} {pos : Pos} {m mA : M} {ma mb mt : B} {mr : En → R (List D)}
theorem tM.imp {Q Q' : VK} {σ : L2.St} {H : Hp} (h : tM X.K g x W m σ H Q) (q : ∀ v H', Q v H' → Q' v H') : tM X.K g x W m σ H Q' := by
  obtain ⟨env, Z, er, hp⟩ := h
  refine ⟨env, Z, er, ?_⟩
  cases e : m env with
  | ok s =>
    rw [e] at hp
    cases s with
    | fr d => exact fun v H' k r => q _ _ (hp v H' k r)
    | ow xs => exact fun a vs H' k n p r => q _ _ (hp a vs H' k n p r)
  | ex c p => rw [e] at hp; exact hp
  | st => rw [e] at hp; exact hp

theorem de_var (i : Nat) {y : Str} (hN : X.N[i]? = some y := by rfl) (hv : Vis X.env.scope y := by first | exact Or.inl rfl | exact Or.inr (Or.inl rfl) | exact Or.inr (Or.inr rfl)) (hd : (y == ("__debug__" : Str)) = false := by decide)
    (hcd : (y == ("__classdict__" : Str)) = false := by decide) : PEd g x W X (.Name y pos) (mVar i) := by
  refine weakE (pe_var hN hv hd hcd) fun σ H Q ⟨env, Z, er, hp⟩ => ?_
  unfold mVar at hp
  split at hp
  · rename_i d e
    obtain ⟨v, e2, r⟩ := er.at_ i _ e
    exact ⟨v, e2, hp v H (Same.refl _) r⟩
  · exact hp.elim
theorem de_C {d : D} {v : V} (h : PE X e (tC v)) (hr : ∀ (K : PySem.W.Frag) (g : G0) (H : Hp) (Z : Av), Rep K g H Z d v) : PEd g x W X e (mC d) :=
  weakE h fun σ H Q ⟨env, Z, er, hp⟩ => hp v H (Same.refl _) (hr _ _ _ _)
theorem de_int {i : Int} {j : Nat} : PEd g x W X (.Constant (.int i) j pos) (mC (.int i)) := de_C pe_int fun _ _ _ _ => Rep.int_.mpr rfl
theorem de_bl {i : Bool} {j : Nat} : PEd g x W X (.Constant (.bool i) j pos) (mC (.bl i)) := de_C pe_bl fun _ _ _ _ => Rep.bl_.mpr rfl
theorem de_non {j : Nat} : PEd g x W X (.Constant .none j pos) (mC .non) := de_C pe_non fun _ _ _ _ => Rep.non_.mpr rfl
theorem de_str {i : Str} {j : Nat} : PEd g x W X (.Constant (.str i) j pos) (mC (.str i)) := de_C pe_str fun _ _ _ _ => Rep.str_.mpr rfl
theorem de_globI {y : Str} {i : Int} {t : Tok} (hg : Gl X y) (hm : X.mg y = some (.int i t)) (hd : (y == ("__debug__" : Str)) = false := by decide) : PEd g x W X (.Name y pos) (mC (.int i)) :=
  de_C (pe_glob (v := V.int i) hg hm ⟨t, rfl⟩ hd) fun _ _ _ _ => Rep.int_.mpr rfl
theorem de_globS {y : Str} {i : Str} {t : Tok} (hg : Gl X y) (hm : X.mg y = some (.str i t)) (hd : (y == ("__debug__" : Str)) = false := by decide) : PEd g x W X (.Name y pos) (mC (.str i)) :=
  de_C (pe_glob (v := V.str i) hg hm ⟨t, rfl⟩ hd) fun _ _ _ _ => Rep.str_.mpr rfl

theorem de_b (h : PEd g x W X e m) : PBd g x W X e (mB m) := by
  refine weakE h fun σ H Q ⟨env, Z, er, hp⟩ => use er ?_
  unfold mB at hp
  cases em : m env with
  | ok s => rw [em] at hp; exact fun v H' k r => hp v H' k (.inl r)
  | ex c p => rw [em] at hp; exact hp
  | st => rw [em] at hp; exact hp
theorem de_v (i : Nat) {y : Str} (hN : X.N[i]? = some y := by rfl) (hv : Vis X.env.scope y := by first | exact Or.inl rfl | exact Or.inr (Or.inl rfl) | exact Or.inr (Or.inr rfl)) (hd : (y == ("__debug__" : Str)) = false := by decide)
    (hcd : (y == ("__classdict__" : Str)) = false := by decide) : PBd g x W X (.Name y pos) (mBV i) := by
  refine weakE (pe_var hN hv hd hcd) fun σ H Q ⟨env, Z, er, hp⟩ => ?_
  unfold mBV at hp
  split at hp
  · rename_i s e
    obtain ⟨v, e2, r⟩ := er.at_ i _ e
    refine ⟨v, e2, hp v H (Same.refl _) ?_⟩
    cases s with
    | fr d => exact .inl r
    | ow xs =>
      obtain ⟨a, vs, ev, _, p, rr⟩ := r
      exact .inr ⟨xs, a, vs, rfl, ev, p, rr⟩
  · exact hp.elim
theorem op2 {r : R2} {F : D → D → R Sl} (hF : OpF X.K r F) {σ : L2.St} {H : Hp} {Q : VK} (h : tM X.K g x W (mBin F ma mb) σ H Q) : tOp r (tB X.K g x W ma) (tB X.K g x W mb) σ H Q := by
  obtain ⟨env, Z, er, hp⟩ := h
  refine useB er hp fun s v H1 e1 k1 r1 hp1 => ?_
  refine useB (er.mono k1) hp1 fun s2 u H2 e2 k2 r2 hp2 => ?_
  exact hF g W H2 Z σ _ _ _ _ _ (dom_mono (k1.trans k2) er.dom) (r1.mono k2) r2 hp2
theorem de_op {op : Operator} {r : R2} {F : D → D → R Sl} (ho : OpR X (binaryOp op) r) (hF : OpF X.K r F) (ha : PBd g x W X a ma) (hb : PBd g x W X b mb) : PEd g x W X (.BinOp a op b pos) (mBin F ma mb) :=
  weakE (pe_op ho ha hb) fun σ H Q h => op2 hF h
theorem de_cmp {op : CmpOp} {r : R2} {F : D → D → R Sl} (ho : OpR X (compareOp op) r) (hF : OpF X.K r F) (ha : PBd g x W X a ma) (hb : PBd g x W X b mb) (hm : behindInMarks op b = false) : PEd g x W X (.Compare a [op] [b] pos) (mBin F ma mb) :=
  weakE (pe_cmpR ho ha hb hm) fun σ H Q h => op2 hF h
theorem toTest {m : B} {σ : L2.St} {H : Hp} {Q : Bool → Hp → Prop} (h : tT X.K g x W (mTest m) σ H Q) : tB X.K g x W m σ H fun v H' => ∃ k, v = .bl k ∧ Q k H' := by
  obtain ⟨env, Z, er, hp⟩ := h
  refine useBT er hp fun d v H1 e1 k1 r1 hp1 => ?_
  cases d with
  | bl b => exact ⟨b, r1.bl_, hp1 H1 (Same.refl _)⟩
  | _ => exact hp1.elim
theorem toTestM {m : M} {σ : L2.St} {H : Hp} {Q : Bool → Hp → Prop} (h : tT X.K g x W (mTest (mB m)) σ H Q) : tM X.K g x W m σ H fun v H' => ∃ k, v = .bl k ∧ Q k H' := by
  obtain ⟨env, Z, er, hp⟩ := h
  refine use er ?_
  unfold mTest mB at hp
  cases em : m env with
  | ok s =>
    rw [em] at hp
    have hp : PostT X.K g W Z σ H Q (asB s.d) := hp
    intro v H' k r
    cases ed : s.d with
    | bl b => rw [ed] at hp r; exact ⟨b, Rep.bl_.mp r, hp H' k⟩
    | _ => rw [ed] at hp; exact hp.elim
  | ex c p => rw [em] at hp; exact hp
  | st => rw [em] at hp; exact hp
theorem dt_cmp {op : CmpOp} {r : R2} {F : D → D → R Sl} (ho : OpR X (compareOp op) r) (hF : OpF X.K r F) (ha : PBd g x W X a ma) (hb : PBd g x W X b mb) (hm : behindInMarks op b = false) : PTd g x W X (.Compare a [op] [b] pos) (mTest (mB (mBin F ma mb))) :=
  weakT (pt_cmpR ho ha hb hm) fun σ H Q h => op2 hF (toTestM h)
theorem dt_val (h : PBd g x W X e mt) (he : ∀ whole, isTrue e X.env whole = (do let v ← whole; standAt e.pos; holding [v] (truthy v)) := by intro _; rfl) : PTd g x W X e (mTest mt) :=
  weakT (pt_val h he) fun σ H Q h => toTest h
theorem dt_not {t : En → R Bool} (h : PTd g x W X e t) : PTd g x W X (.UnaryOp .Not e pos) (tNotM t) :=
  weakT (pt_not h) fun σ H Q ⟨env, Z, er, hp⟩ => useTT er hp fun b H' e k hp' => hp' H' (Same.refl _)
abbrev PWd (g : G0) (x : L2.St → Prop) (W : WX) (X : Cx) (e : Expr) (m : En → R Bool) : Prop := PW X e (tT X.K g x W m)
theorem weakW {X : Cx} {e : Expr} {t t' : TT} (h : PW X e t) (w : ∀ σ H Q, t' σ H Q → t σ H Q) : PW X e t' := ⟨fun wh pins s σ H Q I q => h.run wh pins s σ H Q I (w _ _ _ q)⟩
theorem dw_and1 {t : En → R Bool} (h : PTd g x W X e t) : PWd g x W X (.BoolOp .And [e] pos) t := pw_and1 h
theorem dw_or1 {t : En → R Bool} (h : PTd g x W X e t) : PWd g x W X (.BoolOp .Or [e] pos) t := pw_or1 h
theorem dw_and {t u : En → R Bool} (ha : PTd g x W X a t) (hb : PWd g x W X (.BoolOp .And (b :: es) pos) u) : PWd g x W X (.BoolOp .And (a :: b :: es) pos) (tAndM t u) :=
  weakW (pw_and ha hb) fun σ H Q ⟨env, Z, er, hp⟩ => useTT er hp fun c H' e k hp' => by
    cases c with
    | true => rw [if_pos rfl] at hp' ⊢; exact ⟨env, Z, er.mono k, hp'⟩
    | false => exact hp' H' (Same.refl _)
theorem dw_or {t u : En → R Bool} (ha : PTd g x W X a t) (hb : PWd g x W X (.BoolOp .Or (b :: es) pos) u) : PWd g x W X (.BoolOp .Or (a :: b :: es) pos) (tOrM t u) :=
  weakW (pw_or ha hb) fun σ H Q ⟨env, Z, er, hp⟩ => useTT er hp fun c H' e k hp' => by
    cases c with
    | true => exact hp' H' (Same.refl _)
    | false => exact ⟨env, Z, er.mono k, hp'⟩
theorem dt_w {t : En → R Bool} (h : PWd g x W X e t) : PTd g x W X e t := h.pt
theorem postFr {K : PySem.W.Frag} {Z : Av} {σ : L2.St} {H : Hp} {Q : VK} {r : R Sl} (h : PostE K g W Z σ H Q (r.bind fun s => .ok (.fr s.d))) : PostD K g W Z σ H Q r := by
  cases r with
  | ok s => exact h
  | ex c p => exact h
  | st => exact h
theorem de_one {op : BoolOp} (h : PBd g x W X a ma) : PBd g x W X (.BoolOp op [a] pos) ma := pe_one h
theorem andPart {Z : Av} {env : En} {σ : L2.St} {H H1 : Hp} {Q : VK} {K : PySem.W.Frag} (er : ERel K g x Z env σ H) (k1 : Same H H1) (hp : PostE K g W Z σ H1 Q ((mb env).bind fun s => (asB s).bind fun e => .ok (.fr (.bl e)))) : tB K g x W mb σ H1 Q := by
  refine useB (er.mono k1) hp fun d v H2 e2 k2 r2 hp2 => ?_
  cases d with
  | bl e => rw [r2.bl_]; exact hp2 _ H2 (Same.refl _) (Rep.bl_.mpr rfl)
  | _ => exact hp2.elim
theorem de_and (ha : PBd g x W X a ma) (hb : PBd g x W X (.BoolOp .And (b :: es) pos) mb) : PEd g x W X (.BoolOp .And (a :: b :: es) pos) (mAnd ma mb) :=
  weakE (pe_and ha hb) fun σ H Q ⟨env, Z, er, hp⟩ => useB er hp fun d v H1 e1 k1 r1 hp1 => by
    cases d with
    | bl c =>
      refine ⟨c, r1.bl_, ?_⟩
      cases c with
      | true => exact andPart er k1 hp1
      | false => exact hp1 _ H1 (Same.refl _) (Rep.bl_.mpr rfl)
    | _ => exact hp1.elim
theorem de_or (ha : PBd g x W X a ma) (hb : PBd g x W X (.BoolOp .Or (b :: es) pos) mb) : PEd g x W X (.BoolOp .Or (a :: b :: es) pos) (mOr ma mb) :=
  weakE (pe_or ha hb) fun σ H Q ⟨env, Z, er, hp⟩ => useB er hp fun d v H1 e1 k1 r1 hp1 => by
    cases d with
    | bl c =>
      refine ⟨c, r1.bl_, ?_⟩
      cases c with
      | true => exact hp1 _ H1 (Same.refl _) (Rep.bl_.mpr rfl)
      | false => exact andPart er k1 hp1
    | _ => exact hp1.elim
theorem de_not (ha : PBd g x W X a ma) : PEd g x W X (.UnaryOp .Not a pos) (mNot ma) :=
  weakE (pe_not ha) fun σ H Q ⟨env, Z, er, hp⟩ => useB er hp fun d v H1 e1 k1 r1 hp1 => by
    cases d with
    | bl c => exact ⟨c, r1.bl_, hp1 _ H1 (Same.refl _) (Rep.bl_.mpr rfl)⟩
    | _ => exact hp1.elim
theorem de_if {t : En → R Bool} {c : Expr} (hc : PTd g x W X c t) (ha : PEd g x W X a m) (hb : PEd g x W X b mA) : PEd g x W X (.IfExp c a b pos) (mIf t m mA) :=
  weakE (pe_ifExp hc ha hb) fun σ H Q ⟨env, Z, er, hp⟩ => useT er hp fun c H1 e1 k1 hp1 => by
    cases c with
    | true => exact use (er.mono k1) (postFr hp1)
    | false => exact use (er.mono k1) (postFr hp1)
theorem de_un {op : UnaryOp} {r : V → Hp → VK → Prop} {F : D → R Sl} (ho : UnR X (unaryOp op) r) (hF : UnF X.K r F) (ha : PBd g x W X a ma) : PEd g x W X (.UnaryOp op a pos) (mUn F ma) :=
  weakE (pe_un ho ha) fun σ H Q ⟨env, Z, er, hp⟩ => useB er hp fun s v H1 e1 k1 r1 hp1 => hF g W H1 Z σ _ _ _ (dom_mono k1 er.dom) r1 hp1

/-! ### arguments, displays, calls of built-ins -/
theorem da_nil : PAd g x W X [] mNil := weakA pa_nil fun σ H Q ⟨env, Z, er, hp⟩ => hp [] H (Same.refl _) (RepL.nil_.mpr rfl)
theorem db_nil : PBAd g x W X [] bNil := weakA pa_nil fun σ H Q ⟨env, Z, er, hp⟩ => hp [] H (Same.refl _) rfl
theorem db_cons (ha : PBd g x W X a ma) (hr : PBAd g x W X es mr) (hs : starEach (a :: es) X.env = (false, eval a X.env) :: starEach es X.env := by rfl) : PBAd g x W X (a :: es) (bCons ma mr) :=
  weakA (pa_cons ha hr hs) fun σ H Q ⟨env, Z, er, hp⟩ => useBA er hp fun s v H1 e1 k1 r1 hp1 =>
    useBLA (er.mono k1) hp1 fun ds vs H2 e2 k2 r2 hp2 => hp2 _ H2 (Same.refl _) ⟨v, vs, rfl, r1.mono k2, r2⟩
theorem da_cons (ha : PEd g x W X a m) (hr : PAd g x W X es mr) (hs : starEach (a :: es) X.env = (false, eval a X.env) :: starEach es X.env := by rfl) : PAd g x W X (a :: es) (mCons m mr) :=
  weakA (pa_cons ha hr hs) fun σ H Q ⟨env, Z, er, hp⟩ => use1A er hp fun s v H1 e1 k1 r1 hp1 =>
    useAA (er.mono k1) hp1 fun ds vs H2 e2 k2 r2 hp2 => hp2 _ H2 (Same.refl _) (RepL.cons_.mpr ⟨v, vs, rfl, Rep.mono (.same_ k2) _ _ r1, r2⟩)
theorem callF {r : List V → Hp → VK → Prop} {F : List D → R Sl} (hF : CallF X.K r F) {σ : L2.St} {H : Hp} {Q : VK} (h : tM X.K g x W (mCall F mr) σ H Q) : tBA X.K g x W mr σ H fun vs H1 => r vs H1 Q := by
  obtain ⟨env, Z, er, hp⟩ := h
  exact useBL er hp fun ds vs H1 e1 k1 r1 hp1 => hF g W H1 Z σ _ _ _ (dom_mono k1 er.dom) r1 hp1
theorem callA {r : List V → Hp → VK → Prop} {F : List D → R Sl} (hF : ∀ (g : G0) (W : WX) (H : Hp) (Z : Av) (σ : L2.St) (xs : List D) (vs : List V) (Q : VK), (∀ a, Z a → H a ≠ none) → RepL X.K g H Z xs vs → PostE X.K g W Z σ H Q (F xs) → r vs H Q)
    {σ : L2.St} {H : Hp} {Q : VK} (h : tM X.K g x W (mCall F mr) σ H Q) : tA X.K g x W mr σ H fun vs H1 => r vs H1 Q := by
  obtain ⟨env, Z, er, hp⟩ := h
  exact useA er hp fun ds vs H1 e1 k1 r1 hp1 => hF g W H1 Z σ _ _ _ (dom_mono k1 er.dom) r1 hp1
theorem same_upd {H : Hp} {p : Addr} {o : HO} (h : H p = none) : Same H (upd H p o) := fun b u e => by rw [upd_ne (ne_of_none e h)]; exact e
/-- a new tuple -/
def NewT (H : Hp) (vs : List V) (Q : VK) : Prop := ∀ (p : Addr) (o : Obj), H p = none → o.cls = .type "tuple" → o.dict = none → Q (.ref p) (upd H p (.frz o (.tup vs)))
theorem rtup_new {K : PySem.W.Frag} {H : Hp} {Z : Av} {p : Addr} {o : Obj} {ds : List D} {vs : List V} (h : H p = none) (c : o.cls = .type "tuple") (d : o.dict = none) (r : RepL K g H Z ds vs) : Rep K g (upd H p (.frz o (.tup vs))) Z (.tup ds) (.ref p) :=
  Rep.tup_.mpr ⟨p, vs, rfl, .inl ⟨o, upd_same, c, d⟩, RepL.mono (.same_ (same_upd h)) _ _ r⟩
theorem newT {pins : List (Addr × Obj)} {σ : L2.St} {H : Hp} {s : Shared} {h' : Heap} {p : Addr} {us : List Value} {vs : List V} {Q : VK} {t' : Nat} (I : Inv X pins σ H s) (k : ∀ b o, s.heap.get? b = some o → h'.get? b = some o) (hp : s.heap.objs.size ≤ p)
    (e : h'.get? p = some { cls := .type "tuple", data := .seq us.toArray }) (r : Vals vs us) (z : vs.length ≤ sizeLine) (q : NewT H vs Q) : EP X pins σ Q (.ref p) { s with heap := h', toks := t' } :=
  ⟨.ref p, _, I.laid (t' := t') k hp (o := .frz { cls := .type "tuple", data := .seq us.toArray } (.tup vs)) ⟨e, z, us, r, ⟨_, e, rfl, _, rfl⟩⟩, rfl, q p _ (I.hok.fresh hp) rfl rfl⟩
theorem pe_tupN {x1} {t : TA} (h : PA X es t) : PE X (.Tuple es x1 pos) (fun σ H Q => t σ H fun xs H1 => xs.length ≤ sizeLine ∧ NewT H1 xs Q) := by
  refine ⟨fun pins s σ H Q I hq => ?_⟩
  refine wpAny_Tuple_spliced (thn (h.run pos pins s σ H _ I hq) fun us s1 ⟨xs, H1, I1, r, z, q⟩ => ⟨by rw [← r.length]; exact z, ?_⟩)
  exact newT (t' := s1.toks) I1 (fun b u e => Heap.get?_push_of_some _ e) (Nat.le_refl _) (Heap.get?_push_size _ rfl) r z q
theorem rlst_new {K : PySem.W.Frag} {H : Hp} {Z : Av} {p : Addr} {o : HO} {ds : List D} {vs : List V} (h : H p = none) (r : RepL K g H Z ds vs) : RepL K g (upd H p o) (fun b => Z b ∨ b = p) ds vs :=
  RepL.mono (.of (same_upd h) fun b n z => z.elim id fun e => absurd h (by rw [← e]; exact n)) _ _ r
theorem post_tup {K : PySem.W.Frag} {H : Hp} {Z : Av} {σ : L2.St} {Q : VK} {ds : List D} {vs : List V} (hp : PostE K g W Z σ H Q (.ok (.fr (.tup ds)))) (r : RepL K g H Z ds vs) : NewT H vs Q :=
  fun p o h c d => hp _ _ (same_upd h) (rtup_new h c d r)
theorem post_ow {K : PySem.W.Frag} {H : Hp} {Z : Av} {σ : L2.St} {Q : VK} {p : Addr} {ds : List D} {vs : List V} (hp : PostE K g W Z σ H Q (.ok (.ow ds))) (h : H p = none) (r : RepL K g H Z ds vs) : Q (.ref p) (upd H p (.lst vs)) :=
  hp p vs _ (same_upd h) h upd_same (rlst_new h r)
theorem de_tup {x1} (h : PAd g x W X es mr) : PEd g x W X (.Tuple es x1 pos) (mCall fTup mr) :=
  weakE (pe_tupN h) fun σ H Q h => callA (r := fun xs H1 Q => xs.length ≤ sizeLine ∧ NewT H1 xs Q) (fun g W H Z σ xs vs Q dom r hp => by
    unfold fTup at hp
    split at hp
    · rename_i hl
      exact ⟨by rw [← r.length]; exact limLine hl, post_tup hp r⟩
    · exact hp.elim) h
theorem de_lst (h : PAd g x W X es mr) : PEd g x W X (.List es pos) (mCall fLst mr) :=
  weakE (pe_lst h) fun σ H Q h => callA (r := fun xs H1 Q => xs.length ≤ sizeLine ∧ ∀ p, H1 p = none → Q (.ref p) (upd H1 p (.lst xs))) (fun g W H Z σ xs vs Q dom r hp => by
    unfold fLst at hp
    split at hp
    · rename_i hl
      exact ⟨by rw [← r.length]; exact limLine hl, fun p n => post_ow hp n r⟩
    · exact hp.elim) h
theorem de_callB {r : List V → Hp → VK → Prop} {F : List D → R Sl} {id : String} {y : Str} {p : Pos} (hc : CallR X (.builtin id) r) (hF : CallF X.K r F) (hg : Gl X y) (hm : X.mg y = none) (hv : bootBuiltins y = some (.builtin id)) (ha : PBAd g x W X (e :: es) mr) (hn : y ≠ "__name__" := by decide)
    (hdb : (y == ("__debug__" : Str)) = false := by decide) (he : starEach (e :: es) X.env = (false, eval e X.env) :: starEach es X.env := by rfl) (hpl : (backTo pos (starEach es X.env)).any (·.1) = false := by rfl) :
    PEd g x W X (.Call (.Name y p) (e :: es) [] pos) (mCall F mr) :=
  weakE (pe_callB hc hg hm hv ha hn hdb he hpl) fun σ H Q h => callF hF h
theorem de_callT {r : List V → Hp → VK → Prop} {F : List D → R Sl} {id : String} {y : Str} {p : Pos} (hc : CallR X (.type id) r) (hF : CallF X.K r F) (hg : Gl X y) (hm : X.mg y = none) (hv : bootBuiltins y = some (.type id)) (ha : PBAd g x W X (e :: es) mr) (hn : y ≠ "__name__" := by decide)
    (hdb : (y == ("__debug__" : Str)) = false := by decide) (he : starEach (e :: es) X.env = (false, eval e X.env) :: starEach es X.env := by rfl) (hpl : (backTo pos (starEach es X.env)).any (·.1) = false := by rfl) :
    PEd g x W X (.Call (.Name y p) (e :: es) [] pos) (mCall F mr) :=
  weakE (pe_callTy hc hg hm hv ha hn hdb he hpl) fun σ H Q h => callF hF h
end
end DL
set_option Elab.async false
set_option linter.all false
set_option maxRecDepth 100000
namespace DL
open PySem PySem.Spec L2
open PyProof.Rows hiding St

/-! ### statements -/
/-- the addresses that slots own, and those that are kept away from outside -/
def zz (A : Av) (env : En) (σ : L2.St) : Av := fun a => A a ∨ ∃ (i : Nat) (xs : List D), env[i]? = some (some (Sl.ow xs)) ∧ σ[i]? = some (some (V.ref a))
structure SRel (K : PySem.W.Frag) (g : G0) (x : L2.St → Prop) (A : Av) (H0 : Hp) (env : En) (σ : L2.St) (H : Hp) : Prop where
  er : ERel K g x (zz A env σ) env σ H
  same : Same H0 H
  adom : ∀ a, A a → H0 a ≠ none
  fresh : ∀ (i : Nat) (xs : List D) (a : Addr), env[i]? = some (some (Sl.ow xs)) → σ[i]? = some (some (V.ref a)) → H0 a = none
  dist : ∀ (i j : Nat) (xs ys : List D) (a : Addr), env[i]? = some (some (Sl.ow xs)) → env[j]? = some (some (Sl.ow ys)) → σ[i]? = some (some (V.ref a)) → σ[j]? = some (some (V.ref a)) → i = j
  len : env.length = σ.length
def PostS (K : PySem.W.Frag) (g : G0) (x : L2.St → Prop) (W : WX) (A : Av) (H0 : Hp) (D : Ends) : RS → Prop
  | .nx e => ∀ σ' H', SRel K g x A H0 e σ' H' → D.nx σ' H'
  | .bk e => ∀ σ' H', SRel K g x A H0 e σ' H' → D.bk σ' H'
  | .ct e => ∀ σ' H', SRel K g x A H0 e σ' H' → D.ct σ' H'
  | .rt (.fr d) => ∀ v H', Same H0 H' → Rep K g H' A d v → D.rt v H'
  | .rt (.ow xs) => ∀ a vs H', Same H0 H' → H0 a = none → H' a = some (.lst vs) → RepL K g H' (fun b => A b ∨ b = a) xs vs → D.rt (.ref a) H'
  | .ex c p e => ∀ σ' H' dd, SRel K g x A H0 e σ' H' → ExP K g H' A p dd → W (.ref (g.cl c)) dd σ' H'
  | .st => False
def tS (K : PySem.W.Frag) (g : G0) (x : L2.St → Prop) (W : WX) (m : MS) : TS := fun D σ H => ∃ env A H0, SRel K g x A H0 env σ H ∧ PostS K g x W A H0 D (m env)
abbrev PSd (g : G0) (x : L2.St → Prop) (W : WX) (X : Cx) (s : Stmt) (m : MS) : Prop := PS X s (tS X.K g x W m)
abbrev PSsd (g : G0) (x : L2.St → Prop) (W : WX) (X : Cx) (s : List Stmt) (m : MS) : Prop := PSs X s (tS X.K g x W m)

def sNop : MS := fun env => .nx env
def sSeq (m n : MS) : MS := fun env => match m env with
  | .nx e => n e
  | r => r
def sIf (t : En → R Bool) (m n : MS) : MS := fun env => match t env with
  | .ok b => if b = true then m env else n env
  | .ex c p => .ex c p env
  | .st => .st
def sRet (m : M) : MS := fun env => match m env with
  | .ok s => .rt s
  | .ex c p => .ex c p env
  | .st => .st
def sRetN : MS := fun _ => .rt (.fr .non)
def sRetV (i : Nat) : MS := fun env => match env[i]? with
  | some (some s) => .rt s
  | _ => .st
def sSet (i : Nat) (m : M) : MS := fun env => match m env with
  | .ok s => .nx (env.set i (some s))
  | .ex c p => .ex c p env
  | .st => .st
def sDrop (m : M) : MS := fun env => match m env with
  | .ok _ => .nx env
  | .ex c p => .ex c p env
  | .st => .st
def frz1 (i : Nat) (env : En) : En := match env[i]? with
  | some (some (.ow xs)) => env.set i (some (.fr (.lst xs)))
  | _ => env
def frz : List Nat → En → En
  | [], env => env
  | i :: is, env => frz is (frz1 i env)
def sFrz (is : List Nat) (m : MS) : MS := fun env => m (frz is env)
def sApp (i : Nat) (m : M) : MS := fun env => match env[i]? with
  | some (some (.ow xs)) => match m env with
    | .ok s => if xs.length < lim then .nx (env.set i (some (.ow (xs ++ [s.d])))) else .st
    | .ex c p => .ex c p env
    | .st => .st
  | _ => .st
def sBrk : MS := fun env => .bk env
def sCnt : MS := fun env => .ct env

section
variable {K : PySem.W.Frag} {g : G0} {x : L2.St → Prop} {W : WX} {A : Av} {H0 H H' : Hp} {env : En} {σ : L2.St}
theorem SRel.later (r : SRel K g x A H0 env σ H) (k : Same H H') : SRel K g x A H0 env σ H' :=
  ⟨r.er.mono k, r.same.trans k, r.adom, r.fresh, r.dist, r.len⟩
theorem zz_sub {a : Addr} (h : A a) : zz A env σ a := .inl h
theorem SRel.kpA (r : SRel K g x A H0 env σ H) : Kp H (zz A env σ) H A := .of (Same.refl _) fun _ _ z => zz_sub z
/-- an anchor below -/
theorem SRel.anchor {H1 : Hp} (k : Same H0 H1) (ad : ∀ a, A a → H0 a ≠ none) (r : SRel K g x A H1 env σ H) : SRel K g x A H0 env σ H :=
  ⟨r.er, k.trans r.same, ad, fun i xs a e1 e2 => k.free (r.fresh i xs a e1 e2), r.dist, r.len⟩
theorem set_get {α : Type} {l : List α} {i j : Nat} {u w : α} (h : (l.set i u)[j]? = some w) : (i = j ∧ w = u ∧ i < l.length) ∨ (i ≠ j ∧ l[j]? = some w) := by
  by_cases e : i = j
  · subst e
    by_cases hl : i < l.length
    · rw [List.getElem?_set_self hl] at h
      exact .inl ⟨rfl, (Option.some.inj h).symm, hl⟩
    · rw [List.getElem?_eq_none (by simpa using hl)] at h
      cases h
  · rw [List.getElem?_set_ne e] at h
    exact .inr ⟨e, h⟩
/-- a value goes into a slot -/
theorem SRel.setFr (hx : ∀ σ, x σ) (r : SRel K g x A H0 env σ H) {i : Nat} {d : D} {v : V} (k : Same H H') (h : Rep K g H' (zz A env σ) d v) : SRel K g x A H0 (env.set i (some (.fr d))) (σ.set i (some v)) H' := by
  have r := r.later k
  have zs : ∀ a, zz A (env.set i (some (.fr d))) (σ.set i (some v)) a → zz A env σ a := by
    rintro a (z | ⟨j, xs, e1, e2⟩)
    · exact .inl z
    · rcases set_get e1 with ⟨_, e, _⟩ | ⟨ne, e1⟩
      · cases e
      · rcases set_get e2 with ⟨e, _⟩ | ⟨_, e2⟩
        · exact absurd e ne
        · exact .inr ⟨j, xs, e1, e2⟩
  refine ⟨⟨fun a z => r.er.dom a (zs a z), hx _, by rw [List.length_set, List.length_set, r.len], fun j s e => ?_⟩, r.same, r.adom, fun j xs a e1 e2 => ?_, fun j l xs ys a e1 e2 e3 e4 => ?_, by rw [List.length_set, List.length_set, r.len]⟩
  · rcases set_get e with ⟨ij, e, hl⟩ | ⟨ne, e⟩
    · cases e
      subst ij
      exact ⟨v, by rw [List.getElem?_set_self (by rw [← r.len]; exact hl)], Rep.mono (.of (Same.refl _) fun a _ z => zs a z) _ _ h⟩
    · obtain ⟨u, e2, q⟩ := r.er.at_ j s e
      refine ⟨u, by rw [List.getElem?_set_ne ne]; exact e2, ?_⟩
      cases s with
      | fr d2 => exact Rep.mono (.of (Same.refl _) fun a _ z => zs a z) _ _ q
      | ow xs =>
        obtain ⟨a, vs, ev, z, p, rr⟩ := q
        subst ev
        exact ⟨a, vs, rfl, .inr ⟨j, xs, by rw [List.getElem?_set_ne ne]; exact e, by rw [List.getElem?_set_ne ne]; exact e2⟩, p, RepL.mono (.of (Same.refl _) fun a _ z => zs a z) _ _ rr⟩
  · rcases set_get e1 with ⟨_, e, _⟩ | ⟨ne, e1⟩
    · cases e
    · rw [List.getElem?_set_ne ne] at e2
      exact r.fresh j xs a e1 e2
  · rcases set_get e1 with ⟨_, e, _⟩ | ⟨ne, e1⟩
    · cases e
    · rcases set_get e2 with ⟨_, e, _⟩ | ⟨ne2, e2⟩
      · cases e
      · rw [List.getElem?_set_ne ne] at e3
        rw [List.getElem?_set_ne ne2] at e4
        exact r.dist j l xs ys a e1 e2 e3 e4
/-- a fresh list goes into a slot -/
theorem SRel.setOw (hx : ∀ σ, x σ) (r : SRel K g x A H0 env σ H) {i : Nat} {xs : List D} {a : Addr} {vs : List V} (k : Same H H') (n : H a = none) (e : H' a = some (.lst vs)) (h : RepL K g H' (fun b => zz A env σ b ∨ b = a) xs vs) :
    SRel K g x A H0 (env.set i (some (.ow xs))) (σ.set i (some (.ref a))) H' := by
  have r' := r.later k
  have zs : ∀ b, zz A (env.set i (some (.ow xs))) (σ.set i (some (.ref a))) b → zz A env σ b ∨ b = a := by
    rintro b (z | ⟨j, ys, e1, e2⟩)
    · exact .inl (.inl z)
    · rcases set_get e1 with ⟨ij, _, _⟩ | ⟨ne, e1⟩
      · subst ij
        rcases set_get e2 with ⟨_, e, _⟩ | ⟨ne, _⟩
        · cases e; exact .inr rfl
        · exact absurd rfl ne
      · rcases set_get e2 with ⟨e, _⟩ | ⟨_, e2⟩
        · exact absurd e ne
        · exact .inl (.inr ⟨j, ys, e1, e2⟩)
  have nH0 : H0 a = none := r.same.free n
  have old : ∀ b, H b ≠ none → zz A (env.set i (some (.ow xs))) (σ.set i (some (.ref a))) b → zz A env σ b := fun b hb z => (zs b z).elim id fun e => absurd n (by rw [← e]; exact hb)
  have kp : Kp H (zz A env σ) H' (zz A (env.set i (some (.ow xs))) (σ.set i (some (.ref a)))) := .of k old
  refine ⟨⟨fun b z => ?_, hx _, by rw [List.length_set, List.length_set, r.len], fun j s e1 => ?_⟩, r'.same, r.adom, fun j ys b e1 e2 => ?_, fun j l ys zs' b e1 e2 e3 e4 => ?_, by rw [List.length_set, List.length_set, r.len]⟩
  · rcases zs b z with z | z
    · exact r'.er.dom b z
    · rw [z, e]; simp
  · rcases set_get e1 with ⟨ij, ee, hl⟩ | ⟨ne, e1⟩
    · cases ee
      subst ij
      have hs : (σ.set i (some (V.ref a)))[i]? = some (some (V.ref a)) := by rw [List.getElem?_set_self (by rw [← r.len]; exact hl)]
      exact ⟨.ref a, hs, a, vs, rfl, .inr ⟨i, xs, by rw [List.getElem?_set_self hl], hs⟩, e, RepL.mono (.of (Same.refl _) fun b _ z => zs b z) _ _ h⟩
    · obtain ⟨u, e2, q⟩ := r.er.at_ j s e1
      refine ⟨u, by rw [List.getElem?_set_ne ne]; exact e2, ?_⟩
      cases s with
      | fr d2 => exact Rep.mono kp _ _ q
      | ow ys =>
        obtain ⟨b, ws, ev, z, p, rr⟩ := q
        subst ev
        exact ⟨b, ws, rfl, .inr ⟨j, ys, by rw [List.getElem?_set_ne ne]; exact e1, by rw [List.getElem?_set_ne ne]; exact e2⟩, k _ _ p, RepL.mono kp _ _ rr⟩
  · rcases set_get e1 with ⟨ij, _, hl⟩ | ⟨ne, e1⟩
    · subst ij
      rw [List.getElem?_set_self (by rw [← r.len]; exact hl)] at e2
      cases e2
      exact nH0
    · rw [List.getElem?_set_ne ne] at e2
      exact r.fresh j ys b e1 e2
  · have own : ∀ {j : Nat} {ys : List D}, env[j]? = some (some (.ow ys)) → σ[j]? = some (some (.ref a)) → False := fun {j ys} f1 f2 => by
      obtain ⟨u, f3, b, ws, ev, _, p, _⟩ := r.er.at_ j _ f1
      rw [f2] at f3
      cases f3
      cases ev
      rw [n] at p
      cases p
    rcases set_get e1 with ⟨ij, _, hl⟩ | ⟨ne, e1⟩
    · subst ij
      rw [List.getElem?_set_self (by rw [← r.len]; exact hl)] at e3
      cases e3
      rcases set_get e2 with ⟨il, _, _⟩ | ⟨ne2, e2⟩
      · exact il
      · rw [List.getElem?_set_ne ne2] at e4
        exact (own e2 e4).elim
    · rw [List.getElem?_set_ne ne] at e3
      rcases set_get e2 with ⟨il, _, hl⟩ | ⟨ne2, e2⟩
      · subst il
        rw [List.getElem?_set_self (by rw [← r.len]; exact hl)] at e4
        cases e4
        exact (own e1 e3).elim
      · rw [List.getElem?_set_ne ne2] at e4
        exact r.dist j l ys zs' b e1 e2 e3 e4
/-- an owned list changes -/
theorem SRel.mut (r : SRel K g x A H0 env σ H) {i : Nat} {xs ys : List D} {a : Addr} {vs : List V} (e1 : env[i]? = some (some (.ow xs))) (e2 : σ[i]? = some (some (.ref a))) (h : RepL K g H (zz A env σ) ys vs) :
    SRel K g x A H0 (env.set i (some (.ow ys))) σ (upd H a (.lst vs)) := by
  have hi : i < env.length := (List.getElem?_eq_some_iff.mp e1).1
  have za : zz A env σ a := .inr ⟨i, xs, e1, e2⟩
  have zs : ∀ b, zz A (env.set i (some (.ow ys))) σ b ↔ zz A env σ b := fun b => by
    constructor
    · rintro (z | ⟨j, ws, f1, f2⟩)
      · exact .inl z
      · rcases set_get f1 with ⟨ij, _, _⟩ | ⟨ne, f1⟩
        · subst ij; exact .inr ⟨i, xs, e1, f2⟩
        · exact .inr ⟨j, ws, f1, f2⟩
    · rintro (z | ⟨j, ws, f1, f2⟩)
      · exact .inl z
      · by_cases ij : i = j
        · subst ij; exact .inr ⟨i, ys, by rw [List.getElem?_set_self hi], f2⟩
        · exact .inr ⟨j, ws, by rw [List.getElem?_set_ne ij]; exact f1, f2⟩
  obtain ⟨u, f3, b, ws, ev, _, p, _⟩ := r.er.at_ i _ e1
  rw [e2] at f3
  cases f3
  cases ev
  have kp : Kp H (zz A env σ) (upd H a (.lst vs)) (zz A (env.set i (some (.ow ys))) σ) :=
    ⟨fun b o e n => by rw [upd_ne (fun q => n (by rw [q]; exact za))]; exact e, fun b o us t => by
      have nb : b ≠ a := fun q => by
        subst q
        rw [p] at t
        cases t
      rw [upd_ne nb]
      exact t, fun b _ n z => n ((zs b).mp z)⟩
  have nH0 : H0 a = none := r.fresh i xs a e1 e2
  refine ⟨⟨fun b z => ?_, r.er.ex, by rw [List.length_set, r.len], fun j s f => ?_⟩, fun b o e => ?_, r.adom, fun j ws b f1 f2 => ?_, fun j l ws us b f1 f2 f3 f4 => ?_, by rw [List.length_set, r.len]⟩
  · by_cases q : b = a
    · rw [q, upd_same]; simp
    · rw [upd_ne q]; exact r.er.dom b ((zs b).mp z)
  · rcases set_get f with ⟨ij, ee, _⟩ | ⟨ne, f⟩
    · cases ee
      subst ij
      exact ⟨.ref a, e2, a, vs, rfl, (zs a).mpr za, upd_same, RepL.mono kp _ _ h⟩
    · obtain ⟨v, f2, q⟩ := r.er.at_ j s f
      refine ⟨v, f2, ?_⟩
      cases s with
      | fr d => exact Rep.mono kp _ _ q
      | ow us =>
        obtain ⟨b, ts, ev, z, p2, rr⟩ := q
        subst ev
        have nb : b ≠ a := fun q => ne (r.dist i j xs us a e1 f e2 (by rw [← q]; exact f2))
        exact ⟨b, ts, rfl, (zs b).mpr z, by rw [upd_ne nb]; exact p2, RepL.mono kp _ _ rr⟩
  · rw [upd_ne (ne_of_none e nH0)]; exact r.same b o e
  · rcases set_get f1 with ⟨ij, _, _⟩ | ⟨ne, f1⟩
    · subst ij; exact r.fresh i xs b e1 f2
    · exact r.fresh j ws b f1 f2
  · have fix : ∀ {j : Nat} {ws : List D}, (env.set i (some (.ow ys)))[j]? = some (some (.ow ws)) → ∃ ws', env[j]? = some (some (.ow ws')) := fun {j ws} f => by
      rcases set_get f with ⟨ij, _, _⟩ | ⟨ne, f⟩
      · exact ⟨xs, ij ▸ e1⟩
      · exact ⟨ws, f⟩
    obtain ⟨w1, g1⟩ := fix f1
    obtain ⟨w2, g2⟩ := fix f2
    exact r.dist j l w1 w2 b g1 g2 f3 f4
/-- a list is not changed any more -/
theorem SRel.frz1 (r : SRel K g x A H0 env σ H) (i : Nat) : SRel K g x A H0 (DL.frz1 i env) σ H := by
  unfold DL.frz1
  split
  · rename_i xs e1
    have hi : i < env.length := (List.getElem?_eq_some_iff.mp e1).1
    obtain ⟨v, e2, a, vs, ev, za, p, rr⟩ := r.er.at_ i _ e1
    subst ev
    have zs : ∀ b, zz A (env.set i (some (.fr (.lst xs)))) σ b → zz A env σ b := by
      rintro b (z | ⟨j, ws, f1, f2⟩)
      · exact .inl z
      · rcases set_get f1 with ⟨_, ee, _⟩ | ⟨ne, f1⟩
        · cases ee
        · exact .inr ⟨j, ws, f1, f2⟩
    have na : ¬ zz A (env.set i (some (.fr (.lst xs)))) σ a := by
      rintro (z | ⟨j, ws, f1, f2⟩)
      · exact r.adom a z (r.fresh i xs a e1 e2)
      · rcases set_get f1 with ⟨_, ee, _⟩ | ⟨ne, f1⟩
        · cases ee
        · exact ne (r.dist i j xs ws a e1 f1 e2 f2)
    have kp : Kp H (zz A env σ) H (zz A (env.set i (some (.fr (.lst xs)))) σ) := .of (Same.refl _) fun b _ z => zs b z
    refine ⟨⟨fun b z => r.er.dom b (zs b z), r.er.ex, by rw [List.length_set, r.len], fun j s f => ?_⟩, r.same, r.adom, fun j ws b f1 f2 => ?_, fun j l ws us b f1 f2 f3 f4 => ?_, by rw [List.length_set, r.len]⟩
    · rcases set_get f with ⟨ij, ee, _⟩ | ⟨ne, f⟩
      · cases ee
        subst ij
        exact ⟨.ref a, e2, Rep.lst_.mpr ⟨a, vs, rfl, .inl ⟨na, .inl p⟩, RepL.mono kp _ _ rr⟩⟩
      · obtain ⟨w, f2, q⟩ := r.er.at_ j s f
        refine ⟨w, f2, ?_⟩
        cases s with
        | fr d => exact Rep.mono kp _ _ q
        | ow us =>
          obtain ⟨b, ts, ev, z, p2, r2⟩ := q
          subst ev
          exact ⟨b, ts, rfl, .inr ⟨j, us, by rw [List.getElem?_set_ne ne]; exact f, f2⟩, p2, RepL.mono kp _ _ r2⟩
    · rcases set_get f1 with ⟨_, ee, _⟩ | ⟨ne, f1⟩
      · cases ee
      · exact r.fresh j ws b f1 f2
    · rcases set_get f1 with ⟨_, ee, _⟩ | ⟨_, f1⟩
      · cases ee
      · rcases set_get f2 with ⟨_, ee, _⟩ | ⟨_, f2⟩
        · cases ee
        · exact r.dist j l ws us b f1 f2 f3 f4
  · exact r
theorem SRel.frz : ∀ (is : List Nat) {env : En}, SRel K g x A H0 env σ H → SRel K g x A H0 (DL.frz is env) σ H
  | [], _, r => r
  | i :: is, _, r => SRel.frz is (r.frz1 i)
end

section
variable {g : G0} {x : L2.St → Prop} {W : WX} {X : Cx} {e : Expr} {st : Stmt} {rest body orelse : List Stmt} {pos : Pos} {m : M} {s t : MS}
theorem dss_nil : PSsd g x W X [] sNop := weakSs pss_nil fun D σ H ⟨env, A, H0, r, hp⟩ => hp σ H r
theorem tS.imp {D D' : Ends} {σ : L2.St} {H : Hp} (h : tS X.K g x W s D σ H) (h1 : ∀ σ H, D.nx σ H → D'.nx σ H) (h2 : ∀ v H, D.rt v H → D'.rt v H) (h3 : ∀ σ H, D.bk σ H → D'.bk σ H) (h4 : ∀ σ H, D.ct σ H → D'.ct σ H) : tS X.K g x W s D' σ H := by
  obtain ⟨env, A, H0, r, hp⟩ := h
  refine ⟨env, A, H0, r, ?_⟩
  cases e : s env with
  | nx e' => rw [e] at hp; exact fun σ' H' q => h1 _ _ (hp σ' H' q)
  | bk e' => rw [e] at hp; exact fun σ' H' q => h3 _ _ (hp σ' H' q)
  | ct e' => rw [e] at hp; exact fun σ' H' q => h4 _ _ (hp σ' H' q)
  | rt u =>
    rw [e] at hp
    cases u with
    | fr d => exact fun v H' k q => h2 _ _ (hp v H' k q)
    | ow xs => exact fun a vs H' k n p q => h2 _ _ (hp a vs H' k n p q)
  | ex c p e' => rw [e] at hp; exact hp
  | st => rw [e] at hp; exact hp
theorem seqPost {K : PySem.W.Frag} {A : Av} {H0 : Hp} {D : Ends} {u : RS} (h : PostS K g x W A H0 D (match u with | .nx e => t e | r => r)) : PostS K g x W A H0 { D with nx := tS K g x W t D } u := by
  cases u with
  | nx e' => exact fun σ' H' q => ⟨e', A, H0, q, h⟩
  | bk e' => exact h
  | ct e' => exact h
  | rt v => cases v <;> exact h
  | ex c p e' => exact h
  | st => exact h
theorem dss_cons (h1 : PSd g x W X st s) (h2 : PSsd g x W X rest t) : PSsd g x W X (st :: rest) (sSeq s t) :=
  weakSs (pss_cons h1 h2) fun D σ H ⟨env, A, H0, r, hp⟩ => ⟨env, A, H0, r, seqPost hp⟩
theorem dss_one (h1 : PSd g x W X st s) : PSsd g x W X [st] s := pss_one h1
theorem ds_pass : PSd g x W X (.Pass pos) sNop := weakS ps_pass fun D σ H ⟨env, A, H0, r, hp⟩ => hp σ H r
theorem ds_brk : PSd g x W X (.Break pos) sBrk := weakS ps_break fun D σ H ⟨env, A, H0, r, hp⟩ => hp σ H r
theorem ds_cnt : PSd g x W X (.Continue pos) sCnt := weakS ps_continue fun D σ H ⟨env, A, H0, r, hp⟩ => hp σ H r
/-- an expression of a statement -/
theorem runE {env : En} {A : Av} {H0 H : Hp} {σ : L2.St} {D : Ends} {f : Sl → RS} {Q : VK} (r : SRel X.K g x A H0 env σ H)
    (hp : PostS X.K g x W A H0 D (match m env with | .ok s => f s | .ex c p => .ex c p env | .st => .st))
    (h1 : ∀ d v H', m env = .ok (.fr d) → Same H H' → Rep X.K g H' (zz A env σ) d v → PostS X.K g x W A H0 D (f (.fr d)) → Q v H')
    (h2 : ∀ xs a vs H', m env = .ok (.ow xs) → Same H H' → H a = none → H' a = some (.lst vs) → RepL X.K g H' (fun b => zz A env σ b ∨ b = a) xs vs → PostS X.K g x W A H0 D (f (.ow xs)) → Q (.ref a) H') : tM X.K g x W m σ H Q := by
  refine ⟨env, _, r.er, ?_⟩
  cases e : m env with
  | ok s =>
    rw [e] at hp
    cases s with
    | fr d => exact fun v H' k q => h1 d v H' e k q hp
    | ow xs => exact fun a vs H' k n p q => h2 xs a vs H' e k n p q hp
  | ex c p =>
    rw [e] at hp
    refine fun H' dd k q => hp σ H' dd (r.later k) ?_
    cases p with
    | none => exact q
    | some fx =>
      obtain ⟨da, v, e1, e2, e3⟩ := q
      exact ⟨da, v, e1, e2, Rep.mono (.of (Same.refl _) fun _ _ z => .inl z) _ _ e3⟩
  | st => rw [e] at hp; exact hp
theorem ds_set {i : Nat} {y : Str} {pos' : Pos} (hx : ∀ σ, x σ) (hN : X.N.Nodup) (hi : X.N[i]? = some y) (hl : Loc X.env.scope y) (he : PEd g x W X e m) (hs : swapsWith e (some (.Name y pos')) pos.line X.env = pure false := by rfl)
    (hf : X.fn y = true ∨ X.env.scope.names.lookup y = some .local := by first | exact .inl rfl | exact .inr rfl | assumption) : PSd g x W X (.Assign [.Name y pos'] e pos) (sSet i m) :=
  weakS (ps_set hN hi hl he hs hf) fun D σ H ⟨env, A, H0, r, hp⟩ =>
    runE (f := fun s => .nx (env.set i (some s))) r hp (fun d v H' _ k q hp => hp _ _ (r.setFr hx k q)) fun xs a vs H' _ k n p q hp => hp _ _ (r.setOw hx k n p q)
theorem ds_ret (he : PEd g x W X e m) : PSd g x W X (.Return (some e) pos) (sRet m) :=
  weakS (ps_ret he) fun D σ H ⟨env, A, H0, r, hp⟩ =>
    runE (f := fun s => .rt s) r hp (fun d v H' _ k q hp => hp _ _ (r.same.trans k) (Rep.mono (.of (Same.refl _) fun _ _ z => .inl z) _ _ q)) fun xs a vs H' _ k n p q hp => hp _ _ _ (r.same.trans k) (r.same.free n) p (RepL.mono (.of (Same.refl _) fun _ _ z => z.elim (fun z => .inl (.inl z)) .inr) _ _ q)
theorem ds_retN : PSd g x W X (.Return none pos) sRetN :=
  weakS ps_retN fun D σ H ⟨env, A, H0, r, hp⟩ => hp _ _ r.same (Rep.non_.mpr rfl)
theorem ds_retV (i : Nat) {y : Str} {p : Pos} (hN : X.N[i]? = some y := by rfl) (hv : Vis X.env.scope y := by first | exact Or.inl rfl | exact Or.inr (Or.inl rfl) | exact Or.inr (Or.inr rfl)) (hd : (y == ("__debug__" : Str)) = false := by decide)
    (hcd : (y == ("__classdict__" : Str)) = false := by decide) : PSd g x W X (.Return (some (.Name y p)) pos) (sRetV i) :=
  weakS (ps_ret (pe_var hN hv hd hcd)) fun D σ H ⟨env, A, H0, r, hp⟩ => by
    unfold sRetV at hp
    split at hp
    · rename_i s e
      obtain ⟨v, e2, q⟩ := r.er.at_ i _ e
      cases s with
      | fr d => exact ⟨v, e2, hp _ _ r.same (Rep.mono (.of (Same.refl _) fun _ _ z => .inl z) _ _ q)⟩
      | ow xs =>
        obtain ⟨a, vs, ev, z, p, rr⟩ := q
        subst ev
        exact ⟨_, e2, hp _ _ _ r.same (r.fresh i xs a e e2) p (RepL.mono (.of (Same.refl _) fun b _ z => z.elim .inl fun q => by rw [q]; assumption) _ _ rr)⟩
    · exact hp.elim
theorem ds_expr (he : PEd g x W X e m) (hs : swapsWith e none pos.line X.env = pure false := by rfl) : PSd g x W X (.Expr e pos) (sDrop m) :=
  weakS (ps_expr he hs) fun D σ H ⟨env, A, H0, r, hp⟩ =>
    runE (f := fun s => .nx env) r hp (fun d v H' _ k q hp => hp _ _ (r.later k)) fun xs a vs H' _ k n p q hp => hp _ _ (r.later k)
theorem ds_doc {z : Str} {j : Nat} {pos' : Pos} : PSd g x W X (.Expr (.Constant (.str z) j pos) pos') sNop := weakS ps_doc fun D σ H ⟨env, A, H0, r, hp⟩ => hp σ H r
theorem ds_if {c : Expr} {b : En → R Bool} (hc : PTd g x W X c b) (ha : PSsd g x W X body s) (hb : PSsd g x W X orelse t) : PSd g x W X (.If c body orelse pos) (sIf b s t) :=
  weakS (ps_if hc ha hb) fun D σ H ⟨env, A, H0, r, hp⟩ => by
    refine ⟨env, _, r.er, ?_⟩
    unfold sIf at hp
    cases e : b env with
    | ok c =>
      rw [e] at hp
      intro H' k
      cases c with
      | true => exact ⟨env, A, H0, r.later k, hp⟩
      | false => exact ⟨env, A, H0, r.later k, hp⟩
    | ex c p =>
      rw [e] at hp
      refine fun H' dd k q => hp σ H' dd (r.later k) ?_
      cases p with
      | none => exact q
      | some fx =>
        obtain ⟨da, v, e1, e2, e3⟩ := q
        exact ⟨da, v, e1, e2, Rep.mono (.of (Same.refl _) fun _ _ z => .inl z) _ _ e3⟩
    | st => rw [e] at hp; exact hp
theorem ds_frz (is : List Nat) (h : PSd g x W X st s) : PSd g x W X st (sFrz is s) :=
  weakS h fun D σ H ⟨env, A, H0, r, hp⟩ => ⟨_, A, H0, r.frz is, hp⟩
theorem ds_app (i : Nat) {y : Str} {p apos cpos : Pos} (hN : X.N[i]? = some y := by rfl) (hv : Vis X.env.scope y := by first | exact Or.inl rfl | exact Or.inr (Or.inl rfl) | exact Or.inr (Or.inr rfl)) (hd : (y == ("__debug__" : Str)) = false := by decide)
    (hcd : (y == ("__classdict__" : Str)) = false := by decide) (he : PEd g x W X e m) (hx : ∀ σ, x σ)
    (hbase : attributeBase (.Name y p) "append" X.env (eval (.Name y p) X.env) = eval (.Name y p) X.env := by rfl)
    (hline : (apos.endLine == cpos.line) = true := by rfl)
    (hse : starEach [e] X.env = [(false, eval e X.env)] := by rfl)
    (hs : swapsWith (.Call (.Attribute (.Name y p) "append" apos) [e] [] cpos) none pos.line X.env = pure false := by rfl) : PSd g x W X (.Expr (.Call (.Attribute (.Name y p) "append" apos) [e] [] cpos) pos) (sApp i m) :=
  weakS (ps_expr (pe_bm PySem.F.plainAttrs_list PySem.F.slot_list_append PySem.F.type_list_append mt_append (pe_var hN hv hd hcd) (pa_cons he pa_nil hse) hbase (by rw [hse]; rfl) hline hse (by rfl)) hs) fun D σ H ⟨env, A, H0, r, hp⟩ => by
    unfold sApp at hp
    split at hp
    · rename_i xs e1
      obtain ⟨v, e2, a, vs, ev, z, p, rr⟩ := r.er.at_ i _ e1
      subst ev
      refine ⟨.ref a, e2, .inl ⟨rfl, vs, SqL.of p⟩, ?_⟩
      refine use (Z := zz A env σ) r.er ?_
      cases em : m env with
      | ok s =>
        rw [em] at hp
        intro u H' k q
        have hp : PostS X.K g x W A H0 D (if xs.length < lim then RS.nx (env.set i (some (.ow (xs ++ [s.d])))) else RS.st) := hp
        split at hp
        · rename_i hl
          have lv := rr.length
          exact ⟨a, vs, u, rfl, rfl, k _ _ p, by rw [← lv]; exact limLine' hl, hp _ _ ((r.later k).mut e1 e2 ((RepL.mono (.same_ k) _ _ rr).append (.one q)))⟩
        · exact hp.elim
      | ex c p =>
        rw [em] at hp
        refine fun H' dd k q => hp σ H' dd (r.later k) ?_
        cases p with
        | none => exact q
        | some fx =>
          obtain ⟨da, v, e1, e2, e3⟩ := q
          exact ⟨da, v, e1, e2, Rep.mono (.of (Same.refl _) fun _ _ z => .inl z) _ _ e3⟩
      | st => rw [em] at hp; exact hp
    · exact hp.elim
end
end DL
set_option Elab.async false
set_option linter.all false
set_option maxRecDepth 100000
namespace DL
open PySem PySem.Spec L2
open PyProof.Rows hiding St

/-! ### what a loop walks -/
structure Walk (K : PySem.W.Frag) (g : G0) (Z : Av) (H : Hp) (J : It) (xs : List D) : Prop where
  go : ∀ (i : Nat) (d : D) (H' : Hp), xs[i]? = some d → Kp H Z H' (fun _ => False) → J.go i H'
  yld : ∀ (i : Nat) (d : D) (H' : Hp) (v : V) (H'' : Hp), xs[i]? = some d → Kp H Z H' (fun _ => False) → J.yld i H' v H'' → Same H' H'' ∧ ∀ Z', Kp H Z H'' Z' → (∀ a, Z' a → H' a ≠ none) → Rep K g H'' Z' d v
  stop : ∀ (i : Nat) (H' : Hp), xs.length ≤ i → Kp H Z H' (fun _ => False) → J.stop i H'
def PostI (K : PySem.W.Frag) (g : G0) (W : WX) (Z : Av) (σ : L2.St) (H : Hp) (Rn : It → Hp → Prop) : R (List D) → Prop
  | .ok xs => ∀ J H', Same H H' → Walk K g Z H' J xs → Rn J H'
  | .ex c p => ∀ H' dd, Same H H' → ExP K g H' Z p dd → W (.ref (g.cl c)) dd σ H'
  | .st => False
def tI (K : PySem.W.Frag) (g : G0) (x : L2.St → Prop) (W : WX) (m : En → R (List D)) : TI := fun σ H R => ∃ env Z, ERel K g x Z env σ H ∧ PostI K g W Z σ H R (m env)
abbrev PId (g : G0) (x : L2.St → Prop) (W : WX) (X : Cx) (tg e : Expr) (m : En → R (List D)) : Prop := PI X tg e (tI X.K g x W m)
def asSeq : D → R (List D)
  | .lst xs => .ok xs
  | .tup xs => .ok xs
  | _ => .st
def mIter (m : M) : En → R (List D) := fun env => (m env).bind fun s => asSeq s.d
def rangeD (lo : Int) (n : Nat) : List D := (List.range n).map fun i => .int (lo + (i : Nat))
def big : Int := 1000000000
def mRng1 (m : B) : En → R (List D) := fun env => (m env).bind fun s => match s with
  | .int j => if -big ≤ j ∧ j ≤ big then .ok (rangeD 0 j.toNat) else .st
  | _ => .st
def mRng2 (m n : B) : En → R (List D) := fun env => (m env).bind fun s => (n env).bind fun t => match s, t with
  | .int i, .int j => if -big ≤ i ∧ i ≤ big ∧ -big ≤ j ∧ j ≤ big then .ok (rangeD i (j - i).toNat) else .st
  | _, _ => .st
def revD (a b : Int) : List D := (List.range (b - a).toNat).map fun i => .int (a + (((b - a).toNat : Nat) : Int) - 1 + (i : Nat) * (-1))
def mRev1 (m : B) : En → R (List D) := fun env => (m env).bind fun s => match s with
  | .int j => if -big ≤ j ∧ j ≤ big then .ok (revD 0 j) else .st
  | _ => .st
theorem rangeD_get {lo : Int} {n i : Nat} {d : D} (h : (rangeD lo n)[i]? = some d) : i < n ∧ d = .int (lo + (i : Nat)) := by
  unfold rangeD at h
  rw [List.getElem?_map] at h
  cases e : (List.range n)[i]? with
  | none => rw [e] at h; cases h
  | some k =>
    rw [e] at h
    obtain ⟨h1, h2⟩ := List.getElem?_eq_some_iff.mp e
    rw [List.getElem_range] at h2
    rw [List.length_range] at h1
    subst h2
    exact ⟨h1, (Option.some.inj h).symm⟩
theorem rangeD_length {lo : Int} {n : Nat} : (rangeD lo n).length = n := by unfold rangeD; rw [List.length_map, List.length_range]
theorem revD_get {a b : Int} {i : Nat} {d : D} (h : (revD a b)[i]? = some d) : i < (b - a).toNat ∧ d = .int (a + (((b - a).toNat : Nat) : Int) - 1 + (i : Nat) * (-1)) := by
  unfold revD at h
  rw [List.getElem?_map] at h
  cases e : (List.range (b - a).toNat)[i]? with
  | none => rw [e] at h; cases h
  | some k =>
    rw [e] at h
    obtain ⟨h1, h2⟩ := List.getElem?_eq_some_iff.mp e
    rw [List.getElem_range] at h2
    rw [List.length_range] at h1
    subst h2
    exact ⟨h1, (Option.some.inj h).symm⟩
theorem revD_length {a b : Int} : (revD a b).length = (b - a).toNat := by unfold revD; rw [List.length_map, List.length_range]
section
variable {K : PySem.W.Frag} {g : G0} {x : L2.St → Prop} {W : WX} {Z : Av} {env : En} {σ : L2.St} {H H' : Hp}
theorem walk_list {a : Addr} {ds : List D} {vs : List V} (h : Ls K H Z a vs) (r : RepL K g H Z ds vs) : Walk K g Z H (Itl K a) ds where
  go := fun i d H' e k => by
    obtain ⟨v, e2, _⟩ := r.get e
    exact ⟨vs, v, (k.ls h).sq, e2⟩
  yld := fun i d H' v H'' e k y => by
    obtain ⟨rfl, y⟩ := y
    obtain ⟨w, e2, q⟩ := r.get e
    have := y vs (k.ls h).sq
    rw [e2] at this
    cases this
    exact ⟨Same.refl _, fun Z' k2 _ => Rep.mono k2 _ _ q⟩
  stop := fun i H' l k => ⟨vs, (k.ls h).sq, by rw [← r.length]; exact l⟩
theorem walk_tup {a : Addr} {ds : List D} {vs : List V} (h : Tu K H a vs) (r : RepL K g H Z ds vs) : Walk K g Z H (Itt K a) ds where
  go := fun i d H' e k => by
    obtain ⟨v, e2, _⟩ := r.get e
    exact ⟨vs, v, (k.tu h).sqT, e2⟩
  yld := fun i d H' v H'' e k y => by
    obtain ⟨rfl, y⟩ := y
    obtain ⟨w, e2, q⟩ := r.get e
    have := y vs (k.tu h).sqT
    rw [e2] at this
    cases this
    exact ⟨Same.refl _, fun Z' k2 _ => Rep.mono k2 _ _ q⟩
  stop := fun i H' l k => ⟨vs, (k.tu h).sqT, by rw [← r.length]; exact l⟩
theorem walk_range {lo : Int} {n : Nat} : Walk K g Z H (Itr lo n) (rangeD lo n) where
  go := fun i d H' e k => (rangeD_get e).1
  yld := fun i d H' v H'' e k y => by
    obtain ⟨rfl, rfl⟩ := y
    rw [(rangeD_get e).2]
    exact ⟨Same.refl _, fun Z' k2 _ => Rep.int_.mpr rfl⟩
  stop := fun i H' l k => by rw [rangeD_length] at l; exact l
theorem walk_rev {a b : Int} : Walk K g Z H (Itc (a + (((b - a).toNat : Nat) : Int) - 1) (-1) (b - a).toNat) (revD a b) where
  go := fun i d H' e k => (revD_get e).1
  yld := fun i d H' v H'' e k y => by
    obtain ⟨rfl, rfl⟩ := y
    rw [(revD_get e).2]
    exact ⟨Same.refl _, fun Z' k2 _ => Rep.int_.mpr rfl⟩
  stop := fun i H' l k => by rw [revD_length] at l; exact l
theorem use1I {m : B} {f : D → R (List D)} {Q : It → Hp → Prop} {Q' : VK} (er : ERel K g x Z env σ H) (hp : PostI K g W Z σ H Q ((m env).bind f))
    (h : ∀ s v H', m env = .ok s → Same H H' → RepB K g H' Z s v → PostI K g W Z σ H' Q (f s) → Q' v H') : tB K g x W m σ H Q' := by
  refine ⟨env, Z, er, ?_⟩
  cases e : m env with
  | ok s =>
    rw [e] at hp
    refine fun v H' k r => h s v H' e k r ?_
    have hp : PostI K g W Z σ H Q (f s) := hp
    cases ef : f s with
    | ok xs => rw [ef] at hp; exact fun J H2 k2 w => hp J H2 (k.trans k2) w
    | ex c p => rw [ef] at hp; exact fun H2 dd k2 q => hp H2 dd (k.trans k2) q
    | st => rw [ef] at hp; exact hp
  | ex c p => rw [e] at hp; exact hp
  | st => rw [e] at hp; exact hp
end
section
variable {g : G0} {x : L2.St → Prop} {W : WX} {X : Cx} {tg e a b : Expr} {pos p : Pos} {m n : B}
theorem PI.or {w1 w2 : TI} (h1 : PI X tg e w1) (h2 : PI X tg e w2) : PI X tg e (fun σ H R => w1 σ H R ∨ w2 σ H R) :=
  ⟨fun pins s σ H R I h => h.elim (h1.run pins s σ H R I) (h2.run pins s σ H R I)⟩
theorem weakI {t t' : TI} (h : PI X tg e t) (w : ∀ σ H R, t' σ H R → t σ H R) : PI X tg e t' := ⟨fun pins s σ H R I q => h.run pins s σ H R I (w _ _ _ q)⟩
theorem di_seq {m : M} (he : PEd g x W X e m) : PId g x W X tg e (mIter m) := by
  refine weakI (PI.or (pi_list he) (pi_tup he)) fun σ H Rn ⟨env, Z, er, hp⟩ => ?_
  unfold mIter at hp
  cases em : m env with
  | ok s =>
    rw [em] at hp
    have hp : PostI X.K g W Z σ H Rn (asSeq s.d) := hp
    cases ed : s.d with
    | lst xs =>
      refine .inl (use er ?_)
      rw [em]
      intro v H' k r
      rw [ed] at r hp
      obtain ⟨a, vs, ev, rd, rr⟩ := Rep.lst_.mp r
      exact ⟨a, ev, ⟨vs, rd.sq⟩, hp _ H' k (walk_list rd rr)⟩
    | tup xs =>
      refine .inr (use er ?_)
      rw [em]
      intro v H' k r
      rw [ed] at r hp
      obtain ⟨a, vs, ev, rd, rr⟩ := Rep.tup_.mp r
      exact ⟨a, ev, ⟨vs, rd.sqT⟩, hp _ H' k (walk_tup rd rr)⟩
    | _ => rw [ed] at hp; exact hp.elim
  | ex c p => rw [em] at hp; refine .inl (use er ?_); rw [em]; exact hp
  | st => rw [em] at hp; exact hp.elim
theorem di_rng1 (hg : Gl X "range") (hm : X.mg "range" = none) (ha : PBd g x W X a m) (hs : starEach [a] X.env = [(false, eval a X.env)] := by rfl) : PId g x W X tg (.Call (.Name "range" p) [a] [] pos) (mRng1 m) :=
  weakI (pi_range1 hg hm (pa_cons ha pa_nil hs) hs) fun σ H R ⟨env, Z, er, hp⟩ => use1I er hp fun s v H1 e1 k r hp => by
    split at hp
    · rename_i j
      split at hp
      · rename_i hb
        unfold big at hb
        refine ⟨j, by rw [r.int_], by omega, by omega, hp _ H1 (Same.refl _) walk_range⟩
      · exact hp.elim
    · exact hp.elim
theorem di_rng2 (hg : Gl X "range") (hm : X.mg "range" = none) (ha : PBd g x W X a m) (hb : PBd g x W X b n) (hs : starEach [a, b] X.env = [(false, eval a X.env), (false, eval b X.env)] := by rfl) (hs2 : starEach [b] X.env = [(false, eval b X.env)] := by rfl) :
    PId g x W X tg (.Call (.Name "range" p) [a, b] [] pos) (mRng2 m n) :=
  weakI (pi_range2 hg hm (pa_cons ha (pa_cons hb pa_nil hs2) (by rw [hs, hs2])) hs hs2) fun σ H R ⟨env, Z, er, hp⟩ => use1I er hp fun s v H1 e1 k r hp => use1I (er.mono k) hp fun s2 v2 H2 e2 k2 r2 hp => by
    cases s with
    | int i =>
      cases s2 with
      | int j =>
        have hp : PostI X.K g W Z σ H2 R (if -big ≤ i ∧ i ≤ big ∧ -big ≤ j ∧ j ≤ big then .ok (rangeD i (j - i).toNat) else .st) := hp
        split at hp
        · rename_i hb
          unfold big at hb
          refine ⟨i, j, by rw [r.int_, r2.int_], ⟨by omega, by omega, by omega, by omega⟩, hp _ H2 (Same.refl _) walk_range⟩
        · exact hp.elim
      | _ => exact hp.elim
    | _ => exact hp.elim
theorem di_rev1 {pos' p' : Pos} (hg : Gl X "reversed") (hm : X.mg "reversed" = none) (hg' : Gl X "range") (hm' : X.mg "range" = none) (ha : PBd g x W X a m) (hs : starEach [a] X.env = (false, eval a X.env) :: starEach [] X.env := by rfl)
    (hs2 : starEach [.Call (.Name "range" p) [a] [] pos] X.env = (false, eval (.Call (.Name "range" p) [a] [] pos) X.env) :: starEach [] X.env := by rfl) : PId g x W X tg (.Call (.Name "reversed" p') [.Call (.Name "range" p) [a] [] pos] [] pos') (mRev1 m) :=
  weakI (pi_revR hg hm (prg_1 hg' hm' ha hs) hs2) fun σ H R ⟨env, Z, er, hp⟩ => use1I er hp fun s v H1 e1 k r hp => by
    split at hp
    · rename_i j
      split at hp
      · rename_i hb
        unfold big at hb
        refine ⟨j, by rw [r.int_], by omega, by omega, by omega, by omega, hp _ H1 (Same.refl _) walk_rev⟩
      · exact hp.elim
    · exact hp.elim
end

/-! ### targets -/
inductive Pt where
  | nm (i : Nat) | tp (is : List Nat)
def setAll : List Nat → List D → En → En
  | i :: is, d :: ds, env => setAll is ds (env.set i (some (.fr d)))
  | _, _, env => env
def Pt.go : Pt → D → En → Option En
  | .nm i, d, env => some (env.set i (some (.fr d)))
  | .tp is, .tup ds, env => if ds.length = is.length then some (setAll is ds env) else none
  | _, _, _ => none
def gAll : List Nat → TGs
  | [] => gNil
  | i :: is => gCons (gName i) (gAll is)
def Pt.tg (K : PySem.W.Frag) : Pt → TG
  | .nm i => gName i
  | .tp is => gTup K is.length (gAll is)
section
variable {K : PySem.W.Frag} {g : G0} {x : L2.St → Prop} {A : Av} {H0 H : Hp}
theorem gAll_ok (hx : ∀ σ, x σ) : ∀ (is : List Nat) (ds : List D) (vs : List V) (env : En) (σ : L2.St) (Q : L2.St → Hp → Prop), SRel K g x A H0 env σ H → RepL K g H (zz A env σ) ds vs → ds.length = is.length →
    (∀ σ', SRel K g x A H0 (setAll is ds env) σ' H → Q σ' H) → gAll is vs σ H Q
  | [], [], vs, env, σ, Q, r, rr, l, h => ⟨RepL.nil_.mp rr, h σ r⟩
  | i :: is, d :: ds, vs, env, σ, Q, r, rr, l, h => by
    obtain ⟨v, w, ev, h1, h2⟩ := RepL.cons_.mp rr
    refine ⟨v, w, ev, ?_⟩
    have r2 := r.setFr hx (i := i) (Same.refl _) h1
    refine gAll_ok hx is ds w _ _ Q r2 (RepL.mono ?_ _ _ h2) (by simpa using l) h
    refine .of (Same.refl _) fun a _ z => ?_
    rcases z with z | ⟨j, xs, e1, e2⟩
    · exact .inl z
    · rcases set_get e1 with ⟨_, e, _⟩ | ⟨ne, e1⟩
      · cases e
      · rcases set_get e2 with ⟨e, _⟩ | ⟨_, e2⟩
        · exact absurd e ne
        · exact .inr ⟨j, xs, e1, e2⟩
  | [], d :: ds, vs, env, σ, Q, r, rr, l, h => by simp at l
  | i :: is, [], vs, env, σ, Q, r, rr, l, h => by simp at l
theorem Pt.ok (hx : ∀ σ, x σ) {pt : Pt} {env e1 : En} {σ : L2.St} {d : D} {v : V} {Q : L2.St → Hp → Prop} (r : SRel K g x A H0 env σ H) (q : Rep K g H (zz A env σ) d v) (h : pt.go d env = some e1)
    (k : ∀ σ', SRel K g x A H0 e1 σ' H → Q σ' H) : pt.tg K v σ H Q := by
  cases pt with
  | nm i => cases h; exact k _ (r.setFr hx (Same.refl _) q)
  | tp is =>
    cases d with
    | tup ds =>
      have h : (if ds.length = is.length then some (setAll is ds env) else none) = some e1 := h
      split at h
      · rename_i l
        cases h
        obtain ⟨a, vs, ev, sq, rr⟩ := Rep.tup_.mp q
        exact ⟨a, vs, ev, sq.sqT, by rw [← rr.length]; exact l, gAll_ok hx is ds vs env σ Q r rr l k⟩
      · cases h
    | _ => cases h
end

/-! ### for -/
def RS.out : RS → RS
  | .nx e => .nx e
  | .ct e => .nx e
  | .bk e => .nx e
  | .rt s => .rt s
  | .ex c p e => .ex c p e
  | .st => .st
def forM (as : D → En → Option En) (b : MS) : List D → MS
  | [], env => .nx env
  | d :: ds, env => match as d env with
    | none => .st
    | some e1 => match b e1 with
      | .nx e => forM as b ds e
      | .ct e => forM as b ds e
      | .bk e => .nx e
      | .rt s => .rt s
      | .ex c p e => .ex c p e
      | .st => .st
def sFor (mi : En → R (List D)) (pt : Pt) (b : MS) : MS := fun env => match mi env with
  | .ok xs => forM pt.go b xs env
  | .ex c p => .ex c p env
  | .st => .st
def whM (t : En → R Bool) (b : MS) : Nat → MS
  | 0, _ => .st
  | n + 1, env => match t env with
    | .ok true => match b env with
      | .nx e => whM t b n e
      | .ct e => whM t b n e
      | .bk e => .nx e
      | .rt s => .rt s
      | .ex c p e => .ex c p e
      | .st => .st
    | .ok false => .nx env
    | .ex c p => .ex c p env
    | .st => .st
section
variable {K : PySem.W.Frag} {g : G0} {x : L2.St → Prop} {W : WX} {A : Av} {H0 H H' : Hp} {env : En} {σ : L2.St}
/-- the heap without the lists that slots own -/
noncomputable def hid (env : En) (σ : L2.St) (H : Hp) : Hp := fun b => open Classical in if ∃ (i : Nat) (xs : List D), env[i]? = some (some (Sl.ow xs)) ∧ σ[i]? = some (some (V.ref b)) then none else H b
theorem hid_some {b : Addr} {o : HO} (h : hid env σ H b = some o) : H b = some o ∧ ¬ ∃ (i : Nat) (xs : List D), env[i]? = some (some (Sl.ow xs)) ∧ σ[i]? = some (some (V.ref b)) := by
  unfold hid at h
  split at h
  · cases h
  · exact ⟨h, by assumption⟩
theorem hid_ne {b : Addr} (n : ¬ ∃ (i : Nat) (xs : List D), env[i]? = some (some (Sl.ow xs)) ∧ σ[i]? = some (some (V.ref b))) : hid env σ H b = H b := by
  unfold hid
  exact if_neg n
theorem SRel.same_hid (r : SRel K g x A H0 env σ H) : Same H0 (hid env σ H) := fun b o e => by
  rw [hid_ne]
  · exact r.same b o e
  · rintro ⟨i, xs, e1, e2⟩
    rw [r.fresh i xs b e1 e2] at e
    cases e
theorem SRel.to_hid (r : SRel K g x A H0 env σ H) : SRel K g x A (hid env σ H) env σ H :=
  ⟨r.er, fun b o e => (hid_some e).1, fun a z => by
    have n := r.adom a z
    obtain ⟨o, e⟩ : ∃ o, H0 a = some o := by
      cases q : H0 a with
      | none => exact absurd q n
      | some o => exact ⟨o, rfl⟩
    rw [r.same_hid a o e]
    simp, fun i xs a e1 e2 => by unfold hid; exact if_pos ⟨i, xs, e1, e2⟩, r.dist, r.len⟩
/-- from a later state with this anchor: what was read then is there -/
theorem SRel.kp_hid {env' : En} {σ' : L2.St} (r : SRel K g x A H0 env σ H) (r' : SRel K g x A (hid env σ H) env' σ' H') : Kp H (zz A env σ) H' (zz A env' σ') := by
  have ke : ∀ b o, H b = some o → (¬ ∃ (i : Nat) (xs : List D), env[i]? = some (some (Sl.ow xs)) ∧ σ[i]? = some (some (V.ref b))) → H' b = some o := fun b o e n => r'.same b o (by rw [hid_ne n]; exact e)
  refine ⟨fun b o e n => ke b o e fun z => n (.inr z), fun b o xs t => ?_, fun b n nz z => ?_⟩
  · have no : ¬ ∃ (i : Nat) (xs : List D), env[i]? = some (some (Sl.ow xs)) ∧ σ[i]? = some (some (V.ref b)) := by
      rintro ⟨i, ys, e1, e2⟩
      obtain ⟨v, e3, a, vs, ev, _, p, _⟩ := r.er.at_ i _ e1
      rw [e2] at e3
      cases e3
      cases ev
      rw [p] at t
      cases t
    exact ke _ _ t no
  · rcases z with z | ⟨i, xs, e1, e2⟩
    · exact nz (.inl z)
    · have q := r'.fresh i xs b e1 e2
      rw [hid_ne fun z => nz (.inr z)] at q
      exact n q
theorem Kp.toF {Z Z' : Av} (k : Kp H Z H' Z') : Kp H Z H' (fun _ => False) := ⟨k.same, k.tups, fun _ _ _ z => z⟩
/-- a loop's turn: what the body does, seen from outside -/
theorem turnPost {D : Ends} {N : L2.St → Hp → Prop} {u : RS} (r : SRel K g x A H0 env σ H)
    (hn : ∀ e, (u = .nx e ∨ u = .ct e) → ∀ σ' H', SRel K g x A (hid env σ H) e σ' H' → N σ' H')
    (hp : PostS K g x W A H0 D u.out ∨ (∃ e, u = .nx e ∨ u = .ct e)) :
    PostS K g x W A (hid env σ H) { D with nx := N, ct := N, bk := D.nx } u := by
  have sm := r.same_hid
  cases u with
  | nx e' => exact fun σ' H' q => hn e' (.inl rfl) σ' H' q
  | ct e' => exact fun σ' H' q => hn e' (.inr rfl) σ' H' q
  | bk e' =>
    rcases hp with hp | ⟨e, h | h⟩
    · exact fun σ' H' q => hp σ' H' (q.anchor sm r.adom)
    · cases h
    · cases h
  | rt s =>
    rcases hp with hp | ⟨e, h | h⟩
    · cases s with
      | fr d => exact fun v H' k q => hp v H' (sm.trans k) q
      | ow xs => exact fun a vs H' k n p q => hp a vs H' (sm.trans k) (sm.free n) p q
    · cases h
    · cases h
  | ex c p e' =>
    rcases hp with hp | ⟨e, h | h⟩
    · exact fun σ' H' dd q z => hp σ' H' dd (q.anchor sm r.adom) z
    · cases h
    · cases h
  | st =>
    rcases hp with hp | ⟨e, h | h⟩
    · exact hp
    · cases h
    · cases h
end
section
variable {g : G0} {x : L2.St → Prop} {W : WX} {X : Cx} {tg iter c : Expr} {body : List Stmt} {pos : Pos} {mi : En → R (List D)} {pt : Pt} {b : MS} {t : En → R Bool}
theorem drop_get {α : Type} {xs : List α} {i : Nat} (h : i < xs.length) : ∃ d, xs[i]? = some d ∧ xs.drop i = d :: xs.drop (i + 1) := ⟨xs[i], List.getElem?_eq_getElem h, List.drop_eq_getElem_cons h⟩
theorem ds_for (hx : ∀ σ, x σ) (hp : PassesOwn (model X.prog X.w) X.A X.env X.xe) (hc : X.calm = true) (hi : PId g x W X tg iter mi) (hg : PG X tg (pt.tg X.K)) (hb : PSsd g x W X body b)
    (hs : ∀ x, foldedSetIterable iter X.env x = pure x := by intro _; rfl) : PSd g x W X (.For tg iter body [] pos) (sFor mi pt b) := by
  refine weakS (ps_for hp hc hi hg hb hs) fun D σ H ⟨env, A, H0, r, hp⟩ => ?_
  refine ⟨env, zz A env σ, r.er, ?_⟩
  unfold sFor at hp
  cases ei : mi env with
  | ok xs =>
    rw [ei] at hp
    intro J H1 k walk
    have r1 := r.later k
    refine ⟨fun i m σ' H' => m = xs.length - i ∧ i ≤ xs.length ∧ ∃ env', SRel X.K g x A (hid env σ H1) env' σ' H' ∧ PostS X.K g x W A H0 D (forM pt.go b (xs.drop i) env'), ⟨xs.length, rfl, Nat.zero_le _, env, r1.to_hid, hp⟩, ?_⟩
    rintro i m σ' H' ⟨rfl, hi, env', r', hp⟩
    have kp := r1.kp_hid r'
    by_cases hl : i < xs.length
    · obtain ⟨d, ed, edr⟩ := drop_get hl
      rw [edr] at hp
      refine .inr ⟨walk.go i d H' ed kp.toF, fun σ2 H2 => ∃ env2, SRel X.K g x A (hid env σ H1) env2 σ2 H2 ∧ PostS X.K g x W A H0 D (forM pt.go b (xs.drop (i + 1)) env2), ?_, ?_⟩
      · rintro σ2 H2 ⟨env2, r2, hp2⟩
        exact ⟨xs.length - (i + 1), by omega, rfl, hl, env2, r2, hp2⟩
      · intro v H2 y
        obtain ⟨k2, rep⟩ := walk.yld i d H' v H2 ed kp.toF y
        have r2 := r'.later k2
        have kp2 := r1.kp_hid r2
        unfold forM at hp
        cases ea : pt.go d env' with
        | none => rw [ea] at hp; exact hp.elim
        | some e1 =>
          rw [ea] at hp
          have hp : PostS X.K g x W A H0 D (match b e1 with | .nx e => forM pt.go b (xs.drop (i + 1)) e | .ct e => forM pt.go b (xs.drop (i + 1)) e | .bk e => .nx e | .rt s => .rt s | .ex c p e => .ex c p e | .st => .st) := hp
          refine Pt.ok hx r2 (rep _ kp2 r'.er.dom) ea fun σ3 r3 => ?_
          refine ⟨e1, A, _, r3, turnPost r1 (fun e ee σ4 H4 r4 => ⟨e, r4, ?_⟩) ?_⟩
          · rcases ee with ee | ee <;> (rw [ee] at hp; exact hp)
          · cases eb : b e1 with
            | nx e => exact .inr ⟨e, .inl rfl⟩
            | ct e => exact .inr ⟨e, .inr rfl⟩
            | bk e => rw [eb] at hp; exact .inl hp
            | rt s => rw [eb] at hp; exact .inl hp
            | ex c p e => rw [eb] at hp; exact .inl hp
            | st => rw [eb] at hp; exact .inl hp
    · have ei : i = xs.length := by omega
      subst ei
      rw [List.drop_length] at hp
      exact .inl ⟨walk.stop _ H' (Nat.le_refl _) kp.toF, hp σ' H' (r'.anchor r1.same_hid r.adom)⟩
  | ex c p =>
    rw [ei] at hp
    refine fun H' dd k q => hp σ H' dd (r.later k) ?_
    cases p with
    | none => exact q
    | some fx =>
      obtain ⟨da, v, e1, e2, e3⟩ := q
      exact ⟨da, v, e1, e2, Rep.mono (.of (Same.refl _) fun _ _ z => .inl z) _ _ e3⟩
  | st => rw [ei] at hp; exact hp
theorem turnPost' {K : PySem.W.Frag} {A : Av} {H0 : Hp} {D : Ends} {N : L2.St → Hp → Prop} {u : RS}
    (hn : ∀ e, (u = .nx e ∨ u = .ct e) → ∀ σ' H', SRel K g x A H0 e σ' H' → N σ' H')
    (hp : PostS K g x W A H0 D u.out ∨ (∃ e, u = .nx e ∨ u = .ct e)) :
    PostS K g x W A H0 { D with nx := N, ct := N, bk := D.nx } u := by
  cases u with
  | nx e' => exact fun σ' H' q => hn e' (.inl rfl) σ' H' q
  | ct e' => exact fun σ' H' q => hn e' (.inr rfl) σ' H' q
  | bk e' => rcases hp with hp | ⟨e, h | h⟩ <;> first | exact hp | cases h
  | rt s => rcases hp with hp | ⟨e, h | h⟩ <;> first | (cases s <;> exact hp) | cases h
  | ex c p e' => rcases hp with hp | ⟨e, h | h⟩ <;> first | exact hp | cases h
  | st => rcases hp with hp | ⟨e, h | h⟩ <;> first | exact hp | cases h
theorem ds_while (n : Nat) (hp : PassesOwn (model X.prog X.w) X.A X.env X.xe) (hc : PTd g x W X c t) (hb : PSsd g x W X body b) : PSd g x W X (.While c body [] pos) (whM t b n) := by
  refine weakS (ps_while hp hc hb) fun D σ H ⟨env, A, H0, r, hp⟩ => ?_
  refine ⟨fun m σ' H' => ∃ env', SRel X.K g x A H0 env' σ' H' ∧ PostS X.K g x W A H0 D (whM t b m env'), ⟨n, env, r, hp⟩, ?_⟩
  rintro m σ' H' ⟨env', r', hp⟩
  cases m with
  | zero => exact hp.elim
  | succ m =>
    refine ⟨env', zz A env' σ', r'.er, ?_⟩
    unfold whM at hp
    cases et : t env' with
    | ok v =>
      rw [et] at hp
      intro H2 k
      have r2 := r'.later k
      cases v with
      | true =>
        rw [if_pos rfl]
        refine ⟨fun σ3 H3 => ∃ env3, SRel X.K g x A H0 env3 σ3 H3 ∧ PostS X.K g x W A H0 D (whM t b m env3), fun σ3 H3 h => ⟨m, Nat.lt_succ_self _, h⟩, env', A, H0, r2, turnPost' (fun e ee σ4 H4 r4 => ⟨e, r4, ?_⟩) ?_⟩
        · rcases ee with ee | ee <;> (rw [ee] at hp; exact hp)
        · have hp : PostS X.K g x W A H0 D (match b env' with | .nx e => whM t b m e | .ct e => whM t b m e | .bk e => .nx e | .rt s => .rt s | .ex c p e => .ex c p e | .st => .st) := hp
          cases eb : b env' with
          | nx e => exact .inr ⟨e, .inl rfl⟩
          | ct e => exact .inr ⟨e, .inr rfl⟩
          | bk e => rw [eb] at hp; exact .inl hp
          | rt s => rw [eb] at hp; exact .inl hp
          | ex c p e => rw [eb] at hp; exact .inl hp
          | st => rw [eb] at hp; exact .inl hp
      | false => exact hp σ' H2 r2
    | ex c p =>
      rw [et] at hp
      refine fun H2 dd k q => hp σ' H2 dd (r'.later k) ?_
      cases p with
      | none => exact q
      | some fx =>
        obtain ⟨da, v, e1, e2, e3⟩ := q
        exact ⟨da, v, e1, e2, Rep.mono (.of (Same.refl _) fun _ _ z => .inl z) _ _ e3⟩
    | st => rw [et] at hp; exact hp.elim
end
end DL
set_option Elab.async false
set_option linter.all false
set_option maxRecDepth 100000
namespace DL
open PySem PySem.Spec L2
open PyProof.Rows hiding St
abbrev T : L2.St → Prop := fun _ => True
abbrev W0 : WX := fun _ _ _ _ => False
theorem hT : ∀ σ, T σ := fun _ => trivial

/-! ### defs -/
abbrev Fn := List D → R Sl
def Prom (K : PySem.W.Frag) (g : G0) (f : Fn) : Sp := fun vs H Q E => ∃ Z ds, (∀ a, Z a → H a ≠ none) ∧ RepL K g H Z ds vs ∧ PostE K g (fun c d _ H => E c d H) Z [] H Q (f ds)
structure FD (P : Program) (w : World) (K : PySem.W.Frag) (mg : Str → Option Value) (base : Heap) (g : G0) (k : Nat) (y : Str) (ps : List Str) (f : Fn) : Prop where
  ex : ∃ a fd, mg y = some (.ref a) ∧ PySem.W.keepIn K (.ref a) = true ∧ Binds K fd ps [] ∧ FnOk P w K mg base (L2.CX P w) k a fd ps (Prom K g f)
theorem FD.mono {P : Program} {w : World} {K : PySem.W.Frag} {mg : Str → Option Value} {base : Heap} {g : G0} {j k : Nat} {y : Str} {ps : List Str} {f : Fn} (F : FD P w K mg base g j y ps f) (h : j ≤ k) : FD P w K mg base g k y ps f := by
  obtain ⟨a, fd, h1, h2, h3, h4⟩ := F.ex
  exact ⟨a, fd, h1, h2, h3, h4.mono h⟩
def env0 (n slots : Nat) (ds : List D) : En := ds.map (fun d => some (.fr d)) ++ List.replicate (slots - n) none
def fin : RS → R Sl
  | .nx _ => .ok (.fr .non)
  | .rt s => .ok s
  | .ex c p _ => .ex c p
  | _ => .st
def runF (n slots : Nat) (m : MS) : Fn := fun ds => if ds.length = n then fin (m (env0 n slots ds)) else .st
theorem postW {K : PySem.W.Frag} {g : G0} {Z : Av} {σ : L2.St} {W : WX} {H : Hp} {Q : VK} {r : R Sl} (h : PostE K g W Z σ H Q r) : PostE K g (fun c d _ H => W c d σ H) Z [] H Q r := by
  cases r with
  | ok s => cases s <;> exact h
  | ex c p => exact h
  | st => exact h
section
variable {g : G0} {x : L2.St → Prop} {W : WX} {X : Cx} {e : Expr} {es : List Expr} {mr : En → R (List D)} {pos p : Pos}
theorem de_fn {k : Nat} {y : Str} {ps : List Str} {f : Fn} (F : FD X.prog X.w X.K X.mg X.base g k y ps f) (hr : Room k X.A) (tk : Takes X W) (hg : Gl X y) (ha : PAd g x W X (e :: es) mr)
    (hdb : (y == ("__debug__" : Str)) = false := by decide) (he : starEach (e :: es) X.env = (false, eval e X.env) :: starEach es X.env := by rfl) (hpl : (backTo pos (starEach es X.env)).any (·.1) = false := by rfl) :
    PEd g x W X (.Call (.Name y p) (e :: es) [] pos) (mCall f mr) := by
  obtain ⟨a, fd, hm, hk, hb, hF⟩ := F.ex
  exact weakE (pe_callS hF hr hg hm hk hb (fun σ => passAt tk σ) ha hdb he hpl) fun σ H Q ⟨env, Z, er, hp⟩ =>
    useA er hp fun ds vs H1 e1 k1 r1 hp1 => ⟨Z, ds, dom_mono k1 er.dom, r1, postW hp1⟩
end
section
variable {P : Program} {w : World} {K : PySem.W.Frag} {mg : Str → Option Value} {base : Heap} {g : G0}
theorem repl_map {H : Hp} {Z : Av} : ∀ {ds : List D} {vs : List V} {i : Nat} {s : Sl}, RepL K g H Z ds vs → (ds.map fun d => some (Sl.fr d))[i]? = some (some s) → ∃ v, (vs.map some)[i]? = some (some v) ∧ SlIn K g H Z s v := fun {ds vs i s} r e => by
  rw [List.getElem?_map] at e
  cases ed : ds[i]? with
  | none => rw [ed] at e; cases e
  | some d =>
    rw [ed] at e
    cases e
    obtain ⟨v, ev, q⟩ := r.get ed
    exact ⟨v, by rw [List.getElem?_map, ev]; rfl, q⟩
theorem env0_get {n k : Nat} {ds : List D} {i : Nat} {s : Sl} (h : (env0 n k ds)[i]? = some (some s)) : (ds.map fun d => some (Sl.fr d))[i]? = some (some s) := by
  unfold env0 at h
  by_cases l : i < ds.length
  · rw [List.getElem?_append_left (by simpa using l)] at h
    exact h
  · rw [List.getElem?_append_right (by simpa using l), List.getElem?_replicate] at h
    split at h <;> cases h
theorem okF0 {y qual : Str} {st : Stmt} {a : Addr} {fd : FuncData} {N ps : List Str} {k : Nat} (F : Fun K y qual st a fd) (S : FnScope N ps (defScope st)) (m : MS)
    (body : ∀ (cdv : Value) (A : Around) (outer : List Env) (s : Shared) (H : Hp) (E : XK), Room k (A.deeper (envOfC qual (defScope st) s.heap.objs.size a cdv)) →
      PSsd g T (fun c d _ H => E c d H) (cxOf (L2.CX P w) P w K mg base N qual (defScope st) a cdv A outer s H E) (defBody st) m) : FnOk P w K mg base (L2.CX P w) (k + 1) a fd ps (Prom K g (runF ps.length N.length m)) := by
  have hl : ps.length ≤ N.length := by have := congrArg List.length S.pre; rw [List.length_take] at this; omega
  have len : ∀ vs H Q E, Prom K g (runF ps.length N.length m) vs H Q E → vs.length = ps.length := fun vs H Q E ⟨Z, ds, dom, r, hp⟩ => by
    unfold runF at hp
    split at hp
    · rw [← r.length]; assumption
    · exact hp.elim
  refine F.okX S len fun cdv A outer s H vs Q E hr hsp => ?_
  have lv := len _ _ _ _ hsp
  obtain ⟨Z, ds, dom, r, hp⟩ := hsp
  refine ⟨_, body cdv A outer s H E hr, ?_⟩
  have ld : ds.length = ps.length := by rw [r.length, lv]
  unfold runF at hp
  rw [if_pos ld] at hp
  have zZ : ∀ b, zz Z (env0 ps.length N.length ds) (L2.start N vs) b → Z b := by
    rintro b (z | ⟨i, xs, e1, e2⟩)
    · exact z
    · have e1 := env0_get e1
      rw [List.getElem?_map] at e1
      cases ed : ds[i]? with
      | none => rw [ed] at e1; cases e1
      | some d => rw [ed] at e1; cases e1
  have noow : ∀ (i : Nat) (xs : List D), (env0 ps.length N.length ds)[i]? = some (some (Sl.ow xs)) → False := fun i xs e1 => by
    have e1 := env0_get e1
    rw [List.getElem?_map] at e1
    cases ed : ds[i]? with
    | none => rw [ed] at e1; cases e1
    | some d => rw [ed] at e1; cases e1
  have hlen : (env0 ps.length N.length ds).length = (L2.start N vs).length := by
    unfold env0 L2.start
    rw [List.length_append, List.length_append, List.length_map, List.length_map, List.length_replicate, List.length_replicate, lv, ld]
  have sr : SRel K g T Z H (env0 ps.length N.length ds) (L2.start N vs) H := by
    refine ⟨⟨fun b z => dom b (zZ b z), trivial, hlen, fun i s e1 => ?_⟩, Same.refl _, dom, fun i xs a e1 _ => (noow i xs e1).elim, fun i j xs ys a e1 _ _ _ => (noow i xs e1).elim, hlen⟩
    obtain ⟨v, e2, q⟩ := repl_map r (env0_get e1)
    refine ⟨v, ?_, ?_⟩
    · unfold L2.start
      rw [List.getElem?_append_left]
      · exact e2
      · exact (List.getElem?_eq_some_iff.mp e2).1
    · cases s with
      | fr d => exact Rep.mono (.of (Same.refl _) fun b _ z => zZ b z) _ _ q
      | ow xs => exact (noow i xs e1).elim
  refine ⟨env0 ps.length N.length ds, Z, H, sr, ?_⟩
  cases e : m (env0 ps.length N.length ds) with
  | nx e' => rw [e] at hp; exact fun σ' H' q => hp .non H' q.same (Rep.non_.mpr rfl)
  | rt s => rw [e] at hp; cases s <;> exact hp
  | ex c p e' => rw [e] at hp; exact fun σ' H' dd q z => hp H' dd q.same z
  | bk e' => rw [e] at hp; exact hp.elim
  | ct e' => rw [e] at hp; exact hp.elim
  | st => rw [e] at hp; exact hp.elim
theorem okF {y qual : Str} {st : Stmt} {a : Addr} {fd : FuncData} {N ps : List Str} {k : Nat} (F : Fun K y qual st a fd) (S : FnScope N ps (defScope st)) (hm : mg y = some (.ref a)) (hb : Binds K fd ps []) (m : MS)
    (body : ∀ (cdv : Value) (A : Around) (outer : List Env) (s : Shared) (H : Hp) (E : XK), Room k (A.deeper (envOfC qual (defScope st) s.heap.objs.size a cdv)) →
      PSsd g T (fun c d _ H => E c d H) (cxOf (L2.CX P w) P w K mg base N qual (defScope st) a cdv A outer s H E) (defBody st) m) : FD P w K mg base g (k + 1) y ps (runF ps.length N.length m) :=
  ⟨a, fd, hm, F.kp, hb, okF0 F S m body⟩
end

/-! ### raise -/
def sRaise (c : Nat) : MS := fun env => .ex c none env
def sRaise1 (c : Nat) (m : M) : MS := fun env => match m env with
  | .ok _ => .ex c none env
  | .ex c p => .ex c p env
  | .st => .st
/-- an own error class without an own __init__ -/
structure ECls (K : PySem.W.Frag) (mg : Str → Option Value) (g : G0) (c : Nat) (y : Str) : Prop where
  mg : mg y = some (.ref (g.cl c))
  ex : PySem.W.excIn K (g.cl c) [.type "ValueError", .type "Exception", .type "BaseException", .type "object"] "ValueError.__new__" = true
  kp : PySem.W.keepIn K (.ref (g.cl c)) = true
  sub : PySem.W.subIn K (.ref (g.cl c)) (.type "BaseException") = some true
  ty : PySem.W.typeIn K (.ref (g.cl c)) = some (.type "type")
section
variable {g : G0} {x : L2.St → Prop} {W : WX} {X : Cx} {e : Expr} {m : M} {pos p pos' : Pos}
theorem ds_raise {c : Nat} {y z : Str} {j : Nat} {p2 : Pos} (hc : X.calm = true) (tk : Takes X W) (E : ECls X.K X.mg g c y) (hg : Gl X y) (hdb : (y == ("__debug__" : Str)) = false := by decide) :
    PSd g x W X (.Raise (some (.Call (.Name y p) [.Constant (.str z) j p2] [] pos)) none pos') (sRaise c) :=
  weakS (ps_raise hc tk (pmk_own PySem.F.excBase_ValueError E.ex E.mg E.kp (raises_own E.sub E.ty) hg hdb)) fun D σ H ⟨env, A, H0, r, hp⟩ => hp σ H none r rfl
theorem ds_raise1 {c : Nat} {y : Str} (hc : X.calm = true) (tk : Takes X W) (E : ECls X.K X.mg g c y) (hg : Gl X y) (he : PEd g x W X e m) (hs : starEach [e] X.env = (false, eval e X.env) :: starEach [] X.env := by rfl)
    (hdb : (y == ("__debug__" : Str)) = false := by decide) : PSd g x W X (.Raise (some (.Call (.Name y p) [e] [] pos)) none pos') (sRaise1 c m) :=
  weakS (ps_raise hc tk (SkE.pmk_own1 PySem.F.excBase_ValueError E.ex E.mg E.kp (raises_own E.sub E.ty) hg he hs hdb)) fun D σ H ⟨env, A, H0, r, hp⟩ => by
    refine runE (f := fun _ => .ex c none env) r hp (fun d v H' _ k q hp => hp _ _ none (r.later k) rfl) fun xs a vs H' _ k n p q hp => hp _ _ none (r.later k) rfl
end

/-! ### try -/
def RS.clr (i : Nat) : RS → RS
  | .nx e => .nx (e.set i none)
  | .bk e => .bk (e.set i none)
  | .ct e => .ct (e.set i none)
  | .rt s => .rt s
  | .ex _ _ _ => .st
  | .st => .st
def RS.noex : RS → RS
  | .ex _ _ _ => .st
  | r => r
def sTry (cat : Nat → Option Bool) (mb : MS) (su : Nat → Pl → MS) : MS := fun env => match mb env with
  | .ex c p e => match cat c with
    | some true => (su c p e).noex
    | some false => .ex c p e
    | none => .st
  | r => r
def sTryAs (i : Nat) (cat : Nat → Option Bool) (mb : MS) (su : Nat → Pl → MS) : MS := fun env => match mb env with
  | .ex c p e => match cat c with
    | some true => if i < e.length then (su c p (e.set i none)).clr i else .st
    | some false => .ex c p e
    | none => .st
  | r => r
def xS (a : Addr) (i : Nat) : L2.St → Prop := fun σ => σ[i]? = some (some (.ref a))
section
variable {K : PySem.W.Frag} {g : G0} {x x' : L2.St → Prop} {W : WX} {A : Av} {H0 H H' : Hp} {env : En} {σ : L2.St}
theorem SRel.clr (r : SRel K g x A H0 env σ H) (i : Nat) (u : Option V) (hx : x' (σ.set i u)) : SRel K g x' A H0 (env.set i none) (σ.set i u) H := by
  have fix : ∀ {j : Nat} {s : Sl}, (env.set i none)[j]? = some (some s) → i ≠ j ∧ env[j]? = some (some s) := fun {j s} f => by
    rcases set_get f with ⟨_, e, _⟩ | h
    · cases e
    · exact h
  have zs : ∀ a, zz A (env.set i none) (σ.set i u) a → zz A env σ a := by
    rintro a (z | ⟨j, xs, e1, e2⟩)
    · exact .inl z
    · obtain ⟨ne, e1⟩ := fix e1
      rw [List.getElem?_set_ne ne] at e2
      exact .inr ⟨j, xs, e1, e2⟩
  have kp : Kp H (zz A env σ) H (zz A (env.set i none) (σ.set i u)) := .of (Same.refl _) fun a _ z => zs a z
  refine ⟨⟨fun a z => r.er.dom a (zs a z), hx, by rw [List.length_set, List.length_set, r.len], fun j s f => ?_⟩, r.same, r.adom, fun j xs a e1 e2 => ?_, fun j l xs ys a e1 e2 e3 e4 => ?_, by rw [List.length_set, List.length_set, r.len]⟩
  · obtain ⟨ne, f⟩ := fix f
    obtain ⟨v, e2, q⟩ := r.er.at_ j s f
    refine ⟨v, by rw [List.getElem?_set_ne ne]; exact e2, ?_⟩
    cases s with
    | fr d => exact Rep.mono kp _ _ q
    | ow xs =>
      obtain ⟨a, vs, ev, z, p, rr⟩ := q
      subst ev
      exact ⟨a, vs, rfl, .inr ⟨j, xs, by rw [List.getElem?_set_ne ne]; exact f, by rw [List.getElem?_set_ne ne]; exact e2⟩, p, RepL.mono kp _ _ rr⟩
  · obtain ⟨ne, e1⟩ := fix e1
    rw [List.getElem?_set_ne ne] at e2
    exact r.fresh j xs a e1 e2
  · obtain ⟨ne, e1⟩ := fix e1
    obtain ⟨ne2, e2⟩ := fix e2
    rw [List.getElem?_set_ne ne] at e3
    rw [List.getElem?_set_ne ne2] at e4
    exact r.dist j l xs ys a e1 e2 e3 e4
theorem noexPost {D : Ends} {u : RS} (h : PostS K g x W A H0 D u.noex) : PostS K g x W0 A H0 D u := by
  cases u with
  | rt s => cases s <;> exact h
  | ex c p e => exact h.elim
  | _ => exact h
theorem clrPost {a : Addr} {i : Nat} {D : Ends} {u : RS} (h : PostS K g T W A H0 D (u.clr i)) :
    PostS K g (xS a i) W0 A H0 { nx := fun σ' H' => D.nx (σ'.set i none) H', rt := D.rt, bk := fun σ' H' => D.bk (σ'.set i none) H', ct := fun σ' H' => D.ct (σ'.set i none) H' } u := by
  cases u with
  | nx e => exact fun σ' H' q => h _ _ (q.clr i none trivial)
  | bk e => exact fun σ' H' q => h _ _ (q.clr i none trivial)
  | ct e => exact fun σ' H' q => h _ _ (q.clr i none trivial)
  | rt s => cases s <;> exact h
  | ex c p e => exact h.elim
  | st => exact h
end
section
variable {g : G0} {W : WX} {X : Cx} {y n : Str} {cv : Value} {i : Nat} {body suite : List Stmt} {b₀ : Stmt} {np pos pos' : Pos} {mb : MS} {su : Nat → Pl → MS} {cat : Nat → Option Bool}
theorem ds_tryAs (hs : X.stack = X.env :: X.outer) (hf : X.env.frame = some X.env.locals) (hN : X.N.Nodup) (hi : X.N[i]? = some n) (hln : X.env.kindOf n = some .local) (hc : Names X y cv) (tk : Takes X W)
    (hcat : ∀ c b, cat c = some b → PySem.W.exmOne X.K (.ref (g.cl c)) cv = some b)
    (hb : ∀ (W' : WX) (pn : List (Addr × Obj)) (xe : Value → Shared → Prop), Takes (X.tr pn xe) W' → PassesOwn (model X.prog X.w) X.A X.env xe → PSsd g T W' (X.tr pn xe) body mb)
    (hsu : ∀ (c : Nat) (p : Pl) (a : Addr) (oe : Obj) (d : Option Addr) (pn : List (Addr × Obj)), cat c = some true → (p = none → d = none) → Zc (.ref (g.cl c)) d oe → (∃ vs, oe.data = .fields vs) → PSsd g (xS a i) W0 (X.suite a ((a, oe) :: pn)) (b₀ :: suite) (su c p)) :
    PSd g T W X (.Try body [.ExceptHandler (some (.Name y np)) (some n) (b₀ :: suite) pos'] [] [] pos) (sTryAs i cat mb su) := by
  refine weakS (ps_try_as (tb := fun W' => tS X.K g T W' mb)
    (ts := fun a cls d D σ H => ∃ c p, cls = .ref (g.cl c) ∧ cat c = some true ∧ (p = none → d = none) ∧ tS X.K g (xS a i) W0 (su c p) D σ H) hs hf hN hi hln hc tk hb (fun a oe cls d pn hz hd => ⟨fun pins s σ H D I ⟨c, p, e, ct, pd, h⟩ => ?_⟩)) fun D σ H ⟨env, A, H0, r, hp⟩ => ?_
  · subst e
    exact (hsu c p a oe d pn ct pd hz hd).run pins s σ H D I h
  · refine ⟨env, A, H0, r, ?_⟩
    unfold sTryAs at hp
    cases eb : mb env with
    | ex c p e =>
      rw [eb] at hp
      intro σ' H' dd q pl
      have hp : PostS X.K g T W A H0 D (match cat c with | some true => (if i < e.length then (su c p (e.set i none)).clr i else .st) | some false => .ex c p e | none => .st) := hp
      cases ec : cat c with
      | none => rw [ec] at hp; exact hp.elim
      | some b =>
        rw [ec] at hp
        refine ⟨b, hcat c b ec, fun hb a na => ?_, fun hb => ?_⟩
        · subst hb
          have hp : PostS X.K g T W A H0 D (if i < e.length then (su c p (e.set i none)).clr i else .st) := hp
          split at hp
          case isFalse => exact hp.elim
          rename_i hi'
          rw [q.len] at hi'
          have nd : p = none → dd = none := fun e => by subst e; exact pl
          exact ⟨c, p, rfl, ec, nd, e.set i none, A, H0, q.clr i (some (.ref a)) (by unfold xS; rw [List.getElem?_set_self hi']), clrPost hp⟩
        · subst hb
          exact hp σ' H' dd q pl
    | rt s => rw [eb] at hp; cases s <;> exact hp
    | nx e => rw [eb] at hp; exact hp
    | bk e => rw [eb] at hp; exact hp
    | ct e => rw [eb] at hp; exact hp
    | st => rw [eb] at hp; exact hp
theorem ds_try (hs : X.stack = X.env :: X.outer) (hf : X.env.frame = some X.env.locals) (hc : Names X y cv) (tk : Takes X W)
    (hcat : ∀ c b, cat c = some b → PySem.W.exmOne X.K (.ref (g.cl c)) cv = some b)
    (hb : ∀ (W' : WX) (pn : List (Addr × Obj)) (xe : Value → Shared → Prop), Takes (X.tr pn xe) W' → PassesOwn (model X.prog X.w) X.A X.env xe → PSsd g T W' (X.tr pn xe) body mb)
    (hsu : ∀ (c : Nat) (p : Pl) (a : Addr) (oe : Obj) (pn : List (Addr × Obj)), cat c = some true → PSsd g T W0 (X.suite a ((a, oe) :: pn)) (b₀ :: suite) (su c p)) :
    PSd g T W X (.Try body [.ExceptHandler (some (.Name y np)) none (b₀ :: suite) pos'] [] [] pos) (sTry cat mb su) := by
  refine weakS (ps_try_only (tb := fun W' => tS X.K g T W' mb) (ts := fun a cls d D σ H => ∃ c p, cat c = some true ∧ tS X.K g T W0 (su c p) D σ H) hs hf hc tk hb (fun a oe cls d pn hz hd => ⟨fun pins s σ H D I ⟨c, p, ct, h⟩ => (hsu c p a oe pn ct).run pins s σ H D I h⟩)) fun D σ H ⟨env, A, H0, r, hp⟩ => ?_
  refine ⟨env, A, H0, r, ?_⟩
  unfold sTry at hp
  cases eb : mb env with
  | ex c p e =>
    rw [eb] at hp
    intro σ' H' dd q pl
    have hp : PostS X.K g T W A H0 D (match cat c with | some true => (su c p e).noex | some false => .ex c p e | none => .st) := hp
    cases ec : cat c with
    | none => rw [ec] at hp; exact hp.elim
    | some b =>
      rw [ec] at hp
      refine ⟨b, hcat c b ec, fun hb a na => ?_, fun hb => ?_⟩
      · subst hb
        exact ⟨c, p, ec, e, A, H0, q, noexPost hp⟩
      · subst hb
        exact hp σ' H' dd q pl
  | rt s => rw [eb] at hp; cases s <;> exact hp
  | nx e => rw [eb] at hp; exact hp
  | bk e => rw [eb] at hp; exact hp
  | ct e => rw [eb] at hp; exact hp
  | st => rw [eb] at hp; exact hp
end
end DL
set_option Elab.async false
set_option linter.all false
set_option maxRecDepth 100000
namespace DL
open PySem PySem.Spec L2
open PyProof.Rows hiding St

/-! ### comprehensions -/
def R.quiet {α : Type} : R α → R α
  | .ok a => .ok a
  | _ => .st
def compL (as : D → En → Option En) (t : En → R Bool) (me : M) (env : En) : List D → R (List D)
  | [] => .ok []
  | d :: ds => match as d env with
    | none => .st
    | some e1 => (t e1).quiet.bind fun b => if b = true then (me e1).quiet.bind fun s => (compL as t me env ds).bind fun r => .ok (s.d :: r) else compL as t me env ds
def wipeE (env : En) : List Nat → En
  | [] => env
  | v :: vs => (wipeE env vs).set v none
def mComp (mi : En → R (List D)) (pt : Pt) (t : En → R Bool) (me : M) (vs : List Nat) : M := fun env => (mi env).bind fun xs =>
  if xs.length ≤ lim then (compL pt.go t me (wipeE env vs) xs).quiet.bind fun r => .ok (.ow r) else .st
def Pt.slots : Pt → List Nat
  | .nm i => [i]
  | .tp is => is
section
variable {K : PySem.W.Frag} {g : G0} {x : L2.St → Prop} {W : WX} {Z Z' : Av} {env e1 : En} {σ : L2.St} {H H' : Hp}
theorem ERel.setFr (er : ERel K g T Z env σ H) {i : Nat} {d : D} {v : V} (h : Rep K g H Z d v) : ERel K g T Z (env.set i (some (.fr d))) (σ.set i (some v)) H := by
  refine ⟨er.dom, trivial, by rw [List.length_set, List.length_set, er.len], fun j s e => ?_⟩
  rcases set_get e with ⟨ij, e, hl⟩ | ⟨ne, e⟩
  · cases e
    subst ij
    exact ⟨v, by rw [List.getElem?_set_self (by rw [← er.len]; exact hl)], h⟩
  · obtain ⟨u, e2, q⟩ := er.at_ j s e
    exact ⟨u, by rw [List.getElem?_set_ne ne]; exact e2, q⟩
theorem ERel.wipe (er : ERel K g x Z env σ H) : ∀ vs : List Nat, ERel K g T Z (wipeE env vs) (wipe σ vs) H
  | [] => ⟨er.dom, trivial, er.len, er.at_⟩
  | v :: vs => by
    have r := er.wipe vs
    refine ⟨r.dom, trivial, by unfold wipeE L2.wipe; rw [List.length_set, List.length_set, r.len], fun j s e => ?_⟩
    unfold wipeE at e
    rcases set_get e with ⟨_, e, _⟩ | ⟨ne, e⟩
    · cases e
    · obtain ⟨u, e2, q⟩ := r.at_ j s e
      refine ⟨u, ?_, q⟩
      unfold L2.wipe
      rw [List.getElem?_set_ne ne]
      exact e2
theorem SlIn.kp {s : Sl} {v : V} (k : Kp H Z H' Z') (ow : ∀ a, Z a → Z' a) (lst : ∀ a o, Z a → H a = some o → H' a = some o) (h : SlIn K g H Z s v) : SlIn K g H' Z' s v := by
  cases s with
  | fr d => exact Rep.mono k _ _ h
  | ow xs =>
    obtain ⟨a, vs, ev, z, p, rr⟩ := h
    exact ⟨a, vs, ev, ow a z, lst a _ z p, RepL.mono k _ _ rr⟩
theorem wipe_set {i : Nat} {u : Option V} : ∀ {vs : List Nat} {σ : L2.St}, i ∈ vs → wipe (σ.set i u) vs = wipe σ vs
  | v :: vs, σ, h => by
    unfold L2.wipe
    by_cases hi : i ∈ vs
    · rw [wipe_set hi]
    · have e : i = v := (List.mem_cons.mp h).elim id fun q => absurd q hi
      subst e
      have c : ∀ (vs : List Nat) (σ : L2.St), i ∉ vs → wipe (σ.set i u) vs = (wipe σ vs).set i u := by
        intro vs
        induction vs with
        | nil => intro σ _; rfl
        | cons w ws ih =>
          intro σ hn
          unfold L2.wipe
          rw [ih σ fun q => hn (List.mem_cons_of_mem _ q), List.set_comm]
          intro q
          exact hn (by rw [q]; exact List.mem_cons_self)
      rw [c vs σ hi, List.set_set]
  | [], _, h => absurd h (by simp)
theorem wipe_wipe : ∀ (vs : List Nat) (σ : L2.St), wipe (wipe σ vs) vs = wipe σ vs := by
  have gen : ∀ (ws vs : List Nat) (σ : L2.St), (∀ v ∈ ws, v ∈ vs) → wipe (wipe σ ws) vs = wipe σ vs := by
    intro ws
    induction ws with
    | nil => intro vs σ _; rfl
    | cons v ws ih =>
      intro vs σ h
      show wipe ((wipe σ ws).set v none) vs = _
      rw [wipe_set (h v List.mem_cons_self), ih vs σ fun u hu => h u (List.mem_cons_of_mem _ hu)]
  exact fun vs σ => gen vs vs σ fun _ h => h
theorem gAll_okE {vs : List Nat} : ∀ (is : List Nat) (ds : List D) (ws : List V) (env : En) (σ : L2.St) (Q : L2.St → Hp → Prop), (∀ i ∈ is, i ∈ vs) → ERel K g T Z env σ H → RepL K g H Z ds ws → ds.length = is.length →
    (∀ σ', wipe σ' vs = wipe σ vs → ERel K g T Z (setAll is ds env) σ' H → Q σ' H) → gAll is ws σ H Q
  | [], [], ws, env, σ, Q, _, r, rr, l, h => ⟨RepL.nil_.mp rr, h σ rfl r⟩
  | i :: is, d :: ds, ws, env, σ, Q, sub, r, rr, l, h => by
    obtain ⟨v, w, ev, h1, h2⟩ := RepL.cons_.mp rr
    refine ⟨v, w, ev, ?_⟩
    refine gAll_okE is ds w _ _ Q (fun j hj => sub j (List.mem_cons_of_mem _ hj)) (r.setFr (i := i) h1) h2 (by simpa using l) fun σ' e er => h σ' ?_ er
    rw [e, wipe_set (sub i List.mem_cons_self)]
  | [], d :: ds, ws, env, σ, Q, _, r, rr, l, h => by simp at l
  | i :: is, [], ws, env, σ, Q, _, r, rr, l, h => by simp at l
theorem Pt.okE {vs : List Nat} {pt : Pt} {d : D} {v : V} {Q : L2.St → Hp → Prop} (sub : ∀ i ∈ pt.slots, i ∈ vs) (r : ERel K g T Z env σ H) (q : Rep K g H Z d v) (h : pt.go d env = some e1)
    (k : ∀ σ', wipe σ' vs = wipe σ vs → ERel K g T Z e1 σ' H → Q σ' H) : pt.tg K v σ H Q := by
  cases pt with
  | nm i => cases h; exact k _ (wipe_set (sub i (by simp [Pt.slots]))) (r.setFr q)
  | tp is =>
    cases d with
    | tup ds =>
      have h : (if ds.length = is.length then some (setAll is ds env) else none) = some e1 := h
      split at h
      · rename_i l
        cases h
        obtain ⟨a, ws, ev, sq, rr⟩ := Rep.tup_.mp q
        exact ⟨a, ws, ev, sq.sqT, by rw [← rr.length]; exact l, gAll_okE is ds ws env σ Q sub r rr l k⟩
      · cases h
    | _ => cases h
theorem compL_len {as : D → En → Option En} {t : En → R Bool} {me : M} : ∀ {ds r : List D}, compL as t me env ds = .ok r → r.length ≤ ds.length
  | [], r, h => by cases h; exact Nat.le_refl _
  | d :: ds, r, h => by
    unfold compL at h
    cases ea : as d env with
    | none => rw [ea] at h; cases h
    | some e1 =>
      rw [ea] at h
      have h : ((t e1).quiet.bind fun b => if b = true then (me e1).quiet.bind fun s => (compL as t me env ds).bind fun r => .ok (s.d :: r) else compL as t me env ds) = .ok r := h
      cases et : (t e1).quiet with
      | ok b =>
        rw [et] at h
        have h : (if b = true then (me e1).quiet.bind fun s => (compL as t me env ds).bind fun r => .ok (s.d :: r) else compL as t me env ds) = .ok r := h
        split at h
        · cases em : (me e1).quiet with
          | ok s =>
            rw [em] at h
            have h : ((compL as t me env ds).bind fun r => R.ok (s.d :: r)) = .ok r := h
            cases ec : compL as t me env ds with
            | ok r2 => rw [ec] at h; cases h; exact Nat.succ_le_succ (compL_len ec)
            | ex c p => rw [ec] at h; cases h
            | st => rw [ec] at h; cases h
          | ex c p => rw [em] at h; cases h
          | st => rw [em] at h; cases h
        · exact Nat.le_succ_of_le (compL_len h)
      | ex c p => rw [et] at h; cases h
      | st => rw [et] at h; cases h
theorem quiet_ok {α : Type} {r : R α} {a : α} (h : r.quiet = .ok a) : r = .ok a := by
  cases r with
  | ok b => exact h
  | ex c p => cases h
  | st => cases h
/-- what a comprehension reads -/
theorem lcOk {mi : En → R (List D)} {pt : Pt} {t : En → R Bool} {me : M} {vs : List Nat} {Q : VK} (sub : ∀ i ∈ pt.slots, i ∈ vs) (h : tM K g x W (mComp mi pt t me vs) σ H Q) :
    tLc (tI K g x W mi) (pt.tg K) (tT K g T W0 t) (tM K g T W0 me) vs σ H Q := by
  obtain ⟨env, Z, er, hp⟩ := h
  refine ⟨env, Z, er, ?_⟩
  unfold mComp at hp
  cases ei : mi env with
  | ex c p => rw [ei] at hp; exact hp
  | st => rw [ei] at hp; exact hp
  | ok xs =>
    rw [ei] at hp
    have hp : PostE K g W Z σ H Q (if xs.length ≤ lim then (compL pt.go t me (wipeE env vs) xs).quiet.bind fun r => .ok (.ow r) else .st) := hp
    split at hp
    case isFalse => exact hp.elim
    rename_i hlim
    cases ec : (compL pt.go t me (wipeE env vs) xs).quiet with
    | ex c p => exact absurd ec (by intro q; cases e : compL pt.go t me (wipeE env vs) xs <;> rw [e] at q <;> cases q)
    | st => rw [ec] at hp; exact hp.elim
    | ok total =>
      rw [ec] at hp
      have hp : PostE K g W Z σ H Q (.ok (.ow total)) := hp
      have ec := quiet_ok ec
      intro J H1 k walk L hL
      have er1 := er.mono k
      refine ⟨fun i m H' => m = xs.length - i ∧ i ≤ xs.length ∧ Same H1 H' ∧ ∃ acc ds0 r, H' L = some (.lst acc) ∧ RepL K g H' (fun b => Z b ∨ b = L) ds0 acc ∧ acc.length ≤ i ∧ compL pt.go t me (wipeE env vs) (xs.drop i) = .ok r ∧ total = ds0 ++ r,
        ⟨xs.length, rfl, Nat.zero_le _, same_upd hL, [], [], total, upd_same, RepL.nil_.mpr rfl, Nat.le_refl _, ec, rfl⟩, ?_⟩
      rintro i m H' ⟨rfl, hi, s1, acc, ds0, r, hD, hacc, hal, hc, ht⟩
      have kp : Kp H1 Z H' Z := .same_ s1
      by_cases hl : i < xs.length
      · obtain ⟨d, ed, edr⟩ := drop_get hl
        rw [edr] at hc
        unfold compL at hc
        refine .inr ⟨walk.go i d H' ed kp.toF, fun H2 => Same H1 H2 ∧ ∃ acc ds0 r, H2 L = some (.lst acc) ∧ RepL K g H2 (fun b => Z b ∨ b = L) ds0 acc ∧ acc.length ≤ i + 1 ∧ compL pt.go t me (wipeE env vs) (xs.drop (i + 1)) = .ok r ∧ total = ds0 ++ r, ?_, ?_⟩
        · rintro H2 h2
          exact ⟨xs.length - (i + 1), by omega, rfl, hl, h2⟩
        · intro v H2 y
          obtain ⟨k2, rep⟩ := walk.yld i d H' v H2 ed kp.toF y
          have s2 : Same H1 H2 := s1.trans k2
          have hD2 : H2 L = some (.lst acc) := k2 _ _ hD
          have kz : Kp H1 Z H2 (fun b => Z b ∨ b = L) := .of s2 fun b n z => z.elim id fun e => absurd hL (by rw [← e]; exact n)
          have dom2 : ∀ a, (Z a ∨ a = L) → H2 a ≠ none := fun a z => z.elim (fun z => dom_mono s2 er1.dom a z) fun e => by rw [e, hD2]; simp
          have ew : ERel K g T (fun b => Z b ∨ b = L) (wipeE env vs) (wipe σ vs) H2 := by
            have w := er1.wipe vs
            refine ⟨dom2, trivial, w.len, fun j s e => ?_⟩
            obtain ⟨u, e2, q⟩ := w.at_ j s e
            exact ⟨u, e2, q.kp kz (fun a z => .inl z) fun a o _ e => s2 a o e⟩
          cases ea : pt.go d (wipeE env vs) with
          | none => rw [ea] at hc; cases hc
          | some e1 =>
            rw [ea] at hc
            have hc : ((t e1).quiet.bind fun b => if b = true then (me e1).quiet.bind fun s => (compL pt.go t me (wipeE env vs) (xs.drop (i + 1))).bind fun r => .ok (s.d :: r) else compL pt.go t me (wipeE env vs) (xs.drop (i + 1))) = .ok r := hc
            refine Pt.okE sub ew (rep _ kz (fun a z => z.elim (fun z => dom_mono s1 er1.dom a z) fun e => by rw [e, hD]; simp)) ea fun σ2 ws er2 => ?_
            refine ⟨by rw [ws, wipe_wipe], e1, _, er2, ?_⟩
            cases et : t e1 with
            | ex c p => rw [et] at hc; cases hc
            | st => rw [et] at hc; cases hc
            | ok b =>
              rw [et] at hc
              have hc : (if b = true then (me e1).quiet.bind fun s => (compL pt.go t me (wipeE env vs) (xs.drop (i + 1))).bind fun r => .ok (s.d :: r) else compL pt.go t me (wipeE env vs) (xs.drop (i + 1))) = .ok r := hc
              intro H3 k3
              cases b with
              | false => exact ⟨s2.trans k3, acc, ds0, r, k3 _ _ hD2, RepL.mono (.same_ (k2.trans k3)) _ _ hacc, Nat.le_succ_of_le hal, hc, ht⟩
              | true =>
                rw [if_pos rfl] at hc ⊢
                refine use (Z := fun b => Z b ∨ b = L) (er2.mono k3) ?_
                cases em : me e1 with
                | ex c p => rw [em] at hc; cases hc
                | st => rw [em] at hc; cases hc
                | ok s =>
                  rw [em] at hc
                  have hc : ((compL pt.go t me (wipeE env vs) (xs.drop (i + 1))).bind fun r => R.ok (s.d :: r)) = .ok r := hc
                  cases ec2 : compL pt.go t me (wipeE env vs) (xs.drop (i + 1)) with
                  | ex c p => rw [ec2] at hc; cases hc
                  | st => rw [ec2] at hc; cases hc
                  | ok r2 =>
                    rw [ec2] at hc
                    cases hc
                    intro y H4 k4 q
                    have hD4 : H4 L = some (.lst acc) := k4 _ _ (k3 _ _ hD2)
                    have zL : (fun b => Z b ∨ b = L) L := Or.inr rfl
                    have km : Kp H4 (fun b => Z b ∨ b = L) (upd H4 L (.lst (acc ++ [y]))) (fun b => Z b ∨ b = L) :=
                      ⟨fun b o e n => by rw [upd_ne (fun q => n (by rw [q]; exact zL))]; exact e, fun b o us tt => by
                        have nb : b ≠ L := fun q => by
                          subst q
                          rw [hD4] at tt
                          cases tt
                        rw [upd_ne nb]
                        exact tt, fun b _ n => n⟩
                    refine ⟨acc, hD4, Nat.lt_of_le_of_lt hal (Nat.lt_of_lt_of_le hl (limLine hlim)), fun b o e => ?_, acc ++ [y], ds0 ++ [s.d], r2, upd_same, ?_, by rw [List.length_append, List.length_singleton]; omega, rfl, by rw [ht, List.append_assoc]; rfl⟩
                    · rw [upd_ne (ne_of_none e hL)]
                      exact k4 _ _ (k3 _ _ (s2 b o e))
                    · exact RepL.mono km _ _ ((RepL.mono (.same_ ((k2.trans k3).trans k4)) _ _ hacc).append (.one q))
      · have ei : i = xs.length := by omega
        subst ei
        rw [List.drop_length] at hc
        cases hc
        rw [List.append_nil] at ht
        subst ht
        exact .inl ⟨walk.stop _ H' (Nat.le_refl _) kp.toF, hp L acc H' (k.trans s1) (k.free hL) hD hacc⟩
end
section
variable {g : G0} {x : L2.St → Prop} {W : WX} {X : Cx} {elt tg iter : Expr} {ifs : List Expr} {scope : Scope} {own : List (Str × Nat)} {pos : Pos} {mi : En → R (List D)} {pt : Pt} {t : En → R Bool} {me : M}
abbrev PTsd (g : G0) (x : L2.St → Prop) (W : WX) (X : Cx) (es : List Expr) (m : En → R Bool) : Prop := PTs X es (tT X.K g x W m)
def tYesM : En → R Bool := fun _ => .ok true
theorem dts_nil : PTsd g x W X [] tYesM := ⟨fun pins s σ H Q I ⟨env, Z, er, hp⟩ => pts_nil.run pins s σ H Q I (hp H (Same.refl _))⟩
theorem dts_one {c : Expr} {t : En → R Bool} (h : PTd g x W X c t) : PTsd g x W X [c] t := pts_one h
theorem de_lc (hc : X.calm = true) (hN : X.N.Nodup) (hi : PId g x W X tg iter mi) (ok : BlkOk X.N X.env.scope scope own) (sub : ∀ i ∈ pt.slots, i ∈ own.map (·.2))
    (hg : ∀ (s : Shared) (H : Hp) (C : Addr) (cl : List (Str × Addr)) (fp : List Addr), PG (X.blk s H scope (compEnvC scope cl C X.env) fp) tg (pt.tg X.K))
    (ht : ∀ (s : Shared) (H : Hp) (C : Addr) (cl : List (Str × Addr)) (fp : List Addr), PTsd g T W0 (X.blk s H scope (compEnvC scope cl C X.env) fp) ifs t)
    (he : ∀ (s : Shared) (H : Hp) (C : Addr) (cl : List (Str × Addr)) (fp : List Addr), PEd g T W0 (X.blk s H scope (compEnvC scope cl C X.env) fp) elt me) (hs : ∀ x, foldedSetIterable iter X.env x = pure x := by intro _; rfl) :
    PEd g x W X (.ListComp elt [⟨tg, iter, ifs, 0⟩] scope pos) (mComp mi pt t me (own.map (·.2))) :=
  weakE (pe_lc hc hN hi ok hg ht he hs) fun σ H Q h => lcOk sub h
theorem ds_setLc {i : Nat} {y : Str} {py spos : Pos} (hx : ∀ σ, x σ) (hc : X.calm = true) (hN : X.N.Nodup) (hy : X.N[i]? = some y) (hyl : X.env.scope.names.lookup y = some .local)
    (hsw : swapsWith (.ListComp elt [⟨tg, iter, ifs, 0⟩] scope pos) (some (.Name y py)) spos.line X.env = pure true) (hi : PId g x W X tg iter mi) (ok : BlkOk X.N X.env.scope scope own) (sub : ∀ i ∈ pt.slots, i ∈ own.map (·.2))
    (hg : ∀ (s : Shared) (H : Hp) (C : Addr) (cl : List (Str × Addr)) (fp : List Addr), PG (X.blk s H scope (compEnvC scope cl C X.env) fp) tg (pt.tg X.K))
    (ht : ∀ (s : Shared) (H : Hp) (C : Addr) (cl : List (Str × Addr)) (fp : List Addr), PTsd g T W0 (X.blk s H scope (compEnvC scope cl C X.env) fp) ifs t)
    (he : ∀ (s : Shared) (H : Hp) (C : Addr) (cl : List (Str × Addr)) (fp : List Addr), PEd g T W0 (X.blk s H scope (compEnvC scope cl C X.env) fp) elt me) (hs : ∀ x, foldedSetIterable iter X.env x = pure x := by intro _; rfl) :
    PSd g x W X (.Assign [.Name y py] (.ListComp elt [⟨tg, iter, ifs, 0⟩] scope pos) spos) (sSet i (mComp mi pt t me (own.map (·.2)))) :=
  weakS (ps_setLc hc hN hy hyl hsw hi ok hg ht he hs) fun D σ H ⟨env, A, H0, r, hp⟩ => lcOk sub
    (runE (f := fun s => .nx (env.set i (some s))) r hp (fun d v H' _ k q hp => hp _ _ (r.setFr hx k q)) fun xs a vs H' _ k n p q hp => hp _ _ (r.setOw hx k n p q))
end

/-! ### further statements -/
def sUnp (pt : Pt) (m : M) : MS := fun env => match m env with
  | .ok s => match pt.go s.d env with
    | some e => .nx e
    | none => .st
  | .ex c p => .ex c p env
  | .st => .st
def ixD (n : Nat) (i : Int) : Option Nat := if 0 ≤ i then (if i < n then some i.toNat else none) else if -(n : Int) ≤ i then some (i + n).toNat else none
def sPut (i : Nat) (mk : B) (me : M) : MS := fun env => match me env with
  | .ok s => match env[i]? with
    | some (some (.ow xs)) => match mk env with
      | .ok k => match k with
        | .int j => match ixD xs.length j with
          | some n => .nx (env.set i (some (.ow (xs.set n s.d))))
          | none => .st
        | _ => .st
      | .ex c p => .ex c p env
      | .st => .st
    | _ => .st
  | .ex c p => .ex c p env
  | .st => .st
section
variable {g : G0} {x : L2.St → Prop} {W : WX} {X : Cx} {e ek tg : Expr} {pos : Pos} {m me : M} {mk : B}
theorem exA {K : PySem.W.Frag} {A : Av} {H : Hp} {env : En} {σ : L2.St} {p : Pl} {dd : Option Addr} (q : ExP K g H (zz A env σ) p dd) : ExP K g H A p dd := by
  cases p with
  | none => exact q
  | some fx =>
    obtain ⟨da, v, e1, e2, e3⟩ := q
    exact ⟨da, v, e1, e2, Rep.mono (.of (Same.refl _) fun _ _ z => .inl z) _ _ e3⟩
theorem ds_unp (pt : Pt) (hx : ∀ σ, x σ) (he : PEd g x W X e m) (hg : PG X tg (pt.tg X.K)) (hs : swapsWithSole [tg] e pos.line X.env = pure false := by rfl) (hw : swappedStores [tg] e X.env = pure none := by rfl) (h1 : (assignEach [tg] X.env).map (·.2) = [assign tg X.env] := by rfl) : PSd g x W X (.Assign [tg] e pos) (sUnp pt m) :=
  weakS (ps_asg he hg hs hw h1) fun D σ H ⟨env, A, H0, r, hp⟩ => by
    refine use r.er ?_
    unfold sUnp at hp
    cases em : m env with
    | ok s =>
      rw [em] at hp
      intro v H' k q
      have hp : PostS X.K g x W A H0 D (match pt.go s.d env with | some e => .nx e | none => .st) := hp
      cases ep : pt.go s.d env with
      | none => rw [ep] at hp; exact hp.elim
      | some e1 =>
        rw [ep] at hp
        exact Pt.ok hx (r.later k) q ep fun σ' r' => hp σ' H' r'
    | ex c p => rw [em] at hp; exact fun H' dd k q => hp σ H' dd (r.later k) (exA q)
    | st => rw [em] at hp; exact hp
theorem ds_put (i : Nat) {y : Str} {p pi : Pos} (he : PEd g x W X e me) (hk : PBd g x W X ek mk) (hN : X.N[i]? = some y := by rfl) (hv : Vis X.env.scope y := by first | exact Or.inl rfl | exact Or.inr (Or.inl rfl) | exact Or.inr (Or.inr rfl)) (hd : (y == ("__debug__" : Str)) = false := by decide)
    (hcd : (y == ("__classdict__" : Str)) = false := by decide) (hg : PG X (.Subscript (.Name y p) ek pi) (gSub (tVar i) (tB X.K g x W mk) rSetL)) (hs : swapsWithSole [.Subscript (.Name y p) ek pi] e pos.line X.env = pure false := by rfl)
    (hw : swappedStores [.Subscript (.Name y p) ek pi] e X.env = pure none := by rfl) : PSd g x W X (.Assign [.Subscript (.Name y p) ek pi] e pos) (sPut i mk me) :=
  weakS (ps_asg he hg hs hw) fun D σ H ⟨env, A, H0, r, hp⟩ => by
    refine use r.er ?_
    unfold sPut at hp
    cases em : me env with
    | ok s =>
      rw [em] at hp
      intro v H' k q
      have r1 := r.later k
      have hp : PostS X.K g x W A H0 D (match env[i]? with
        | some (some (.ow xs)) => match mk env with
          | .ok k => match k with
            | .int j => match ixD xs.length j with
              | some n => .nx (env.set i (some (.ow (xs.set n s.d))))
              | none => .st
            | _ => .st
          | .ex c p => .ex c p env
          | .st => .st
        | _ => .st) := hp
      split at hp
      · rename_i xs e1
        obtain ⟨w, e2, a, vs, ev, z, p, rr⟩ := r1.er.at_ i _ e1
        subst ev
        refine ⟨.ref a, e2, ?_⟩
        refine ⟨env, zz A env σ, r1.er, ?_⟩
        cases ek : mk env with
        | ok kk =>
          rw [ek] at hp
          intro w H2 k2 q2
          cases kk with
          | int j =>
            have hp : PostS X.K g x W A H0 D (match ixD xs.length j with
              | some n => .nx (env.set i (some (.ow (xs.set n s.d))))
              | none => .st) := hp
            split at hp
            · rename_i n en
              exact ⟨a, vs, j, n, rfl, q2.int_, k2 _ _ p, by rw [← rr.length]; exact en, hp σ _ ((r1.later k2).mut e1 e2 (RepL.set n (RepL.mono (.same_ k2) _ _ rr) (Rep.mono (.same_ k2) _ _ q)))⟩
            · exact hp.elim
          | _ => exact hp.elim
        | ex c p => rw [ek] at hp; exact fun H2 dd k2 q => hp σ H2 dd (r1.later k2) (exA q)
        | st => rw [ek] at hp; exact hp
      · exact hp.elim
    | ex c p => rw [em] at hp; exact fun H' dd k q => hp σ H' dd (r.later k) (exA q)
    | st => rw [em] at hp; exact hp
/-- xs.append(ys.pop(k)) -/
def sAppPop (i j : Nat) (mk : B) : MS := fun env => match env[i]?, env[j]? with
  | some (some (.ow xs)), some (some (.ow ys)) => match mk env with
    | .ok k => match k with
      | .int n => match ixD ys.length n with
        | some l => match ys[l]? with
          | some d => if i ≠ j ∧ xs.length < lim ∧ -1000000 ≤ n ∧ n ≤ 1000000 then .nx ((env.set j (some (.ow (ys.eraseIdx l)))).set i (some (.ow (xs ++ [d])))) else .st
          | none => .st
        | none => .st
      | _ => .st
    | .ex c p => .ex c p env
    | .st => .st
  | _, _ => .st
end
end DL
set_option Elab.async false
set_option linter.all false
set_option maxRecDepth 100000
namespace DL
open PySem PySem.Spec L2
open PyProof.Rows hiding St
section
variable {prog : Program} {w : World} {A : Around} {E : Value → Shared → Prop} {s : Shared}
theorem gather_tup {t : Addr} {us : List Value} {Q : List Value → Shared → Prop} (ht : IsTup s.heap t us.toArray) (hz : us.length ≤ sizeLine)
    (h : Q us { s with heap := (s.heap.push (seqObj "list" #[] 0)).update s.heap.objs.size (Obj.mapSeq (· ++ us.toArray)) }) :
    wpAny (model prog w) A (collect (.ref t)) Q E s := by
  obtain ⟨ob, hob, hcl, k, hda⟩ := id ht
  unfold collect
  refine wpAny_bind (wpAny_runValue (codeAny_builtin entry_proto_collect' (show wpAny _ _ (do again (.builtin "list.__iadd__" ⟨[← newList [], .ref t], []⟩)) _ _ s from ?_)))
  refine wpAny_bind (wpAny_newList (wpAny_pure ⟨Code.quiet_builtin _ (by decide +kernel), codeAny_builtin entry_list_iadd' (show wpAny _ _ (Builtin.List.listExtendWith (.ref s.heap.objs.size) (.ref t) (.ref s.heap.objs.size)) _ _ { s with heap := s.heap.push (seqObj "list" #[] 0) } from ?_)⟩))
  unfold Builtin.List.listExtendWith
  have hob' : (s.heap.push (seqObj "list" #[] 0)).get? t = some ob := Heap.get?_push_of_some _ hob
  refine wpAny_bind (wpAny_typeOf (T := "tuple") ⟨ob, hob', hcl⟩ ?_)
  have tt : (Value.type "tuple" == Value.type "tuple") = true := by rfl
  rw [if_pos (by rw [tt]; simp)]
  refine wpAny_bind (listItems_at hob' hda (wpAny_bind (listItems_at (xs := #[]) (n := 0) (Heap.get?_push_size _ rfl) rfl ?_)))
  rw [if_neg (by simp)]
  refine wpAny_bind (listUpdate_at (xs := #[]) (n := 0) (Heap.get?_push_size _ rfl) rfl (wpAny_pure ?_) (Nat.zero_le _) (by show (#[] ++ us.toArray).size ≤ _; rw [Array.size_append]; simp; omega))
  show wpAny (model prog w) A (do
      let ob ← load s.heap.objs.size
      match ob.data with
      | .seq xs _ => pure xs.toList
      | _ => unsupported "internal:collect") Q E { s with heap := (s.heap.push (seqObj "list" #[] 0)).update s.heap.objs.size (Obj.mapSeq (· ++ us.toArray)) }
  refine wpAny_bind (wpAny_load (get?_update_seq (Heap.get?_push_size _ rfl) _) ?_)
  show wpAny _ _ (pure ((#[] : Array Value) ++ us.toArray).toList) Q E _
  rw [show ((#[] : Array Value) ++ us.toArray).toList = us by simp]
  exact wpAny_pure h
open PySem.W in
theorem sorted_tup {t : Addr} {us : List Value} {Q : Value → Shared → Prop} (ht : IsTup s.heap t us.toArray) (hL : us.length ≤ sizeLine)
    (body : ∀ E' : Value → Shared → Prop, wpAny (model prog w) A.in1.in1 (Builtin.«list.sort» ⟨[.ref (s.heap.objs.size + 1)], []⟩) (fun f s' => f = .done (.ret .none) ∧ Q (.ref (s.heap.objs.size + 1)) s') E' { s with heap := copyHeap s.heap us }) :
    wpAny (model prog w) A (call (.builtin "sorted") [.ref t]) Q E s := by
  refine Calls.call_function_entry kind_sorted plain_sorted entry_sorted (args_sorted1 _) ?_
  unfold Builtin.«sorted»
  refine wpAny_bind (m := checkCount "sorted" 1 1 _) (wpAny_pure (wpAny_bind (gather_tup ht hL (wpAny_bind (wpAny_newList ?_ hL)))))
  have hs : ((s.heap.push (seqObj "list" #[] 0)).update s.heap.objs.size (Obj.mapSeq (· ++ us.toArray))).objs.size = s.heap.objs.size + 1 := by rw [Heap.size_update, size_push']
  show wpAny _ _ _ _ _ { s with heap := copyHeap s.heap us }
  rw [hs]
  refine wpAny_bind (wpAny_holding (wpAny_call_entry slot_list_sort ⟨_, copyHeap_at s.heap us, rfl⟩ entry_list_sort ?_ (args_list_sort _)))
  refine wpAny_mono (body _) (fun f s' hf => ?_) fun _ _ e => e
  obtain ⟨rfl, hq⟩ := hf
  exact ⟨_, rfl, wpAny_pure ⟨_, rfl, hq⟩⟩
end

/-! ### numbers and texts -/
def fAdd : D → D → R Sl
  | .int a, .int b => .ok (.fr (.int (a + b)))
  | .str a, .str b => if a.length + b.length ≤ lim then .ok (.fr (.str (a ++ b))) else .st
  | .tup a, .tup b => if a.length + b.length ≤ lim then .ok (.fr (.tup (a ++ b))) else .st
  | _, _ => .st
def fSub : D → D → R Sl
  | .int a, .int b => .ok (.fr (.int (a - b)))
  | _, _ => .st
def MulOk (i j : Int) : Bool := decide (i.natAbs < 2 ^ 64) || decide (j.natAbs < 2 ^ 64) || (decide (i.natAbs < 2 ^ 4000) && decide (j.natAbs < 2 ^ 4000))
def fMul : D → D → R Sl
  | .int a, .int b => if MulOk a b = true then .ok (.fr (.int (a * b))) else .st
  | _, _ => .st
def fDiv : D → D → R Sl
  | .int a, .int b => if 0 < b ∧ b.natAbs < 2 ^ 4000 then .ok (.fr (.int (a / b))) else .st
  | _, _ => .st
def fMod : D → D → R Sl
  | .int a, .int b => if 0 < b then .ok (.fr (.int (a % b))) else .st
  | _, _ => .st
def fNeg : D → R Sl
  | .int a => .ok (.fr (.int (-a)))
  | _ => .st
def fLt : D → D → R Sl
  | .int a, .int b => .ok (.fr (.bl (decide (a < b))))
  | _, _ => .st
def fLe : D → D → R Sl
  | .int a, .int b => .ok (.fr (.bl (decide (a ≤ b))))
  | _, _ => .st
def fGt : D → D → R Sl
  | .int a, .int b => .ok (.fr (.bl (decide (b < a))))
  | _, _ => .st
def fGe : D → D → R Sl
  | .int a, .int b => .ok (.fr (.bl (decide (b ≤ a))))
  | _, _ => .st
section
variable {X : Cx}
/-- t + u, a new tuple where one is made -/
def rCatN (K : PySem.W.Frag) : R2 := fun x y H Q => ∃ a b xs ys, x = .ref a ∧ y = .ref b ∧ SqT K H a xs ∧ SqT K H b ys ∧ xs.length + ys.length ≤ sizeLine ∧
  (xs = [] → Q (.ref b) H) ∧ (xs ≠ [] → ys = [] → Q (.ref a) H) ∧ (xs ≠ [] → ys ≠ [] → NewT H (xs ++ ys) Q)
theorem op_catN : OpR X (binaryOp .Add) (rCatN X.K) := by
  intro pins s σ H x y v u Q I rx ry h
  obtain ⟨a, b, xs, ys, rfl, rfl, ha, hb, hz, q0, q1, q2⟩ := h
  cases rx
  cases ry
  obtain ⟨its, r1, p1, _⟩ := I.tuple ha
  obtain ⟨its2, r2, p2, _⟩ := I.tuple hb
  by_cases hx : xs = []
  · subst hx
    cases r1
    exact cat_tup0 p1 p2 ⟨.ref b, H, I, rfl, q0 rfl⟩
  · have hi : its ≠ [] := fun e => hx ((Vals.nil_iff r1).mp e)
    refine HT.cat_tup p1 p2 hi (fun e => ⟨.ref a, H, I, rfl, q1 hx ((Vals.nil_iff r2).mp e)⟩) (fun e => ?_) (by rw [← r1.length, ← r2.length]; exact hz)
    exact newT (t' := s.toks) I (fun b u e => Heap.get?_push_of_some _ e) (Nat.le_refl _) (Heap.get?_push_size _ rfl) (r1.append r2) (by rw [List.length_append]; exact hz) (q2 hx fun e2 => e ((Vals.nil_iff r2).mpr e2))
end
section
variable {K : PySem.W.Frag}
theorem of_add : OpF K (fun x y H Q => (rI0 (fun i j => .int (i + j)) x y H Q ∨ ∃ i j, x = .str i ∧ y = .str j ∧ i.length + j.length ≤ sizeLine ∧ Q (.str (i ++ j)) H) ∨ rCatN K x y H Q) fAdd := by
  intro g W H Z σ x y v u Q dom rx ry hp
  cases x <;> cases y <;> first | exact hp.elim | skip
  · rw [rx.int_, ry.int_]
    exact .inl (.inl ⟨_, _, rfl, rfl, hp _ H (Same.refl _) (Rep.int_.mpr rfl)⟩)
  · simp only [fAdd] at hp
    split at hp
    · rw [rx.str_, ry.str_]
      exact .inl (.inr ⟨_, _, rfl, rfl, limLine (by assumption), hp _ H (Same.refl _) (Rep.str_.mpr rfl)⟩)
    · exact hp.elim
  · simp only [fAdd] at hp
    split at hp
    · rename_i hl
      obtain ⟨a, vs, e1, t1, r1⟩ := rx.tup_
      obtain ⟨b, ws, e2, t2, r2⟩ := ry.tup_
      refine .inr ⟨a, b, vs, ws, e1, e2, t1.sqT, t2.sqT, by rw [← r1.length, ← r2.length]; exact limLine hl, fun e => ?_, fun _ e => ?_, fun _ _ => post_tup hp (r1.append r2)⟩
      · subst e
        have z := r1.length
        rw [List.length_nil, List.length_eq_zero_iff] at z
        subst z
        exact hp _ H (Same.refl _) (Rep.tup_.mpr ⟨b, ws, rfl, t2, r2⟩)
      · subst e
        have z := r2.length
        rw [List.length_nil, List.length_eq_zero_iff] at z
        subst z
        rw [List.append_nil] at hp
        exact hp _ H (Same.refl _) (Rep.tup_.mpr ⟨a, vs, rfl, t1, r1⟩)
    · exact hp.elim
theorem of_sub : OpF K (rI0 fun i j => .int (i - j)) fSub := by
  intro g W H Z σ x y v u Q dom rx ry hp
  cases x <;> cases y <;> first | exact hp.elim | skip
  rw [rx.int_, ry.int_]
  exact ⟨_, _, rfl, rfl, hp _ H (Same.refl _) (Rep.int_.mpr rfl)⟩
theorem of_mul : OpF K (fun x y H Q => rI CMul (fun i j => .int (i * j)) x y H Q ∨ rI CMulW (fun i j => .int (i * j)) x y H Q) fMul := by
  intro g W H Z σ x y v u Q dom rx ry hp
  cases x <;> cases y <;> first | exact hp.elim | skip
  rename_i i j
  simp only [fMul] at hp
  split at hp
  · rename_i hm
    rw [rx.int_, ry.int_]
    have q := hp _ H (Same.refl _) (Rep.int_.mpr rfl)
    unfold MulOk at hm
    rw [Bool.or_eq_true, Bool.or_eq_true, Bool.and_eq_true, decide_eq_true_eq, decide_eq_true_eq, decide_eq_true_eq, decide_eq_true_eq] at hm
    rcases hm with (hm | hm) | hm
    · exact .inl ⟨_, _, rfl, rfl, .inl (by omega), q⟩
    · exact .inl ⟨_, _, rfl, rfl, .inr (by omega), q⟩
    · exact .inr ⟨_, _, rfl, rfl, wide_mul hm.1 hm.2 (by decide) (by decide) (by decide), q⟩
  · exact hp.elim
theorem of_div : OpF K (rI CDivW fun i j => .int (i / j)) fDiv := by
  intro g W H Z σ x y v u Q dom rx ry hp
  cases x <;> cases y <;> first | exact hp.elim | skip
  simp only [fDiv] at hp
  split at hp
  · rename_i hm
    rw [rx.int_, ry.int_]
    exact ⟨_, _, rfl, rfl, wide_div hm.1 hm.2 (by decide) (by decide), hp _ H (Same.refl _) (Rep.int_.mpr rfl)⟩
  · exact hp.elim
theorem of_mod : OpF K (rI (fun _ j => 0 < j) fun i j => .int (i % j)) fMod := by
  intro g W H Z σ x y v u Q dom rx ry hp
  cases x <;> cases y <;> first | exact hp.elim | skip
  simp only [fMod] at hp
  split at hp
  · rename_i hm
    rw [rx.int_, ry.int_]
    exact ⟨_, _, rfl, rfl, hm, hp _ H (Same.refl _) (Rep.int_.mpr rfl)⟩
  · exact hp.elim
theorem of_cmp {p : Int → Int → Bool} {F : D → D → R Sl} (h : ∀ x y, (∃ i j, x = .int i ∧ y = .int j ∧ F x y = .ok (.fr (.bl (p i j)))) ∨ F x y = .st) : OpF K (rI0 fun i j => .bl (p i j)) F := by
  intro g W H Z σ x y v u Q dom rx ry hp
  rcases h x y with ⟨i, j, rfl, rfl, e⟩ | e
  · rw [e] at hp
    rw [rx.int_, ry.int_]
    exact ⟨_, _, rfl, rfl, hp _ H (Same.refl _) (Rep.bl_.mpr rfl)⟩
  · rw [e] at hp; exact hp.elim
theorem of_lt : OpF K (rI0 fun i j => .bl (decide (i < j))) fLt := of_cmp fun x y => by cases x <;> cases y <;> first | exact .inl ⟨_, _, rfl, rfl, rfl⟩ | exact .inr rfl
theorem of_le : OpF K (rI0 fun i j => .bl (decide (i ≤ j))) fLe := of_cmp fun x y => by cases x <;> cases y <;> first | exact .inl ⟨_, _, rfl, rfl, rfl⟩ | exact .inr rfl
theorem of_gt : OpF K (rI0 fun i j => .bl (decide (j < i))) fGt := of_cmp fun x y => by cases x <;> cases y <;> first | exact .inl ⟨_, _, rfl, rfl, rfl⟩ | exact .inr rfl
theorem of_ge : OpF K (rI0 fun i j => .bl (decide (j ≤ i))) fGe := of_cmp fun x y => by cases x <;> cases y <;> first | exact .inl ⟨_, _, rfl, rfl, rfl⟩ | exact .inr rfl
theorem of_neg : UnF K (rU fun i => .int (-i)) fNeg := by
  intro g W H Z σ x v Q dom rx hp
  cases x <;> first | exact hp.elim | skip
  rw [rx.int_]
  exact ⟨_, rfl, hp _ H (Same.refl _) (Rep.int_.mpr rfl)⟩
end
section
variable {g : G0} {x : L2.St → Prop} {W : WX} {X : Cx} {a b e : Expr} {es : List Expr} {pos p : Pos} {ma mb : B}
theorem de_add (ha : PBd g x W X a ma) (hb : PBd g x W X b mb) : PEd g x W X (.BinOp a .Add b pos) (mBin fAdd ma mb) := de_op ((op_add.or op_add_str).or op_catN) of_add ha hb
theorem de_sub (ha : PBd g x W X a ma) (hb : PBd g x W X b mb) : PEd g x W X (.BinOp a .Sub b pos) (mBin fSub ma mb) := de_op op_sub of_sub ha hb
theorem de_mul (ha : PBd g x W X a ma) (hb : PBd g x W X b mb) : PEd g x W X (.BinOp a .Mult b pos) (mBin fMul ma mb) := de_op (op_mul.or op_mulW) of_mul ha hb
theorem de_div (ha : PBd g x W X a ma) (hb : PBd g x W X b mb) : PEd g x W X (.BinOp a .FloorDiv b pos) (mBin fDiv ma mb) := de_op op_fdivW of_div ha hb
theorem de_mod (ha : PBd g x W X a ma) (hb : PBd g x W X b mb) : PEd g x W X (.BinOp a .Mod b pos) (mBin fMod ma mb) := de_op op_mod of_mod ha hb
theorem de_neg (ha : PBd g x W X a ma) : PEd g x W X (.UnaryOp .USub a pos) (mUn fNeg ma) := de_un un_neg of_neg ha
theorem de_lt (ha : PBd g x W X a ma) (hb : PBd g x W X b mb) : PEd g x W X (.Compare a [.Lt] [b] pos) (mBin fLt ma mb) := de_cmp op_lt of_lt ha hb (nomark _)
theorem de_le (ha : PBd g x W X a ma) (hb : PBd g x W X b mb) : PEd g x W X (.Compare a [.LtE] [b] pos) (mBin fLe ma mb) := de_cmp op_le of_le ha hb (nomark _)
theorem de_gt (ha : PBd g x W X a ma) (hb : PBd g x W X b mb) : PEd g x W X (.Compare a [.Gt] [b] pos) (mBin fGt ma mb) := de_cmp op_gt of_gt ha hb (nomark _)
theorem de_ge (ha : PBd g x W X a ma) (hb : PBd g x W X b mb) : PEd g x W X (.Compare a [.GtE] [b] pos) (mBin fGe ma mb) := de_cmp op_ge of_ge ha hb (nomark _)
theorem dt_lt (ha : PBd g x W X a ma) (hb : PBd g x W X b mb) : PTd g x W X (.Compare a [.Lt] [b] pos) (mTest (mB (mBin fLt ma mb))) := dt_cmp op_lt of_lt ha hb (nomark _)
theorem dt_le (ha : PBd g x W X a ma) (hb : PBd g x W X b mb) : PTd g x W X (.Compare a [.LtE] [b] pos) (mTest (mB (mBin fLe ma mb))) := dt_cmp op_le of_le ha hb (nomark _)
theorem dt_gt (ha : PBd g x W X a ma) (hb : PBd g x W X b mb) : PTd g x W X (.Compare a [.Gt] [b] pos) (mTest (mB (mBin fGt ma mb))) := dt_cmp op_gt of_gt ha hb (nomark _)
theorem dt_ge (ha : PBd g x W X a ma) (hb : PBd g x W X b mb) : PTd g x W X (.Compare a [.GtE] [b] pos) (mTest (mB (mBin fGe ma mb))) := dt_cmp op_ge of_ge ha hb (nomark _)
end

/-! ### == and != of data -/
mutual
def toPy : D → PyData
  | .non => .none
  | .bl b => .bool b
  | .int i => .int i
  | .str x => .str x
  | .tup xs => .tuple (toPyL xs)
  | .lst xs => .list (toPyL xs)
  | .obj _ _ => .none
def toPyL : List D → List PyData
  | [] => []
  | d :: ds => toPy d :: toPyL ds
end
mutual
def noObj : D → Bool
  | .obj _ _ => false
  | .tup xs => noObjL xs
  | .lst xs => noObjL xs
  | _ => true
def noObjL : List D → Bool
  | [] => true
  | d :: ds => noObj d && noObjL ds
end
mutual
def eqD : D → D → Bool
  | .non, .non => true
  | .bl a, .bl b => a == b
  | .bl a, .int j => (if a then 1 else 0) == j
  | .int i, .bl b => i == (if b then 1 else 0)
  | .int i, .int j => i == j
  | .str a, .str b => a == b
  | .tup a, .tup b => eqDL a b
  | .lst a, .lst b => eqDL a b
  | _, _ => false
def eqDL : List D → List D → Bool
  | [], [] => true
  | x :: xs, y :: ys => eqD x y && eqDL xs ys
  | _, _ => false
end
mutual
theorem eqv_py : ∀ a b : D, noObj a = true → noObj b = true → PyData.eqv (toPy a) (toPy b) = eqD a b
  | .tup xs, b, ha, hb => by
    cases b <;> simp only [toPy, PyData.eqv, eqD]
    · rename_i ys
      exact eqvL_py xs ys (by simpa [noObj] using ha) (by simpa [noObj] using hb)
  | .lst xs, b, ha, hb => by
    cases b <;> simp only [toPy, PyData.eqv, eqD]
    · rename_i ys
      exact eqvL_py xs ys (by simpa [noObj] using ha) (by simpa [noObj] using hb)
  | .obj c fs, b, ha, hb => by simp [noObj] at ha
  | .non, b, ha, hb => by cases b <;> first | (simp [noObj] at hb; done) | simp only [toPy, PyData.eqv, eqD]
  | .bl x, b, ha, hb => by cases b <;> first | (simp [noObj] at hb; done) | simp only [toPy, PyData.eqv, eqD]
  | .int i, b, ha, hb => by cases b <;> first | (simp [noObj] at hb; done) | simp only [toPy, PyData.eqv, eqD]
  | .str z, b, ha, hb => by cases b <;> first | (simp [noObj] at hb; done) | simp only [toPy, PyData.eqv, eqD]
theorem eqvL_py : ∀ xs ys : List D, noObjL xs = true → noObjL ys = true → PyData.eqvAll (toPyL xs) (toPyL ys) = eqDL xs ys
  | [], ys, ha, hb => by cases ys <;> simp only [toPyL, PyData.eqvAll, eqDL]
  | x :: xs, [], ha, hb => by simp only [toPyL, PyData.eqvAll, eqDL]
  | x :: xs, y :: ys, ha, hb => by
    simp only [noObjL, Bool.and_eq_true] at ha hb
    simp only [toPyL, PyData.eqvAll, eqDL]
    rw [eqv_py x y ha.1 hb.1, eqvL_py xs ys ha.2 hb.2]
end
def okE (d : D) : Bool := noObj d && SeqAt.shaped (toPy d)
def fEq (a b : D) : R Sl := if (okE a && okE b) = true then .ok (.fr (.bl (eqD a b))) else .st
def fNe (a b : D) : R Sl := if (okE a && okE b) = true then .ok (.fr (.bl (!eqD a b))) else .st
section
variable {K : PySem.W.Frag} {g : G0} {H : Hp} {Z : Av}
mutual
theorem Rep.dp : ∀ (d : D) (v : V), noObj d = true → Rep K g H Z d v → Dp K H v (toPy d)
  | .non, v, _, h => by rw [Rep.non_.mp h]; exact .non
  | .bl b, v, _, h => by rw [Rep.bl_.mp h]; exact .bl b
  | .int i, v, _, h => by rw [Rep.int_.mp h]; exact .int i
  | .str x, v, _, h => by rw [Rep.str_.mp h]; exact .str x
  | .tup xs, v, n, h => by
    obtain ⟨a, vs, e, t, r⟩ := Rep.tup_.mp h
    subst e
    exact .tup t.sqT (RepL.dp xs vs (by simpa [noObj] using n) r)
  | .lst xs, v, n, h => by
    obtain ⟨a, vs, e, t, r⟩ := Rep.lst_.mp h
    subst e
    exact .lst t.sq (RepL.dp xs vs (by simpa [noObj] using n) r)
  | .obj c fs, v, n, h => by simp [noObj] at n
theorem RepL.dp : ∀ (ds : List D) (vs : List V), noObjL ds = true → RepL K g H Z ds vs → DpAll K H vs (toPyL ds)
  | [], vs, _, h => by rw [RepL.nil_.mp h]; exact .nil
  | d :: ds, vs, n, h => by
    obtain ⟨v, r, e, h1, h2⟩ := RepL.cons_.mp h
    subst e
    simp only [noObjL, Bool.and_eq_true] at n
    exact .cons (Rep.dp d v n.1 h1) (RepL.dp ds r n.2 h2)
end
theorem RepB.dp {d : D} {v : V} (n : noObj d = true) (h : RepB K g H Z d v) : Dp K H v (toPy d) := by
  rcases h with h | ⟨xs, a, vs, e1, e2, e3, r⟩
  · exact Rep.dp d v n h
  · subst e1 e2
    exact .lst (SqL.of e3) (RepL.dp xs vs (by simpa [noObj] using n) r)
theorem of_eq : OpF K (rEqD K) fEq := by
  intro g W H Z σ x y v u Q dom rx ry hp
  unfold fEq at hp
  split at hp
  · rename_i hm
    simp only [okE, Bool.and_eq_true] at hm
    refine ⟨toPy x, toPy y, rx.dp hm.1.1, ry.dp hm.2.1, hm.1.2, hm.2.2, ?_⟩
    rw [eqv_py x y hm.1.1 hm.2.1]
    exact hp _ H (Same.refl _) (Rep.bl_.mpr rfl)
  · exact hp.elim
theorem of_ne : OpF K (rNeD K) fNe := by
  intro g W H Z σ x y v u Q dom rx ry hp
  unfold fNe at hp
  split at hp
  · rename_i hm
    simp only [okE, Bool.and_eq_true] at hm
    refine ⟨toPy x, toPy y, rx.dp hm.1.1, ry.dp hm.2.1, hm.1.2, hm.2.2, ?_⟩
    rw [eqv_py x y hm.1.1 hm.2.1]
    exact hp _ H (Same.refl _) (Rep.bl_.mpr rfl)
  · exact hp.elim
end
section
variable {g : G0} {x : L2.St → Prop} {W : WX} {X : Cx} {a b e : Expr} {es : List Expr} {pos p : Pos} {ma mb : B}
theorem de_eq (hu : X.A.units + 64 < cLine) (ha : PBd g x W X a ma) (hb : PBd g x W X b mb) : PEd g x W X (.Compare a [.Eq] [b] pos) (mBin fEq ma mb) := de_cmp (op_eqD hu) of_eq ha hb (nomark _)
theorem de_ne (hu : X.A.units + 64 < cLine) (ha : PBd g x W X a ma) (hb : PBd g x W X b mb) : PEd g x W X (.Compare a [.NotEq] [b] pos) (mBin fNe ma mb) := de_cmp (op_neD hu) of_ne ha hb (nomark _)
theorem dt_eq (hu : X.A.units + 64 < cLine) (ha : PBd g x W X a ma) (hb : PBd g x W X b mb) : PTd g x W X (.Compare a [.Eq] [b] pos) (mTest (mB (mBin fEq ma mb))) := dt_cmp (op_eqD hu) of_eq ha hb (nomark _)
theorem dt_ne (hu : X.A.units + 64 < cLine) (ha : PBd g x W X a ma) (hb : PBd g x W X b mb) : PTd g x W X (.Compare a [.NotEq] [b] pos) (mTest (mB (mBin fNe ma mb))) := dt_cmp (op_neD hu) of_ne ha hb (nomark _)
end
end DL
set_option Elab.async false
set_option linter.all false
set_option maxRecDepth 100000
namespace DL
open PySem PySem.Spec L2
open PyProof.Rows hiding St

/-! ### methods of a tuple that the program made -/
section
variable {X : Cx} {o e : Expr} {es : List Expr} {to : TE} {t : TA} {name : Str} {apos cpos : Pos} {T id : String} {r : V → List V → Hp → VK → Prop}
theorem Tu.obj {pins : List (Addr × Obj)} {σ : L2.St} {H : Hp} {s : Shared} {a : Addr} {vs : List V} (I : Inv X pins σ H s) (h : Tu X.K H a vs) : ∃ ob, s.heap.get? a = some ob ∧ ob.cls = .type "tuple" ∧ ob.dict = none := by
  rcases h with ⟨ob, e, c, d⟩ | ⟨ob, its, n, hk, c, d, _⟩
  · exact ⟨ob, (I.hok a _ e).1, c, d⟩
  · exact ⟨ob, I.kIn a ob hk, c, d⟩
theorem pe_bmT (pa : PlainAttrs "tuple") (slot : Slot "tuple" name id) (hty : typeOf (.builtin id) = pure (.type "method_descriptor")) (hm : MtR X id r) (ho : PE X o to) (ha : PA X (e :: es) t)
    (hbase : attributeBase o name X.env (eval o X.env) = eval o X.env := by rfl)
    (hfew : ((backTo cpos (starEach (e :: es) X.env)).all (fun x => !x.1) && (backToKw cpos (keywordEach [] X.env)).all (fun x => x.1.isSome)
      && decide ((e :: es).length + ([] : List Keyword).length + (if ([] : List Keyword).isEmpty then 0 else 1) < 30)) = true := by rfl)
    (hline : (apos.endLine == cpos.line) = true := by rfl) (hs : starEach (e :: es) X.env = (false, eval e X.env) :: starEach es X.env := by rfl) (hplain : (backTo cpos (starEach es X.env)).any (·.1) = false := by rfl) :
    PE X (.Call (.Attribute o name apos) (e :: es) [] cpos) (fun σ H Q => to σ H fun v H1 => (∃ a ws, v = .ref a ∧ Tu X.K H1 a ws) ∧ t σ H1 fun xs H2 => r v xs H2 Q) := by
  refine ⟨fun pins s σ H Q I h => ?_⟩
  refine wpAny_Call_method_late hbase hfew hline rfl (thn (ho.run pins s σ H _ I h) fun v s1 ⟨y, H1, I1, r1, ⟨a, ws, ey, tu⟩, q1⟩ => ?_)
  subst ey
  cases r1
  obtain ⟨ob, h1, h2, h3⟩ := tu.obj I1
  refine ⟨"tuple", id, pa, slot, hty, ⟨ob, h1, h2⟩, fun b e => ⟨ob, by cases e; exact h1, h3⟩, ?_⟩
  have hA := ha.run cpos pins s1 σ H1 _ I1 q1
  rw [hs] at hA ⊢
  refine Calls.callWith_builtin (by show (false || (backTo cpos (starEach es X.env)).any (·.1)) = false; rw [hplain] <;> rfl) (Calls.evalArgs_plain ?_)
  exact thn hA fun us s2 ⟨vs, H2, I2, r2, q2⟩ => hm pins s2 σ H2 (.ref a) vs _ us Q I2 rfl r2 q2
/-- t.index(x) of flat items -/
theorem mt_tupIndex : MtR X "tuple.index" (fun x xs H Q => ∃ (a : Addr) (ys : List V) (y : V) (j : Nat) (z : V), x = V.ref a ∧ xs = [y] ∧ SqT X.K H a ys ∧ flatV y = true ∧ ys.all flatV = true ∧ ys[j]? = some z ∧ eqV z y = true ∧
    (∀ (m : Nat) (z' : V), m < j → ys[m]? = some z' → eqV z' y = false) ∧ Q (.int (j : Nat)) H) := by
  intro pins s σ H x xs v us Q I rx rxs h
  obtain ⟨a, ys, y, j, z, rfl, rfl, hq, fy, fys, hz, hzj, hno, q⟩ := h
  cases rx
  obtain ⟨uy, rfl, ry⟩ := vals1 rxs
  obtain ⟨its, rv, ⟨⟨cls, dd, data, sl⟩, ho, hc, n, hd⟩, hlen⟩ := I.tuple hq
  simp only at hc hd
  subst hc hd
  obtain ⟨u, hu, ru⟩ := rv.get hz
  obtain ⟨hjl, hje⟩ := List.getElem?_eq_some_iff.mp hu
  have hvl := rv.length
  refine call_meets PySem.F.slot_tuple_index ⟨_, ho, rfl⟩ PySem.F.entry_tuple_index (PySem.F.args_tuple_index_2 _ _)
    (TI.tuple_indexAt a its.toArray n dd sl uy (eqU y) j (by simpa using hjl) ?_ fun m hm hmj => ?_) ⟨ho, fun w hw => mem_eqAt ry fy rv fys w (by simpa using hw), ⟨.int (j : Nat), H, I.tok _, ⟨_, rfl⟩, q⟩⟩
  · have e1 : its.toArray[j] = u := by simpa using hje
    rw [e1, eqU_of ru (flat_at fys hz)]
    exact hzj
  · have hml : m < its.length := by simpa using hm
    have hy' : ys[m]? = some ys[m] := List.getElem?_eq_getElem (by omega)
    obtain ⟨u2, hu2, ru2⟩ := rv.get hy'
    obtain ⟨_, hme⟩ := List.getElem?_eq_some_iff.mp hu2
    have e1 : its.toArray[m] = u2 := by simpa using hme
    rw [e1, eqU_of ru2 (flat_at fys hy')]
    exact hno m _ hmj hy'
end

/-! ### lengths, places -/
def fLen : List D → R Sl
  | [.lst xs] => .ok (.fr (.int xs.length))
  | [.tup xs] => .ok (.fr (.int xs.length))
  | [.str z] => if z.length ≤ lim then .ok (.fr (.int z.length)) else .st
  | _ => .st
def atD (xs : List D) (i : Int) : R Sl := match ixD xs.length i with
  | some j => match xs[j]? with
    | some d => .ok (.fr d)
    | none => .st
  | none => .st
def fIx : D → D → R Sl
  | .lst xs, .int i => atD xs i
  | .tup xs, .int i => atD xs i
  | .str z, .int i => if z.length ≤ lim then match ixD z.cps.toList.length i with
    | some j => match z.cps.toList[j]? with
      | some c => .ok (.fr (.str ⟨#[c]⟩))
      | none => .st
    | none => .st else .st
  | _, _ => .st
section
variable {K : PySem.W.Frag} {g : G0} {H : Hp} {Z : Av}
theorem RepBL.one_ {d : D} {vs : List V} (h : RepBL K g H Z [d] vs) : ∃ v, vs = [v] ∧ RepB K g H Z d v := by
  obtain ⟨v, r, e, h1, h2⟩ := h
  have h2 : r = [] := h2
  subst h2
  exact ⟨v, e, h1⟩
theorem RepBL.two_ {d e : D} {vs : List V} (h : RepBL K g H Z [d, e] vs) : ∃ v u, vs = [v, u] ∧ RepB K g H Z d v ∧ RepB K g H Z e u := by
  obtain ⟨v, r, e1, h1, h2⟩ := h
  obtain ⟨u, e2, h3⟩ := RepBL.one_ h2
  subst e2
  exact ⟨v, u, e1, h1, h3⟩
theorem cf_len : CallF K (fun xs H Q => (∃ p ys, xs = [.ref p] ∧ (SqL K H p ys ∨ SqT K H p ys) ∧ Q (.int ys.length) H) ∨ ∃ z, xs = [.str z] ∧ z.length ≤ sizeLine ∧ Q (.int z.length) H) fLen := by
  intro g W H Z σ xs vs Q dom r hp
  unfold fLen at hp
  split at hp
  · obtain ⟨v, rfl, rv⟩ := r.one_
    obtain ⟨a, ws, rfl, t, rr⟩ := rv.lst_
    exact .inl ⟨a, ws, rfl, .inl t, by rw [← rr.length]; exact hp _ H (Same.refl _) (Rep.int_.mpr rfl)⟩
  · obtain ⟨v, rfl, rv⟩ := r.one_
    obtain ⟨a, ws, rfl, t, rr⟩ := rv.tup_
    exact .inl ⟨a, ws, rfl, .inr t.sqT, by rw [← rr.length]; exact hp _ H (Same.refl _) (Rep.int_.mpr rfl)⟩
  · obtain ⟨v, rfl, rv⟩ := r.one_
    split at hp
    · exact .inr ⟨_, by rw [rv.str_], limLine (by assumption), hp _ H (Same.refl _) (Rep.int_.mpr rfl)⟩
    · exact hp.elim
  · exact hp.elim
theorem atI_of {xs : List V} {i : Int} {j : Nat} {v : V} (h : ixD xs.length i = some j) (e : xs[j]? = some v) : atI xs i = some v := by
  have h' : ixN xs.length i = some j := h
  unfold atI
  rw [h']
  exact e
theorem atD_get {W : WX} {σ : L2.St} {Q : VK} {xs : List D} {vs : List V} {i : Int} (r : RepL K g H Z xs vs) (hp : PostE K g W Z σ H Q (atD xs i)) : ∃ v, atI vs i = some v ∧ Q v H := by
  unfold atD at hp
  split at hp
  · rename_i j hj
    split at hp
    · rename_i d hd
      obtain ⟨v, hv, q⟩ := r.get hd
      exact ⟨v, atI_of (by rw [← r.length]; exact hj) hv, hp _ H (Same.refl _) q⟩
    · exact hp.elim
  · exact hp.elim
theorem of_ix : OpF K (rIx K) fIx := by
  intro g W H Z σ x y v u Q dom rx ry hp
  unfold fIx at hp
  split at hp
  · obtain ⟨a, ws, rfl, t, rr⟩ := rx.lst_
    obtain ⟨w, h1, h2⟩ := atD_get rr hp
    exact .inl ⟨a, ws, _, w, rfl, ry.int_, t, h1, h2⟩
  · obtain ⟨a, ws, rfl, t, rr⟩ := rx.tup_
    obtain ⟨w, h1, h2⟩ := atD_get rr hp
    exact .inr (.inl ⟨a, ws, _, w, rfl, ry.int_, t.sqT, h1, h2⟩)
  · split at hp
    · rename_i z i hl
      split at hp
      · rename_i j hj
        split at hp
        · rename_i c hc
          refine .inr (.inr ⟨z, i, c, rx.str_, ry.int_, limLine hl, ?_, hp _ H (Same.refl _) (Rep.str_.mpr rfl)⟩)
          have h' : ixN z.cps.toList.length i = some j := hj
          unfold atI
          rw [h']
          exact hc
        · exact hp.elim
      · exact hp.elim
    · exact hp.elim
  · exact hp.elim
end
section
variable {g : G0} {x : L2.St → Prop} {W : WX} {X : Cx} {a b e : Expr} {es : List Expr} {pos p : Pos} {ma mb : B} {mr : En → R (List D)}
theorem de_len (hg : Gl X "len") (hm : X.mg "len" = none) (ha : PBAd g x W X (e :: es) mr) (he : starEach (e :: es) X.env = (false, eval e X.env) :: starEach es X.env := by rfl) (hpl : (backTo pos (starEach es X.env)).any (·.1) = false := by rfl) :
    PEd g x W X (.Call (.Name "len" p) (e :: es) [] pos) (mCall fLen mr) := de_callB (call_len_seq.or call_len_str) cf_len hg hm PySem.boot_len ha (by decide) (by decide) he hpl
theorem de_ix (ha : PBd g x W X a ma) (hb : PBd g x W X b mb) (hs : PlainIx b) : PEd g x W X (.Subscript a b pos) (mBin fIx ma mb) :=
  weakE (pe_ix ix_seq ha hb hs) fun σ H Q h => op2 of_ix h
end

/-! ### list(..), tuple(..), list(range(..)), abs, int, min, max, factorial -/
def fList : List D → R Sl
  | [.lst xs] => .ok (.ow xs)
  | [.tup xs] => .ok (.ow xs)
  | _ => .st
def fTuple : List D → R Sl
  | [.lst xs] => .ok (.fr (.tup xs))
  | [.tup xs] => .ok (.fr (.tup xs))
  | _ => .st
def fAbs : List D → R Sl
  | [.int i] => .ok (.fr (.int (if i < 0 then -i else i)))
  | _ => .st
def fInt : List D → R Sl
  | [.int i] => .ok (.fr (.int i))
  | [.bl b] => .ok (.fr (.int (if b then 1 else 0)))
  | _ => .st
def fMin : List D → R Sl
  | [.int i, .int j] => .ok (.fr (.int (if j < i then j else i)))
  | _ => .st
def fMax : List D → R Sl
  | [.int i, .int j] => .ok (.fr (.int (if j > i then j else i)))
  | _ => .st
def facN : Nat → Nat
  | 0 => 1
  | n + 1 => facN n * (n + 1)
def fFac : List D → R Sl
  | [.int i] => if 0 ≤ i ∧ i ≤ 1000 then .ok (.fr (.int (facN i.toNat))) else .st
  | _ => .st
def mListR1 (m : B) : M := fun env => (m env).bind fun d => match d with
  | .int n => if n ≤ 1000000 ∧ -1000000 ≤ n then .ok (.ow (rangeD 0 n.toNat)) else .st
  | _ => .st
section
variable {K : PySem.W.Frag} {g : G0} {H : Hp} {Z : Av}
theorem facN_eq : ∀ n : Nat, Builtin.Math.factorialNat n = facN n
  | 0 => by unfold Builtin.Math.factorialNat facN; first | rfl | simp
  | n + 1 => by rw [PySem.W.mc_fac_succ, facN_eq n]; rfl
theorem cf_list : CallF K (fun xs H Q => ∃ p ys, xs = [.ref p] ∧ (SqL K H p ys ∨ SqT K H p ys) ∧ ∀ l, H l = none → Q (.ref l) (upd H l (.lst ys))) fList := by
  intro g W H Z σ xs vs Q dom r hp
  unfold fList at hp
  split at hp
  · obtain ⟨v, rfl, rv⟩ := r.one_
    obtain ⟨a, ws, rfl, t, rr⟩ := rv.lst_
    exact ⟨a, ws, rfl, .inl t, fun l hl => post_ow hp hl rr⟩
  · obtain ⟨v, rfl, rv⟩ := r.one_
    obtain ⟨a, ws, rfl, t, rr⟩ := rv.tup_
    exact ⟨a, ws, rfl, .inr t.sqT, fun l hl => post_ow hp hl rr⟩
  · exact hp.elim
theorem call_tupleN {X : Cx} : CallR X (.type "tuple") (fun xs H Q => ∃ p ys, xs = [.ref p] ∧ ((SqL X.K H p ys ∧ NewT H ys Q) ∨ (SqT X.K H p ys ∧ Q (.ref p) H))) := by
  intro pins s σ H xs us Q I r h
  obtain ⟨p, ys, rfl, h⟩ := h
  obtain ⟨u, rfl, rx⟩ := vals1 r
  cases rx
  rcases h with ⟨hq, q⟩ | ⟨hq, q⟩
  · obtain ⟨its, r', pl, hz⟩ := I.list hq
    refine call_tuple_list pl.isList (fun h' kp => ?_) (by rw [List.size_toArray, ← r'.length]; exact hz)
    have I1 : Inv X pins σ H { s with heap := h' } := I.kept (t' := s.toks) kp
    exact newT (s := { s with heap := h' }) (t' := s.toks) I1 (fun b o e => Heap.get?_push_of_some _ e) (Nat.le_refl _) (Heap.get?_push_size _ rfl) r' hz q
  · obtain ⟨its, r', pl, hz⟩ := I.tuple hq
    exact call_tuple_same pl ⟨.ref p, H, I, rfl, q⟩
theorem cf_tuple : CallF K (fun xs H Q => ∃ p ys, xs = [.ref p] ∧ ((SqL K H p ys ∧ NewT H ys Q) ∨ (SqT K H p ys ∧ Q (.ref p) H))) fTuple := by
  intro g W H Z σ xs vs Q dom r hp
  unfold fTuple at hp
  split at hp
  · obtain ⟨v, rfl, rv⟩ := r.one_
    obtain ⟨a, ws, rfl, t, rr⟩ := rv.lst_
    exact ⟨a, ws, rfl, .inl ⟨t, post_tup hp rr⟩⟩
  · obtain ⟨v, rfl, rv⟩ := r.one_
    obtain ⟨a, ws, rfl, t, rr⟩ := rv.tup_
    exact ⟨a, ws, rfl, .inr ⟨t.sqT, hp _ H (Same.refl _) (Rep.tup_.mpr ⟨a, ws, rfl, t, rr⟩)⟩⟩
  · exact hp.elim
theorem cf_abs : CallF K (fun xs H Q => ∃ i, xs = [.int i] ∧ Q (.int (if i < 0 then -i else i)) H) fAbs := by
  intro g W H Z σ xs vs Q dom r hp
  unfold fAbs at hp
  split at hp
  · obtain ⟨v, rfl, rv⟩ := r.one_
    exact ⟨_, by rw [rv.int_], hp _ H (Same.refl _) (Rep.int_.mpr rfl)⟩
  · exact hp.elim
theorem cf_int : CallF K (fun xs H Q => (∃ i, xs = [.int i] ∧ Q (.int i) H) ∨ ∃ k, xs = [.bl k] ∧ Q (.int (if k then 1 else 0)) H) fInt := by
  intro g W H Z σ xs vs Q dom r hp
  unfold fInt at hp
  split at hp
  · obtain ⟨v, rfl, rv⟩ := r.one_
    exact .inl ⟨_, by rw [rv.int_], hp _ H (Same.refl _) (Rep.int_.mpr rfl)⟩
  · obtain ⟨v, rfl, rv⟩ := r.one_
    exact .inr ⟨_, by rw [rv.bl_], hp _ H (Same.refl _) (Rep.int_.mpr rfl)⟩
  · exact hp.elim
theorem cf_min : CallF K (fun xs H Q => ∃ i j, xs = [.int i, .int j] ∧ Q (.int (if j < i then j else i)) H) fMin := by
  intro g W H Z σ xs vs Q dom r hp
  unfold fMin at hp
  split at hp
  · obtain ⟨v, u, rfl, r1, r2⟩ := r.two_
    exact ⟨_, _, by rw [r1.int_, r2.int_], hp _ H (Same.refl _) (Rep.int_.mpr rfl)⟩
  · exact hp.elim
theorem cf_max : CallF K (fun xs H Q => ∃ i j, xs = [.int i, .int j] ∧ Q (.int (if j > i then j else i)) H) fMax := by
  intro g W H Z σ xs vs Q dom r hp
  unfold fMax at hp
  split at hp
  · obtain ⟨v, u, rfl, r1, r2⟩ := r.two_
    exact ⟨_, _, by rw [r1.int_, r2.int_], hp _ H (Same.refl _) (Rep.int_.mpr rfl)⟩
  · exact hp.elim
theorem call_fac {X : Cx} : CallR X (.builtin "math.factorial") (fun xs H Q => ∃ i, xs = [.int i] ∧ 0 ≤ i ∧ i ≤ 20000 ∧ Q (.int (facN i.toNat)) H) := by
  intro pins s σ H xs us Q I r h
  obtain ⟨i, rfl, h0, h1, q⟩ := h
  obtain ⟨u, rfl, t, rfl⟩ := vals1 r
  exact PySem.W.mc_factorial h0 h1 fun _ => ⟨.int (facN i.toNat), H, I.tok _, ⟨_, by rw [facN_eq]⟩, q⟩
theorem cf_fac : CallF K (fun xs H Q => ∃ i, xs = [.int i] ∧ 0 ≤ i ∧ i ≤ 20000 ∧ Q (.int (facN i.toNat)) H) fFac := by
  intro g W H Z σ xs vs Q dom r hp
  unfold fFac at hp
  split at hp
  · obtain ⟨v, rfl, rv⟩ := r.one_
    split at hp
    · rename_i hi
      exact ⟨_, by rw [rv.int_], hi.1, by omega, hp _ H (Same.refl _) (Rep.int_.mpr rfl)⟩
    · exact hp.elim
  · exact hp.elim
theorem rangeD_rg {lo hi : Int} : RepL K g H Z (rangeD lo (hi - lo).toNat) (rgV lo hi) := by
  unfold rangeD rgV
  generalize List.range (hi - lo).toNat = l
  induction l with
  | nil => exact RepL.nil_.mpr rfl
  | cons n l ih => exact RepL.cons_.mpr ⟨_, _, rfl, Rep.int_.mpr rfl, ih⟩
end
section
variable {g : G0} {x : L2.St → Prop} {W : WX} {X : Cx} {a b e : Expr} {es : List Expr} {pos p p2 pos2 : Pos} {ma mb : B} {mr : En → R (List D)}
theorem de_list (hg : Gl X "list") (hm : X.mg "list" = none) (ha : PBAd g x W X (e :: es) mr) (he : starEach (e :: es) X.env = (false, eval e X.env) :: starEach es X.env := by rfl) (hpl : (backTo pos (starEach es X.env)).any (·.1) = false := by rfl) :
    PEd g x W X (.Call (.Name "list" p) (e :: es) [] pos) (mCall fList mr) := de_callT call_list_of cf_list hg hm (by decide +kernel) ha (by decide) (by decide) he hpl
theorem de_tuple (hg : Gl X "tuple") (hm : X.mg "tuple" = none) (ha : PBAd g x W X (e :: es) mr) (he : starEach (e :: es) X.env = (false, eval e X.env) :: starEach es X.env := by rfl) (hpl : (backTo pos (starEach es X.env)).any (·.1) = false := by rfl) :
    PEd g x W X (.Call (.Name "tuple" p) (e :: es) [] pos) (mCall fTuple mr) := de_callT call_tupleN cf_tuple hg hm (by decide +kernel) ha (by decide) (by decide) he hpl
theorem de_abs (hg : Gl X "abs") (hm : X.mg "abs" = none) (ha : PBAd g x W X (e :: es) mr) (he : starEach (e :: es) X.env = (false, eval e X.env) :: starEach es X.env := by rfl) (hpl : (backTo pos (starEach es X.env)).any (·.1) = false := by rfl) :
    PEd g x W X (.Call (.Name "abs" p) (e :: es) [] pos) (mCall fAbs mr) := de_callB call_abs cf_abs hg hm (by decide +kernel) ha (by decide) (by decide) he hpl
theorem de_int1 (hg : Gl X "int") (hm : X.mg "int" = none) (ha : PBAd g x W X (e :: es) mr) (he : starEach (e :: es) X.env = (false, eval e X.env) :: starEach es X.env := by rfl) (hpl : (backTo pos (starEach es X.env)).any (·.1) = false := by rfl) :
    PEd g x W X (.Call (.Name "int" p) (e :: es) [] pos) (mCall fInt mr) := de_callT call_int1 cf_int hg hm (by decide +kernel) ha (by decide) (by decide) he hpl
theorem de_min (hc : X.calm = true) (hg : Gl X "min") (hm : X.mg "min" = none) (ha : PBAd g x W X (e :: es) mr) (he : starEach (e :: es) X.env = (false, eval e X.env) :: starEach es X.env := by rfl) (hpl : (backTo pos (starEach es X.env)).any (·.1) = false := by rfl) :
    PEd g x W X (.Call (.Name "min" p) (e :: es) [] pos) (mCall fMin mr) := de_callB (call_min2 hc) cf_min hg hm (by decide +kernel) ha (by decide) (by decide) he hpl
theorem de_max (hc : X.calm = true) (hg : Gl X "max") (hm : X.mg "max" = none) (ha : PBAd g x W X (e :: es) mr) (he : starEach (e :: es) X.env = (false, eval e X.env) :: starEach es X.env := by rfl) (hpl : (backTo pos (starEach es X.env)).any (·.1) = false := by rfl) :
    PEd g x W X (.Call (.Name "max" p) (e :: es) [] pos) (mCall fMax mr) := de_callB (call_max2 hc) cf_max hg hm (by decide +kernel) ha (by decide) (by decide) he hpl
/-- f(..), f a name of the module for a built-in function -/
theorem de_callM {r : List V → Hp → VK → Prop} {F : List D → R Sl} {id : String} {y : Str} (hc : CallR X (.builtin id) r) (hF : CallF X.K r F) (hg : Gl X y) (hm : X.mg y = some (.builtin id)) (ha : PBAd g x W X (e :: es) mr)
    (hdb : (y == ("__debug__" : Str)) = false := by decide) (he : starEach (e :: es) X.env = (false, eval e X.env) :: starEach es X.env := by rfl) (hpl : (backTo pos (starEach es X.env)).any (·.1) = false := by rfl) :
    PEd g x W X (.Call (.Name y p) (e :: es) [] pos) (mCall F mr) :=
  weakE (pe_callBfun hc hg hm ha hdb he hpl) fun σ H Q h => callF hF h
theorem de_listR1 (hc : X.calm = true) (hg : Gl X "list") (hm : X.mg "list" = none) (hg2 : Gl X "range") (hm2 : X.mg "range" = none) (ha : PBd g x W X a ma) (na : starEach [a] X.env = (false, eval a X.env) :: starEach [] X.env := by rfl)
    (na2 : starEach [.Call (.Name "range" p2) [a] [] pos2] X.env = (false, eval (.Call (.Name "range" p2) [a] [] pos2) X.env) :: starEach [] X.env := by rfl) : PEd g x W X (.Call (.Name "list" p) [.Call (.Name "range" p2) [a] [] pos2] [] pos) (mListR1 ma) :=
  weakE (pe_listRg hc hg hm (prg_1 hg2 hm2 ha na) na2) fun σ H Q ⟨env, Z, er, hp⟩ => useB er hp fun d v H1 e1 k1 r1 hp1 => by
    cases d with
    | int n =>
      have hp1 : PostE X.K g W Z σ H1 Q (if n ≤ 1000000 ∧ -1000000 ≤ n then .ok (.ow (rangeD 0 n.toNat)) else .st) := hp1
      split at hp1
      · rename_i hn
        refine ⟨n, r1.int_, ⟨by omega, by omega, by omega, by omega, by omega⟩, fun q hq => ?_⟩
        have rr : RepL X.K g H1 Z (rangeD 0 (n - 0).toNat) (rgV 0 n) := rangeD_rg
        rw [Int.sub_zero] at rr
        exact post_ow hp1 hq rr
      · exact hp1.elim
    | _ => exact hp1.elim
end
end DL
set_option Elab.async false
set_option linter.all false
set_option maxRecDepth 100000
namespace DL
open PySem PySem.Spec L2
open PyProof.Rows hiding St

/-! ### sorting -/
section
variable {α : Type}
def ins (le : α → α → Bool) (a : α) : List α → List α
  | [] => [a]
  | b :: l => if le a b = true then a :: b :: l else b :: ins le a l
def isort (le : α → α → Bool) : List α → List α
  | [] => []
  | a :: l => ins le a (isort le l)
open PySem.W in
theorem ins_mem {le : α → α → Bool} {a x : α} : ∀ {l : List α}, x ∈ ins le a l → x = a ∨ x ∈ l
  | [], h => by simp [ins] at h; exact .inl h
  | b :: l, h => by
    unfold ins at h
    split at h
    · rcases List.mem_cons.mp h with e | e
      · exact .inl e
      · exact .inr e
    · rcases List.mem_cons.mp h with e | e
      · exact .inr (by rw [e]; exact List.mem_cons_self)
      · rcases ins_mem e with e | e
        · exact .inl e
        · exact .inr (List.mem_cons_of_mem _ e)
open PySem.W in
theorem ins_sorted {le : α → α → Bool} (h : TotalLe le) {a : α} : ∀ {l : List α}, l.Pairwise (fun a b => le a b = true) → (ins le a l).Pairwise (fun a b => le a b = true)
  | [], _ => by simp [ins]
  | b :: l, q => by
    obtain ⟨q1, q2⟩ := List.pairwise_cons.mp q
    unfold ins
    split
    · rename_i hab
      refine List.pairwise_cons.mpr ⟨fun x hx => ?_, q⟩
      rcases List.mem_cons.mp hx with e | e
      · rw [e]; exact hab
      · exact h.trans _ _ _ hab (q1 x e)
    · rename_i hab
      have hba : le b a = true := (h.total a b).elim (fun e => absurd e hab) id
      refine List.pairwise_cons.mpr ⟨fun x hx => ?_, ins_sorted h q2⟩
      rcases ins_mem hx with e | e
      · rw [e]; exact hba
      · exact q1 x e
open PySem.W in
theorem ins_filter {le : α → α → Bool} (h : TotalLe le) {a c : α} : ∀ {l : List α}, (ins le a l).filter (sameRank le c) = (a :: l).filter (sameRank le c)
  | [] => rfl
  | b :: l => by
    unfold ins
    split
    · rfl
    · rename_i hab
      rw [List.filter_cons, ins_filter h, List.filter_cons, List.filter_cons, List.filter_cons]
      cases pa : sameRank le c a with
      | true =>
        have pb : sameRank le c b = false := by
          cases e : sameRank le c b with
          | false => rfl
          | true =>
            unfold sameRank at pa e
            rw [Bool.and_eq_true] at pa e
            exact absurd (h.trans _ _ _ pa.2 e.1) hab
        rw [pb]
        simp only [Bool.false_eq_true, if_false, if_true]
      | false =>
        simp only [Bool.false_eq_true, if_false]
open PySem.W in
theorem isort_eq {le : α → α → Bool} (h : TotalLe le) (l : List α) : isort le l = l.mergeSort le := by
  refine sort_unique h ?_ fun c => ?_
  · induction l with
    | nil => exact List.Pairwise.nil
    | cons a l ih => exact ins_sorted h ih
  · induction l with
    | nil => rfl
    | cons a l ih =>
      show (ins le a (isort le l)).filter _ = _
      rw [ins_filter h, List.filter_cons, List.filter_cons, ih]
end
def leD (a b : D) : Bool := PySem.W.dataLe false toPy a b
def isTupC : D → Bool
  | .tup (_ :: _) => true
  | _ => false
def noTN : D → Bool
  | .non => false
  | .tup _ => false
  | _ => true
def okSort (xs : List D) : Bool := (xs.all fun a => noObj a && decide ((toPy a).depth ≤ 60)) && (xs.all fun a => xs.all fun b => PySem.W.alike (toPy a) (toPy b)) && (xs.all isTupC || xs.all noTN) && decide (xs.length ≤ lim)
def fSorted : List D → R Sl
  | [.lst xs] => if okSort xs = true then .ok (.ow (isort leD xs)) else .st
  | [.tup xs] => if okSort xs = true then .ok (.ow (isort leD xs)) else .st
  | _ => .st
section
variable {K : PySem.W.Frag} {g : G0} {H : Hp} {Z : Av}
open PySem.W
theorem leD_total : TotalLe leD := (sortLe_total (PyProof.Rows.listOrd PyProof.Rows.itemOrd) false fun d => keyToks (toPy d) : TotalLe (dataLe false toPy))
theorem okSort_parts {xs : List D} (h : okSort xs = true) : (∀ a ∈ xs, noObj a = true ∧ (toPy a).depth ≤ 60) ∧ AllAlike (xs.map toPy) ∧ Sortable (xs.map toPy) ∧ xs.length ≤ lim := by
  unfold okSort at h
  simp only [Bool.and_eq_true, Bool.or_eq_true, List.all_eq_true, decide_eq_true_eq] at h
  obtain ⟨⟨⟨h1, h2⟩, h3⟩, h4⟩ := h
  refine ⟨h1, fun d hd d' hd' => ?_, ?_, h4⟩
  · obtain ⟨a, ha, rfl⟩ := List.mem_map.mp hd
    obtain ⟨b, hb, rfl⟩ := List.mem_map.mp hd'
    exact h2 a ha b hb
  · rcases h3 with h3 | h3
    · refine .inl fun d hd => ?_
      obtain ⟨a, ha, rfl⟩ := List.mem_map.mp hd
      have q := h3 a ha
      cases a with
      | tup ys => cases ys with
        | nil => cases q
        | cons y ys => exact ⟨toPy y, toPyL ys, by simp only [toPy, toPyL]⟩
      | _ => cases q
    · refine .inr fun d hd => ?_
      obtain ⟨a, ha, rfl⟩ := List.mem_map.mp hd
      have q := h3 a ha
      have o := (h1 a ha).1
      cases a <;> first | (cases q; done) | (simp [noObj] at o; done) | exact ⟨(by simp only [toPy]; intro z; cases z), fun xs => (by simp only [toPy]; intro z; cases z)⟩
theorem each_reps {X : Cx} {pins : List (Addr × Obj)} {σ : L2.St} {H : Hp} {s : Shared} (I : Inv X pins σ H s) : ∀ {ds : List D} {vs : List V} {us : List Value}, (∀ a ∈ ds, noObj a = true) → RepL X.K g H Z ds vs → Vals vs us →
    EachIs (fun u d => ∃ v, RelV v u ∧ Rep X.K g H Z d v) us ds ∧ EachIs (fun u d => ∃ as, Reads s.heap u (toPy d) as) us ds
  | [], vs, us, _, r, q => by
    rw [RepL.nil_.mp r] at q
    cases q
    exact ⟨.nil, .nil⟩
  | d :: ds, vs, us, n, r, q => by
    obtain ⟨v, ws, e, h1, h2⟩ := RepL.cons_.mp r
    subst e
    cases q with
    | cons r1 r2 =>
      obtain ⟨i1, i2⟩ := each_reps I (fun a ha => n a (List.mem_cons_of_mem _ ha)) h2 r2
      obtain ⟨as, rd⟩ := Dp.reads I (toPy d) v _ (Rep.dp d v (n d List.mem_cons_self) h1) r1
      exact ⟨.cons ⟨v, r1, h1⟩ i1, .cons ⟨as, rd⟩ i2⟩
theorem reps_each {R : Value → D → Prop} : ∀ {us : List Value} {ds : List D}, EachIs (fun u d => ∃ v, RelV v u ∧ Rep K g H Z d v) us ds → ∃ vs, Vals vs us ∧ RepL K g H Z ds vs
  | _, _, .nil => ⟨[], .nil, RepL.nil_.mpr rfl⟩
  | _, _, .cons ⟨v, h1, h2⟩ t => by
    obtain ⟨vs, q1, q2⟩ := reps_each (R := R) t
    exact ⟨v :: vs, .cons h1 q1, RepL.cons_.mpr ⟨v, vs, rfl, h2, q2⟩⟩
def rSortD (K : PySem.W.Frag) : List V → Hp → VK → Prop := fun vs H Q => ∃ (a : Addr) (ws : List V) (g : G0) (Z : Av) (ds : List D), vs = [.ref a] ∧ (SqL K H a ws ∨ SqT K H a ws) ∧ RepL K g H Z ds ws ∧ okSort ds = true ∧
  ∀ p ys, H p = none → RepL K g H Z (isort leD ds) ys → Q (.ref p) (upd H p (.lst ys))
theorem cr_sortD {X : Cx} (hu : X.A.units + 65 < cLine) : CallR X (.builtin "sorted") (rSortD X.K) := by
  intro pins s σ H xs us Q I r h
  obtain ⟨a, ws, g, Z, ds, rfl, hq, rr, ok, q⟩ := h
  obtain ⟨u, rfl, ru⟩ := vals1 r
  cases ru
  obtain ⟨o1, o2, o3, o4⟩ := okSort_parts ok
  have fin : ∀ {its : List Value}, Vals ws its → ∀ out : List Value, out.length = ds.length → EachIs (fun u d => ∃ v, RelV v u ∧ Rep X.K g H Z d v) out (ds.mergeSort (dataLe false toPy)) →
      EP X pins σ Q (.ref (s.heap.objs.size + 1)) { s with heap := sortedAll s.heap its (List.toArray out) } := fun {its} rv out hl e => by
    obtain ⟨ys, q1, q2⟩ := reps_each (R := fun _ _ => True) e
    obtain ⟨ep, he'⟩ := PyProof.Rows.sortedAll_at s.heap its (List.toArray out)
    have em : ds.mergeSort (dataLe false toPy) = isort leD ds := (isort_eq leD_total ds).symm
    rw [em] at q2
    exact ⟨.ref _, upd H (s.heap.objs.size + 1) (.lst ys), I.laid (t' := s.toks) (fun _ _ => PyProof.Rows.sortedAll_old) (Nat.le_succ _) ⟨by rw [q1.length, hl]; exact limLine o4, out, ep, q1, he'⟩, rfl, q _ ys (I.hok.fresh (Nat.le_succ _)) q2⟩
  have hdep : ∀ b, b ∈ ds → X.A.units + 2 + (toPy b).depth < cLine := fun b hb => by
    have := (o1 b hb).2
    omega
  rcases hq with hq | hq
  · obtain ⟨its, rv, pl, hz⟩ := I.list hq
    obtain ⟨e1, e2⟩ := each_reps I (fun a ha => (o1 a ha).1) rr rv
    exact sorted_data pl.isList e1 e2 o2 o3 (limLine o4) hdep (fin rv)
  · obtain ⟨its, rv, pl, hz⟩ := I.tuple hq
    obtain ⟨e1, e2⟩ := each_reps I (fun a ha => (o1 a ha).1) rr rv
    have hL : its.length ≤ sizeLine := by rw [← rv.length]; exact hz
    refine sorted_tup pl hL fun E' => ?_
    have er : EachIs (fun v b => ∃ as, Reads (sortingHeap (copyHeap s.heap its) (s.heap.objs.size + 1) its) v (toPy b) as) its ds := e2.mono fun _ _ ⟨as, r⟩ => ⟨as, PyProof.Rows.Reads.keeps (fun _ _ => sorting_copy_old) r⟩
    exact list_sort_vals (s := { s with heap := copyHeap s.heap its }) (copyHeap_at s.heap its)
      (SortsAt.data (A := X.A.in1.in1) (s := { s with heap := sortingHeap (copyHeap s.heap its) (s.heap.objs.size + 1) its }) (each_map (R := fun v d => ∃ as, Reads (sortingHeap (copyHeap s.heap its) (s.heap.objs.size + 1) its) v d as) toPy er) o2 o3
        (bound_map fun b hb => by have := hdep b hb; show X.A.units + 1 + 1 + _ < _; omega)) hL
      ⟨rfl, fin rv _ (by rw [sortVals_length false rfl]; exact e1.length) (sortVals_data false e1 er o2)⟩
theorem cf_sort : CallF K (rSortD K) fSorted := by
  intro g W H Z σ xs vs Q dom r hp
  unfold fSorted at hp
  split at hp
  · obtain ⟨v, rfl, rv⟩ := r.one_
    obtain ⟨a, ws, rfl, t, rr⟩ := rv.lst_
    split at hp
    · exact ⟨a, ws, g, Z, _, rfl, .inl t, rr, by assumption, fun p ys hn q => post_ow hp hn q⟩
    · exact hp.elim
  · obtain ⟨v, rfl, rv⟩ := r.one_
    obtain ⟨a, ws, rfl, t, rr⟩ := rv.tup_
    split at hp
    · exact ⟨a, ws, g, Z, _, rfl, .inr t.sqT, rr, by assumption, fun p ys hn q => post_ow hp hn q⟩
    · exact hp.elim
  · exact hp.elim
end
section
variable {g : G0} {x : L2.St → Prop} {W : WX} {X : Cx} {a b e : Expr} {es : List Expr} {pos p p2 pos2 : Pos} {ma mb : B} {mr : En → R (List D)}
theorem de_sorted (hu : X.A.units + 65 < cLine) (hg : Gl X "sorted") (hm : X.mg "sorted" = none) (ha : PBAd g x W X (e :: es) mr) (he : starEach (e :: es) X.env = (false, eval e X.env) :: starEach es X.env := by rfl) (hpl : (backTo pos (starEach es X.env)).any (·.1) = false := by rfl) :
    PEd g x W X (.Call (.Name "sorted" p) (e :: es) [] pos) (mCall fSorted mr) := de_callB (cr_sortD hu) cf_sort hg hm (by decide +kernel) ha (by decide) (by decide) he hpl
end

/-! ### slices -/
def sIxD (n d : Nat) : Option Int → Nat := HT.sIx n d
def cutD {α : Type} (xs : List α) (lo hi : Option Int) : List α := (xs.drop (HT.sIx xs.length 0 lo)).take (HT.sIx xs.length xs.length hi - HT.sIx xs.length 0 lo)
def fSl (d : D) (lo hi : Option Int) : R Sl := match d with
  | .tup xs => .ok (.fr (.tup (cutD xs lo hi)))
  | .lst xs => .ok (.ow (cutD xs lo hi))
  | .str z => if z.length ≤ lim then .ok (.fr (.str (cutS z lo hi))) else .st
  | _ => .st
def asI : D → R (Option Int)
  | .int i => .ok (some i)
  | _ => .st
abbrev BO := En → R (Option Int)
def oNone : BO := fun _ => .ok none
def oSome (m : B) : BO := fun env => (m env).bind asI
def mSl (m : B) (l u : BO) : M := fun env => (m env).bind fun d => (l env).bind fun lo => (u env).bind fun hi => fSl d lo hi
def rSlN (K : PySem.W.Frag) : V → Option Int → Option Int → Hp → VK → Prop := fun x lo hi H Q => ∃ a xs, x = .ref a ∧ SqT K H a xs ∧
  (HT.sIx xs.length 0 lo = 0 ∧ HT.sIx xs.length xs.length hi = xs.length → Q (.ref a) H) ∧ (¬ (HT.sIx xs.length 0 lo = 0 ∧ HT.sIx xs.length xs.length hi = xs.length) → NewT H (cutV xs lo hi) Q)

section
variable {X : Cx}
theorem sl_tupN : SlR X (rSlN X.K) := by
  intro pins s σ H x v vl vu lo hi sl Q I rx hs pl pu h
  obtain ⟨a, xs, rfl, hx, q1, q2⟩ := h
  cases rx
  obtain ⟨its, r, ht, hz⟩ := I.tuple hx
  have hlen : its.toArray.size = xs.length := by rw [List.size_toArray]; exact r.length.symm
  refine ⟨"tuple", _, PyProof.Rows.slot_tuple_getitem.lookup, ht.typeIs, ?_⟩
  by_cases hw : HT.sIx xs.length 0 lo = 0 ∧ HT.sIx xs.length xs.length hi = xs.length
  · exact getItem_tuple_whole ht hs pl pu (by rw [hlen]; exact hw) ⟨.ref a, H, I, rfl, q1 hw⟩
  · refine HT.getItem_tuple_cut ht hs pl pu (by rw [hlen]; exact hw) ?_ (by rw [hlen]; exact hz)
    rw [hlen]
    exact newT (t' := s.toks) I (fun b ob q => Heap.get?_push_of_some _ q) (Nat.le_refl _) (Heap.get?_push_size _ rfl) ((r.drop (HT.sIx xs.length 0 lo)).take (HT.sIx xs.length xs.length hi - HT.sIx xs.length 0 lo))
      (Nat.le_trans (cutV_length xs lo hi) hz) (q2 hw)
end
section
variable {K : PySem.W.Frag} {g : G0} {H : Hp} {Z : Av}
theorem cut_rep {xs : List D} {vs : List V} {lo hi : Option Int} (r : RepL K g H Z xs vs) : RepL K g H Z (cutD xs lo hi) (cutV vs lo hi) := by
  unfold cutD cutV
  rw [r.length]
  exact RepL.take _ (RepL.drop _ r)
theorem cut_whole {xs : List D} {lo hi : Option Int} (h : HT.sIx xs.length 0 lo = 0 ∧ HT.sIx xs.length xs.length hi = xs.length) : cutD xs lo hi = xs := by
  unfold cutD
  rw [h.1, h.2, List.drop_zero, Nat.sub_zero, List.take_length]
theorem slPost {W : WX} {σ : L2.St} {d : D} {v : V} {lo hi : Option Int} {Q : VK} (rx : RepB K g H Z d v) (hp : PostE K g W Z σ H Q (fSl d lo hi)) : (rSlN K v lo hi H Q ∨ rSlL K v lo hi H Q) ∨ rSlS v lo hi H Q := by
  cases d with
  | tup xs =>
    obtain ⟨a, ws, rfl, t, rr⟩ := rx.tup_
    have hl := rr.length
    refine .inl (.inl ⟨a, ws, rfl, t.sqT, fun hw => ?_, fun _ => post_tup hp (cut_rep rr)⟩)
    have e : fSl (.tup xs) lo hi = .ok (.fr (.tup xs)) := by
      show R.ok (Sl.fr (.tup (cutD xs lo hi))) = _
      rw [cut_whole (by rw [hl]; exact hw)]
    rw [e] at hp
    exact hp _ H (Same.refl _) (Rep.tup_.mpr ⟨a, ws, rfl, t, rr⟩)
  | lst xs =>
    obtain ⟨a, ws, rfl, t, rr⟩ := rx.lst_
    exact .inl (.inr ⟨a, ws, rfl, t, fun p hn => post_ow hp hn (cut_rep rr)⟩)
  | str z =>
    have hp : PostE K g W Z σ H Q (if z.length ≤ lim then .ok (.fr (.str (cutS z lo hi))) else .st) := hp
    split at hp
    · exact .inr ⟨z, rx.str_, limLine (by assumption), hp _ H (Same.refl _) (Rep.str_.mpr rfl)⟩
    · exact hp.elim
  | _ => exact hp.elim
end
section
variable {g : G0} {x : L2.St → Prop} {W : WX} {X : Cx} {a b e : Expr} {es : List Expr} {pos p p2 pos2 : Pos} {ma mb : B} {l u : BO}
def tO (K : PySem.W.Frag) (g : G0) (x : L2.St → Prop) (W : WX) (m : BO) : TO := fun σ H Q => ∃ env Z, ERel K g x Z env σ H ∧ match m env with
  | .ok o => ∀ H', Same H H' → Q o H'
  | .ex c p => ∀ H' dd, Same H H' → ExP K g H' Z p dd → W (.ref (g.cl c)) dd σ H'
  | .st => False
abbrev POd (g : G0) (x : L2.St → Prop) (W : WX) (X : Cx) (e : Option Expr) (m : BO) : Prop := PO X e (tO X.K g x W m)
theorem do_none : POd g x W X none oNone := ⟨fun pins s σ H Q I ⟨env, Z, er, hp⟩ => po_none.run pins s σ H Q I (hp H (Same.refl _))⟩
theorem do_some (h : PBd g x W X a ma) : POd g x W X (some a) (oSome ma) := ⟨fun pins s σ H Q I ⟨env, Z, er, hp⟩ => (po_some h).run pins s σ H Q I (by
  refine ⟨env, Z, er, ?_⟩
  unfold oSome at hp
  cases em : ma env with
  | ok d =>
    rw [em] at hp
    intro v H' k r
    cases d with
    | int i => exact ⟨i, r.int_, hp H' k⟩
    | _ => exact hp.elim
  | ex c p => rw [em] at hp; exact hp
  | st => rw [em] at hp; exact hp)⟩
theorem de_sl (he : PBd g x W X e ma) (hl : POd g x W X a' l) (hu : POd g x W X b' u) : PEd g x W X (.Subscript e (.Slice a' b' none p2) pos) (mSl ma l u) :=
  weakE (pe_slice ((sl_tupN.or sl_list).or sl_str) he hl hu) fun σ H Q ⟨env, Z, er, hp⟩ => useB er hp fun d v H1 e1 k1 r1 hp1 => by
    refine ⟨env, Z, er.mono k1, ?_⟩
    cases el : l env with
    | ok lo =>
      rw [el] at hp1
      intro H2 k2
      refine ⟨env, Z, er.mono (k1.trans k2), ?_⟩
      have hp2 : PostE X.K g W Z σ H2 Q ((u env).bind fun hi => fSl d lo hi) := PostE.later k2 hp1
      cases eu : u env with
      | ok hi =>
        rw [eu] at hp2
        intro H3 k3
        exact slPost (r1.mono (k2.trans k3)) (PostE.later k3 hp2)
      | ex c p => rw [eu] at hp2; exact hp2
      | st => rw [eu] at hp2; exact hp2
    | ex c p => rw [el] at hp1; exact hp1
    | st => rw [el] at hp1; exact hp1
end

/-! ### isinstance with a built-in class -/
inductive Ty where
  | int | bool | tuple | list | str
def Ty.nm : Ty → String
  | .int => "int"
  | .bool => "bool"
  | .tuple => "tuple"
  | .list => "list"
  | .str => "str"
def fIs (t : Ty) : D → R Sl
  | .int _ => .ok (.fr (.bl (match t with | .int => true | _ => false)))
  | .bl _ => .ok (.fr (.bl (match t with | .int => true | .bool => true | _ => false)))
  | .str _ => .ok (.fr (.bl (match t with | .str => true | _ => false)))
  | .tup _ => .ok (.fr (.bl (match t with | .tuple => true | _ => false)))
  | .lst _ => .ok (.fr (.bl (match t with | .list => true | _ => false)))
  | .non => .ok (.fr (.bl false))
  | _ => .st
section
variable {K : PySem.W.Frag} {g : G0} {H : Hp} {Z : Av}
theorem isi_rule {X : Cx} (t : Ty) {a : Expr} {pos p p2 : Pos} {ta : TE} (hg : Gl X "isinstance") (hm : X.mg "isinstance" = none) (hg2 : Gl X (Str.ofString t.nm)) (hm2 : X.mg (Str.ofString t.nm) = none) (ha : PE X a ta)
    (hv : bootBuiltins (Str.ofString t.nm) = some (.type t.nm)) (hn : (Str.ofString t.nm) ≠ "__name__") (hd : ((Str.ofString t.nm) == ("__debug__" : Str)) = false)
    (he : starEach [a, .Name (Str.ofString t.nm) p2] X.env = (false, eval a X.env) :: starEach [.Name (Str.ofString t.nm) p2] X.env) (he2 : starEach [.Name (Str.ofString t.nm) p2] X.env = (false, eval (.Name (Str.ofString t.nm) p2) X.env) :: starEach [] X.env) :
    PE X (.Call (.Name "isinstance" p) [a, .Name (Str.ofString t.nm) p2] [] pos) (fun σ H Q => ta σ H fun x H1 => rIsi X.K [x, .ty t.nm] H1 Q) := by
  have q : PA X [a, .Name (Str.ofString t.nm) p2] (tCons ta (tCons (tC (.ty t.nm)) tNil)) := pa_cons ha (pa_cons (pe_bltn (v := .ty t.nm) hg2 hm2 hv rfl hn hd) pa_nil he2) he
  exact pe_callB call_isi hg hm (by decide +kernel) q (by decide) (by decide) he (by rw [he2]; rfl)
theorem tyX_tu {a : Addr} {vs : List V} (h : Tu K H a vs) : TyX K H (.ref a) (.type "tuple") := by
  rcases h with ⟨o, e, _⟩ | ⟨o, its, n, e, c, _⟩
  · exact .fTuple e
  · exact .kTuple e c
theorem tyX_rd {a : Addr} {vs : List V} (h : SqL K H a vs) : TyX K H (.ref a) (.type "list") := by
  rcases h with (e | ⟨o, e⟩) | ⟨o, its, n, e, c, _⟩
  · exact .base (.lst e)
  · exact .base (.frz e)
  · exact .kList e c
theorem uf_is (t : Ty) : UnF K (fun x H Q => rIsi K [x, .ty t.nm] H Q) (fIs t) := by
  intro g W H Z σ x v Q dom rx hp
  have fin : ∀ {n : String} {b : Bool}, kitB n t.nm = some b → TyX K H v (.type n) → Q (.bl b) H → rIsi K [v, .ty t.nm] H Q := fun {n b} hk ty q => ⟨v, .ty t.nm, .type n, .type t.nm, b, rfl, .ty _, ty, kit_ty hk, q⟩
  cases x with
  | non => rw [rx.non_] at fin ⊢; cases t <;> exact fin (n := "NoneType") (by decide +kernel) (.base .non) (hp _ H (Same.refl _) (Rep.bl_.mpr rfl))
  | bl b => rw [rx.bl_] at fin ⊢; cases t <;> exact fin (n := "bool") (by decide +kernel) (.base (.bl b)) (hp _ H (Same.refl _) (Rep.bl_.mpr rfl))
  | int b => rw [rx.int_] at fin ⊢; cases t <;> exact fin (n := "int") (by decide +kernel) (.base (.int b)) (hp _ H (Same.refl _) (Rep.bl_.mpr rfl))
  | str b => rw [rx.str_] at fin ⊢; cases t <;> exact fin (n := "str") (by decide +kernel) (.base (.str b)) (hp _ H (Same.refl _) (Rep.bl_.mpr rfl))
  | tup xs =>
    obtain ⟨a, ws, rfl, tu, rr⟩ := rx.tup_
    cases t <;> exact fin (n := "tuple") (by decide +kernel) (tyX_tu tu) (hp _ H (Same.refl _) (Rep.bl_.mpr rfl))
  | lst xs =>
    obtain ⟨a, ws, rfl, rd, rr⟩ := rx.lst_
    cases t <;> exact fin (n := "list") (by decide +kernel) (tyX_rd rd) (hp _ H (Same.refl _) (Rep.bl_.mpr rfl))
  | obj c fs => exact hp.elim
end
section
variable {g : G0} {x : L2.St → Prop} {W : WX} {X : Cx} {a b e : Expr} {es : List Expr} {pos p p2 pos2 : Pos} {ma mb : B}
theorem de_isi (t : Ty) (hg : Gl X "isinstance") (hm : X.mg "isinstance" = none) (hg2 : Gl X (Str.ofString t.nm)) (hm2 : X.mg (Str.ofString t.nm) = none) (ha : PBd g x W X a ma)
    (hv : bootBuiltins (Str.ofString t.nm) = some (.type t.nm) := by decide +kernel) (hn : (Str.ofString t.nm) ≠ "__name__" := by decide) (hd : ((Str.ofString t.nm) == ("__debug__" : Str)) = false := by decide)
    (he : starEach [a, .Name (Str.ofString t.nm) p2] X.env = (false, eval a X.env) :: starEach [.Name (Str.ofString t.nm) p2] X.env := by rfl) (he2 : starEach [.Name (Str.ofString t.nm) p2] X.env = (false, eval (.Name (Str.ofString t.nm) p2) X.env) :: starEach [] X.env := by rfl) :
    PEd g x W X (.Call (.Name "isinstance" p) [a, .Name (Str.ofString t.nm) p2] [] pos) (mUn (fIs t) ma) :=
  weakE (isi_rule t hg hm hg2 hm2 ha hv hn hd he he2) fun σ H Q ⟨env, Z, er, hp⟩ => useB er hp fun d v H1 e1 k1 r1 hp1 => uf_is t g W H1 Z σ _ _ _ (dom_mono k1 er.dom) r1 hp1
end

/-! ### xs.index(x), t.index(x) -/
def flatD : D → Bool
  | .non => true
  | .bl _ => true
  | .int _ => true
  | .str _ => true
  | _ => false
def fIdxAux (x : D) : List D → Nat → Option Nat
  | [], _ => none
  | d :: ds, n => if eqD d x = true then some n else fIdxAux x ds (n + 1)
def fTupIdx (t x : D) : R Sl := match t with
  | .tup xs => if (flatD x && xs.all flatD) = true then match fIdxAux x xs 0 with
    | some j => .ok (.fr (.int j))
    | none => .st else .st
  | _ => .st
def fLstIdx (t x : D) : R Sl := match t with
  | .lst xs => if (okE (.lst xs) && okE x) = true then match fIdxAux x xs 0 with
    | some j => .ok (.fr (.int j))
    | none => .st else .st
  | _ => .st
def mTupIdx (mo me : B) : M := fun env => (mo env).bind fun t => match t with
  | .tup xs => (me env).bind fun x => fTupIdx (.tup xs) x
  | _ => .st
theorem idx_at {x : D} : ∀ {xs : List D} {n j : Nat}, fIdxAux x xs n = some j → n ≤ j ∧ ∃ d, xs[j - n]? = some d ∧ eqD d x = true ∧ ∀ m e, m < j - n → xs[m]? = some e → eqD e x = false
  | [], n, j, h => by cases h
  | d :: ds, n, j, h => by
    unfold fIdxAux at h
    split at h
    · cases h
      rename_i he
      exact ⟨Nat.le_refl _, d, by rw [Nat.sub_self]; rfl, he, fun m e hm => by omega⟩
    · rename_i he
      obtain ⟨h1, c, h2, h3, h4⟩ := idx_at h
      have ej : j - n = (j - (n + 1)) + 1 := by omega
      refine ⟨by omega, c, by rw [ej]; exact h2, h3, fun m e hm hq => ?_⟩
      cases m with
      | zero =>
        cases hq
        exact Bool.eq_false_iff.mpr he
      | succ m => exact h4 m e (by omega) hq
section
variable {K : PySem.W.Frag} {g : G0} {H : Hp} {Z : Av}
theorem flat_rep {d : D} {v : V} (f : flatD d = true) (r : Rep K g H Z d v) : flatV v = true := by
  cases d with
  | non => rw [Rep.non_.mp r]; rfl
  | bl b => rw [Rep.bl_.mp r]; rfl
  | int b => rw [Rep.int_.mp r]; rfl
  | str b => rw [Rep.str_.mp r]; rfl
  | _ => cases f
theorem flat_eq {d e : D} {v u : V} (f : flatD d = true) (f' : flatD e = true) (r : Rep K g H Z d v) (r' : Rep K g H Z e u) : eqV v u = eqD d e := by
  cases d with
  | non => rw [Rep.non_.mp r]; cases e <;> first | (cases f'; done) | (first | rw [Rep.non_.mp r'] | rw [Rep.bl_.mp r'] | rw [Rep.int_.mp r'] | rw [Rep.str_.mp r']) <;> simp only [eqV, eqD]
  | bl b => rw [Rep.bl_.mp r]; cases e <;> first | (cases f'; done) | (first | rw [Rep.non_.mp r'] | rw [Rep.bl_.mp r'] | rw [Rep.int_.mp r'] | rw [Rep.str_.mp r']) <;> simp only [eqV, eqD]
  | int b => rw [Rep.int_.mp r]; cases e <;> first | (cases f'; done) | (first | rw [Rep.non_.mp r'] | rw [Rep.bl_.mp r'] | rw [Rep.int_.mp r'] | rw [Rep.str_.mp r']) <;> simp only [eqV, eqD]
  | str b => rw [Rep.str_.mp r]; cases e <;> first | (cases f'; done) | (first | rw [Rep.non_.mp r'] | rw [Rep.bl_.mp r'] | rw [Rep.int_.mp r'] | rw [Rep.str_.mp r']) <;> simp only [eqV, eqD]
  | _ => cases f
theorem flat_all : ∀ {ds : List D} {vs : List V}, ds.all flatD = true → RepL K g H Z ds vs → vs.all flatV = true
  | [], vs, _, r => by rw [RepL.nil_.mp r]; rfl
  | d :: ds, vs, f, r => by
    obtain ⟨v, ws, e, h1, h2⟩ := RepL.cons_.mp r
    subst e
    simp only [List.all_cons, Bool.and_eq_true] at f ⊢
    exact ⟨flat_rep f.1 h1, flat_all f.2 h2⟩
theorem flatB {d : D} {v : V} (f : flatD d = true) (r : RepB K g H Z d v) : Rep K g H Z d v := by
  rcases r with r | ⟨xs, _, _, e, _⟩
  · exact r
  · subst e; cases f
theorem RepL.get' : ∀ {ds : List D} {vs : List V} {i : Nat} {v : V}, RepL K g H Z ds vs → vs[i]? = some v → ∃ d, ds[i]? = some d ∧ Rep K g H Z d v := fun {ds vs i v} r e => by
  have hl : i < ds.length := by rw [r.length]; exact (List.getElem?_eq_some_iff.mp e).1
  obtain ⟨w, hw, q⟩ := r.get (List.getElem?_eq_getElem hl)
  rw [e] at hw
  cases hw
  exact ⟨_, List.getElem?_eq_getElem hl, q⟩
theorem all_get {ds : List D} {i : Nat} {d : D} (f : ds.all flatD = true) (h : ds[i]? = some d) : flatD d = true := List.all_eq_true.mp f d (List.mem_of_getElem? h)
end
section
variable {g : G0} {x : L2.St → Prop} {W : WX} {X : Cx} {o e : Expr} {pos apos cpos : Pos} {mo me : B}
theorem de_tupIdx (ho : PBd g x W X o mo) (he : PBd g x W X e me) (hbase : attributeBase o "index" X.env (eval o X.env) = eval o X.env := by rfl) (hline : (apos.endLine == cpos.line) = true := by rfl)
    (hse : starEach [e] X.env = [(false, eval e X.env)] := by rfl) : PEd g x W X (.Call (.Attribute o "index" apos) [e] [] cpos) (mTupIdx mo me) :=
  weakE (pe_bmT PySem.F.plainAttrs_tuple PySem.F.slot_tuple_index PySem.F.type_tuple_index mt_tupIndex ho (pa_cons he pa_nil hse) hbase (by rw [hse]; rfl) hline hse rfl) fun σ H Q ⟨env, Z, er, hp⟩ =>
    useB er hp fun d v H1 e1 k1 r1 hp1 => by
      cases d with
      | tup xs =>
        obtain ⟨a, ws, rfl, tu, rr⟩ := r1.tup_
        refine ⟨⟨a, ws, rfl, tu⟩, ?_⟩
        refine useB (er.mono k1) hp1 fun d2 v2 H2 e2 k2 r2 hp2 => ?_
        have hp2 : PostE X.K g W Z σ H2 Q (if (flatD d2 && xs.all flatD) = true then match fIdxAux d2 xs 0 with
          | some j => .ok (.fr (.int j))
          | none => .st else .st) := hp2
        split at hp2
        · rename_i hf
          rw [Bool.and_eq_true] at hf
          split at hp2
          · rename_i j hj
            obtain ⟨_, c, h2, h3, h4⟩ := idx_at hj
            rw [Nat.sub_zero] at h2 h4
            have rr2 : RepL X.K g H2 Z xs ws := RepL.mono (.same_ k2) _ _ rr
            obtain ⟨z, hz, qz⟩ := rr2.get h2
            have rx := flatB hf.1 r2
            refine ⟨a, ws, v2, j, z, rfl, rfl, ((Kp.same_ (Z := Z) k2).tu tu).sqT, flat_rep hf.1 rx, flat_all hf.2 rr2, hz, ?_, fun m z' hm hz' => ?_, hp2 _ H2 (Same.refl _) (Rep.int_.mpr rfl)⟩
            · rw [flat_eq (all_get hf.2 h2) hf.1 qz rx]; exact h3
            · obtain ⟨d', hd', q'⟩ := rr2.get' hz'
              rw [flat_eq (all_get hf.2 hd') hf.1 q' rx]
              exact h4 m d' hm hd'
          · exact hp2.elim
        · exact hp2.elim
      | _ => exact hp1.elim
end
end DL
set_option Elab.async false
set_option linter.all false
set_option maxRecDepth 100000
namespace DL
open PySem PySem.Spec L2
open PyProof.Rows hiding St

/-! ### enumerate(list or tuple) -/
section
open PySem AutoSeq1
set_option maxHeartbeats 1000000 in
theorem enum_new1 {v : Value} {o : Obj} {G : Heap → Prop} (Bg : Begins v o G) :
    Meets (Builtin.«enumerate.__new__» ⟨[.type "enumerate", v], []⟩) (fun _ R s => G s.heap ∧
      R (.ok (.ret (.ref (s.heap.push o).objs.size))) { s with heap := (s.heap.push o).push { cls := .type "enumerate", data := .fields #[.none, .bool false, .ref s.heap.objs.size, rawInt 0, .none, .none] } }) :=
  .of_wp fun prog w A R s h => by
    obtain ⟨hp, gs, dr, tk, os⟩ := s
    obtain ⟨h1, h⟩ := h
    have hsub := sub_enumerate
    have nx : ∀ {A' : Around} {E : Value → Shared → Prop} {Q : Value → Shared → Prop}, Q (.ref hp.objs.size) ⟨hp.push o, gs, dr, tk, os⟩ → wpAny (model prog w) A' (pyIter v) Q E ⟨hp, gs, dr, tk, os⟩ :=
      fun q => Bg.iter prog w _ _ ⟨hp, gs, dr, tk, os⟩ _ h1 q
    wp_walk using nx
    refine wpAny_stack_any fun st => wpAny_pure ?_
    split
    · rename_i cc _ _ _ _ _
      cases (cc == Value.type "enumerate") <;> (wp_walk using nx; exact ⟨_, rfl, h⟩)
    · wp_walk using nx
      exact ⟨_, rfl, h⟩
theorem enum_call {prog : Program} {w : World} {A : Around} {E : Value → Shared → Prop} {s : Shared} {v : Value} {o : Obj} {G : Heap → Prop} {Q : Value → Shared → Prop} (Bg : Begins v o G) (h1 : G s.heap)
    (h : ∀ h', IsEnum h' (s.heap.objs.size + 1) s.heap.objs.size 0 .none → h'.get? s.heap.objs.size = some o → h'.objs.size = s.heap.objs.size + 2 → (∀ b o, s.heap.get? b = some o → h'.get? b = some o) → Q (.ref (s.heap.objs.size + 1)) { s with heap := h' }) :
    wpAny (model prog w) A (call (.type "enumerate") [v]) Q E s := by
  refine callType_new F.called_enumerate (by decide) (F.typeCall_enumerate_1 _) (F.newCall_enumerate_1 _) (fun obj => F.args_object_init_2 obj _) F.entry_enumerate_new (enum_new1 Bg) ⟨h1, ?_⟩
  have hz : (s.heap.push o).objs.size = s.heap.objs.size + 1 := Heap.size_push ..
  show _ ∧ _
  rw [hz]
  have he : IsEnum ((s.heap.push o).push { cls := .type "enumerate", data := .fields #[.none, .bool false, .ref s.heap.objs.size, rawInt 0, .none, .none] }) (s.heap.objs.size + 1) s.heap.objs.size 0 .none := by
    have q := Heap.get?_push_size (s.heap.push o) (o := { cls := .type "enumerate", data := .fields #[.none, .bool false, .ref s.heap.objs.size, rawInt 0, .none, .none] }) rfl
    rw [hz] at q
    exact q
  exact ⟨⟨_, he, rfl⟩, h _ he (Heap.get?_push_of_some _ (Heap.get?_push_size _ Bg.free)) (by rw [Heap.size_push, hz]) fun b o x => Heap.get?_push_of_some _ (Heap.get?_push_of_some _ x)⟩
end
/-- the items of what sq tells, each in a new pair with its number -/
def ItE (sq : Hp → List V → Prop) : It :=
  ⟨fun i H => ∃ (xs : List V) (x : V), sq H xs ∧ xs[i]? = some x, fun i H v H' => ∃ (T : Addr) (o : Obj) (x : V), v = .ref T ∧ H T = none ∧ o.cls = .type "tuple" ∧ o.dict = none ∧ H' = upd H T (.frz o (.tup [.int (i : Nat), x])) ∧ ∀ xs, sq H xs → xs[i]? = some x,
    fun i H => ∃ xs : List V, sq H xs ∧ xs.length ≤ i⟩
section
variable {P : Program} {w : World} {K : PySem.W.Frag} {elts : List Expr} {kk : Nat} {tpos : Pos}
theorem enum_new_ok {X : Cx} {pins : List (Addr × Obj)} {s : Shared} {σ : L2.St} {H : Hp} {e it : Addr} {i : Nat} {x : V} {u : Value} {tk : Nat} {t : Tok} {h' : Heap} (I : Inv X pins σ H s) (hf : ∀ b ∈ [e, it], FpOk X pins H b)
    (hT : h'.get? s.heap.objs.size = some { cls := .type "tuple", data := .seq #[.int i t, u] }) (ru : RelV x u) (hk : ∀ b o, b ∉ [e, it] → s.heap.get? b = some o → h'.get? b = some o) :
    Inv X pins σ (upd H s.heap.objs.size (.frz { cls := .type "tuple", data := .seq #[.int i t, u] } (.tup [.int (i : Nat), x]))) { s with heap := h', toks := tk } := by
  have new : ObjOk X.prog X.w (upd H s.heap.objs.size (.frz { cls := .type "tuple", data := .seq #[.int i t, u] } (.tup [.int (i : Nat), x]))) h' s.heap.objs.size (.frz { cls := .type "tuple", data := .seq #[.int i t, u] } (.tup [.int (i : Nat), x])) :=
    ⟨hT, by show 2 ≤ sizeLine; decide, [.int i t, u], .cons ⟨_, rfl⟩ (.cons ru .nil), ⟨_, hT, rfl, _, rfl⟩⟩
  exact I.turnedNew (ch := [e, it]) hk hf (Nat.le_refl _) new
theorem turn_enumT (a e it : Addr) : Turn P w K (.Tuple elts kk tpos) (ItE fun H xs => SqT K H a xs) [e, it] e (fun i h => (∃ old, IsEnum h e it ((i : Nat) : Int) old) ∧ h.IsTupleIter it a i ∧ e ≠ it) where
  mem := by simp
  obj := fun i h st b hb => by
    obtain ⟨⟨old, he⟩, ⟨o, ho, hc, hd⟩, _⟩ := st
    rcases (show b = e ∨ b = it by simpa using hb) with z | z
    · rw [z]; exact ⟨_, he, fun v q => nomatch q⟩
    · rw [z]; exact ⟨o, ho, fun v q => by rw [hd] at q; cases q⟩
  keep := fun i h h' st k => let ⟨⟨old, he⟩, hi, hne⟩ := st; ⟨⟨old, k e (by simp) _ he⟩, hi.at fun o q => k it (by simp) o q, hne⟩
  item := by
    intro X hP hw hK hc i pins s σ H E I hf st hg
    subst hP hw hK
    obtain ⟨⟨old, he⟩, hit, hne⟩ := st
    obtain ⟨xs, x, hq, hx⟩ := hg
    obtain ⟨its, rv, p, hz⟩ := I.tuple hq
    obtain ⟨u, hu, ru⟩ := rv.get hx
    have hlt : i < its.toArray.size := by rw [List.size_toArray]; exact (List.getElem?_eq_some_iff.mp hu).1
    have nat : a ≠ it := fun z => by
      obtain ⟨o1, h1, c1, _⟩ := p
      obtain ⟨o2, h2, c2, _⟩ := hit
      rw [z, h2] at h1
      cases h1
      rw [c2] at c1
      injection c1 with q
      exact absurd q (by decide)
    have nae : e ≠ a := fun z => by
      obtain ⟨o1, h1, c1, _⟩ := p
      have h2 : s.heap.get? e = _ := he
      rw [z, h1] at h2
      cases h2
      injection c1 with q
      exact absurd q (by decide)
    have hel : e < s.heap.objs.size := Heap.lt_size he
    have hil : it < s.heap.objs.size := by obtain ⟨_, q, _⟩ := hit; exact Heap.lt_size q
    refine wpAny_pyNext_enum_itemD (Draws.tuple (A := X.A.in1) (show X.A.in1.handled = none from I.ok.hd hc) it a nat its.toArray) he ⟨hit, p⟩ hlt hne (by simp [hne, nae]) fun y h' tk hP ho hs' hT hsz hk => ?_
    have ey : y = u := by
      have hP : its.toArray[i]? = some y := hP
      rw [List.getElem?_toArray, hu] at hP
      exact (Option.some.inj hP).symm
    subst ey
    refine ⟨_, rfl, wpAny_letOwnedTupleGo_enum (s := { s with heap := h', toks := tk + 1 }) ho fun h'' he' sb => ?_⟩
    have hT2 := (sb.2 _ (Nat.ne_of_gt hel)).trans hT
    have I1 := enum_new_ok (tk := tk + 1) I hf hT2 ru fun b ob hb q => (sb.2 b (fun z => hb (by simp [z]))).trans (hk b ob (fun z => hb (by simp [z])) (fun z => hb (by simp [z])) q)
    refine ⟨.ref s.heap.objs.size, _, I1, rfl, ⟨_, _, x, rfl, I.hok.fresh (Nat.le_refl _), rfl, rfl, rfl, fun ys hy => by rw [I.tuple_inj hy hq]; exact hx⟩, ⟨⟨y, ?_⟩, hs'.1.at fun o q => (sb.2 it (Ne.symm hne)).trans q, hne⟩, fun b hb => ?_⟩
    · have e1 : ((i + 1 : Nat) : Int) = (i : Int) + 1 := by omega
      rw [e1]; exact he'
    · have hb' : b < s.heap.objs.size := by
        rcases (show b = e ∨ b = it by simpa using hb) with z | z
        · rw [z]; exact hel
        · rw [z]; exact hil
      rw [upd_ne (Nat.ne_of_lt hb')]
      exact (hf b hb).1
  done := by
    intro X hP hw hK hc i pins s σ H E I hf st hg
    subst hP hw hK
    obtain ⟨⟨old, he⟩, hit, hne⟩ := st
    obtain ⟨xs, hq, hx⟩ := hg
    obtain ⟨its, rv, p, hz⟩ := I.tuple hq
    obtain ⟨f0, f1, f2, f3, f4, f5⟩ := hf it (by simp)
    have hl := rv.length
    have hT : s.TypeIs (.ref e) "enumerate" := ⟨_, he, rfl⟩
    unfold pyNext
    refine wpAny_bind (wpAny_attempt (wpAny_callSpecial?_slot (name := Str.ofString "__next__") hT F.slot_enumerate_next (wpAny_call_entry F.slot_enumerate_next hT F.entry_enumerate_next ?_ (F.args_enumerate_next_1 _))))
    show wpAny _ _ (field (.ref e) 2 >>= _) _ _ _
    refine wpAny_bind (wpAny_field he rfl (x := .ref it) rfl ?_)
    refine wpAny_bind (wpAny_nextOf_tuple_end (show X.A.in1.handled = none from I.ok.hd hc) hit p (by rw [List.getElem?_toArray]; exact List.getElem?_eq_none (by omega)) fun h' y eb hy => ?_)
    obtain ⟨oy, hoy, hcy⟩ := hy
    refine wpAny_bind (wpAny_isInstance (T := "StopIteration") (b := true) ⟨oy, hoy, hcy⟩ isSubtype_stop ?_)
    exact wpAny_pure ⟨rfl, I.turned (t' := s.toks) (fun b o hb q => eb b o hb q) f0 f1 f3 f4 f5⟩
  self := fun A i s Q E st h => let ⟨⟨_, he⟩, _⟩ := st; wpAny_pyIter_enum he h

theorem turn_enumL (a e it : Addr) : Turn P w K (.Tuple elts kk tpos) (ItE fun H xs => SqL K H a xs) [e, it] e (fun i h => (∃ old, IsEnum h e it ((i : Nat) : Int) old) ∧ h.IsListIter it a i ∧ e ≠ it) where
  mem := by simp
  obj := fun i h st b hb => by
    obtain ⟨⟨old, he⟩, ⟨o, ho, hc, hd⟩, _⟩ := st
    rcases (show b = e ∨ b = it by simpa using hb) with z | z
    · rw [z]; exact ⟨_, he, fun v q => nomatch q⟩
    · rw [z]; exact ⟨o, ho, fun v q => by rw [hd] at q; cases q⟩
  keep := fun i h h' st k => let ⟨⟨old, he⟩, hi, hne⟩ := st; ⟨⟨old, k e (by simp) _ he⟩, hi.at fun o q => k it (by simp) o q, hne⟩
  item := by
    intro X hP hw hK hc i pins s σ H E I hf st hg
    subst hP hw hK
    obtain ⟨⟨old, he⟩, hit, hne⟩ := st
    obtain ⟨xs, x, hq, hx⟩ := hg
    obtain ⟨its, rv, p, hz⟩ := I.list hq
    obtain ⟨u, hu, ru⟩ := rv.get hx
    have hel : e < s.heap.objs.size := Heap.lt_size he
    have hil : it < s.heap.objs.size := by obtain ⟨_, q, _⟩ := hit; exact Heap.lt_size q
    refine wpAny_pyNext_enum_item he hit p.isList (x := u) (by simpa using hu) hne fun h' ho hit' hT hsz hk => ?_
    refine ⟨_, rfl, wpAny_letOwnedTupleGo_enum (s := { s with heap := h', toks := s.toks + 1 }) ho fun h'' he' sb => ?_⟩
    have hT2 := (sb.2 _ (Nat.ne_of_gt hel)).trans hT
    have I1 := enum_new_ok (tk := s.toks + 1) I hf hT2 ru fun b ob hb q => (sb.2 b (fun z => hb (by simp [z]))).trans (hk b ob (fun z => hb (by simp [z])) (fun z => hb (by simp [z])) q)
    refine ⟨.ref s.heap.objs.size, _, I1, rfl, ⟨_, _, x, rfl, I.hok.fresh (Nat.le_refl _), rfl, rfl, rfl, fun ys hy => by rw [I.list_inj hy hq]; exact hx⟩, ⟨⟨u, ?_⟩, hit'.at fun o q => (sb.2 it (Ne.symm hne)).trans q, hne⟩, fun b hb => ?_⟩
    · have e1 : ((i + 1 : Nat) : Int) = (i : Int) + 1 := by omega
      rw [e1]; exact he'
    · have hb' : b < s.heap.objs.size := by
        rcases (show b = e ∨ b = it by simpa using hb) with z | z
        · rw [z]; exact hel
        · rw [z]; exact hil
      rw [upd_ne (Nat.ne_of_lt hb')]
      exact (hf b hb).1
  done := by
    intro X hP hw hK hc i pins s σ H E I hf st hg
    subst hP hw hK
    obtain ⟨⟨old, he⟩, hit, hne⟩ := st
    obtain ⟨xs, hq, hx⟩ := hg
    obtain ⟨its, rv, p, hz⟩ := I.list hq
    obtain ⟨f0, f1, f2, f3, f4, f5⟩ := hf it (by simp)
    have hl := rv.length
    exact wpAny_pyNext_enum_end (I.ok.hd hc) he hit p.isList (by simp; omega) fun h' eb => ⟨rfl, I.turned (t' := s.toks) (fun b o hb q => eb b o hb q) f0 f1 f3 f4 f5⟩
  self := fun A i s Q E st h => let ⟨⟨_, he⟩, _⟩ := st; wpAny_pyIter_enum he h
end
section
variable {X : Cx} {e : Expr} {te : TE} {p pos tpos : Pos} {elts : List Expr} {kk : Nat}
theorem pi_enumA (hg : Gl X "enumerate") (hm : X.mg "enumerate" = none) (he : PE X e te) (hs : starEach [e] X.env = (false, eval e X.env) :: starEach [] X.env := by rfl) :
    PI X (.Tuple elts kk tpos) (.Call (.Name "enumerate" p) [e] [] pos) (fun σ H R => te σ H fun v H1 => ∃ a xs, v = .ref a ∧ ((SqL X.K H1 a xs ∧ R (ItE fun H xs => SqL X.K H a xs) H1) ∨ (SqT X.K H1 a xs ∧ R (ItE fun H xs => SqT X.K H a xs) H1))) := by
  refine ⟨fun pins s σ H R I h => ?_⟩
  refine Call_ (ld_blt I hg hm PyProof.Rows.boot_enumerate (PyProof.Rows.callWith_type1 (args_cons (thn (he.run pins s σ H _ I h) fun u s1 ⟨v, H1, I1, r1, q1⟩ => args_nil ?_) hs) hs rfl))
  obtain ⟨a, xs, ev, hq⟩ := q1
  subst ev
  cases r1
  have fp : ∀ b ∈ [s1.heap.objs.size + 1, s1.heap.objs.size], FpOk X pins H1 b := fun b hb => by
    have hle : s1.heap.objs.size ≤ b := by
      rcases (show b = s1.heap.objs.size + 1 ∨ b = s1.heap.objs.size by simpa using hb) with z | z
      · rw [z]; exact Nat.le_add_right _ _
      · rw [z]; exact Nat.le_refl _
    exact I1.fpOk hle (I1.hok.fresh hle)
  rcases hq with ⟨hq, q⟩ | ⟨hq, q⟩
  · obtain ⟨its, rv, p', hz⟩ := I1.list hq
    refine enum_call (begins_list a its.toArray) p'.isList fun h' he ho hsz hk => wpAny_pyIter_enum he ?_
    have I2 : Inv X pins σ H1 { s1 with heap := h' } := I1.kept (t' := s1.toks) hk
    exact ⟨s1.heap.objs.size + 1, [s1.heap.objs.size + 1, s1.heap.objs.size], _, _, H1, rfl, I2, turn_enumL a (s1.heap.objs.size + 1) s1.heap.objs.size, ⟨⟨.none, he⟩, ⟨_, ho, rfl, rfl⟩, Nat.succ_ne_self _⟩, fp, q⟩
  · obtain ⟨its, rv, p', hz⟩ := I1.tuple hq
    refine enum_call (begins_tuple a its.toArray) (show s1.heap.IsTuple a its.toArray from p') fun h' he ho hsz hk => wpAny_pyIter_enum he ?_
    have I2 : Inv X pins σ H1 { s1 with heap := h' } := I1.kept (t' := s1.toks) hk
    exact ⟨s1.heap.objs.size + 1, [s1.heap.objs.size + 1, s1.heap.objs.size], _, _, H1, rfl, I2, turn_enumT a (s1.heap.objs.size + 1) s1.heap.objs.size, ⟨⟨.none, he⟩, ⟨_, ho, rfl, rfl⟩, Nat.succ_ne_self _⟩, fp, q⟩
end
def enumD (n : Nat) : List D → List D
  | [] => []
  | d :: ds => .tup [.int n, d] :: enumD (n + 1) ds
def mEnum (m : M) : En → R (List D) := fun env => (m env).bind fun s => (asSeq s.d).bind fun xs => .ok (enumD 0 xs)
theorem enumD_get : ∀ {xs : List D} {n i : Nat} {d : D}, (enumD n xs)[i]? = some d → ∃ c, xs[i]? = some c ∧ d = .tup [.int ((n + i : Nat) : Int), c]
  | [], n, i, d, h => by simp [enumD] at h
  | x :: xs, n, 0, d, h => by
    unfold enumD at h
    simp at h
    exact ⟨x, rfl, h.symm⟩
  | x :: xs, n, i + 1, d, h => by
    unfold enumD at h
    obtain ⟨c, h1, h2⟩ := enumD_get (by simpa using h)
    exact ⟨c, by simpa using h1, by rw [h2, show n + 1 + i = n + (i + 1) by omega]⟩
theorem enumD_length : ∀ {xs : List D} {n : Nat}, (enumD n xs).length = xs.length
  | [], n => rfl
  | x :: xs, n => by unfold enumD; rw [List.length_cons, List.length_cons, enumD_length]
section
variable {K : PySem.W.Frag} {g : G0} {Z : Av} {H : Hp}
theorem walk_enum {sq : Hp → List V → Prop} {ds : List D} {vs : List V} (r : RepL K g H Z ds vs) (hs : ∀ H', Kp H Z H' (fun _ => False) → sq H' vs) : Walk K g Z H (ItE sq) (enumD 0 ds) where
  go := fun i d H' e k => by
    obtain ⟨c, h1, _⟩ := enumD_get e
    obtain ⟨v, h3, _⟩ := r.get h1
    exact ⟨vs, v, hs H' k, h3⟩
  yld := fun i d H' v H'' e k y => by
    obtain ⟨T, o, x, rfl, hn, oc, od, rfl, hy⟩ := y
    obtain ⟨c, h1, h2⟩ := enumD_get e
    obtain ⟨u, h3, q⟩ := r.get h1
    have e4 := hy vs (hs H' k)
    rw [h3] at e4
    cases e4
    refine ⟨same_upd hn, fun Z' k2 hz => ?_⟩
    rw [h2, Nat.zero_add]
    exact Rep.tup_.mpr ⟨T, _, rfl, .inl ⟨o, upd_same, oc, od⟩, RepL.cons_.mpr ⟨_, _, rfl, Rep.int_.mpr rfl, .one (Rep.mono k2 _ _ q)⟩⟩
  stop := fun i H' l k => ⟨vs, hs H' k, by rw [enumD_length] at l; rw [← r.length]; exact l⟩
end
section
variable {g : G0} {x : L2.St → Prop} {W : WX} {X : Cx} {e : Expr} {p pos tpos : Pos} {elts : List Expr} {kk : Nat} {m : M}
theorem di_enum (hg : Gl X "enumerate") (hm : X.mg "enumerate" = none) (he : PEd g x W X e m) (hs : starEach [e] X.env = (false, eval e X.env) :: starEach [] X.env := by rfl) : PId g x W X (.Tuple elts kk tpos) (.Call (.Name "enumerate" p) [e] [] pos) (mEnum m) :=
  weakI (pi_enumA hg hm he hs) fun σ H Rn ⟨env, Z, er, hp⟩ => by
    refine use er ?_
    unfold mEnum at hp
    cases em : m env with
    | ok s =>
      rw [em] at hp
      have hp : PostI X.K g W Z σ H Rn ((asSeq s.d).bind fun xs => .ok (enumD 0 xs)) := hp
      intro v H' k r
      cases ed : s.d with
      | lst xs =>
        rw [ed] at hp r
        obtain ⟨a, vs, ev, rd, rr⟩ := Rep.lst_.mp r
        exact ⟨a, vs, ev, .inl ⟨rd.sq, hp _ H' k (walk_enum rr fun H2 k2 => (k2.ls rd).sq)⟩⟩
      | tup xs =>
        rw [ed] at hp r
        obtain ⟨a, vs, ev, tu, rr⟩ := Rep.tup_.mp r
        exact ⟨a, vs, ev, .inr ⟨tu.sqT, hp _ H' k (walk_enum rr fun H2 k2 => (k2.tu tu).sqT)⟩⟩
      | _ => rw [ed] at hp; exact hp.elim
    | ex c p => rw [em] at hp; exact hp
    | st => rw [em] at hp; exact hp.elim
end

/-! ### xs.append(ys.pop(k)); a, b = divmod(x, y) -/
section
variable {g : G0} {x : L2.St → Prop} {W : WX} {X : Cx} {ek : Expr} {pos apos cpos apos2 cpos2 p p2 : Pos} {mk : B} {y z : Str}
theorem ds_appPop (i j : Nat) (hN : X.N[i]? = some y) (hv : Vis X.env.scope y) (hd : (y == ("__debug__" : Str)) = false) (hcd : (y == ("__classdict__" : Str)) = false)
    (hN2 : X.N[j]? = some z) (hv2 : Vis X.env.scope z) (hd2 : (z == ("__debug__" : Str)) = false) (hcd2 : (z == ("__classdict__" : Str)) = false) (hk : PBd g x W X ek mk)
    (hb1 : attributeBase (.Name y p) "append" X.env (eval (.Name y p) X.env) = eval (.Name y p) X.env) (hb2 : attributeBase (.Name z p2) "pop" X.env (eval (.Name z p2) X.env) = eval (.Name z p2) X.env)
    (hl1 : (apos.endLine == cpos.line) = true) (hl2 : (apos2.endLine == cpos2.line) = true) (hs2 : starEach [ek] X.env = [(false, eval ek X.env)])
    (hs1 : starEach [.Call (.Attribute (.Name z p2) "pop" apos2) [ek] [] cpos2] X.env = [(false, eval (.Call (.Attribute (.Name z p2) "pop" apos2) [ek] [] cpos2) X.env)])
    (hs : swapsWith (.Call (.Attribute (.Name y p) "append" apos) [.Call (.Attribute (.Name z p2) "pop" apos2) [ek] [] cpos2] [] cpos) none pos.line X.env = pure false) :
    PSd g x W X (.Expr (.Call (.Attribute (.Name y p) "append" apos) [.Call (.Attribute (.Name z p2) "pop" apos2) [ek] [] cpos2] [] cpos) pos) (sAppPop i j mk) :=
  weakS (ps_expr (pe_bm PySem.F.plainAttrs_list PySem.F.slot_list_append PySem.F.type_list_append mt_append (pe_var hN hv hd hcd)
    (pa_cons (pe_bm PySem.F.plainAttrs_list PySem.F.slot_list_pop PySem.F.type_list_pop mt_popAt (pe_var hN2 hv2 hd2 hcd2) (pa_cons hk pa_nil hs2) hb2 (by rw [hs2]; rfl) hl2 hs2 rfl) pa_nil hs1) hb1 (by rw [hs1]; rfl) hl1 hs1 rfl) hs) fun D σ H ⟨env, A, H0, r, hp⟩ => by
    unfold sAppPop at hp
    split at hp
    · rename_i xs ys e1 e2
      obtain ⟨v, f1, a, vs, ev, za, pa, ra⟩ := r.er.at_ i _ e1
      obtain ⟨u, f2, b, ws, eu, zb, pb, rb⟩ := r.er.at_ j _ e2
      subst ev eu
      refine ⟨.ref a, f1, .inl ⟨rfl, vs, SqL.of pa⟩, .ref b, f2, .inl ⟨rfl, ws, SqL.of pb⟩, env, zz A env σ, r.er, ?_⟩
      cases ek : mk env with
      | ok kd =>
        rw [ek] at hp
        intro w H1 k q
        cases kd with
        | int n =>
          have hp : PostS X.K g x W A H0 D (match ixD ys.length n with
            | some l => match ys[l]? with
              | some d => if i ≠ j ∧ xs.length < lim ∧ -1000000 ≤ n ∧ n ≤ 1000000 then .nx ((env.set j (some (.ow (ys.eraseIdx l)))).set i (some (.ow (xs ++ [d])))) else .st
              | none => .st
            | none => .st) := hp
          split at hp
          · rename_i l hl
            split at hp
            · rename_i d hd
              split at hp
              · rename_i hc
                obtain ⟨nij, hlim, h1, h2⟩ := hc
                have nab : a ≠ b := fun q => nij (r.dist i j xs ys a e1 e2 f1 (by rw [q]; exact f2))
                have r1 := r.later k
                have rb1 := RepL.mono (.same_ (Z := zz A env σ) k) _ _ rb
                have ra1 := RepL.mono (.same_ (Z := zz A env σ) k) _ _ ra
                obtain ⟨vd, hvd, qd⟩ := rb1.get hd
                have hix : ixN ws.length n = some l := by rw [← rb.length]; exact hl
                refine ⟨b, ws, n, l, vd, rfl, by rw [q.int_], k _ _ pb, by omega, by omega, (ixN_seq hix).1, hvd, ?_⟩
                refine ⟨a, vs, vd, rfl, rfl, by rw [upd_ne nab]; exact k _ _ pa, by rw [← ra.length]; exact limLine' hlim, ?_⟩
                have r2 := r1.mut e2 f2 (rb1.eraseIdx l)
                have e1' : (env.set j (some (.ow (ys.eraseIdx l))))[i]? = some (some (.ow xs)) := by rw [List.getElem?_set_ne (Ne.symm nij)]; exact e1
                have kz : Kp H1 (zz A env σ) (upd H1 b (.lst (ws.eraseIdx l))) (zz A (env.set j (some (.ow (ys.eraseIdx l)))) σ) := by
                  have hj : j < env.length := (List.getElem?_eq_some_iff.mp e2).1
                  refine ⟨fun c o e n => by rw [upd_ne (fun q => n (by rw [q]; exact zb))]; exact e, fun c o ts e => ?_, fun c _ n z => n ?_⟩
                  · rw [upd_ne]
                    · exact e
                    · intro q
                      rw [q, k _ _ pb] at e
                      cases e
                  · rcases z with z | ⟨m, us, g1, g2⟩
                    · exact .inl z
                    · rcases set_get g1 with ⟨jm, _, _⟩ | ⟨_, g1⟩
                      · subst jm; exact .inr ⟨j, ys, e2, g2⟩
                      · exact .inr ⟨m, us, g1, g2⟩
                exact hp σ _ (r2.mut e1' f1 ((RepL.mono kz _ _ ra1).append (.one (Rep.mono kz _ _ qd))))
              · exact hp.elim
            · exact hp.elim
          · exact hp.elim
        | _ => exact hp.elim
      | ex c p => rw [ek] at hp; exact fun H' dd k q => hp σ H' dd (r.later k) (exA q)
      | st => rw [ek] at hp; exact hp
    · exact hp.elim
end
theorem call_divmodN {X : Cx} : CallR X (.builtin "divmod") (fun xs H Q => ∃ i j, xs = [.int i, .int j] ∧ CDiv i j ∧ NewT H [.int (i / j), .int (i % j)] Q) := by
  intro pins s σ H xs us Q I r h
  obtain ⟨i, j, rfl, ⟨h1, h2⟩, q⟩ := h
  obtain ⟨u, w', rfl, ⟨t, rfl⟩, ⟨t', rfl⟩⟩ := vals2 r
  refine divmod_int (by omega) ?_ (.inl (PyProof.noPylong_small (by omega)))
  rw [Int.fdiv_eq_ediv_of_nonneg i (by omega), Int.fmod_eq_emod_of_nonneg i (by omega)]
  exact newT (vs := [V.int (i / j), V.int (i % j)]) (us := [.int (i / j) s.toks, .int (i % j) (s.toks + 1)]) I (fun b o e => Heap.get?_push_of_some _ e) (Nat.le_refl _) (Heap.get?_push_size _ rfl) (.cons ⟨_, rfl⟩ (.cons ⟨_, rfl⟩ .nil)) (by show 2 ≤ sizeLine; rw [sizeLine_eq]; decide) q
def fDivmod : List D → R Sl
  | [.int a, .int b] => if 0 < b ∧ b < 1073741824 then .ok (.fr (.tup [.int (a / b), .int (a % b)])) else .st
  | _ => .st
theorem cf_divmod {K : PySem.W.Frag} : CallF K (fun xs H Q => ∃ i j, xs = [.int i, .int j] ∧ CDiv i j ∧ NewT H [.int (i / j), .int (i % j)] Q) fDivmod := by
  intro g W H Z σ xs vs Q dom r hp
  unfold fDivmod at hp
  split at hp
  · obtain ⟨v, u, rfl, r1, r2⟩ := r.two_
    split at hp
    · rename_i hb
      exact ⟨_, _, by rw [r1.int_, r2.int_], hb, post_tup hp (RepL.cons_.mpr ⟨_, _, rfl, Rep.int_.mpr rfl, .one (Rep.int_.mpr rfl)⟩)⟩
    · exact hp.elim
  · exact hp.elim
section
variable {g : G0} {x : L2.St → Prop} {W : WX} {X : Cx} {e : Expr} {es : List Expr} {pos p : Pos} {mr : En → R (List D)}
theorem de_divmod (hg : Gl X "divmod") (hm : X.mg "divmod" = none) (ha : PBAd g x W X (e :: es) mr) (he : starEach (e :: es) X.env = (false, eval e X.env) :: starEach es X.env := by rfl) (hpl : (backTo pos (starEach es X.env)).any (·.1) = false := by rfl) :
    PEd g x W X (.Call (.Name "divmod" p) (e :: es) [] pos) (mCall fDivmod mr) := de_callB call_divmodN cf_divmod hg hm (by decide +kernel) ha (by decide) (by decide) he hpl
end
end DL
set_option Elab.async false
set_option linter.all false
set_option maxRecDepth 100000
namespace DL
open PySem PySem.Spec L2
open PyProof.Rows hiding St

/-! ### f-strings -/
def fFmt : D → R Sl
  | .str y => if y.length ≤ lim then .ok (.fr (.str y)) else .st
  | .int i => if i.natAbs.log2 < 1920 then .ok (.fr (.str (toString i))) else .st
  | _ => .st
def mJ : List B → Str → En → R Str
  | [], acc, _ => .ok acc
  | m :: ms, acc, env => (m env).bind fun d => match d with
    | .str y => if (acc ++ y).length ≤ lim then mJ ms (acc ++ y) env else .st
    | _ => .st
def mJoin (ms : List B) : M := fun env => (mJ ms Str.empty env).bind fun z => .ok (.fr (.str z))
inductive PJd (g : G0) (x : L2.St → Prop) (W : WX) (X : Cx) : List Expr → List B → Prop where
  | nil : PJd g x W X [] []
  | cons {e : Expr} {m : B} {es : List Expr} {ms : List B} (h : PBd g x W X e m) (r : PJd g x W X es ms) : PJd g x W X (e :: es) (m :: ms)
section
variable {g : G0} {x : L2.St → Prop} {W : WX} {X : Cx} {e v1 v2 : Expr} {rest : List Expr} {pos p : Pos} {m : B} {ms : List B}
theorem de_fmt (he : PBd g x W X e m) : PEd g x W X (.FormattedValue e (-1) none pos) (mUn fFmt m) :=
  weakE (pe_fmt he) fun σ H Q ⟨env, Z, er, hp⟩ => useB er hp fun d v H1 e1 k1 r1 hp1 => by
    cases d with
    | str y =>
      simp only [fFmt] at hp1
      split at hp1
      · exact .inl ⟨y, r1.str_, limLine (by assumption), hp1 _ H1 (Same.refl _) (Rep.str_.mpr rfl)⟩
      · exact hp1.elim
    | int i =>
      simp only [fFmt] at hp1
      split at hp1
      · exact .inr ⟨i, r1.int_, by assumption, hp1 _ H1 (Same.refl _) (Rep.str_.mpr rfl)⟩
      · exact hp1.elim
    | _ => exact hp1.elim
theorem pj_of {es : List Expr} (h : PJd g x W X es ms) : PJ X es (ms.map fun m => tB X.K g x W m) := by
  induction h with
  | nil => exact .nil
  | cons h r ih => exact .cons h ih
theorem tjs_ok {K : PySem.W.Frag} : ∀ (ms : List B) (acc : Str) (env : En) (Z : Av) (σ : L2.St) (H : Hp) (Q : Str → Hp → Prop), ERel K g x Z env σ H →
    (match mJ ms acc env with | .ok z => ∀ H', Same H H' → Q z H' | .ex c p => ∀ H' dd, Same H H' → ExP K g H' Z p dd → W (.ref (g.cl c)) dd σ H' | .st => False) → tJs (ms.map fun m => tB K g x W m) acc σ H Q
  | [], acc, env, Z, σ, H, Q, er, hp => hp H (Same.refl _)
  | m :: ms, acc, env, Z, σ, H, Q, er, hp => by
    refine ⟨env, Z, er, ?_⟩
    unfold mJ at hp
    cases em : m env with
    | ok d =>
      rw [em] at hp
      intro v H1 k r
      cases d with
      | str y =>
        have hp : (match (if (acc ++ y).length ≤ lim then mJ ms (acc ++ y) env else .st) with | .ok z => ∀ H', Same H H' → Q z H' | .ex c p => ∀ H' dd, Same H H' → ExP K g H' Z p dd → W (.ref (g.cl c)) dd σ H' | .st => False) := hp
        split at hp
        all_goals (rename_i eq; split at eq <;> first | cases eq | skip)
        all_goals first
          | (refine ⟨y, r.str_, limLine (by assumption), tjs_ok ms (acc ++ y) env Z σ H1 Q (er.mono k) ?_⟩
             rw [eq]
             first
               | exact fun H2 k2 => hp H2 (k.trans k2)
               | exact fun H2 dd k2 q => hp H2 dd (k.trans k2) q)
          | exact hp.elim
      | _ => exact hp.elim
    | ex c p => rw [em] at hp; exact hp
    | st => rw [em] at hp; exact hp
theorem de_joined (h : PJd g x W X (v1 :: v2 :: rest) ms) : PEd g x W X (.JoinedStr (v1 :: v2 :: rest) pos) (mJoin ms) :=
  weakE (pe_joined (pj_of h)) fun σ H Q ⟨env, Z, er, hp⟩ => by
    refine tjs_ok ms Str.empty env Z σ H _ er ?_
    unfold mJoin at hp
    cases ej : mJ ms Str.empty env with
    | ok z => rw [ej] at hp; exact fun H' k => hp _ H' k (Rep.str_.mpr rfl)
    | ex c p => rw [ej] at hp; exact hp
    | st => rw [ej] at hp; exact hp
end

/-! ### isinstance of the caught error -/
section
variable {g : G0} {W : WX} {X : Cx} {a Dc : Addr} {oe : Obj} {pn : List (Addr × Obj)} {i : Nat} {n y : Str} {p p2 p3 pos : Pos}
theorem de_isE {c : V} {cv : Value} {b : Bool} (C : ExcC X.K Dc) (hz : Zc (.ref Dc) none oe) (hf : ∃ vs, oe.data = .fields vs) (hk : PySem.W.kitOne X.K (.ref Dc) cv = some b) (hcv : ∀ u, RelV c u → u = cv)
    (hg : Gl (X.suite a ((a, oe) :: pn)) "isinstance") (hm : X.mg "isinstance" = none) (hc : PE (X.suite a ((a, oe) :: pn)) (.Name y p3) (tC c))
    (hN : X.N[i]? = some n) (hv : Vis X.env.scope n) (hd : (n == ("__debug__" : Str)) = false) (hcd : (n == ("__classdict__" : Str)) = false)
    (he : starEach [.Name n p2, .Name y p3] X.env = (false, eval (.Name n p2) X.env) :: starEach [.Name y p3] X.env) (he2 : starEach [.Name y p3] X.env = (false, eval (.Name y p3) X.env) :: starEach [] X.env) :
    PEd g (xS a i) W (X.suite a ((a, oe) :: pn)) (.Call (.Name "isinstance" p) [.Name n p2, .Name y p3] [] pos) (mC (.bl b)) := by
  have q : PA (X.suite a ((a, oe) :: pn)) [.Name n p2, .Name y p3] (tCons (tVar i) (tCons (tC c) tNil)) := pa_cons (pe_var (X := X.suite a ((a, oe) :: pn)) hN hv hd hcd) (pa_cons hc pa_nil he2) he
  refine weakE (pe_callB (call_isE C hz hf) hg hm (by decide +kernel) q (by decide) (by decide) he (by rw [show starEach [.Name y p3] (X.suite a ((a, oe) :: pn)).env = (false, eval (.Name y p3) X.env) :: starEach [] X.env from he2]; rfl)) fun σ H Q ⟨env, Z, er, hp⟩ => ?_
  exact ⟨.ref a, er.ex, c, cv, b, rfl, hcv, hk, hp _ H (Same.refl _) (Rep.bl_.mpr rfl)⟩
end
end DL
set_option linter.all false
set_option maxRecDepth 100000
set_option maxHeartbeats 4000000
namespace DL
open PySem PySem.Spec L2
open PyProof.Rows hiding St
section
variable {g : G0} {x : L2.St → Prop} {W : WX} {X : Cx}
theorem dss_st {ss : List Stmt} : PSsd g x W X ss (fun _ => .st) := weakSs pss_never fun _ _ _ ⟨_, _, _, _, h⟩ => h
def sup (p : Pl) (m : MS) : MS := match p with
  | none => m
  | some _ => fun _ => .st
theorem sup_case {ss : List Stmt} {m : MS} {p : Pl} {d : Option Addr} {C : Value} {oe : Obj} (hpd : p = none → d = none) (hz : Zc C d oe) (h : Zc C none oe → PSsd g x W X ss m) : PSsd g x W X ss (sup p m) := by
  cases p with
  | none => have := hpd rfl; subst this; exact h hz
  | some v => exact dss_st
end
section
variable {g : G0} {W : WX} {X : Cx} {a Dc : Addr} {oe : Obj} {pn : List (Addr × Obj)} {i : Nat} {n y : Str} {p p2 p3 pos : Pos}
theorem de_isEc {c : Addr} {b : Bool} (C : ExcC X.K Dc) (hz : Zc (.ref Dc) none oe) (hf : ∃ vs, oe.data = .fields vs) (hk : PySem.W.kitOne X.K (.ref Dc) (.ref c) = some b)
    (hg : Gl (X.suite a ((a, oe) :: pn)) "isinstance") (hm : X.mg "isinstance" = none) (hg2 : Gl (X.suite a ((a, oe) :: pn)) y) (hm2 : X.mg y = some (.ref c))
    (hN : X.N[i]? = some n) (hv : Vis X.env.scope n) (hd : (n == ("__debug__" : Str)) = false) (hcd : (n == ("__classdict__" : Str)) = false) (hdy : (y == ("__debug__" : Str)) = false)
    (he : starEach [.Name n p2, .Name y p3] X.env = (false, eval (.Name n p2) X.env) :: starEach [.Name y p3] X.env) (he2 : starEach [.Name y p3] X.env = (false, eval (.Name y p3) X.env) :: starEach [] X.env) :
    PEd g (xS a i) W (X.suite a ((a, oe) :: pn)) (.Call (.Name "isinstance" p) [.Name n p2, .Name y p3] [] pos) (mC (.bl b)) :=
  de_isE (c := .ref c) C hz hf hk (fun _ h => h) hg hm (pe_glob hg2 hm2 rfl hdy) hN hv hd hcd he he2
theorem de_isEb {t : String} {b : Bool} (C : ExcC X.K Dc) (hz : Zc (.ref Dc) none oe) (hf : ∃ vs, oe.data = .fields vs) (hk : PySem.W.kitOne X.K (.ref Dc) (.type t) = some b)
    (hg : Gl (X.suite a ((a, oe) :: pn)) "isinstance") (hm : X.mg "isinstance" = none) (hg2 : Gl (X.suite a ((a, oe) :: pn)) y) (hm2 : X.mg y = none) (hbt : bootBuiltins y = some (.type t))
    (hN : X.N[i]? = some n) (hv : Vis X.env.scope n) (hd : (n == ("__debug__" : Str)) = false) (hcd : (n == ("__classdict__" : Str)) = false) (hdy : (y == ("__debug__" : Str)) = false) (hny : y ≠ "__name__")
    (he : starEach [.Name n p2, .Name y p3] X.env = (false, eval (.Name n p2) X.env) :: starEach [.Name y p3] X.env) (he2 : starEach [.Name y p3] X.env = (false, eval (.Name y p3) X.env) :: starEach [] X.env) :
    PEd g (xS a i) W (X.suite a ((a, oe) :: pn)) (.Call (.Name "isinstance" p) [.Name n p2, .Name y p3] [] pos) (mC (.bl b)) :=
  de_isE (c := .ty t) C hz hf hk (fun _ h => h) hg hm (pe_bltn hg2 hm2 hbt rfl hny hdy) hN hv hd hcd he he2
end
theorem repl_ints {K : PySem.W.Frag} {g : G0} {H : Hp} {Z : Av} : ∀ ns : List Int, RepL K g H Z (ns.map D.int) (ns.map V.int)
  | [] => by unfold RepL; rfl
  | n :: r => by
    show RepL K g H Z (D.int n :: r.map D.int) (V.int n :: r.map V.int)
    unfold RepL
    exact ⟨_, _, rfl, by unfold Rep; rfl, repl_ints r⟩
theorem prom_of {K : PySem.W.Frag} {g : G0} {f : Fn} {ns : List Int} {a : Addr} {vs : List V} {H : Hp} {Q : VK} {E : XK} (e : vs = [.ref a]) (hs : SqL K H a (ns.map V.int)) (hf : f [.lst (ns.map .int)] = .ok (.fr (.bl true))) (k : ∀ H', Q (.bl true) H') : Prom K g f vs H Q E := by
  subst e
  refine ⟨fun _ => False, [.lst (ns.map .int)], fun _ z => z.elim, ?_, ?_⟩
  · unfold RepL
    refine ⟨_, _, rfl, Rep.lst_.mpr ⟨a, _, rfl, ?_, repl_ints ns⟩, by unfold RepL; rfl⟩
    rcases hs with h | h
    · exact .inl ⟨fun z => z, h⟩
    · exact .inr h
  · rw [hf]
    intro v H' _ r
    have := Rep.bl_.mp r
    subst this
    exact k _
open PySem.W in
theorem kit_own {K : Frag} {t : Value} {C : Addr} {b : Bool} (hd : hasDictIn K C = true) (ht : typeIn K (.ref C) = some (.type "type")) (he : subIn K t (.ref C) = some b) (hs : subIn K (.ref C) (.ref C) = some true) : kitOne K t (.ref C) = some b := by
  unfold kitOne
  by_cases e : t = .ref C
  · subst e
    rw [hs] at he
    cases he
    rw [if_pos (beq_self_eq_true _)]
  · rw [if_neg (by rwa [beq_iff_eq])]
    obtain ⟨cd, hc, _⟩ := any_some hd
    show (if ((clsIn K C).isSome && typeIn K (.ref C) == some (.type "type")) = true then subIn K t (.ref C) else none) = some b
    rw [if_pos (by rw [hc, ht] <;> rfl)]
    exact he
open PySem.W in
theorem kit_blt {K : Frag} {C : Addr} {T : String} {b : Bool} (hm : kitMeta T = true) (he : subIn K (.ref C) (.type T) = some b) : kitOne K (.ref C) (.type T) = some b := by
  unfold kitOne
  rw [if_neg (by rw [beq_iff_eq]; intro q; cases q)]
  show (if kitMeta T = true then subIn K (.ref C) (.type T) else none) = some b
  rw [if_pos hm]
  exact he
end DL
set_option Elab.async false
set_option linter.all false
set_option maxRecDepth 100000
set_option maxHeartbeats 4000000
namespace DL
open PySem PySem.Spec L2
open PyProof.Rows hiding St

/-! ### is None -/
def isNon : D → Bool
  | .non => true
  | _ => false
def fIsN : D → D → R Sl
  | d, .non => .ok (.fr (.bl (isNon d)))
  | _, _ => .st
def fNotN : D → D → R Sl
  | d, .non => .ok (.fr (.bl (!isNon d)))
  | _, _ => .st
section
variable {K : PySem.W.Frag} {g : G0} {H : Hp} {Z : Av}
theorem RepB.isNon {d : D} {v : V} (h : RepB K g H Z d v) : decide (v = .non) = isNon d := by
  rcases h with h | ⟨xs, a, vs, e1, e2, _, _⟩
  · cases d with
    | non => rw [Rep.non_.mp h]; rfl
    | bl b => rw [Rep.bl_.mp h]; rfl
    | int i => rw [Rep.int_.mp h]; rfl
    | str y => rw [Rep.str_.mp h]; rfl
    | tup xs => obtain ⟨a, vs, e, _⟩ := Rep.tup_.mp h; rw [e]; rfl
    | lst xs => obtain ⟨a, vs, e, _⟩ := Rep.lst_.mp h; rw [e]; rfl
    | obj c fs =>
      unfold Rep at h
      obtain ⟨a, dx, vs, e, _⟩ := h
      rw [e]; rfl
  · subst e1 e2; rfl
theorem RepB.non' {v : V} (h : RepB K g H Z .non v) : v = .non := by
  rcases h with h | ⟨xs, a, vs, e1, _⟩
  · exact Rep.non_.mp h
  · cases e1
theorem of_isN : OpF K (fun x y H Q => y = .non ∧ Q (.bl (decide (x = .non))) H) fIsN := by
  intro g W H Z σ x y v u Q dom rx ry hp
  cases y <;> first | exact hp.elim | skip
  refine ⟨ry.non', ?_⟩
  rw [rx.isNon]
  exact hp _ H (Same.refl _) (Rep.bl_.mpr rfl)
theorem of_notN : OpF K (fun x y H Q => y = .non ∧ Q (.bl (!decide (x = .non))) H) fNotN := by
  intro g W H Z σ x y v u Q dom rx ry hp
  cases y <;> first | exact hp.elim | skip
  refine ⟨ry.non', ?_⟩
  rw [rx.isNon]
  exact hp _ H (Same.refl _) (Rep.bl_.mpr rfl)
end

/-! ### in -/
def rInT (K : PySem.W.Frag) (n : Bool) : R2 := fun x y H Q => ∃ d ds, Dp K H x d ∧ (Dp K H y (.list ds) ∨ Dp K H y (.tuple ds)) ∧ SeqAt.shaped d = true ∧ SeqAt.shaped (.list ds) = true ∧ Q (.bl (if n = true then !ds.any fun z => PyData.eqv z d else ds.any fun z => PyData.eqv z d)) H
section
variable {X : Cx}
theorem op_inA (hu : X.A.units + 65 < cLine) : OpR X (compareOp .In) (rInT X.K false) := by
  intro pins s σ H x y v u Q I rx ry h
  obtain ⟨d, ds, hd, he, sd, se, q⟩ := h
  obtain ⟨as, r1⟩ := Dp.reads I d x v hd rx
  have q : Q (.bl (ds.any fun z => PyData.eqv z d)) H := q
  rcases he with he | he
  · obtain ⟨bs, r2⟩ := Dp.reads I (.list ds) y u he ry
    exact SeqAt.in_list_reads r2 r1 (SeqAt.canLay_of_shaped se) (SeqAt.canLay_of_shaped sd) (room_in_shaped sd hu) ⟨.bl _, H, I, rfl, q⟩
  · obtain ⟨bs, r2⟩ := Dp.reads I (.tuple ds) y u he ry
    exact SeqAt.in_tuple_reads r2 r1 (SeqAt.canLay_of_shaped se) (SeqAt.canLay_of_shaped sd) (room_in_shaped sd hu) ⟨.bl _, H, I, rfl, q⟩
theorem op_ninA (hu : X.A.units + 65 < cLine) : OpR X (compareOp .NotIn) (rInT X.K true) := by
  intro pins s σ H x y v u Q I rx ry h
  obtain ⟨d, ds, hd, he, sd, se, q⟩ := h
  obtain ⟨as, r1⟩ := Dp.reads I d x v hd rx
  have q : Q (.bl (!ds.any fun z => PyData.eqv z d)) H := q
  rcases he with he | he
  · obtain ⟨bs, r2⟩ := Dp.reads I (.list ds) y u he ry
    exact SeqAt.notIn_list_reads r2 r1 (SeqAt.canLay_of_shaped se) (SeqAt.canLay_of_shaped sd) (room_in_shaped sd hu) ⟨.bl _, H, I, rfl, q⟩
  · obtain ⟨bs, r2⟩ := Dp.reads I (.tuple ds) y u he ry
    exact SeqAt.notIn_tuple_reads r2 r1 (SeqAt.canLay_of_shaped se) (SeqAt.canLay_of_shaped sd) (room_in_shaped sd hu) ⟨.bl _, H, I, rfl, q⟩
end
def seqOf : D → Option (List D)
  | .lst ys => some ys
  | .tup ys => some ys
  | _ => none
def inD (x : D) (ys : List D) : Bool := ys.any fun y => eqD y x
def fInA (n : Bool) (x y : D) : R Sl := match seqOf y with
  | some ys => if (okE x && okE (.lst ys)) = true then .ok (.fr (.bl (if n = true then !inD x ys else inD x ys))) else .st
  | none => .st
def fIn : D → D → R Sl := fInA false
def fNotIn : D → D → R Sl := fInA true
theorem any_eqv {x : D} (hx : noObj x = true) : ∀ ys : List D, noObjL ys = true → ((toPyL ys).any fun z => PyData.eqv z (toPy x)) = inD x ys
  | [], _ => by simp [toPyL, inD]
  | y :: ys, h => by
    simp only [noObjL, Bool.and_eq_true] at h
    have ih := any_eqv hx ys h.2
    unfold inD at ih ⊢
    simp only [toPyL, List.any_cons, ih, eqv_py y x h.1 hx]
section
variable {K : PySem.W.Frag} {g : G0} {H : Hp} {Z : Av}
theorem of_inA (n : Bool) : OpF K (rInT K n) (fInA n) := by
  intro g W H Z σ x y v u Q dom rx ry hp
  unfold fInA at hp
  cases es : seqOf y with
  | none => rw [es] at hp; exact hp.elim
  | some ys =>
    rw [es] at hp
    have hp : PostE K g W Z σ H Q (if (okE x && okE (.lst ys)) = true then .ok (.fr (.bl (if n = true then !inD x ys else inD x ys))) else .st) := hp
    split at hp
    · rename_i hm
      simp only [okE, Bool.and_eq_true] at hm
      have nl : noObjL ys = true := by simpa [noObj] using hm.2.1
      have tl : toPy (.lst ys) = .list (toPyL ys) := by simp [toPy]
      refine ⟨toPy x, toPyL ys, rx.dp hm.1.1, ?_, hm.1.2, by rw [← tl]; exact hm.2.2, ?_⟩
      · cases y with
        | lst zs =>
          cases es
          have q := ry.dp hm.2.1
          rw [tl] at q
          exact .inl q
        | tup zs =>
          cases es
          have q := ry.dp (d := .tup ys) (by simpa [noObj] using nl)
          rw [show toPy (.tup ys) = .tuple (toPyL ys) by simp [toPy]] at q
          exact .inr q
        | _ => cases es
      · rw [any_eqv hm.1.1 ys nl]
        exact hp _ H (Same.refl _) (Rep.bl_.mpr rfl)
    · exact hp.elim
end
section
variable {g : G0} {x : L2.St → Prop} {W : WX} {X : Cx} {a b c e : Expr} {es : List Expr} {pos p : Pos} {ma mb mc : B}
theorem de_isN (ha : PBd g x W X a ma) (hb : PBd g x W X b mb) : PEd g x W X (.Compare a [.Is] [b] pos) (mBin fIsN ma mb) := de_cmp op_isN of_isN ha hb (nomark _)
theorem de_notN (ha : PBd g x W X a ma) (hb : PBd g x W X b mb) : PEd g x W X (.Compare a [.IsNot] [b] pos) (mBin fNotN ma mb) := de_cmp op_notN of_notN ha hb (nomark _)
theorem dt_isN (ha : PBd g x W X a ma) (hb : PBd g x W X b mb) : PTd g x W X (.Compare a [.Is] [b] pos) (mTest (mB (mBin fIsN ma mb))) := dt_cmp op_isN of_isN ha hb (nomark _)
theorem dt_notN (ha : PBd g x W X a ma) (hb : PBd g x W X b mb) : PTd g x W X (.Compare a [.IsNot] [b] pos) (mTest (mB (mBin fNotN ma mb))) := dt_cmp op_notN of_notN ha hb (nomark _)
theorem de_in (hu : X.A.units + 65 < cLine) (ha : PBd g x W X a ma) (hb : PBd g x W X b mb) (hm : behindInMarks .In b = false := by rfl) : PEd g x W X (.Compare a [.In] [b] pos) (mBin fIn ma mb) := de_cmp (op_inA hu) (of_inA false) ha hb hm
theorem de_nin (hu : X.A.units + 65 < cLine) (ha : PBd g x W X a ma) (hb : PBd g x W X b mb) (hm : behindInMarks .NotIn b = false := by rfl) : PEd g x W X (.Compare a [.NotIn] [b] pos) (mBin fNotIn ma mb) := de_cmp (op_ninA hu) (of_inA true) ha hb hm
theorem dt_in (hu : X.A.units + 65 < cLine) (ha : PBd g x W X a ma) (hb : PBd g x W X b mb) (hm : behindInMarks .In b = false := by rfl) : PTd g x W X (.Compare a [.In] [b] pos) (mTest (mB (mBin fIn ma mb))) := dt_cmp (op_inA hu) (of_inA false) ha hb hm
theorem dt_nin (hu : X.A.units + 65 < cLine) (ha : PBd g x W X a ma) (hb : PBd g x W X b mb) (hm : behindInMarks .NotIn b = false := by rfl) : PTd g x W X (.Compare a [.NotIn] [b] pos) (mTest (mB (mBin fNotIn ma mb))) := dt_cmp (op_ninA hu) (of_inA true) ha hb hm

/-! ### two comparisons in a row -/
def mChain (F G : D → D → R Sl) (ma mb mc : B) : M := fun env => (ma env).bind fun u => (mb env).bind fun v => (F u v).bind fun s => (asB s.d).bind fun k => if k = true then (mc env).bind fun w => G v w else .ok (.fr (.bl false))
theorem chainOk {r r' : R2} {F G : D → D → R Sl} (hF : OpF X.K r F) (hG : OpF X.K r' G) {σ : L2.St} {H : Hp} {Q : VK} (h : tM X.K g x W (mChain F G ma mb mc) σ H Q) : tChain r r' (tB X.K g x W ma) (tB X.K g x W mb) (tB X.K g x W mc) σ H Q := by
  obtain ⟨env, Z, er, hp⟩ := h
  refine useB er hp fun s v H1 e1 k1 r1 hp1 => ?_
  refine useB (er.mono k1) hp1 fun s2 u H2 e2 k2 r2 hp2 => ?_
  have er2 := (er.mono k1).mono k2
  refine hF g W H2 Z σ _ _ _ _ _ (dom_mono (k1.trans k2) er.dom) (r1.mono k2) r2 ?_
  cases ef : F s s2 with
  | ok t =>
    rw [ef] at hp2
    have hp2 : PostE X.K g W Z σ H2 Q ((asB t.d).bind fun k => if k = true then (mc env).bind fun w => G s2 w else .ok (.fr (.bl false))) := hp2
    cases t with
    | ow xs => exact hp2.elim
    | fr d =>
      cases d with
      | bl b =>
        intro z H3 k3 rz
        refine ⟨b, Rep.bl_.mp rz, ?_⟩
        cases b with
        | false =>
          have hp3 : PostE X.K g W Z σ H2 Q (.ok (.fr (.bl false))) := hp2
          rw [if_neg Bool.false_ne_true]
          exact hp3 _ H3 k3 (Rep.bl_.mpr rfl)
        | true =>
          have hp3 : PostE X.K g W Z σ H2 Q ((mc env).bind fun w => G s2 w) := hp2
          rw [if_pos rfl]
          refine useB (er2.mono k3) (hp3.later k3) fun w w' H4 e4 k4 r4 hp4 => ?_
          exact hG g W H4 Z σ _ _ _ _ _ (dom_mono (k3.trans k4) er2.dom) (r2.mono (k3.trans k4)) r4 hp4
      | _ => exact hp2.elim
  | ex c p => rw [ef] at hp2; exact hp2
  | st => rw [ef] at hp2; exact hp2
theorem de_chain {op op' : CmpOp} {r r' : R2} {F G : D → D → R Sl} (ho : OpR X (compareOp op) r) (hF : OpF X.K r F) (ho' : OpR X (compareOp op') r') (hG : OpF X.K r' G) (ha : PBd g x W X a ma) (hb : PBd g x W X b mb) (hc : PBd g x W X c mc)
    (hm : lastMarks [op, op'] [b, c] = false := by with_unfolding_all rfl) : PEd g x W X (.Compare a [op, op'] [b, c] pos) (mChain F G ma mb mc) :=
  weakE (pe_chain ho ho' ha hb hc hm) fun σ H Q h => chainOk hF hG h
theorem dt_chain {op op' : CmpOp} {r r' : R2} {F G : D → D → R Sl} (ho : OpR X (compareOp op) r) (hF : OpF X.K r F) (ho' : OpR X (compareOp op') r') (hG : OpF X.K r' G) (ha : PBd g x W X a ma) (hb : PBd g x W X b mb) (hc : PBd g x W X c mc)
    (hm : lastMarks [op, op'] [b, c] = false := by with_unfolding_all rfl) : PTd g x W X (.Compare a [op, op'] [b, c] pos) (mTest (mB (mChain F G ma mb mc))) :=
  weakT (pt_chain ho ho' ha hb hc hm) fun σ H Q h => by
    have q := chainOk hF hG (toTestM h)
    exact q
end
end DL
set_option Elab.async false
set_option linter.all false
set_option maxRecDepth 100000
set_option maxHeartbeats 4000000
namespace DL
open PySem PySem.Spec L2
open PyProof.Rows hiding St

/-! ### a def that calls itself: the first level promises nothing -/
theorem FD.none {P : Program} {w : World} {K : PySem.W.Frag} {mg : Str → Option Value} {base : Heap} {g : G0} {y qual : Str} {st : Stmt} {a : Addr} {fd : FuncData} {ps : List Str} (k : Nat) (F : Fun K y qual st a fd) (hm : mg y = some (.ref a)) (hb : Binds K fd ps []) :
    FD P w K mg base g k y ps (fun _ => .st) :=
  ⟨a, fd, hm, F.kp, hb, ⟨fun _ _ _ _ ⟨_, _, _, _, hp⟩ => hp.elim, fun _ _ _ _ _ _ _ _ _ _ _ _ _ ⟨_, _, _, _, hp⟩ => hp.elim⟩⟩
def recF (n slots : Nat) (m : Fn → MS) : Nat → Fn
  | 0 => fun _ => .st
  | k + 1 => runF n slots (m (recF n slots m k))

/-! ### xs + ys, lists of any kind -/
section
variable {prog : Program} {w : World} {A : Around} {E : Value → Shared → Prop} {s : Shared}
theorem cat_list {l b : Addr} {xs ys : Array Value} {Q : Value → Shared → Prop} (hl : PlainL s.heap l xs) (hb : PlainL s.heap b ys) (hz : xs.size + ys.size ≤ sizeLine)
    (h : Q (.ref s.heap.objs.size) { s with heap := s.heap.push { cls := .type "list", data := .seq (xs ++ ys) } }) : wpAny (model prog w) A (binaryOp .Add (.ref l) (.ref b)) Q E s := by
  obtain ⟨o, n, e, hc, hd, hda⟩ := hl
  obtain ⟨o2, n2, e2, hc2, hd2, hda2⟩ := hb
  refine concat_meets (S := fun _ R s => s.heap.get? l = some o ∧ s.heap.get? b = some o2 ∧ R (.ok (.ret (Value.ref s.heap.objs.size))) { s with heap := s.heap.push { cls := .type "list", data := .seq (xs ++ ys) }, toks := s.toks }) ⟨_, e, hc⟩ ⟨_, e2, hc2⟩ noFill_list_add seq_list_add F.slot_list_add F.entry_list_add (F.args_list_add_2 _ _) ?_ ⟨e, e2, h⟩
  exact .of_wp fun prog w A R s h => by
    obtain ⟨hp, g, d, tk, os⟩ := s
    obtain ⟨hl, hb, h⟩ := h
    have f3 := sub_list_list
    unfold Builtin.«list.__add__»
    refine wpAny_bind (m := slotArgs "__add__" 1 _) (wpAny_pure ?_)
    refine wpAny_bind (wpAny_isInstance (T := "list") (b := true) ⟨o2, hb, hc2⟩ sub_list_list ?_)
    rw [if_neg (by simp)]
    refine wpAny_bind (listItems_at hl hda (wpAny_bind (listItems_at hb hda2 ?_)))
    exact wpAny_bind (wpAny_newObj_type (wpAny_pure ⟨_, rfl, h⟩) (by show (xs ++ ys).size ≤ sizeLine; rw [Array.size_append]; exact hz))
end

section
variable {X : Cx}
def rCatL (K : PySem.W.Frag) : R2 := fun x y H Q => ∃ l b xs zs, x = .ref l ∧ y = .ref b ∧ SqL K H l xs ∧ SqL K H b zs ∧ xs.length + zs.length ≤ sizeLine ∧ ∀ p, H p = none → Q (.ref p) (upd H p (.lst (xs ++ zs)))
theorem op_catL : OpR X (binaryOp .Add) (rCatL X.K) := by
  intro pins s σ H x y v u Q I rx ry h
  obtain ⟨l, b, xs, zs, e1, e2, ha, hb, hz, q⟩ := h
  subst e1 e2
  cases rx
  cases ry
  obtain ⟨its, r, p1, _⟩ := I.list ha
  obtain ⟨its2, r2, p2, _⟩ := I.list hb
  refine cat_list p1 p2 (by rw [List.size_toArray, List.size_toArray, ← r.length, ← r2.length]; exact hz) ?_
  have ea : its.toArray ++ its2.toArray = (its ++ its2).toArray := by simp
  rw [ea]
  exact ⟨.ref _, _, I.lnew (t' := s.toks) (r.append r2) (by rw [List.length_append]; exact hz), rfl, q _ I.fresh⟩
end
def fAddL : D → D → R Sl
  | .lst a, .lst b => if a.length + b.length ≤ lim then .ok (.ow (a ++ b)) else .st
  | x, y => fAdd x y
theorem RepB.lst' {K : PySem.W.Frag} {g : G0} {H : Hp} {Z : Av} {xs : List D} {v : V} (h : RepB K g H Z (.lst xs) v) : ∃ a vs, v = .ref a ∧ SqL K H a vs ∧ RepL K g H Z xs vs := by
  rcases h with h | ⟨ys, a, vs, e1, e2, e3, r⟩
  · obtain ⟨a, vs, e, q, r⟩ := Rep.lst_.mp h
    exact ⟨a, vs, e, q.sq, r⟩
  · cases e1
    exact ⟨a, vs, e2, SqL.of e3, r⟩
theorem of_addL {K : PySem.W.Frag} : OpF K (fun x y H Q => ((rI0 (fun i j => .int (i + j)) x y H Q ∨ ∃ i j, x = .str i ∧ y = .str j ∧ i.length + j.length ≤ sizeLine ∧ Q (.str (i ++ j)) H) ∨ rCatN K x y H Q) ∨ rCatL K x y H Q) fAddL := by
  intro g W H Z σ x y v u Q dom rx ry hp
  by_cases c : ∃ a b, x = .lst a ∧ y = .lst b
  · obtain ⟨a, b, e1, e2⟩ := c
    subst e1 e2
    have hp : PostE K g W Z σ H Q (if a.length + b.length ≤ lim then .ok (.ow (a ++ b)) else .st) := hp
    split at hp
    · rename_i hl
      obtain ⟨l, vs, e1, q1, r1⟩ := rx.lst'
      obtain ⟨l2, ws, e2, q2, r2⟩ := ry.lst'
      refine .inr ⟨l, l2, vs, ws, e1, e2, q1, q2, by rw [← r1.length, ← r2.length]; exact limLine hl, fun p h => post_ow hp h (r1.append r2)⟩
    · exact hp.elim
  · refine .inl (of_add g W H Z σ x y v u Q dom rx ry ?_)
    have e : fAddL x y = fAdd x y := by
      cases x <;> cases y <;> first | rfl | exact absurd ⟨_, _, rfl, rfl⟩ c
    rw [← e]
    exact hp
section
variable {g : G0} {x : L2.St → Prop} {W : WX} {X : Cx} {a b : Expr} {pos : Pos} {ma mb : B}
theorem de_addL (ha : PBd g x W X a ma) (hb : PBd g x W X b mb) : PEd g x W X (.BinOp a .Add b pos) (mBin fAddL ma mb) := de_op (((op_add.or op_add_str).or op_catN).or op_catL) of_addL ha hb
end
end DL
set_option Elab.async false
set_option linter.all false
set_option maxRecDepth 100000
set_option maxHeartbeats 4000000
namespace DL
open PySem PySem.Spec L2
open PyProof.Rows hiding St
/-! ### slices that go backwards, step -1 -/
def backN (n : Nat) (lo hi : Option Int) : Int × Nat := ((Builtin.Slice.sliceAdjust lo hi (-1) n).1, Builtin.Slice.slicePlaces (Builtin.Slice.sliceAdjust lo hi (-1) n).1 (Builtin.Slice.sliceAdjust lo hi (-1) n).2 (-1))
def backIx (n : Nat) (lo hi : Option Int) : List Nat := (List.range (backN n lo hi).2).map fun (k : Nat) => ((backN n lo hi).1 + (k : Int) * (-1)).toNat
def pick {α : Type} (xs : List α) (is : List Nat) : List α := is.filterMap (xs[·]?)
section
variable {prog : Program} {w : World} {A : Around} {E : Value → Shared → Prop} {s : Shared}
theorem applied_back {sl : Addr} {vl vu : Value} {t : Tok} {lo hi : Option Int} {n : Nat} {Q : Int × Int × Nat → Shared → Prop} (hs : s.heap.IsSliceOf sl vl vu (.int (-1) t)) (pl : IsPart vl lo) (pu : IsPart vu hi)
    (h : Q ((backN n lo hi).1, -1, (backN n lo hi).2) s) : wpAny (model prog w) A (Builtin.Slice.sliceApplied (.ref sl) (pure (n : Int))) Q E s := by
  obtain ⟨os, hos, hcs, hds⟩ := hs
  unfold Builtin.Slice.sliceApplied Builtin.Slice.sliceFields
  refine wpAny_bind (wpAny_bind (wpAny_field hos hds (x := vl) rfl (wpAny_bind (wpAny_field hos hds (x := vu) rfl (wpAny_bind (wpAny_field hos hds (x := .int (-1) t) rfl (wpAny_pure ?_)))))))
  refine wpAny_bind (PyProof.Rows.slicePart_int ?_)
  show wpAny _ _ (if ((-1 : Int) == 0) = true then _ else _) _ _ s
  rw [if_neg (by decide)]
  exact wpAny_bind (HT.slicePart_ pl (wpAny_bind (HT.slicePart_ pu (wpAny_bind (wpAny_pure (wpAny_pure h))))))
theorem getItem_back {t sl : Addr} {items : Array Value} {vl vu : Value} {k : Tok} {lo hi : Option Int} {Q : Value → Shared → Prop} (ht : IsTup s.heap t items) (hs : s.heap.IsSliceOf sl vl vu (.int (-1) k)) (pl : IsPart vl lo) (pu : IsPart vu hi)
    (hz : (pick items.toList (backIx items.size lo hi)).length ≤ sizeLine)
    (h : Q (.ref s.heap.objs.size) { s with heap := s.heap.push { cls := .type "tuple", data := .seq (pick items.toList (backIx items.size lo hi)).toArray } }) : wpAny (model prog w) A (getItem (.ref t) (.ref sl)) Q E s := by
  have e : ((List.range (backN items.size lo hi).2).filterMap fun (m : Nat) => items[((backN items.size lo hi).1 + (m : Int) * (-1)).toNat]?).toArray = (pick items.toList (backIx items.size lo hi)).toArray := by
    unfold pick backIx
    rw [List.filterMap_map]
    congr 1
    refine congrArg (fun f => List.filterMap f (List.range (backN items.size lo hi).2)) (funext fun m => ?_)
    show items[((backN items.size lo hi).1 + (m : Int) * (-1)).toNat]? = items.toList[((backN items.size lo hi).1 + (m : Int) * (-1)).toNat]?
    rw [Array.getElem?_toList]
  have hok : sizeOk (.seq (pick items.toList (backIx items.size lo hi)).toArray) := by
    show (pick items.toList (backIx items.size lo hi)).toArray.size ≤ sizeLine
    rw [List.size_toArray]
    exact hz
  obtain ⟨os, hos, hcs, hds⟩ := id hs
  have hTs : s.TypeIs (.ref sl) "slice" := ⟨os, hos, hcs⟩
  unfold getItem
  try with_reducible refine wpAny_holding ?_
  first | refine wpAny_bind (wpAny_pure ?_) | skip
  refine wpAny_bind (wpAny_sequenceKey ht.typeIs (by decide) ?_)
  refine wpAny_bind (wpAny_callSpecial?_slot (name := Str.ofString "__getitem__") ht.typeIs PyProof.Rows.slot_tuple_getitem
    (wpAny_call_entry PyProof.Rows.slot_tuple_getitem ht.typeIs entry_tuple_getitem ?_ (args_tuple_getitem _ _)))
  show wpAny _ _ (Builtin.Tuple.tupleItemsOf (.ref t) >>= _) _ _ s
  refine wpAny_bind (tupleItemsOf_ ht ?_)
  refine wpAny_bind (wpAny_typeOf hTs ?_)
  rw [if_pos (by decide)]
  refine wpAny_bind (applied_back hs pl pu ?_)
  have hno : ¬ (((backN items.size lo hi).1 == 0 && (-1 : Int) == 1 && (backN items.size lo hi).2 == items.size) = true) := by
    intro q
    rw [Bool.and_eq_true, Bool.and_eq_true] at q
    exact absurd (eq_of_beq q.1.2) (by decide)
  show wpAny _ _ (if ((backN items.size lo hi).1 == 0 && (-1 : Int) == 1 && (backN items.size lo hi).2 == items.size) = true then _ else _) _ _ s
  rw [if_neg hno, e]
  first
    | exact wpAny_bind (m := Builtin.Tuple.tupleExact _) (wpAny_newObj_type (wpAny_pure ⟨_, rfl, wpAny_pure h⟩) hok)
    | exact wpAny_bind (m := Builtin.Tuple.tupleExact _) (wpAny_newObj_type (wpAny_bind (wpAny_pure (wpAny_pure ⟨_, rfl, wpAny_pure h⟩))) hok)
    | exact wpAny_bind (wpAny_bind (m := Builtin.Tuple.tupleExact _) (wpAny_newObj_type (wpAny_pure (wpAny_pure ⟨_, rfl, wpAny_pure h⟩)) hok))
    | exact wpAny_bind (wpAny_bind (m := Builtin.Tuple.tupleExact _) (wpAny_newObj_type (wpAny_pure ⟨_, rfl, wpAny_pure h⟩) hok))
end
theorem pick_vals {xs : List V} {us : List Value} (r : Vals xs us) : ∀ is : List Nat, Vals (pick xs is) (pick us is)
  | [] => .nil
  | i :: is => by
    have ih := pick_vals r is
    unfold pick at ih ⊢
    rw [List.filterMap_cons, List.filterMap_cons]
    cases e : xs[i]? with
    | none =>
      have l : us[i]? = none := List.getElem?_eq_none (by have := List.getElem?_eq_none_iff.mp e; rw [← r.length]; exact this)
      rw [l]
      exact ih
    | some v =>
      obtain ⟨u, hu, ru⟩ := r.get e
      rw [hu]
      exact .cons ru ih
theorem pick_rep {K : PySem.W.Frag} {g : G0} {H : Hp} {Z : Av} {xs : List D} {vs : List V} (r : RepL K g H Z xs vs) : ∀ is : List Nat, RepL K g H Z (pick xs is) (pick vs is)
  | [] => RepL.nil_.mpr rfl
  | i :: is => by
    have ih := pick_rep r is
    unfold pick at ih ⊢
    rw [List.filterMap_cons, List.filterMap_cons]
    cases e : xs[i]? with
    | none =>
      have l : vs[i]? = none := List.getElem?_eq_none (by have := List.getElem?_eq_none_iff.mp e; rw [← r.length]; exact this)
      rw [l]
      exact ih
    | some v =>
      obtain ⟨u, hu, ru⟩ := r.get e
      rw [hu]
      exact RepL.cons_.mpr ⟨_, _, rfl, ru, ih⟩

def listIx (n : Nat) (lo hi : Option Int) : List Nat := sliceRange (sliceBounds lo hi (some (-1)) n).1 (sliceBounds lo hi (some (-1)) n).2.1 (sliceBounds lo hi (some (-1)) n).2.2
theorem pick_arr (items : Array Value) (lo hi : Option Int) : slicePick items lo hi (some (-1)) = (pick items.toList (listIx items.size lo hi)).toArray := by
  unfold slicePick pick listIx
  congr 1
  refine congrArg (fun f => List.filterMap f _) (funext fun m => ?_)
  rw [Array.getElem?_toList]
theorem pick_length {α : Type} (xs : List α) (is : List Nat) : (pick xs is).length ≤ is.length := List.length_filterMap_le _ _
def fSlB (d : D) (lo hi : Option Int) : R Sl := match d with
  | .tup xs => if (backIx xs.length lo hi).length ≤ lim then .ok (.fr (.tup (pick xs (backIx xs.length lo hi)))) else .st
  | .lst xs => if (listIx xs.length lo hi).length ≤ lim then .ok (.ow (pick xs (listIx xs.length lo hi))) else .st
  | _ => .st
def asM1 : Option Int → R Unit
  | some i => if i = -1 then .ok () else .st
  | none => .st
def mSlB (m : B) (l u st : BO) : M := fun env => (m env).bind fun d => (l env).bind fun lo => (u env).bind fun hi => (st env).bind fun c => (asM1 c).bind fun _ => fSlB d lo hi
/-- what the slice is: the step is -1 -/
def rBk (K : PySem.W.Frag) : V → Option Int → Option Int → Hp → VK → Prop := fun x lo hi H Q => ∃ a xs, x = .ref a ∧
  ((SqT K H a xs ∧ (backIx xs.length lo hi).length ≤ sizeLine ∧ NewT H (pick xs (backIx xs.length lo hi)) Q) ∨ (SqL K H a xs ∧ (listIx xs.length lo hi).length ≤ sizeLine ∧ ∀ p, H p = none → Q (.ref p) (upd H p (.lst (pick xs (listIx xs.length lo hi))))))
def tSlB (r : V → Option Int → Option Int → Hp → VK → Prop) (te : TE) (tl th ts : TO) : TE := fun σ H Q => te σ H fun x H1 => tl σ H1 fun l H2 => th σ H2 fun u H3 => ts σ H3 fun c H4 => c = some (-1) ∧ r x l u H4 Q
section
variable {X : Cx} {e : Expr} {te : TE} {lo hi st : Option Expr} {tl th ts : TO} {pos p2 : Pos}
theorem pe_sliceB {es : Expr} (he : PE X e te) (hl : PO X lo tl) (hu : PO X hi th) (hst : PO X (some es) ts) : PE X (.Subscript e (.Slice lo hi (some es) p2) pos) (tSlB (rBk X.K) te tl th ts) := by
  refine ⟨fun pins s σ H Q I h => ?_⟩
  refine Subscript_ (thn (he.run pins s σ H _ I h) fun v s1 ⟨x, H1, I1, r1, q1⟩ => ?_)
  refine wpAny_Slice (thn (hl.run pins s1 σ H1 _ I1 q1) fun vl s2 ⟨l, H2, I2, pl, q2⟩ => thn (hu.run pins s2 σ H2 _ I2 q2) fun vu s3 ⟨u, H3, I3, pu, q3⟩ => thn (hst.run pins s3 σ H3 _ I3 q3) fun vk s4 ⟨c, H4, I4, pk, ec, a, xs, ex, q4⟩ => ?_)
  subst ec ex
  cases pk with
  | int i k =>
    have I5 : Inv X pins σ H4 { s4 with heap := s4.heap.push { cls := .type "slice", data := .fields #[vl, vu, .int (-1) k] } } := I4.kept (t' := s4.toks) fun b ob q => Heap.get?_push_of_some _ q
    obtain rfl : v = .ref a := r1
    show wpAny (model X.prog X.w) X.A (subscriptTail e (.Slice lo hi (some es) p2) (.ref a) (.ref s4.heap.objs.size)) (EP X pins σ Q) X.xe { s4 with heap := s4.heap.push { cls := .type "slice", data := .fields #[vl, vu, .int (-1) k] } }
    rcases q4 with ⟨hx, hz, q⟩ | ⟨hx, hz, q⟩
    · obtain ⟨its, r, ht, _⟩ := I5.tuple hx
      have hlen : its.toArray.size = xs.length := by rw [List.size_toArray]; exact r.length.symm
      have pv := pick_vals r (backIx xs.length l u)
      have zl : (pick xs (backIx xs.length l u)).length ≤ sizeLine := Nat.le_trans (pick_length _ _) hz
      refine tail_any (ops := [.ref a, .ref s4.heap.objs.size]) ht.typeIs PyProof.Rows.slot_tuple_getitem.lookup (getItem_back ht (Heap.IsSliceOf.new ..) pl pu ?_ ?_) (by with_unfolding_all rfl)
      · show (pick its (backIx its.toArray.size l u)).length ≤ sizeLine
        rw [hlen, ← pv.length]
        exact zl
      · show EP X pins σ Q _ { s4 with heap := (s4.heap.push { cls := .type "slice", data := .fields #[vl, vu, .int (-1) k] }).push { cls := .type "tuple", data := .seq (pick its (backIx its.toArray.size l u)).toArray } }
        rw [hlen]
        exact newT (s := { s4 with heap := s4.heap.push { cls := .type "slice", data := .fields #[vl, vu, .int (-1) k] } }) (t' := s4.toks) I5 (fun b ob q => Heap.get?_push_of_some _ q) (Nat.le_refl _) (Heap.get?_push_size _ rfl) pv zl q
    · obtain ⟨its, r, ht, hz2⟩ := I5.list hx
      have hlen : its.toArray.size = xs.length := by rw [List.size_toArray]; exact r.length.symm
      have pv := pick_vals r (listIx xs.length l u)
      have zl : (pick xs (listIx xs.length l u)).length ≤ sizeLine := Nat.le_trans (pick_length _ _) hz
      refine tail_any (ops := [.ref a, .ref s4.heap.objs.size]) ht.isList.typeIs slot_list_getitem.lookup (wpAny_getItem_list_slice ht.isList (Heap.IsSliceOf.new ..) pl pu (.int (-1) k) (by decide) ?_ (by rw [hlen]; exact hz2)) (by with_unfolding_all rfl)
      rw [pick_arr, hlen]
      exact ⟨.ref _, _, Inv.lnew (s := { s4 with heap := s4.heap.push { cls := .type "slice", data := .fields #[vl, vu, .int (-1) k] } }) (t' := s4.toks) I5 pv zl, rfl, q _ I5.fresh⟩
end

theorem slBPost {K : PySem.W.Frag} {g : G0} {H : Hp} {Z : Av} {W : WX} {σ : L2.St} {d : D} {v : V} {lo hi : Option Int} {Q : VK} (rx : RepB K g H Z d v) (hp : PostE K g W Z σ H Q (fSlB d lo hi)) : rBk K v lo hi H Q := by
  cases d with
  | tup xs =>
    obtain ⟨a, ws, e, t, rr⟩ := rx.tup_
    have hl := rr.length
    have hp : PostE K g W Z σ H Q (if (backIx xs.length lo hi).length ≤ lim then .ok (.fr (.tup (pick xs (backIx xs.length lo hi)))) else .st) := hp
    split at hp
    · rename_i c
      refine ⟨a, ws, e, .inl ⟨t.sqT, by rw [← hl]; exact limLine c, ?_⟩⟩
      rw [← hl]
      exact post_tup hp (pick_rep rr _)
    · exact hp.elim
  | lst xs =>
    obtain ⟨a, ws, e, t, rr⟩ := rx.lst'
    have hl := rr.length
    have hp : PostE K g W Z σ H Q (if (listIx xs.length lo hi).length ≤ lim then .ok (.ow (pick xs (listIx xs.length lo hi))) else .st) := hp
    split at hp
    · rename_i c
      refine ⟨a, ws, e, .inr ⟨t, by rw [← hl]; exact limLine c, fun p hn => ?_⟩⟩
      rw [← hl]
      exact post_ow hp hn (pick_rep rr _)
    · exact hp.elim
  | _ => exact hp.elim
section
variable {g : G0} {x : L2.St → Prop} {W : WX} {X : Cx} {e es : Expr} {a' b' : Option Expr} {pos p2 : Pos} {ma : B} {l u c : BO}
theorem de_slB (he : PBd g x W X e ma) (hl : POd g x W X a' l) (hu : POd g x W X b' u) (hc : POd g x W X (some es) c) : PEd g x W X (.Subscript e (.Slice a' b' (some es) p2) pos) (mSlB ma l u c) :=
  weakE (pe_sliceB he hl hu hc) fun σ H Q ⟨env, Z, er, hp⟩ => useB er hp fun d v H1 e1 k1 r1 hp1 => by
    refine ⟨env, Z, er.mono k1, ?_⟩
    cases el : l env with
    | ok lo =>
      rw [el] at hp1
      intro H2 k2
      refine ⟨env, Z, er.mono (k1.trans k2), ?_⟩
      have hp2 : PostE X.K g W Z σ H2 Q ((u env).bind fun hi => (c env).bind fun c => (asM1 c).bind fun _ => fSlB d lo hi) := PostE.later k2 hp1
      cases eu : u env with
      | ok hi =>
        rw [eu] at hp2
        intro H3 k3
        refine ⟨env, Z, er.mono ((k1.trans k2).trans k3), ?_⟩
        have hp3 : PostE X.K g W Z σ H3 Q ((c env).bind fun c => (asM1 c).bind fun _ => fSlB d lo hi) := PostE.later k3 hp2
        cases ec : c env with
        | ok o =>
          rw [ec] at hp3
          intro H4 k4
          have hp4 : PostE X.K g W Z σ H4 Q ((asM1 o).bind fun _ => fSlB d lo hi) := PostE.later k4 hp3
          cases o with
          | none => exact hp4.elim
          | some i =>
            have hp4 : PostE X.K g W Z σ H4 Q ((if i = -1 then R.ok () else .st).bind fun _ => fSlB d lo hi) := hp4
            by_cases ci : i = -1
            · rw [if_pos ci] at hp4
              exact ⟨by rw [ci], slBPost (r1.mono ((k2.trans k3).trans k4)) hp4⟩
            · rw [if_neg ci] at hp4
              exact hp4.elim
        | ex c p => rw [ec] at hp3; exact hp3
        | st => rw [ec] at hp3; exact hp3
      | ex c p => rw [eu] at hp2; exact hp2
      | st => rw [eu] at hp2; exact hp2
    | ex c p => rw [el] at hp1; exact hp1
    | st => rw [el] at hp1; exact hp1
end
end DL
set_option Elab.async false
set_option linter.all false
set_option maxRecDepth 100000
set_option maxHeartbeats 4000000
namespace DL
open PySem PySem.Spec L2
open PyProof.Rows hiding St
/-! ### comprehensions with two fors -/
def compL2 (as : D → En → Option En) (t : En → R Bool) (mi1 : En → R (List D)) (as1 : D → En → Option En) (t1 : En → R Bool) (me : M) (vs1 : List Nat) (env : En) : List D → R (List D)
  | [] => .ok []
  | d :: ds => match as d env with
    | none => .st
    | some e1 => (t e1).quiet.bind fun b => if b = true then (mi1 e1).quiet.bind fun xs1 => (compL as1 t1 me (wipeE e1 vs1) xs1).bind fun r1 => (compL2 as t mi1 as1 t1 me vs1 env ds).bind fun r2 => .ok (r1 ++ r2) else compL2 as t mi1 as1 t1 me vs1 env ds
def mComp2 (mi : En → R (List D)) (pt : Pt) (t : En → R Bool) (mi1 : En → R (List D)) (pt1 : Pt) (t1 : En → R Bool) (me : M) (vs vs1 : List Nat) : M := fun env => (mi env).bind fun xs =>
  (compL2 pt.go t mi1 pt1.go t1 me vs1 (wipeE env vs) xs).quiet.bind fun r => if r.length ≤ lim then .ok (.ow r) else .st
/-- the heap without the list that is being made -/
def mn (L : Addr) (H : Hp) : Hp := fun b => if b = L then none else H b
theorem mn_ne {L b : Addr} {H : Hp} (h : b ≠ L) : mn L H b = H b := if_neg h
theorem mn_some {L b : Addr} {H : Hp} {o : HO} (h : mn L H b = some o) : b ≠ L ∧ H b = some o := by
  unfold mn at h
  split at h
  · cases h
  · exact ⟨by assumption, h⟩
section
variable {K : PySem.W.Frag} {g : G0} {x : L2.St → Prop} {W : WX} {Z Z2 : Av} {env e1 : En} {σ : L2.St} {G H H' : Hp} {L : Addr}
def zb (Z : Av) (L : Addr) : Av := fun b => Z b ∨ b = L
theorem kp_show : Kp (mn L H) Z H (zb Z L) :=
  ⟨fun a o e _ => (mn_some e).2, fun a o xs e => (mn_some e).2, fun a n nz z => z.elim nz fun q => n (by unfold mn; rw [if_pos q])⟩
theorem kp_hide {acc : List V} (hL : H L = some (.lst acc)) : Kp H (zb Z L) (mn L H) Z :=
  ⟨fun a o e n => by rw [mn_ne fun q => n (.inr q)]; exact e, fun a o xs e => by
    rw [mn_ne fun q => by rw [q, hL] at e; cases e]
    exact e, fun a _ n z => n (.inl z)⟩
theorem same_mn (h : ∀ a o, a ≠ L → H a = some o → H' a = some o) : Same (mn L H) (mn L H') := fun a o e => by
  obtain ⟨n, e⟩ := mn_some e
  rw [mn_ne n]
  exact h a o n e
theorem ERel.show_ {acc : List V} (er : ERel K g T Z env σ (mn L H)) (hL : H L = some (.lst acc)) : ERel K g T (zb Z L) env σ H := by
  refine ⟨fun a z => z.elim (fun z => ?_) (fun q => by rw [q, hL]; simp), trivial, er.len, fun i s e => ?_⟩
  · have n := er.dom a z
    cases e : mn L H a with
    | none => exact absurd e n
    | some o => rw [(mn_some e).2]; simp
  · obtain ⟨v, e2, q⟩ := er.at_ i s e
    exact ⟨v, e2, q.kp kp_show (fun a z => .inl z) fun a o _ e => (mn_some e).2⟩
theorem gAll_okG {vs : List Nat} : ∀ (is : List Nat) (ds : List D) (ws : List V) (env : En) (σ : L2.St) (Q : L2.St → Hp → Prop), (∀ i ∈ is, i ∈ vs) → ERel K g T Z env σ G → RepL K g G Z ds ws → ds.length = is.length →
    (∀ σ', wipe σ' vs = wipe σ vs → ERel K g T Z (setAll is ds env) σ' G → Q σ' H) → gAll is ws σ H Q
  | [], [], ws, env, σ, Q, _, r, rr, l, h => ⟨RepL.nil_.mp rr, h σ rfl r⟩
  | i :: is, d :: ds, ws, env, σ, Q, sub, r, rr, l, h => by
    obtain ⟨v, w, ev, h1, h2⟩ := RepL.cons_.mp rr
    refine ⟨v, w, ev, gAll_okG is ds w _ _ Q (fun j hj => sub j (List.mem_cons_of_mem _ hj)) (r.setFr (i := i) h1) h2 (by simpa using l) fun σ' e er => h σ' (by rw [e, wipe_set (sub i List.mem_cons_self)]) er⟩
  | [], d :: ds, ws, env, σ, Q, _, r, rr, l, h => by simp at l
  | i :: is, [], ws, env, σ, Q, _, r, rr, l, h => by simp at l
theorem Pt.okG {vs : List Nat} {pt : Pt} {d : D} {v : V} {Q : L2.St → Hp → Prop} (kp : Kp G Z H Z2) (sub : ∀ i ∈ pt.slots, i ∈ vs) (r : ERel K g T Z env σ G) (q : Rep K g G Z d v) (h : pt.go d env = some e1)
    (k : ∀ σ', wipe σ' vs = wipe σ vs → ERel K g T Z e1 σ' G → Q σ' H) : pt.tg K v σ H Q := by
  cases pt with
  | nm i => cases h; exact k _ (wipe_set (sub i (by simp [Pt.slots]))) (r.setFr q)
  | tp is =>
    cases d with
    | tup ds =>
      have h : (if ds.length = is.length then some (setAll is ds env) else none) = some e1 := h
      split at h
      · rename_i l
        cases h
        obtain ⟨a, ws, ev, sq, rr⟩ := Rep.tup_.mp q
        exact ⟨a, ws, ev, (kp.tu sq).sqT, by rw [← rr.length]; exact l, gAll_okG is ds ws env σ Q sub r rr l k⟩
      · cases h
    | _ => cases h
/-- the inner walk: from the list as it is to the list with what the walk adds -/
theorem innerOk {pt1 : Pt} {t1 : En → R Bool} {me : M} {vs1 : List Nat} {xs1 ds0 r1 rest total : List D} {J1 : It} {H1 H4 : Hp} {acc0 : List V} {Nx : Hp → Prop} (sub1 : ∀ i ∈ pt1.slots, i ∈ vs1) (lt : total.length ≤ lim)
    (hn : H1 L = none) (er : ERel K g T Z e1 σ (mn L H4)) (wk : Walk K g (zb Z L) H4 J1 xs1) (s1 : Same H1 H4) (hL : H4 L = some (.lst acc0)) (ha : RepL K g H4 (zb Z L) ds0 acc0)
    (hc : compL pt1.go t1 me (wipeE e1 vs1) xs1 = .ok r1) (ht : total = ds0 ++ (r1 ++ rest))
    (hx : ∀ H' acc, Same H1 H' → H' L = some (.lst acc) → RepL K g H' (zb Z L) (ds0 ++ r1) acc → Nx H') :
    ∃ W1 : Nat → Nat → Hp → Prop, (∃ m, W1 0 m H4) ∧ ∀ j k H, W1 j k H →
      (J1.stop j H ∧ Nx H) ∨ (J1.go j H ∧ ∃ Nx1 : Hp → Prop, (∀ H', Nx1 H' → ∃ k', k' < k ∧ W1 (j + 1) k' H') ∧ ∀ x H', J1.yld j H x H' → pt1.tg K x (wipe σ vs1) H' fun σ3 H5 => wipe σ3 vs1 = wipe σ vs1 ∧ tT K g T W0 t1 σ3 H5 fun b H6 =>
        if b = true then tM K g T W0 me σ3 H6 fun y H7 => ∃ acc, H7 L = some (.lst acc) ∧ acc.length < sizeLine ∧ Nx1 (upd H7 L (.lst (acc ++ [y]))) else Nx1 H6) := by
  let In : Nat → Hp → Prop := fun j H' => Same H1 H' ∧ (∀ a o, a ≠ L → H4 a = some o → H' a = some o) ∧ ∃ acc dsj rj, H' L = some (.lst acc) ∧ RepL K g H' (zb Z L) (ds0 ++ dsj) acc ∧ compL pt1.go t1 me (wipeE e1 vs1) (xs1.drop j) = .ok rj ∧ r1 = dsj ++ rj
  refine ⟨fun j k H' => k = xs1.length - j ∧ j ≤ xs1.length ∧ In j H', ⟨xs1.length, rfl, Nat.zero_le _, s1, fun a o _ e => e, acc0, [], r1, hL, by rw [List.append_nil]; exact ha, hc, rfl⟩, ?_⟩
  rintro j k H' ⟨rfl, hj, s2, sb, acc, dsj, rj, hD, hacc, hcj, hr⟩
  have kp : Kp H4 (zb Z L) H' (fun _ => False) := ⟨fun a o e n => sb a o (fun q => n (.inr q)) e, fun a o us e => sb a _ (fun q => by rw [q, hL] at e; cases e) e, fun _ _ _ z => z⟩
  by_cases hl : j < xs1.length
  · obtain ⟨d, ed, edr⟩ := drop_get hl
    rw [edr] at hcj
    unfold compL at hcj
    refine .inr ⟨wk.go j d H' ed kp, fun H2 => In (j + 1) H2, fun H2 h2 => ⟨xs1.length - (j + 1), by omega, rfl, hl, h2⟩, fun v H2 y => ?_⟩
    obtain ⟨k2, rep⟩ := wk.yld j d H' v H2 ed kp y
    have hD2 : H2 L = some (.lst acc) := k2 _ _ hD
    have s3 : Same H1 H2 := s2.trans k2
    have sb2 : ∀ a o, a ≠ L → H4 a = some o → H2 a = some o := fun a o n e => k2 _ _ (sb a o n e)
    have kz : Kp H4 (zb Z L) H2 (zb Z L) := ⟨fun a o e n => sb2 a o (fun q => n (.inr q)) e, fun a o us e => sb2 a _ (fun q => by rw [q, hL] at e; cases e) e, fun _ _ n => n⟩
    have er2 : ERel K g T Z e1 σ (mn L H2) := er.mono (same_mn sb2)
    have dom1 : ∀ a, zb Z L a → H' a ≠ none := ((er.mono (same_mn sb)).show_ hD).dom
    cases ea : pt1.go d (wipeE e1 vs1) with
    | none => rw [ea] at hcj; cases hcj
    | some e3 =>
      rw [ea] at hcj
      have hcj : ((t1 e3).quiet.bind fun b => if b = true then (me e3).quiet.bind fun s => (compL pt1.go t1 me (wipeE e1 vs1) (xs1.drop (j + 1))).bind fun r => .ok (s.d :: r) else compL pt1.go t1 me (wipeE e1 vs1) (xs1.drop (j + 1))) = .ok rj := hcj
      refine Pt.okG (G := mn L H2) (Z := Z) (Z2 := zb Z L) kp_show sub1 (er2.wipe vs1) (Rep.mono (kp_hide hD2) _ _ (rep _ kz dom1)) ea fun σ3 ws er3 => ?_
      refine ⟨by rw [ws, wipe_wipe], e3, zb Z L, er3.show_ hD2, ?_⟩
      cases et : t1 e3 with
      | ex c p => rw [et] at hcj; cases hcj
      | st => rw [et] at hcj; cases hcj
      | ok b =>
        rw [et] at hcj
        have hcj : (if b = true then (me e3).quiet.bind fun s => (compL pt1.go t1 me (wipeE e1 vs1) (xs1.drop (j + 1))).bind fun r => .ok (s.d :: r) else compL pt1.go t1 me (wipeE e1 vs1) (xs1.drop (j + 1))) = .ok rj := hcj
        intro H5 k3
        have hD5 : H5 L = some (.lst acc) := k3 _ _ hD2
        cases b with
        | false => exact ⟨s3.trans k3, fun a o n e => k3 _ _ (sb2 a o n e), acc, dsj, rj, hD5, RepL.mono (.same_ (k2.trans k3)) _ _ hacc, hcj, hr⟩
        | true =>
          rw [if_pos rfl] at hcj ⊢
          refine use (Z := zb Z L) ((er3.show_ hD2).mono k3) ?_
          cases em : me e3 with
          | ex c p => rw [em] at hcj; cases hcj
          | st => rw [em] at hcj; cases hcj
          | ok s =>
            rw [em] at hcj
            have hcj : ((compL pt1.go t1 me (wipeE e1 vs1) (xs1.drop (j + 1))).bind fun r => R.ok (s.d :: r)) = .ok rj := hcj
            cases ec2 : compL pt1.go t1 me (wipeE e1 vs1) (xs1.drop (j + 1)) with
            | ex c p => rw [ec2] at hcj; cases hcj
            | st => rw [ec2] at hcj; cases hcj
            | ok r2 =>
              rw [ec2] at hcj
              cases hcj
              intro y H7 k4 q
              have hD7 : H7 L = some (.lst acc) := k4 _ _ hD5
              have zL : zb Z L L := Or.inr rfl
              have km : Kp H7 (zb Z L) (upd H7 L (.lst (acc ++ [y]))) (zb Z L) :=
                ⟨fun b o e n => by rw [upd_ne (fun q => n (by rw [q]; exact zL))]; exact e, fun b o us tt => by
                  have nb : b ≠ L := fun q => by
                    subst q
                    rw [hD7] at tt
                    cases tt
                  rw [upd_ne nb]
                  exact tt, fun b _ n => n⟩
              have hlen : acc.length < lim := by
                have e1 := hacc.length
                have e2 : total.length = (ds0 ++ dsj).length + (r2.length + 1 + rest.length) := by
                  rw [ht, hr]
                  simp only [List.length_append, List.length_cons]
                  omega
                omega
              refine ⟨acc, hD7, limLine' hlen, fun b o e => ?_, fun b o n e => ?_, acc ++ [y], dsj ++ [s.d], r2, upd_same, ?_, ec2, by rw [hr, List.append_assoc]; rfl⟩
              · rw [upd_ne (ne_of_none e hn)]
                exact k4 _ _ (k3 _ _ (s3 b o e))
              · rw [upd_ne n]
                exact k4 _ _ (k3 _ _ (sb2 b o n e))
              · rw [← List.append_assoc]
                exact RepL.mono km _ _ ((RepL.mono (.same_ ((k2.trans k3).trans k4)) _ _ hacc).append (.one q))
  · have ej : j = xs1.length := by omega
    subst ej
    rw [List.drop_length] at hcj
    cases hcj
    rw [List.append_nil] at hr
    subst hr
    exact .inl ⟨wk.stop _ H' (Nat.le_refl _) kp, hx H' acc s2 hD hacc⟩
end
section
variable {K : PySem.W.Frag} {g : G0} {x : L2.St → Prop} {W : WX} {Z : Av} {σ : L2.St} {H : Hp}
/-- what a comprehension with two fors reads -/
theorem lc2Ok {mi mi1 : En → R (List D)} {pt pt1 : Pt} {t t1 : En → R Bool} {me : M} {vs vs1 : List Nat} {Q : VK} (sub : ∀ i ∈ pt.slots, i ∈ vs) (sub1 : ∀ i ∈ pt1.slots, i ∈ vs1) (h : tM K g x W (mComp2 mi pt t mi1 pt1 t1 me vs vs1) σ H Q) :
    tLc2 (tI K g x W mi) (pt.tg K) (tT K g T W0 t) (tI K g T W0 mi1) (pt1.tg K) (tT K g T W0 t1) (tM K g T W0 me) vs vs1 σ H Q := by
  obtain ⟨env, Z, er, hp⟩ := h
  refine ⟨env, Z, er, ?_⟩
  unfold mComp2 at hp
  cases ei : mi env with
  | ex c p => rw [ei] at hp; exact hp
  | st => rw [ei] at hp; exact hp
  | ok xs =>
    rw [ei] at hp
    have hp : PostE K g W Z σ H Q ((compL2 pt.go t mi1 pt1.go t1 me vs1 (wipeE env vs) xs).quiet.bind fun r => if r.length ≤ lim then .ok (.ow r) else .st) := hp
    cases ec : (compL2 pt.go t mi1 pt1.go t1 me vs1 (wipeE env vs) xs).quiet with
    | ex c p => exact absurd ec (by intro q; cases e : compL2 pt.go t mi1 pt1.go t1 me vs1 (wipeE env vs) xs <;> rw [e] at q <;> cases q)
    | st => rw [ec] at hp; exact hp.elim
    | ok total =>
      rw [ec] at hp
      have hp : PostE K g W Z σ H Q (if total.length ≤ lim then .ok (.ow total) else .st) := hp
      split at hp
      case isFalse => exact hp.elim
      rename_i hlim
      have ec := quiet_ok ec
      intro J H1 k walk L hL
      have er1 := er.mono k
      refine ⟨fun i m H' => m = xs.length - i ∧ i ≤ xs.length ∧ Same H1 H' ∧ ∃ acc ds0 r, H' L = some (.lst acc) ∧ RepL K g H' (zb Z L) ds0 acc ∧ compL2 pt.go t mi1 pt1.go t1 me vs1 (wipeE env vs) (xs.drop i) = .ok r ∧ total = ds0 ++ r,
        ⟨xs.length, rfl, Nat.zero_le _, same_upd hL, [], [], total, upd_same, RepL.nil_.mpr rfl, ec, rfl⟩, ?_⟩
      rintro i m H' ⟨rfl, hi, s1, acc, ds0, r, hD, hacc, hc, ht⟩
      have kp : Kp H1 Z H' Z := .same_ s1
      by_cases hl : i < xs.length
      · obtain ⟨d, ed, edr⟩ := drop_get hl
        rw [edr] at hc
        unfold compL2 at hc
        refine .inr ⟨walk.go i d H' ed kp.toF, fun H2 => Same H1 H2 ∧ ∃ acc ds0 r, H2 L = some (.lst acc) ∧ RepL K g H2 (zb Z L) ds0 acc ∧ compL2 pt.go t mi1 pt1.go t1 me vs1 (wipeE env vs) (xs.drop (i + 1)) = .ok r ∧ total = ds0 ++ r, fun H2 h2 => ⟨xs.length - (i + 1), by omega, rfl, hl, h2⟩, fun v H2 y => ?_⟩
        obtain ⟨k2, rep⟩ := walk.yld i d H' v H2 ed kp.toF y
        have s2 : Same H1 H2 := s1.trans k2
        have hD2 : H2 L = some (.lst acc) := k2 _ _ hD
        have sm : Same H1 (mn L H2) := fun a o e => by
          rw [mn_ne (ne_of_none e hL)]
          exact s2 a o e
        have erm : ERel K g x Z env σ (mn L H2) := er1.mono sm
        have q1 : Rep K g H2 Z d v := rep Z (.same_ s2) fun a z => dom_mono s1 er1.dom a z
        have q2 : Rep K g H2 (zb Z L) d v := rep _ (.of s2 fun b n z => z.elim id fun e => absurd hL (by rw [← e]; exact n)) fun a z => z.elim (fun z => dom_mono s1 er1.dom a z) fun e => by rw [e, hD]; simp
        cases ea : pt.go d (wipeE env vs) with
        | none => rw [ea] at hc; cases hc
        | some e1 =>
          rw [ea] at hc
          have hc : ((t e1).quiet.bind fun b => if b = true then (mi1 e1).quiet.bind fun xs1 => (compL pt1.go t1 me (wipeE e1 vs1) xs1).bind fun r1 => (compL2 pt.go t mi1 pt1.go t1 me vs1 (wipeE env vs) (xs.drop (i + 1))).bind fun r2 => .ok (r1 ++ r2) else compL2 pt.go t mi1 pt1.go t1 me vs1 (wipeE env vs) (xs.drop (i + 1))) = .ok r := hc
          refine Pt.okG (G := mn L H2) (Z := Z) (Z2 := zb Z L) kp_show sub (erm.wipe vs) (Rep.mono (kp_hide hD2) _ _ q2) ea fun σ2 ws er2 => ?_
          refine ⟨by rw [ws, wipe_wipe], e1, zb Z L, er2.show_ hD2, ?_⟩
          cases et : t e1 with
          | ex c p => rw [et] at hc; cases hc
          | st => rw [et] at hc; cases hc
          | ok b =>
            rw [et] at hc
            have hc : (if b = true then (mi1 e1).quiet.bind fun xs1 => (compL pt1.go t1 me (wipeE e1 vs1) xs1).bind fun r1 => (compL2 pt.go t mi1 pt1.go t1 me vs1 (wipeE env vs) (xs.drop (i + 1))).bind fun r2 => .ok (r1 ++ r2) else compL2 pt.go t mi1 pt1.go t1 me vs1 (wipeE env vs) (xs.drop (i + 1))) = .ok r := hc
            intro H3 k3
            have hD3 : H3 L = some (.lst acc) := k3 _ _ hD2
            have hacc3 : RepL K g H3 (zb Z L) ds0 acc := RepL.mono (.same_ (k2.trans k3)) _ _ hacc
            cases b with
            | false => exact ⟨s2.trans k3, acc, ds0, r, hD3, hacc3, hc, ht⟩
            | true =>
              rw [if_pos rfl] at hc ⊢
              have er3 : ERel K g T Z e1 σ2 (mn L H3) := er2.mono (same_mn fun a o _ e => k3 a o e)
              refine ⟨e1, zb Z L, er3.show_ hD3, ?_⟩
              cases em : mi1 e1 with
              | ex c p => rw [em] at hc; cases hc
              | st => rw [em] at hc; cases hc
              | ok xs1 =>
                rw [em] at hc
                have hc : ((compL pt1.go t1 me (wipeE e1 vs1) xs1).bind fun r1 => (compL2 pt.go t mi1 pt1.go t1 me vs1 (wipeE env vs) (xs.drop (i + 1))).bind fun r2 => R.ok (r1 ++ r2)) = .ok r := hc
                cases ec1 : compL pt1.go t1 me (wipeE e1 vs1) xs1 with
                | ex c p => rw [ec1] at hc; cases hc
                | st => rw [ec1] at hc; cases hc
                | ok r1 =>
                  rw [ec1] at hc
                  have hc : ((compL2 pt.go t mi1 pt1.go t1 me vs1 (wipeE env vs) (xs.drop (i + 1))).bind fun r2 => R.ok (r1 ++ r2)) = .ok r := hc
                  cases ec2 : compL2 pt.go t mi1 pt1.go t1 me vs1 (wipeE env vs) (xs.drop (i + 1)) with
                  | ex c p => rw [ec2] at hc; cases hc
                  | st => rw [ec2] at hc; cases hc
                  | ok r2 =>
                    rw [ec2] at hc
                    cases hc
                    intro J1 H4 k4 wk
                    exact innerOk sub1 hlim hL (er3.mono (same_mn fun a o _ e => k4 a o e)) wk ((s2.trans k3).trans k4) (k4 _ _ hD3) (RepL.mono (.same_ k4) _ _ hacc3) ec1 ht fun H5 acc5 s5 d5 a5 => ⟨s5, acc5, ds0 ++ r1, r2, d5, a5, rfl, by rw [ht, List.append_assoc]⟩
      · have ei : i = xs.length := by omega
        subst ei
        rw [List.drop_length] at hc
        cases hc
        rw [List.append_nil] at ht
        subst ht
        exact .inl ⟨walk.stop _ H' (Nat.le_refl _) kp.toF, hp L acc H' (k.trans s1) (k.free hL) hD hacc⟩
end
section
variable {g : G0} {x : L2.St → Prop} {W : WX} {X : Cx} {elt tg iter tg1 iter1 : Expr} {ifs ifs1 : List Expr} {scope : Scope} {own : List (Str × Nat)} {vs1 : List Nat} {pos : Pos} {mi mi1 : En → R (List D)} {pt pt1 : Pt} {t t1 : En → R Bool} {me : M}
theorem de_lc2 (hc : X.calm = true) (hN : X.N.Nodup) (hi : PId g x W X tg iter mi) (ok : BlkOk X.N X.env.scope scope own) (hv : ∀ i ∈ vs1, i ∈ own.map (·.2)) (sub : ∀ i ∈ pt.slots, i ∈ own.map (·.2)) (sub1 : ∀ i ∈ pt1.slots, i ∈ vs1)
    (hg : ∀ (s : Shared) (H : Hp) (C : Addr) (cl : List (Str × Addr)) (fp : List Addr), PG (X.blk s H scope (compEnvC scope cl C X.env) fp) tg (pt.tg X.K))
    (ht : ∀ (s : Shared) (H : Hp) (C : Addr) (cl : List (Str × Addr)) (fp : List Addr), PTsd g T W0 (X.blk s H scope (compEnvC scope cl C X.env) fp) ifs t)
    (hi1 : ∀ (s : Shared) (H : Hp) (C : Addr) (cl : List (Str × Addr)) (fp : List Addr), PId g T W0 (X.blk s H scope (compEnvC scope cl C X.env) fp) tg1 iter1 mi1)
    (hg1 : ∀ (s : Shared) (H : Hp) (C : Addr) (cl : List (Str × Addr)) (fp : List Addr), PG (X.blk s H scope (compEnvC scope cl C X.env) fp) tg1 (pt1.tg X.K))
    (ht1 : ∀ (s : Shared) (H : Hp) (C : Addr) (cl : List (Str × Addr)) (fp : List Addr), PTsd g T W0 (X.blk s H scope (compEnvC scope cl C X.env) fp) ifs1 t1)
    (he : ∀ (s : Shared) (H : Hp) (C : Addr) (cl : List (Str × Addr)) (fp : List Addr), PEd g T W0 (X.blk s H scope (compEnvC scope cl C X.env) fp) elt me) (hs : ∀ x, foldedSetIterable iter X.env x = pure x := by intro _; rfl) (hs1 : ∀ env x, foldedSetIterable iter1 env x = pure x := by intro _ _; rfl) :
    PEd g x W X (.ListComp elt [⟨tg, iter, ifs, 0⟩, ⟨tg1, iter1, ifs1, 0⟩] scope pos) (mComp2 mi pt t mi1 pt1 t1 me (own.map (·.2)) vs1) :=
  weakE (pe_lc2 hc hN hi ok hv hg ht hi1 hg1 ht1 he hs hs1) fun σ H Q h => lc2Ok sub sub1 h
theorem ds_setLc2 {i : Nat} {y : Str} {py spos : Pos} (hx : ∀ σ, x σ) (hc : X.calm = true) (hN : X.N.Nodup) (hy : X.N[i]? = some y) (hyl : X.env.scope.names.lookup y = some .local)
    (hsw : swapsWith (.ListComp elt [⟨tg, iter, ifs, 0⟩, ⟨tg1, iter1, ifs1, 0⟩] scope pos) (some (.Name y py)) spos.line X.env = pure true) (hi : PId g x W X tg iter mi) (ok : BlkOk X.N X.env.scope scope own) (hv : ∀ i ∈ vs1, i ∈ own.map (·.2)) (sub : ∀ i ∈ pt.slots, i ∈ own.map (·.2)) (sub1 : ∀ i ∈ pt1.slots, i ∈ vs1)
    (hg : ∀ (s : Shared) (H : Hp) (C : Addr) (cl : List (Str × Addr)) (fp : List Addr), PG (X.blk s H scope (compEnvC scope cl C X.env) fp) tg (pt.tg X.K))
    (ht : ∀ (s : Shared) (H : Hp) (C : Addr) (cl : List (Str × Addr)) (fp : List Addr), PTsd g T W0 (X.blk s H scope (compEnvC scope cl C X.env) fp) ifs t)
    (hi1 : ∀ (s : Shared) (H : Hp) (C : Addr) (cl : List (Str × Addr)) (fp : List Addr), PId g T W0 (X.blk s H scope (compEnvC scope cl C X.env) fp) tg1 iter1 mi1)
    (hg1 : ∀ (s : Shared) (H : Hp) (C : Addr) (cl : List (Str × Addr)) (fp : List Addr), PG (X.blk s H scope (compEnvC scope cl C X.env) fp) tg1 (pt1.tg X.K))
    (ht1 : ∀ (s : Shared) (H : Hp) (C : Addr) (cl : List (Str × Addr)) (fp : List Addr), PTsd g T W0 (X.blk s H scope (compEnvC scope cl C X.env) fp) ifs1 t1)
    (he : ∀ (s : Shared) (H : Hp) (C : Addr) (cl : List (Str × Addr)) (fp : List Addr), PEd g T W0 (X.blk s H scope (compEnvC scope cl C X.env) fp) elt me) (hs : ∀ x, foldedSetIterable iter X.env x = pure x := by intro _; rfl) (hs1 : ∀ env x, foldedSetIterable iter1 env x = pure x := by intro _ _; rfl) :
    PSd g x W X (.Assign [.Name y py] (.ListComp elt [⟨tg, iter, ifs, 0⟩, ⟨tg1, iter1, ifs1, 0⟩] scope pos) spos) (sSet i (mComp2 mi pt t mi1 pt1 t1 me (own.map (·.2)) vs1)) :=
  weakS (ps_setLc2 hc hN hy hyl hsw hi ok hv hg ht hi1 hg1 ht1 he hs hs1) fun D σ H ⟨env, A, H0, r, hp⟩ => lc2Ok sub sub1
    (runE (f := fun s => .nx (env.set i (some s))) r hp (fun d v H' _ k q hp => hp _ _ (r.setFr hx k q)) fun xs a vs H' _ k n p q hp => hp _ _ (r.setOw hx k n p q))
end
end DL
set_option Elab.async false
set_option linter.all false
set_option maxRecDepth 100000
set_option maxHeartbeats 4000000
namespace DL
open PySem PySem.Spec L2
open PyProof.Rows hiding St
/-! ### zip of two tuples or two lists, each pair a tuple that is known to be plain -/
def ItF (sa sb : Hp → List V → Prop) : It :=
  ⟨fun i H => ∃ (xs ys : List V) (x y : V), sa H xs ∧ sb H ys ∧ xs[i]? = some x ∧ ys[i]? = some y,
    fun i H v H' => ∃ (at_ : Addr) (ob : Obj) (l r : V), v = .ref at_ ∧ H at_ = none ∧ ob.cls = .type "tuple" ∧ ob.dict = none ∧ H' = upd H at_ (.frz ob (.tup [l, r])) ∧ (∀ xs, sa H xs → xs[i]? = some l) ∧ ∀ ys, sb H ys → ys[i]? = some r,
    fun i H => ∃ xs ys : List V, sa H xs ∧ sb H ys ∧ (xs.length ≤ i ∨ ys.length ≤ i)⟩
section
variable {P : Program} {w : World} {K : PySem.W.Frag} {elts : List Expr} {kk : Nat} {tpos : Pos} {a b z ti to i1 i2 : Addr}
theorem five {c : Addr} (h : c ∈ [z, ti, to, i1, i2]) : c = z ∨ c = ti ∨ c = to ∨ c = i1 ∨ c = i2 := by simpa using h
theorem pair_new {X : Cx} {pins : List (Addr × Obj)} {s : Shared} {σ : L2.St} {H : Hp} {l r : V} {u u2 : Value} {h' : Heap} {ch : List Addr} (I : Inv X pins σ H s) (hf : ∀ c ∈ ch, FpOk X pins H c)
    (hT : h'.get? s.heap.objs.size = some { cls := .type "tuple", data := .seq #[u, u2] }) (ru : RelV l u) (ru2 : RelV r u2) (hk : ∀ c o, c ∉ ch → s.heap.get? c = some o → h'.get? c = some o) :
    Inv X pins σ (upd H s.heap.objs.size (.frz { cls := .type "tuple", data := .seq #[u, u2] } (.tup [l, r]))) { s with heap := h', toks := s.toks } :=
  I.turnedNew (ch := ch) hk hf (Nat.le_refl _) ⟨hT, by show 2 ≤ sizeLine; decide, [u, u2], .cons ru (.cons ru2 .nil), ⟨_, hT, rfl, _, rfl⟩⟩
theorem turn_zipFT (D : ZipApart z ti to i1 i2 a b) : Turn P w K (.Tuple elts kk tpos) (ItF (fun H xs => SqT K H a xs) fun H ys => SqT K H b ys) [z, ti, to, i1, i2] z
    (fun i h => IsZip h z ti to .none ∧ IsPair h ti (.ref i1) (.ref i2) ∧ (∃ x y, IsPair h to x y) ∧ h.IsTupleIter i1 a i ∧ h.IsTupleIter i2 b i) where
  mem := (RZ.turn_zipT (P := P) (w := w) (K := K) (elts := elts) (kk := kk) (tpos := tpos) D).mem
  obj := (RZ.turn_zipT (P := P) (w := w) (K := K) (elts := elts) (kk := kk) (tpos := tpos) D).obj
  keep := (RZ.turn_zipT (P := P) (w := w) (K := K) (elts := elts) (kk := kk) (tpos := tpos) D).keep
  done := (RZ.turn_zipT (P := P) (w := w) (K := K) (elts := elts) (kk := kk) (tpos := tpos) D).done
  self := (RZ.turn_zipT (P := P) (w := w) (K := K) (elts := elts) (kk := kk) (tpos := tpos) D).self
  item := by
    intro X eP ew eK hc i pins s σ H E I hf ⟨oz, oti, ⟨p0, q0, oto⟩, n1, n2⟩ ⟨xs, ys, l, r, sx, sy, gl, gr⟩
    subst eP ew eK
    obtain ⟨us, va, ta, _⟩ := I.tuple sx
    obtain ⟨us2, vb, tb, _⟩ := I.tuple sy
    obtain ⟨u, gu, ru⟩ := va.get gl
    obtain ⟨u2, gu2, ru2⟩ := vb.get gr
    have lz : z < s.heap.objs.size := Heap.lt_size oz
    refine RZ.pyNext_zipT_item D oz oti oto n1 n2 ta tb (x := u) (y := u2) (by simpa using gu) (by simpa using gu2) fun h1 z1 to1 m1 m2 nt _ hk => ⟨_, rfl, wpAny_letOwnedTupleGo_zip (s := { s with heap := h1 }) z1 fun h2 z2 sb => ?_⟩
    have I1 := pair_new (ch := [z, ti, to, i1, i2]) (h' := h2) I hf ((sb.2 _ (Nat.ne_of_gt lz)).trans nt) ru ru2 fun c o hb q => by
      have n : c ≠ z ∧ c ≠ ti ∧ c ≠ to ∧ c ≠ i1 ∧ c ≠ i2 := by simpa using hb
      exact (sb.2 c n.1).trans (hk c o n.1 n.2.2.1 n.2.2.2.1 n.2.2.2.2 q)
    refine ⟨.ref s.heap.objs.size, _, I1, rfl, ⟨_, _, l, r, rfl, I.hok.fresh (Nat.le_refl _), rfl, rfl, rfl, fun zs q => by rw [I.tuple_inj q sx]; exact gl, fun zs q => by rw [I.tuple_inj q sy]; exact gr⟩,
      ⟨z2, (sb.2 _ D.TIz).trans (hk _ _ D.TIz D.TITO D.TIi1 D.TIi2 oti), ⟨u, u2, (sb.2 _ D.TOz).trans to1⟩, m1.at fun o q => (sb.2 _ D.i1z).trans q, m2.at fun o q => (sb.2 _ D.i2z).trans q⟩, fun c hcm => ?_⟩
    have lt : c < s.heap.objs.size := by
      obtain ⟨_, k1, _⟩ := n1
      obtain ⟨_, k2, _⟩ := n2
      rcases five hcm with q | q | q | q | q <;> rw [q]
      · exact lz
      · exact Heap.lt_size oti
      · exact Heap.lt_size oto
      · exact Heap.lt_size k1
      · exact Heap.lt_size k2
    rw [upd_ne (Nat.ne_of_lt lt)]
    exact (hf c hcm).1
theorem turn_zipFL (D : ZipApart z ti to i1 i2 a b) : Turn P w K (.Tuple elts kk tpos) (ItF (fun H xs => SqL K H a xs) fun H ys => SqL K H b ys) [z, ti, to, i1, i2] z
    (fun i h => IsZip h z ti to .none ∧ IsPair h ti (.ref i1) (.ref i2) ∧ (∃ x y, IsPair h to x y) ∧ h.IsListIter i1 a i ∧ h.IsListIter i2 b i) where
  mem := (turn_zip (P := P) (w := w) (K := K) (elts := elts) (kk := kk) (tpos := tpos) D).mem
  obj := (turn_zip (P := P) (w := w) (K := K) (elts := elts) (kk := kk) (tpos := tpos) D).obj
  keep := (turn_zip (P := P) (w := w) (K := K) (elts := elts) (kk := kk) (tpos := tpos) D).keep
  done := (turn_zip (P := P) (w := w) (K := K) (elts := elts) (kk := kk) (tpos := tpos) D).done
  self := (turn_zip (P := P) (w := w) (K := K) (elts := elts) (kk := kk) (tpos := tpos) D).self
  item := by
    intro X eP ew eK hc i pins s σ H E I hf ⟨oz, oti, ⟨p0, q0, oto⟩, n1, n2⟩ ⟨xs, ys, l, r, sx, sy, gl, gr⟩
    subst eP ew eK
    obtain ⟨us, va, ta, _⟩ := I.list sx
    obtain ⟨us2, vb, tb, _⟩ := I.list sy
    obtain ⟨u, gu, ru⟩ := va.get gl
    obtain ⟨u2, gu2, ru2⟩ := vb.get gr
    have lz : z < s.heap.objs.size := Heap.lt_size oz
    refine wpAny_pyNext_zip_item D oz oti oto n1 n2 ta.isList tb.isList (x := u) (y := u2) (by simpa using gu) (by simpa using gu2) fun h1 z1 to1 m1 m2 nt _ hk => ⟨_, rfl, wpAny_letOwnedTupleGo_zip (s := { s with heap := h1 }) z1 fun h2 z2 sb => ?_⟩
    have I1 := pair_new (ch := [z, ti, to, i1, i2]) (h' := h2) I hf ((sb.2 _ (Nat.ne_of_gt lz)).trans nt) ru ru2 fun c o hb q => by
      have n : c ≠ z ∧ c ≠ ti ∧ c ≠ to ∧ c ≠ i1 ∧ c ≠ i2 := by simpa using hb
      exact (sb.2 c n.1).trans (hk c o n.1 n.2.2.1 n.2.2.2.1 n.2.2.2.2 q)
    refine ⟨.ref s.heap.objs.size, _, I1, rfl, ⟨_, _, l, r, rfl, I.hok.fresh (Nat.le_refl _), rfl, rfl, rfl, fun zs q => by rw [I.list_inj q sx]; exact gl, fun zs q => by rw [I.list_inj q sy]; exact gr⟩,
      ⟨z2, (sb.2 _ D.TIz).trans (hk _ _ D.TIz D.TITO D.TIi1 D.TIi2 oti), ⟨u, u2, (sb.2 _ D.TOz).trans to1⟩, m1.at fun o q => (sb.2 _ D.i1z).trans q, m2.at fun o q => (sb.2 _ D.i2z).trans q⟩, fun c hcm => ?_⟩
    have lt : c < s.heap.objs.size := by
      obtain ⟨_, k1, _⟩ := n1
      obtain ⟨_, k2, _⟩ := n2
      rcases five hcm with q | q | q | q | q <;> rw [q]
      · exact lz
      · exact Heap.lt_size oti
      · exact Heap.lt_size oto
      · exact Heap.lt_size k1
      · exact Heap.lt_size k2
    rw [upd_ne (Nat.ne_of_lt lt)]
    exact (hf c hcm).1
end
section
variable {X : Cx} {e e2 : Expr} {ta : TA} {p pos tpos : Pos} {elts : List Expr} {kk : Nat}
theorem pi_zipF (hg : Gl X "zip") (hm : X.mg "zip" = none) (ha : PA X [e, e2] ta)
    (hs : starEach [e, e2] X.env = (false, eval e X.env) :: starEach [e2] X.env := by rfl) (hpl : (backTo pos (starEach [e2] X.env)).any (·.1) = false := by rfl) :
    PI X (.Tuple elts kk tpos) (.Call (.Name "zip" p) [e, e2] [] pos) (fun σ H R => ta σ H fun vs H1 => ∃ a b xs ys, vs = [.ref a, .ref b] ∧
      ((SqL X.K H1 a xs ∧ SqL X.K H1 b ys ∧ R (ItF (fun H xs => SqL X.K H a xs) fun H ys => SqL X.K H b ys) H1) ∨ (SqT X.K H1 a xs ∧ SqT X.K H1 b ys ∧ R (ItF (fun H xs => SqT X.K H a xs) fun H ys => SqT X.K H b ys) H1))) := by
  refine ⟨fun pins s σ H R I h => Call_ (ld_blt I hg hm PyProof.Rows.boot_zip (PyProof.Rows.callWith_type1 (thn (ha.run pos pins s σ H _ I h) fun us s1 ⟨vs, H1, I1, rr, a, b, xs, ys, ev, q1⟩ => ?_) hs hpl))⟩
  subst ev
  obtain ⟨u, u2, eu, ra, rb⟩ := vals2 rr
  subst eu
  obtain rfl : u = .ref a := ra
  obtain rfl : u2 = .ref b := rb
  have fp : ∀ c ∈ [s1.heap.objs.size + 4, s1.heap.objs.size + 2, s1.heap.objs.size + 3, s1.heap.objs.size, s1.heap.objs.size + 1], FpOk X pins H1 c := fun c hc => by
    have le : s1.heap.objs.size ≤ c := by
      rcases five hc with q | q | q | q | q <;> rw [q]
      · exact Nat.le_add_right _ _
      · exact Nat.le_add_right _ _
      · exact Nat.le_add_right _ _
      · exact Nat.le_refl _
      · exact Nat.le_add_right _ _
    exact I1.fpOk le (I1.hok.fresh le)
  rcases q1 with ⟨sx, sy, q⟩ | ⟨sx, sy, q⟩
  · obtain ⟨us, _, ta, _⟩ := I1.list sx
    obtain ⟨us2, _, tb, _⟩ := I1.list sy
    refine call_zip_2 ta.isList tb.isList fun h' oz oti oto n1 n2 _ hk => wpAny_pyIter_zip oz ?_
    exact ⟨_, [s1.heap.objs.size + 4, s1.heap.objs.size + 2, s1.heap.objs.size + 3, s1.heap.objs.size, s1.heap.objs.size + 1], _, _, H1, rfl, I1.kept (t' := s1.toks) hk, turn_zipFL (PySem.W.ktu_apart s1.heap.objs.size a b ta.lt tb.lt), ⟨oz, oti, ⟨_, _, oto⟩, n1, n2⟩, fp, q⟩
  · obtain ⟨us, _, ta, _⟩ := I1.tuple sx
    obtain ⟨us2, _, tb, _⟩ := I1.tuple sy
    have la : a < s1.heap.objs.size := by obtain ⟨o, k, _⟩ := ta; exact Heap.lt_size k
    have lb : b < s1.heap.objs.size := by obtain ⟨o, k, _⟩ := tb; exact Heap.lt_size k
    refine RZ.call_zipT (show s1.heap.IsTuple a us.toArray from ta) (show s1.heap.IsTuple b us2.toArray from tb) fun h' oz oti oto n1 n2 _ hk => wpAny_pyIter_zip oz ?_
    exact ⟨_, [s1.heap.objs.size + 4, s1.heap.objs.size + 2, s1.heap.objs.size + 3, s1.heap.objs.size, s1.heap.objs.size + 1], _, _, H1, rfl, I1.kept (t' := s1.toks) hk, turn_zipFT (PySem.W.ktu_apart s1.heap.objs.size a b la lb), ⟨oz, oti, ⟨_, _, oto⟩, n1, n2⟩, fp, q⟩
end
def zipD : List D → List D → List D
  | x :: xs, y :: ys => .tup [x, y] :: zipD xs ys
  | _, _ => []
def zipR : List D → R (List D)
  | [.lst xs, .lst ys] => .ok (zipD xs ys)
  | [.tup xs, .tup ys] => .ok (zipD xs ys)
  | _ => .st
theorem zipR_cases (ds : List D) : (∃ xs ys, ds = [.lst xs, .lst ys] ∧ zipR ds = .ok (zipD xs ys)) ∨ (∃ xs ys, ds = [.tup xs, .tup ys] ∧ zipR ds = .ok (zipD xs ys)) ∨ zipR ds = .st := by
  unfold zipR
  split
  · exact .inl ⟨_, _, rfl, rfl⟩
  · exact .inr (.inl ⟨_, _, rfl, rfl⟩)
  · exact .inr (.inr rfl)
def mZip (mr : En → R (List D)) : En → R (List D) := fun env => (mr env).bind zipR
theorem zipD_get : ∀ {xs ys : List D} {i : Nat} {d : D}, (zipD xs ys)[i]? = some d → ∃ a b, xs[i]? = some a ∧ ys[i]? = some b ∧ d = .tup [a, b]
  | x :: xs, y :: ys, 0, d, h => by
    unfold zipD at h
    simp at h
    exact ⟨x, y, rfl, rfl, h.symm⟩
  | x :: xs, y :: ys, i + 1, d, h => by
    unfold zipD at h
    obtain ⟨a, b, h1, h2, h3⟩ := zipD_get (by simpa using h)
    exact ⟨a, b, by simpa using h1, by simpa using h2, h3⟩
  | [], ys, i, d, h => by simp [zipD] at h
  | x :: xs, [], i, d, h => by simp [zipD] at h
theorem zipD_length : ∀ (xs ys : List D), (zipD xs ys).length = min xs.length ys.length
  | x :: xs, y :: ys => by unfold zipD; rw [List.length_cons, List.length_cons, List.length_cons, zipD_length xs ys]; omega
  | [], ys => by simp [zipD]
  | x :: xs, [] => by simp [zipD]
section
variable {K : PySem.W.Frag} {g : G0} {Z : Av} {H : Hp}
theorem walk_zipF {sa sb : Hp → List V → Prop} {ds es : List D} {vs ws : List V} (r : RepL K g H Z ds vs) (r2 : RepL K g H Z es ws) (hs : ∀ H', Kp H Z H' (fun _ => False) → sa H' vs) (hs2 : ∀ H', Kp H Z H' (fun _ => False) → sb H' ws) : Walk K g Z H (ItF sa sb) (zipD ds es) where
  go := fun i d H' e k => by
    obtain ⟨a, b, h1, h2, _⟩ := zipD_get e
    obtain ⟨v, h3, _⟩ := r.get h1
    obtain ⟨v2, h4, _⟩ := r2.get h2
    exact ⟨vs, ws, v, v2, hs H' k, hs2 H' k, h3, h4⟩
  yld := fun i d H' v H'' e k y => by
    obtain ⟨at_, o, l, q, rfl, hn, oc, od, rfl, y1, y2⟩ := y
    obtain ⟨a, b, h1, h2, h3⟩ := zipD_get e
    obtain ⟨v1, g1, p1⟩ := r.get h1
    obtain ⟨v2, g2, p2⟩ := r2.get h2
    have e1 := y1 vs (hs H' k)
    rw [g1] at e1
    cases e1
    have e2 := y2 ws (hs2 H' k)
    rw [g2] at e2
    cases e2
    refine ⟨same_upd hn, fun Z' k2 hz => ?_⟩
    rw [h3]
    exact Rep.tup_.mpr ⟨at_, _, rfl, .inl ⟨o, upd_same, oc, od⟩, RepL.cons_.mpr ⟨_, _, rfl, Rep.mono k2 _ _ p1, .one (Rep.mono k2 _ _ p2)⟩⟩
  stop := fun i H' l k => ⟨vs, ws, hs H' k, hs2 H' k, by rw [zipD_length, r.length, r2.length] at l; omega⟩
end
section
variable {g : G0} {x : L2.St → Prop} {W : WX} {X : Cx} {e e2 : Expr} {p pos tpos : Pos} {elts : List Expr} {kk : Nat} {mr : En → R (List D)}
theorem di_zip (hg : Gl X "zip") (hm : X.mg "zip" = none) (ha : PAd g x W X [e, e2] mr)
    (hs : starEach [e, e2] X.env = (false, eval e X.env) :: starEach [e2] X.env := by rfl) (hpl : (backTo pos (starEach [e2] X.env)).any (·.1) = false := by rfl) : PId g x W X (.Tuple elts kk tpos) (.Call (.Name "zip" p) [e, e2] [] pos) (mZip mr) :=
  weakI (pi_zipF hg hm ha hs hpl) fun σ H Rn ⟨env, Z, er, hp⟩ => by
    refine ⟨env, Z, er, ?_⟩
    unfold mZip at hp
    cases em : mr env with
    | ok ds =>
      rw [em] at hp
      have hp : PostI X.K g W Z σ H Rn (zipR ds) := hp
      intro vs H' k r
      rcases zipR_cases ds with ⟨xs, ys, ed, ez⟩ | ⟨xs, ys, ed, ez⟩ | ez
      · rw [ez] at hp
        subst ed
        obtain ⟨v, _, e1, q1, r2⟩ := RepL.cons_.mp r
        obtain ⟨v2, _, e3, q2, r3⟩ := RepL.cons_.mp r2
        have e4 := RepL.nil_.mp r3
        subst e1 e3 e4
        obtain ⟨a, us, e5, rd, rr⟩ := Rep.lst_.mp q1
        obtain ⟨b, ws, e6, rd2, rr2⟩ := Rep.lst_.mp q2
        subst e5 e6
        exact ⟨a, b, us, ws, rfl, .inl ⟨rd.sq, rd2.sq, hp _ H' k (walk_zipF rr rr2 (fun H2 k2 => (k2.ls rd).sq) fun H2 k2 => (k2.ls rd2).sq)⟩⟩
      · rw [ez] at hp
        subst ed
        obtain ⟨v, _, e1, q1, r2⟩ := RepL.cons_.mp r
        obtain ⟨v2, _, e3, q2, r3⟩ := RepL.cons_.mp r2
        have e4 := RepL.nil_.mp r3
        subst e1 e3 e4
        obtain ⟨a, us, e5, rd, rr⟩ := Rep.tup_.mp q1
        obtain ⟨b, ws, e6, rd2, rr2⟩ := Rep.tup_.mp q2
        subst e5 e6
        exact ⟨a, b, us, ws, rfl, .inr ⟨rd.sqT, rd2.sqT, hp _ H' k (walk_zipF rr rr2 (fun H2 k2 => (k2.tu rd).sqT) fun H2 k2 => (k2.tu rd2).sqT)⟩⟩
      · rw [ez] at hp
        exact hp.elim
    | ex c p => rw [em] at hp; exact hp
    | st => rw [em] at hp; exact hp.elim
end
end DL
set_option Elab.async false
set_option linter.all false
set_option maxRecDepth 100000
set_option maxHeartbeats 4000000
namespace DL
open PySem PySem.Spec L2
open PyProof.Rows hiding St
/-! ### xs.append(xs.pop(k)), xs.reverse() -/
def sRot (i : Nat) (mk : B) : MS := fun env => match env[i]? with
  | some (some (.ow xs)) => match mk env with
    | .ok k => match k with
      | .int n => match ixD xs.length n with
        | some l => match xs[l]? with
          | some d => if xs.length < lim ∧ -1000000 ≤ n ∧ n ≤ 1000000 then .nx ((env.set i (some (.ow (xs.eraseIdx l)))).set i (some (.ow (xs.eraseIdx l ++ [d])))) else .st
          | none => .st
        | none => .st
      | _ => .st
    | .ex c p => .ex c p env
    | .st => .st
  | _ => .st
def sRev (i : Nat) : MS := fun env => match env[i]? with
  | some (some (.ow xs)) => .nx (env.set i (some (.ow xs.reverse)))
  | _ => .st
section
variable {g : G0} {x : L2.St → Prop} {W : WX} {X : Cx} {ek : Expr} {pos apos cpos apos2 cpos2 p p2 : Pos} {mk : B} {y : Str}
theorem RepL.rev {K : PySem.W.Frag} {H : Hp} {Z : Av} : ∀ {ds : List D} {vs : List V}, RepL K g H Z ds vs → RepL K g H Z ds.reverse vs.reverse
  | [], vs, h => by
    have e := RepL.nil_.mp h
    subst e
    exact RepL.nil_.mpr rfl
  | d :: ds, vs, h => by
    obtain ⟨v, r, e, h1, h2⟩ := RepL.cons_.mp h
    subst e
    rw [List.reverse_cons, List.reverse_cons]
    exact (RepL.rev h2).append (.one h1)
theorem ds_rot (i : Nat) (hN : X.N[i]? = some y) (hv : Vis X.env.scope y) (hd : (y == ("__debug__" : Str)) = false) (hcd : (y == ("__classdict__" : Str)) = false) (hk : PBd g x W X ek mk)
    (hb1 : attributeBase (.Name y p) "append" X.env (eval (.Name y p) X.env) = eval (.Name y p) X.env) (hb2 : attributeBase (.Name y p2) "pop" X.env (eval (.Name y p2) X.env) = eval (.Name y p2) X.env)
    (hl1 : (apos.endLine == cpos.line) = true) (hl2 : (apos2.endLine == cpos2.line) = true) (hs2 : starEach [ek] X.env = [(false, eval ek X.env)])
    (hs1 : starEach [.Call (.Attribute (.Name y p2) "pop" apos2) [ek] [] cpos2] X.env = [(false, eval (.Call (.Attribute (.Name y p2) "pop" apos2) [ek] [] cpos2) X.env)])
    (hs : swapsWith (.Call (.Attribute (.Name y p) "append" apos) [.Call (.Attribute (.Name y p2) "pop" apos2) [ek] [] cpos2] [] cpos) none pos.line X.env = pure false) :
    PSd g x W X (.Expr (.Call (.Attribute (.Name y p) "append" apos) [.Call (.Attribute (.Name y p2) "pop" apos2) [ek] [] cpos2] [] cpos) pos) (sRot i mk) :=
  weakS (ps_expr (pe_bm PySem.F.plainAttrs_list PySem.F.slot_list_append PySem.F.type_list_append mt_append (pe_var hN hv hd hcd)
    (pa_cons (pe_bm PySem.F.plainAttrs_list PySem.F.slot_list_pop PySem.F.type_list_pop mt_popAt (pe_var hN hv hd hcd) (pa_cons hk pa_nil hs2) hb2 (by rw [hs2]; rfl) hl2 hs2 rfl) pa_nil hs1) hb1 (by rw [hs1]; rfl) hl1 hs1 rfl) hs) fun D σ H ⟨env, A, H0, r, hp⟩ => by
    unfold sRot at hp
    split at hp
    · rename_i xs e1
      obtain ⟨v, f1, a, vs, ev, za, pa, ra⟩ := r.er.at_ i _ e1
      subst ev
      refine ⟨.ref a, f1, .inl ⟨rfl, vs, SqL.of pa⟩, .ref a, f1, .inl ⟨rfl, vs, SqL.of pa⟩, env, zz A env σ, r.er, ?_⟩
      cases ek : mk env with
      | ok kd =>
        rw [ek] at hp
        intro w H1 k q
        cases kd with
        | int n =>
          have hp : PostS X.K g x W A H0 D (match ixD xs.length n with
            | some l => match xs[l]? with
              | some d => if xs.length < lim ∧ -1000000 ≤ n ∧ n ≤ 1000000 then .nx ((env.set i (some (.ow (xs.eraseIdx l)))).set i (some (.ow (xs.eraseIdx l ++ [d])))) else .st
              | none => .st
            | none => .st) := hp
          split at hp
          · rename_i l hl
            split at hp
            · rename_i d hd
              split at hp
              · rename_i hc
                obtain ⟨hlim, h1, h2⟩ := hc
                have ra1 := RepL.mono (.same_ (Z := zz A env σ) k) _ _ ra
                obtain ⟨vd, hvd, qd⟩ := ra1.get hd
                have hix : ixN vs.length n = some l := by rw [← ra.length]; exact hl
                have r2 := (r.later k).mut e1 f1 (ra1.eraseIdx l)
                have hi : i < env.length := (List.getElem?_eq_some_iff.mp e1).1
                have e1' : (env.set i (some (.ow (xs.eraseIdx l))))[i]? = some (some (.ow (xs.eraseIdx l))) := List.getElem?_set_self hi
                have kz : Kp H1 (zz A env σ) (upd H1 a (.lst (vs.eraseIdx l))) (zz A (env.set i (some (.ow (xs.eraseIdx l)))) σ) := by
                  refine ⟨fun c o e n => by rw [upd_ne (fun q => n (by rw [q]; exact za))]; exact e, fun c o ts e => ?_, fun c _ n z => n ?_⟩
                  · rw [upd_ne]
                    · exact e
                    · intro q
                      rw [q, k _ _ pa] at e
                      cases e
                  · rcases z with z | ⟨m, us, g1, g2⟩
                    · exact .inl z
                    · rcases set_get g1 with ⟨jm, _, _⟩ | ⟨_, g1⟩
                      · subst jm; exact .inr ⟨i, xs, e1, g2⟩
                      · exact .inr ⟨m, us, g1, g2⟩
                have le : (vs.eraseIdx l).length ≤ vs.length := List.length_eraseIdx_le _ _
                refine ⟨a, vs, n, l, vd, rfl, by rw [q.int_], k _ _ pa, by omega, by omega, (ixN_seq hix).1, hvd, ?_⟩
                refine ⟨a, vs.eraseIdx l, vd, rfl, rfl, upd_same, Nat.lt_of_le_of_lt le (by rw [← ra.length]; exact limLine' hlim), ?_⟩
                exact hp σ _ (r2.mut e1' f1 ((RepL.mono kz _ _ (ra1.eraseIdx l)).append (.one (Rep.mono kz _ _ qd))))
              · exact hp.elim
            · exact hp.elim
          · exact hp.elim
        | _ => exact hp.elim
      | ex c p => rw [ek] at hp; exact fun H' dd k q => hp σ H' dd (r.later k) (exA q)
      | st => rw [ek] at hp; exact hp
    · exact hp.elim
theorem ds_rev (i : Nat) (hN : X.N[i]? = some y := by rfl) (hv : Vis X.env.scope y := by first | exact Or.inl rfl | exact Or.inr (Or.inl rfl) | exact Or.inr (Or.inr rfl)) (hd : (y == ("__debug__" : Str)) = false := by decide) (hcd : (y == ("__classdict__" : Str)) = false := by decide)
    (hb : attributeBase (.Name y p) "reverse" X.env (eval (.Name y p) X.env) = eval (.Name y p) X.env := by rfl) (hl : (apos.endLine == cpos.line) = true := by rfl)
    (hs : swapsWith (.Call (.Attribute (.Name y p) "reverse" apos) [] [] cpos) none pos.line X.env = pure false := by rfl) : PSd g x W X (.Expr (.Call (.Attribute (.Name y p) "reverse" apos) [] [] cpos) pos) (sRev i) :=
  weakS (ps_expr (pe_bm0 PySem.F.plainAttrs_list PySem.F.slot_list_reverse PySem.F.type_list_reverse mt_reverse (pe_var hN hv hd hcd) hb hl) hs) fun D σ H ⟨env, A, H0, r, hp⟩ => by
    unfold sRev at hp
    split at hp
    · rename_i xs e1
      obtain ⟨v, f1, a, vs, ev, za, pa, ra⟩ := r.er.at_ i _ e1
      subst ev
      exact ⟨.ref a, f1, .inl ⟨rfl, vs, SqL.of pa⟩, a, vs, rfl, rfl, pa, hp σ _ (r.mut e1 f1 ra.rev)⟩
    · exact hp.elim
end
end DL
set_option Elab.async false
set_option linter.all false
set_option maxRecDepth 100000
set_option maxHeartbeats 4000000
namespace DL
open PySem PySem.Spec L2
open PyProof.Rows hiding St
/-! ### xs.index(y), a tuple or a list -/
theorem toPyL_get : ∀ (xs : List D) (i : Nat), (toPyL xs)[i]? = (xs[i]?).map toPy
  | [], i => by simp [toPyL]
  | x :: xs, 0 => by simp [toPyL]
  | x :: xs, i + 1 => by
    have e := toPyL_get xs i
    simp only [toPyL, List.getElem?_cons_succ]
    exact e
theorem noObjL_get : ∀ {xs : List D} {i : Nat} {d : D}, noObjL xs = true → xs[i]? = some d → noObj d = true
  | x :: xs, 0, d, h, e => by
    simp only [noObjL, Bool.and_eq_true] at h
    cases e
    exact h.1
  | x :: xs, i + 1, d, h, e => by
    simp only [noObjL, Bool.and_eq_true] at h
    exact noObjL_get h.2 (by simpa using e)
  | [], i, d, h, e => by simp at e
theorem PE.or {X : Cx} {e : Expr} {t u : TE} (h : PE X e t) (h' : PE X e u) : PE X e (fun σ H Q => t σ H Q ∨ u σ H Q) :=
  ⟨fun pins s σ H Q I q => q.elim (h.run pins s σ H Q I) (h'.run pins s σ H Q I)⟩
def mLstIdx (mo me : B) : M := fun env => (mo env).bind fun t => match t with
  | .lst xs => (me env).bind fun x => fLstIdx (.lst xs) x
  | _ => .st
def mIdx (mo me : B) : M := fun env => (mo env).bind fun t => match t with
  | .tup xs => (me env).bind fun x => fTupIdx (.tup xs) x
  | .lst xs => (me env).bind fun x => fLstIdx (.lst xs) x
  | _ => .st
section
variable {g : G0} {x : L2.St → Prop} {W : WX} {X : Cx} {o e : Expr} {pos apos cpos : Pos} {mo me : B}
theorem de_lstIdx (hu : X.A.units + 65 < cLine) (ho : PBd g x W X o mo) (he : PBd g x W X e me) (hbase : attributeBase o "index" X.env (eval o X.env) = eval o X.env := by rfl) (hline : (apos.endLine == cpos.line) = true := by rfl)
    (hse : starEach [e] X.env = [(false, eval e X.env)] := by rfl) : PEd g x W X (.Call (.Attribute o "index" apos) [e] [] cpos) (mLstIdx mo me) :=
  weakE (pe_bm PySem.F.plainAttrs_list PySem.F.slot_list_index PySem.F.type_list_index (mt_indexD hu) ho (pa_cons he pa_nil hse) hbase (by rw [hse]; rfl) hline hse rfl) fun σ H Q ⟨env, Z, er, hp⟩ =>
    useB er hp fun d v H1 e1 k1 r1 hp1 => by
      cases d with
      | lst xs =>
        obtain ⟨a, vs, ev, sq, rr⟩ := r1.lst'
        have hp1 : PostE X.K g W Z σ H1 Q ((me env).bind fun y => fLstIdx (.lst xs) y) := hp1
        subst ev
        refine ⟨.inl ⟨rfl, vs, sq⟩, ?_⟩
        refine useB (er.mono k1) hp1 fun y u H2 e2 k2 r2 hp2 => ?_
        have hp2 : PostE X.K g W Z σ H2 Q (if (okE (.lst xs) && okE y) = true then match fIdxAux y xs 0 with
          | some j => .ok (.fr (.int j))
          | none => .st else .st) := hp2
        split at hp2
        · rename_i hm
          simp only [okE, Bool.and_eq_true] at hm
          split at hp2
          · rename_i j hj
            obtain ⟨_, c, h2, h3, h4⟩ := idx_at hj
            rw [Nat.sub_zero] at h2 h4
            have nl : noObjL xs = true := by simpa [noObj] using hm.1.1
            have tl : toPy (.lst xs) = .list (toPyL xs) := by simp [toPy]
            have dl : Dp X.K H2 (V.ref a) (.list (toPyL xs)) := by
              rw [← tl]
              exact (r1.mono k2).dp hm.1.1
            refine ⟨a, u, toPy y, toPyL xs, j, toPy c, rfl, rfl, dl, r2.dp hm.2.1, by rw [← tl]; exact hm.1.2, hm.2.2, by rw [toPyL_get, h2]; rfl, ?_, fun m z' lm hz' => ?_, hp2 _ H2 (Same.refl _) (Rep.int_.mpr rfl)⟩
            · rw [eqv_py c y (noObjL_get nl h2) hm.2.1]
              exact h3
            · rw [toPyL_get] at hz'
              cases em : xs[m]? with
              | none => rw [em] at hz'; cases hz'
              | some b =>
                rw [em] at hz'
                cases hz'
                rw [eqv_py b y (noObjL_get nl em) hm.2.1]
                exact h4 m b lm em
          · exact hp2.elim
        · exact hp2.elim
      | _ => exact hp1.elim
theorem de_idx (hu : X.A.units + 65 < cLine) (ho : PBd g x W X o mo) (he : PBd g x W X e me) (hbase : attributeBase o "index" X.env (eval o X.env) = eval o X.env := by rfl) (hline : (apos.endLine == cpos.line) = true := by rfl)
    (hse : starEach [e] X.env = [(false, eval e X.env)] := by rfl) : PEd g x W X (.Call (.Attribute o "index" apos) [e] [] cpos) (mIdx mo me) :=
  weakE (PE.or (de_tupIdx ho he hbase hline hse) (de_lstIdx hu ho he hbase hline hse)) fun σ H Q ⟨env, Z, er, hp⟩ => by
    unfold mIdx at hp
    cases em : mo env with
    | ok t =>
      rw [em] at hp
      cases t with
      | lst xs => exact .inr ⟨env, Z, er, by unfold mLstIdx; rw [em]; exact hp⟩
      | tup xs => exact .inl ⟨env, Z, er, by unfold mTupIdx; rw [em]; exact hp⟩
      | _ => exact hp.elim
    | ex c p => exact .inl ⟨env, Z, er, by unfold mTupIdx; rw [em]; rw [em] at hp; exact hp⟩
    | st => rw [em] at hp; exact hp.elim
end
end DL
set_option Elab.async false
set_option linter.all false
set_option maxRecDepth 100000
set_option maxHeartbeats 4000000
namespace DL
open PySem PySem.Spec L2
open PyProof.Rows hiding St
/-! ### a call that is lent lists: it answers a flat value, so that it keeps none of them -/
def lent (F : List D → R Sl) : List D → R Sl := fun ds => match F ds with
  | .ok (.fr d) => if flatD d = true then .ok (.fr d) else .st
  | .ex c none => .ex c none
  | _ => .st
section
variable {K : PySem.W.Frag} {g : G0} {H : Hp} {Z : Av}
theorem RepB.all {d : D} {v : V} (h : RepB K g H Z d v) : Rep K g H (fun _ => False) d v := by
  have kz : Kp H Z H (fun _ => False) := ⟨fun _ _ e _ => e, fun _ _ _ e => e, fun _ _ _ z => z⟩
  rcases h with h | ⟨xs, a, vs, e1, e2, e3, r⟩
  · exact Rep.mono kz _ _ h
  · subst e1 e2
    exact Rep.lst_.mpr ⟨a, vs, rfl, .inl ⟨fun z => z, .inl e3⟩, RepL.mono kz _ _ r⟩
theorem flat_z {d : D} {v : V} {Z' : Av} (f : flatD d = true) (h : Rep K g H Z d v) : Rep K g H Z' d v := by
  cases d with
  | non => exact Rep.non_.mpr (Rep.non_.mp h)
  | bl b => exact Rep.bl_.mpr (Rep.bl_.mp h)
  | int i => exact Rep.int_.mpr (Rep.int_.mp h)
  | str y => exact Rep.str_.mpr (Rep.str_.mp h)
  | _ => cases f
theorem RepBL.all : ∀ {ds : List D} {vs : List V}, RepBL K g H Z ds vs → RepL K g H (fun _ => False) ds vs
  | [], vs, h => by
    unfold RepBL at h
    exact RepL.nil_.mpr h
  | d :: ds, vs, h => by
    unfold RepBL at h
    obtain ⟨v, r, e, h1, h2⟩ := h
    exact RepL.cons_.mpr ⟨v, r, e, h1.all, RepBL.all h2⟩
end
section
variable {g : G0} {x : L2.St → Prop} {W : WX} {X : Cx} {e : Expr} {es : List Expr} {mr : En → R (List D)} {pos p : Pos}
theorem de_fnB {k : Nat} {y : Str} {ps : List Str} {f : Fn} (F : FD X.prog X.w X.K X.mg X.base g k y ps f) (hr : Room k X.A) (tk : Takes X W) (hg : Gl X y) (ha : PBAd g x W X (e :: es) mr)
    (hdb : (y == ("__debug__" : Str)) = false := by decide) (he : starEach (e :: es) X.env = (false, eval e X.env) :: starEach es X.env := by rfl) (hpl : (backTo pos (starEach es X.env)).any (·.1) = false := by rfl) :
    PEd g x W X (.Call (.Name y p) (e :: es) [] pos) (mCall (lent f) mr) := by
  obtain ⟨a, fd, hm, hk, hb, hF⟩ := F.ex
  exact weakE (pe_callS hF hr hg hm hk hb (fun σ => passAt tk σ) ha hdb he hpl) fun σ H Q ⟨env, Z, er, hp⟩ =>
    useBL er hp fun ds vs H1 e1 k1 r1 hp1 => by
      refine ⟨fun _ => False, ds, fun _ z => z.elim, r1.all, ?_⟩
      unfold lent at hp1
      cases ef : f ds with
      | ok s =>
        rw [ef] at hp1
        cases s with
        | ow xs => exact hp1.elim
        | fr d =>
          have hp1 : PostE X.K g W Z σ H1 Q (if flatD d = true then .ok (.fr d) else .st) := hp1
          split at hp1
          · rename_i fl
            exact fun v H' k r => hp1 v H' k (flat_z fl r)
          · exact hp1.elim
      | ex c p =>
        rw [ef] at hp1
        cases p with
        | none => exact hp1
        | some q => exact hp1.elim
      | st => rw [ef] at hp1; exact hp1.elim
end
end DL
set_option Elab.async false
set_option linter.all false
set_option maxRecDepth 100000
set_option maxHeartbeats 4000000
namespace DL
open PySem PySem.Spec L2
open PyProof.Rows hiding St
/-! ### defs with defaults -/
/-- the def y, called without its last parameters: dD stand for them -/
structure FDd (P : Program) (w : World) (K : PySem.W.Frag) (mg : Str → Option Value) (base : Heap) (g : G0) (k : Nat) (y : Str) (ps : List Str) (dD : List D) (f : Fn) : Prop where
  ex : ∃ a fd dvs ds, mg y = some (.ref a) ∧ PySem.W.keepIn K (.ref a) = true ∧ Vals dvs ds ∧ Binds K fd ps ds ∧ (∀ (H : Hp) (Z : Av), RepL K g H Z dD dvs) ∧ FnOk P w K mg base (L2.CX P w) k a fd ps (Prom K g f)
theorem FDd.mono {P : Program} {w : World} {K : PySem.W.Frag} {mg : Str → Option Value} {base : Heap} {g : G0} {j k : Nat} {y : Str} {ps : List Str} {dD : List D} {f : Fn} (F : FDd P w K mg base g j y ps dD f) (h : j ≤ k) : FDd P w K mg base g k y ps dD f := by
  obtain ⟨a, fd, dvs, ds, h1, h2, h3, h4, h5, h6⟩ := F.ex
  exact ⟨a, fd, dvs, ds, h1, h2, h3, h4, h5, h6.mono h⟩
section
variable {g : G0} {x : L2.St → Prop} {W : WX} {X : Cx} {e : Expr} {es : List Expr} {mr : En → R (List D)} {pos p : Pos}
theorem de_fnD {k : Nat} {y : Str} {ps : List Str} {dD : List D} {f : Fn} (F : FDd X.prog X.w X.K X.mg X.base g k y ps dD f) (hr : Room k X.A) (tk : Takes X W) (hg : Gl X y) (ha : PAd g x W X (e :: es) mr)
    (hdb : (y == ("__debug__" : Str)) = false := by decide) (he : starEach (e :: es) X.env = (false, eval e X.env) :: starEach es X.env := by rfl) (hpl : (backTo pos (starEach es X.env)).any (·.1) = false := by rfl) :
    PEd g x W X (.Call (.Name y p) (e :: es) [] pos) (mCall (fun ds => f (ds ++ dD)) mr) := by
  obtain ⟨a, fd, dvs, vs0, hm, hk, hv, hb, hrep, hF⟩ := F.ex
  exact weakE (pe_callSD hF hr hg hm hk hb hv (fun σ => passAt tk σ) ha hdb he hpl) fun σ H Q ⟨env, Z, er, hp⟩ =>
    useA er hp fun ds vs H1 e1 k1 r1 hp1 => ⟨Z, ds ++ dD, dom_mono k1 er.dom, r1.append (hrep _ _), postW hp1⟩
end
section
variable {P : Program} {w : World} {K : PySem.W.Frag} {mg : Str → Option Value} {base : Heap} {g : G0}
/-- the def of FunD keeps its meaning -/
theorem okD0 {y qual : Str} {params : Arguments} {bd : List Stmt} {scope : Scope} {dvs : List V} {kws : List (Str × V)} {a : Addr} {fd : FuncData} {N ps : List Str} {k : Nat} (F : FunD K y qual params bd scope dvs kws a fd) (S : FnScope N ps scope) (m : MS)
    (body : ∀ (cdv : Value) (A : Around) (outer : List Env) (s : Shared) (H : Hp) (E : XK), Room k (A.deeper (envOfC qual scope s.heap.objs.size a cdv)) →
      PSsd g T (fun c d _ H => E c d H) (cxOf (L2.CX P w) P w K mg base N qual scope a cdv A outer s H E) bd m) : FnOk P w K mg base (L2.CX P w) (k + 1) a fd ps (Prom K g (runF ps.length N.length m)) := by
  have hl : ps.length ≤ N.length := by have := congrArg List.length S.pre; rw [List.length_take] at this; omega
  have len : ∀ vs H Q E, Prom K g (runF ps.length N.length m) vs H Q E → vs.length = ps.length := fun vs H Q E ⟨Z, ds, dom, r, hp⟩ => by
    unfold runF at hp
    split at hp
    · rw [← r.length]; assumption
    · exact hp.elim
  refine F.ok S len fun cdv A outer s H vs Q E hr hsp => ?_
  have lv := len _ _ _ _ hsp
  obtain ⟨Z, ds, dom, r, hp⟩ := hsp
  refine ⟨_, body cdv A outer s H E hr, ?_⟩
  have ld : ds.length = ps.length := by rw [r.length, lv]
  unfold runF at hp
  rw [if_pos ld] at hp
  have zZ : ∀ b, zz Z (env0 ps.length N.length ds) (L2.start N vs) b → Z b := by
    rintro b (z | ⟨i, xs, e1, e2⟩)
    · exact z
    · have e1 := env0_get e1
      rw [List.getElem?_map] at e1
      cases ed : ds[i]? with
      | none => rw [ed] at e1; cases e1
      | some d => rw [ed] at e1; cases e1
  have noow : ∀ (i : Nat) (xs : List D), (env0 ps.length N.length ds)[i]? = some (some (Sl.ow xs)) → False := fun i xs e1 => by
    have e1 := env0_get e1
    rw [List.getElem?_map] at e1
    cases ed : ds[i]? with
    | none => rw [ed] at e1; cases e1
    | some d => rw [ed] at e1; cases e1
  have hlen : (env0 ps.length N.length ds).length = (L2.start N vs).length := by
    unfold env0 L2.start
    rw [List.length_append, List.length_append, List.length_map, List.length_map, List.length_replicate, List.length_replicate, lv, ld]
  have sr : SRel K g T Z H (env0 ps.length N.length ds) (L2.start N vs) H := by
    refine ⟨⟨fun b z => dom b (zZ b z), trivial, hlen, fun i s e1 => ?_⟩, Same.refl _, dom, fun i xs a e1 _ => (noow i xs e1).elim, fun i j xs ys a e1 _ _ _ => (noow i xs e1).elim, hlen⟩
    obtain ⟨v, e2, q⟩ := repl_map r (env0_get e1)
    refine ⟨v, ?_, ?_⟩
    · unfold L2.start
      rw [List.getElem?_append_left]
      · exact e2
      · exact (List.getElem?_eq_some_iff.mp e2).1
    · cases s with
      | fr d => exact Rep.mono (.of (Same.refl _) fun b _ z => zZ b z) _ _ q
      | ow xs => exact (noow i xs e1).elim
  refine ⟨env0 ps.length N.length ds, Z, H, sr, ?_⟩
  cases e : m (env0 ps.length N.length ds) with
  | nx e' => rw [e] at hp; exact fun σ' H' q => hp .non H' q.same (Rep.non_.mpr rfl)
  | rt s => rw [e] at hp; cases s <;> exact hp
  | ex c p e' => rw [e] at hp; exact fun σ' H' dd q z => hp H' dd q.same z
  | bk e' => rw [e] at hp; exact hp.elim
  | ct e' => rw [e] at hp; exact hp.elim
  | st => rw [e] at hp; exact hp.elim
theorem okD {y qual : Str} {params : Arguments} {bd : List Stmt} {scope : Scope} {dvs : List V} {kws : List (Str × V)} {a : Addr} {fd : FuncData} {N ps : List Str} {k : Nat} {dD : List D} (F : FunD K y qual params bd scope dvs kws a fd) (S : FnScope N ps scope) (hm : mg y = some (.ref a)) (hb : Binds K fd ps [])
    (hb2 : ∃ ds, Vals dvs ds ∧ Binds K fd ps ds) (hrep : ∀ (H : Hp) (Z : Av), RepL K g H Z dD dvs) (m : MS)
    (body : ∀ (cdv : Value) (A : Around) (outer : List Env) (s : Shared) (H : Hp) (E : XK), Room k (A.deeper (envOfC qual scope s.heap.objs.size a cdv)) →
      PSsd g T (fun c d _ H => E c d H) (cxOf (L2.CX P w) P w K mg base N qual scope a cdv A outer s H E) bd m) :
    FD P w K mg base g (k + 1) y ps (runF ps.length N.length m) ∧ FDd P w K mg base g (k + 1) y ps dD (runF ps.length N.length m) := by
  have ok := okD0 F S m body
  obtain ⟨ds, h1, h2⟩ := hb2
  exact ⟨⟨a, fd, hm, F.kp, hb, ok⟩, ⟨a, fd, dvs, ds, hm, F.kp, h1, h2, hrep, ok⟩⟩
end
end DL
set_option Elab.async false
set_option linter.all false
set_option maxRecDepth 100000
set_option maxHeartbeats 4000000
namespace DL
open PySem PySem.Spec L2
open PyProof.Rows hiding St
/-! ### bits -/
def fBitAnd : D → D → R Sl
  | .int a, .int b => .ok (.fr (.int (Builtin.bitAnd a b)))
  | _, _ => .st
def fBitOr : D → D → R Sl
  | .int a, .int b => .ok (.fr (.int (Builtin.bitOr a b)))
  | _, _ => .st
def fBitXor : D → D → R Sl
  | .int a, .int b => .ok (.fr (.int (Builtin.bitXor a b)))
  | _, _ => .st
section
variable {K : PySem.W.Frag}
theorem of_band : OpF K (rI0 fun i j => .int (Builtin.bitAnd i j)) fBitAnd := by
  intro g W H Z σ x y v u Q dom rx ry hp
  cases x <;> cases y <;> first | exact hp.elim | skip
  rw [rx.int_, ry.int_]
  exact ⟨_, _, rfl, rfl, hp _ H (Same.refl _) (Rep.int_.mpr rfl)⟩
theorem of_bor : OpF K (rI0 fun i j => .int (Builtin.bitOr i j)) fBitOr := by
  intro g W H Z σ x y v u Q dom rx ry hp
  cases x <;> cases y <;> first | exact hp.elim | skip
  rw [rx.int_, ry.int_]
  exact ⟨_, _, rfl, rfl, hp _ H (Same.refl _) (Rep.int_.mpr rfl)⟩
theorem of_bxor : OpF K (rI0 fun i j => .int (Builtin.bitXor i j)) fBitXor := by
  intro g W H Z σ x y v u Q dom rx ry hp
  cases x <;> cases y <;> first | exact hp.elim | skip
  rw [rx.int_, ry.int_]
  exact ⟨_, _, rfl, rfl, hp _ H (Same.refl _) (Rep.int_.mpr rfl)⟩
end
section
variable {g : G0} {x : L2.St → Prop} {W : WX} {X : Cx} {a b : Expr} {pos : Pos} {ma mb : B}
theorem de_band (ha : PBd g x W X a ma) (hb : PBd g x W X b mb) : PEd g x W X (.BinOp a .BitAnd b pos) (mBin fBitAnd ma mb) := de_op op_and of_band ha hb
theorem de_bor (ha : PBd g x W X a ma) (hb : PBd g x W X b mb) : PEd g x W X (.BinOp a .BitOr b pos) (mBin fBitOr ma mb) := de_op op_or of_bor ha hb
theorem de_bxor (ha : PBd g x W X a ma) (hb : PBd g x W X b mb) : PEd g x W X (.BinOp a .BitXor b pos) (mBin fBitXor ma mb) := de_op op_xor of_bxor ha hb
end
end DL
set_option Elab.async false
set_option linter.all false
set_option maxRecDepth 100000
set_option maxHeartbeats 4000000
namespace DL
open PySem PySem.Spec L2
open PyProof.Rows hiding St
/-! ### all, any, sum of a list -/
def asBL : List D → Option (List Bool)
  | [] => some []
  | .bl b :: r => (asBL r).map (b :: ·)
  | _ => none
def asIL : List D → Option (List Int)
  | [] => some []
  | .int b :: r => (asIL r).map (b :: ·)
  | _ => none
def fAll : List D → R Sl
  | [.lst ds] => match asBL ds with
    | some bs => .ok (.fr (.bl (bs.all id)))
    | none => .st
  | _ => .st
def fAny : List D → R Sl
  | [.lst ds] => match asBL ds with
    | some bs => .ok (.fr (.bl (bs.any id)))
    | none => .st
  | _ => .st
def fSum : List D → R Sl
  | [.lst ds] => match asIL ds with
    | some ns => .ok (.fr (.int ns.sum))
    | none => .st
  | _ => .st
section
variable {K : PySem.W.Frag} {g : G0} {H : Hp} {Z : Av}
theorem asBL_rep : ∀ {ds : List D} {vs : List V} {bs : List Bool}, asBL ds = some bs → RepL K g H Z ds vs → vs = bs.map V.bl
  | [], vs, bs, h, r => by
    cases h
    exact RepL.nil_.mp r
  | d :: ds, vs, bs, h, r => by
    cases d with
    | bl b =>
      have h : (asBL ds).map (b :: ·) = some bs := h
      cases e : asBL ds with
      | none => rw [e] at h; cases h
      | some cs =>
        rw [e] at h
        cases h
        obtain ⟨v, w, ev, h1, h2⟩ := RepL.cons_.mp r
        rw [ev, Rep.bl_.mp h1, asBL_rep e h2]
        rfl
    | _ => cases h
theorem asIL_rep : ∀ {ds : List D} {vs : List V} {bs : List Int}, asIL ds = some bs → RepL K g H Z ds vs → vs = bs.map V.int
  | [], vs, bs, h, r => by
    cases h
    exact RepL.nil_.mp r
  | d :: ds, vs, bs, h, r => by
    cases d with
    | int b =>
      have h : (asIL ds).map (b :: ·) = some bs := h
      cases e : asIL ds with
      | none => rw [e] at h; cases h
      | some cs =>
        rw [e] at h
        cases h
        obtain ⟨v, w, ev, h1, h2⟩ := RepL.cons_.mp r
        rw [ev, Rep.int_.mp h1, asIL_rep e h2]
        rfl
    | _ => cases h
theorem cf_all : CallF K (rAll K) fAll := by
  intro g W H Z σ xs vs Q dom r hp
  unfold fAll at hp
  split at hp
  · rename_i ds
    obtain ⟨v, rfl, rv⟩ := r.one_
    obtain ⟨a, ws, rfl, t, rr⟩ := rv.lst_
    split at hp
    · rename_i bs e
      have ew := asBL_rep e rr
      subst ew
      exact ⟨a, bs, rfl, t, hp _ H (Same.refl _) (Rep.bl_.mpr rfl)⟩
    · exact hp.elim
  · exact hp.elim
theorem cf_any : CallF K (rAny K) fAny := by
  intro g W H Z σ xs vs Q dom r hp
  unfold fAny at hp
  split at hp
  · rename_i ds
    obtain ⟨v, rfl, rv⟩ := r.one_
    obtain ⟨a, ws, rfl, t, rr⟩ := rv.lst_
    split at hp
    · rename_i bs e
      have ew := asBL_rep e rr
      subst ew
      exact ⟨a, bs, rfl, t, hp _ H (Same.refl _) (Rep.bl_.mpr rfl)⟩
    · exact hp.elim
  · exact hp.elim
theorem cf_sum : CallF K (rSum K) fSum := by
  intro g W H Z σ xs vs Q dom r hp
  unfold fSum at hp
  split at hp
  · rename_i ds
    obtain ⟨v, rfl, rv⟩ := r.one_
    obtain ⟨a, ws, rfl, t, rr⟩ := rv.lst_
    split at hp
    · rename_i bs e
      have ew := asIL_rep e rr
      subst ew
      exact ⟨a, bs, rfl, t, hp _ H (Same.refl _) (Rep.int_.mpr rfl)⟩
    · exact hp.elim
  · exact hp.elim
end
section
variable {g : G0} {x : L2.St → Prop} {W : WX} {X : Cx} {e : Expr} {es : List Expr} {mr : En → R (List D)} {pos p : Pos}
theorem de_all (hc : X.calm = true) (hg : Gl X "all") (hm : X.mg "all" = none) (ha : PBAd g x W X (e :: es) mr) (he : starEach (e :: es) X.env = (false, eval e X.env) :: starEach es X.env := by rfl) (hpl : (backTo pos (starEach es X.env)).any (·.1) = false := by rfl) :
    PEd g x W X (.Call (.Name "all" p) (e :: es) [] pos) (mCall fAll mr) := de_callB (cr_all hc) cf_all hg hm (by decide +kernel) ha (by decide) (by decide) he hpl
theorem de_any (hc : X.calm = true) (hg : Gl X "any") (hm : X.mg "any" = none) (ha : PBAd g x W X (e :: es) mr) (he : starEach (e :: es) X.env = (false, eval e X.env) :: starEach es X.env := by rfl) (hpl : (backTo pos (starEach es X.env)).any (·.1) = false := by rfl) :
    PEd g x W X (.Call (.Name "any" p) (e :: es) [] pos) (mCall fAny mr) := de_callB (cr_any hc) cf_any hg hm (by decide +kernel) ha (by decide) (by decide) he hpl
theorem de_sum (hc : X.calm = true) (hg : Gl X "sum") (hm : X.mg "sum" = none) (ha : PBAd g x W X (e :: es) mr) (he : starEach (e :: es) X.env = (false, eval e X.env) :: starEach es X.env := by rfl) (hpl : (backTo pos (starEach es X.env)).any (·.1) = false := by rfl) :
    PEd g x W X (.Call (.Name "sum" p) (e :: es) [] pos) (mCall fSum mr) := de_callB (cr_sum hc) cf_sum hg hm (by decide +kernel) ha (by decide) (by decide) he hpl
end

/-! ### type(x) is T -/
def tyN : D → String
  | .non => "NoneType"
  | .bl _ => "bool"
  | .int _ => "int"
  | .str _ => "str"
  | .tup _ => "tuple"
  | .lst _ => "list"
  | .obj _ _ => ""
def fTyIs (t : Ty) : D → R Sl
  | .obj _ _ => .st
  | d => .ok (.fr (.bl (decide (tyN d = t.nm))))
section
variable {K : PySem.W.Frag}
theorem uf_ty (t : Ty) : UnF K (fun x H Q => rTyp K [x] H fun z H2 => ∃ m n, z = .ty m ∧ V.ty t.nm = .ty n ∧ Q (.bl (decide (m = n))) H2) (fTyIs t) := by
  intro g W H Z σ x v Q dom rx hp
  have fin : ∀ {n : String}, TyB K H v n → Q (.bl (decide (n = t.nm))) H → (rTyp K [v] H fun z H2 => ∃ m n, z = .ty m ∧ V.ty t.nm = .ty n ∧ Q (.bl (decide (m = n))) H2) := fun {n} ty q => ⟨v, n, rfl, ty, n, t.nm, rfl, rfl, q⟩
  cases x with
  | non => rw [rx.non_] at fin ⊢; exact fin .non (hp _ H (Same.refl _) (Rep.bl_.mpr rfl))
  | bl b => rw [rx.bl_] at fin ⊢; exact fin (.bl b) (hp _ H (Same.refl _) (Rep.bl_.mpr rfl))
  | int b => rw [rx.int_] at fin ⊢; exact fin (.int b) (hp _ H (Same.refl _) (Rep.bl_.mpr rfl))
  | str b => rw [rx.str_] at fin ⊢; exact fin (.str b) (hp _ H (Same.refl _) (Rep.bl_.mpr rfl))
  | tup xs =>
    obtain ⟨a, ws, e, tu, rr⟩ := rx.tup_
    subst e
    exact fin (.tup tu.sqT) (hp _ H (Same.refl _) (Rep.bl_.mpr rfl))
  | lst xs =>
    obtain ⟨a, ws, e, rd, rr⟩ := rx.lst_
    subst e
    exact fin (.lst rd) (hp _ H (Same.refl _) (Rep.bl_.mpr rfl))
  | obj c fs => exact hp.elim
end
section
variable {g : G0} {x : L2.St → Prop} {W : WX} {X : Cx} {a : Expr} {pos p p2 pos2 : Pos} {ma : B}
theorem de_tyIs (t : Ty) (hg : Gl X "type") (hm : X.mg "type" = none) (hg2 : Gl X (Str.ofString t.nm)) (hm2 : X.mg (Str.ofString t.nm) = none) (ha : PBd g x W X a ma)
    (hv : bootBuiltins (Str.ofString t.nm) = some (.type t.nm) := by decide +kernel) (hn : (Str.ofString t.nm) ≠ "__name__" := by decide) (hd : ((Str.ofString t.nm) == ("__debug__" : Str)) = false := by decide)
    (he : starEach [a] X.env = (false, eval a X.env) :: starEach [] X.env := by rfl) :
    PEd g x W X (.Compare (.Call (.Name "type" p) [a] [] pos) [.Is] [.Name (Str.ofString t.nm) p2] pos2) (mUn (fTyIs t) ma) :=
  weakE (pe_cmpR op_isTy (pe_callTy call_type1 hg hm (by decide +kernel) (pa_cons ha pa_nil he) (by decide) (by decide) he rfl) (pe_bltn (v := .ty t.nm) hg2 hm2 hv rfl hn hd) (nomark _)) fun σ H Q ⟨env, Z, er, hp⟩ =>
    useB er hp fun d v H1 e1 k1 r1 hp1 => uf_ty t g W H1 Z σ _ _ _ (dom_mono k1 er.dom) r1 hp1
end
end DL
set_option Elab.async false
set_option linter.all false
set_option maxRecDepth 100000
set_option maxHeartbeats 4000000
namespace DL
open PySem PySem.Spec L2
open PyProof.Rows hiding St
/-! ### xs.pop() -/
def sPop (i : Nat) : MS := fun env => match env[i]? with
  | some (some (.ow xs)) => match xs[xs.length - 1]? with
    | some _ => .nx (env.set i (some (.ow xs.dropLast)))
    | none => .st
  | _ => .st
section
variable {K : PySem.W.Frag} {g : G0} {H : Hp} {Z : Av}
theorem RepL.dropLast {ds : List D} {vs : List V} (h : RepL K g H Z ds vs) : RepL K g H Z ds.dropLast vs.dropLast := by
  rw [List.dropLast_eq_take, List.dropLast_eq_take, h.length]
  exact RepL.take _ h
end
section
variable {g : G0} {x : L2.St → Prop} {W : WX} {X : Cx} {pos apos cpos p : Pos} {y : Str}
theorem ds_pop (i : Nat) (hN : X.N[i]? = some y := by rfl) (hv : Vis X.env.scope y := by first | exact Or.inl rfl | exact Or.inr (Or.inl rfl) | exact Or.inr (Or.inr rfl)) (hd : (y == ("__debug__" : Str)) = false := by decide) (hcd : (y == ("__classdict__" : Str)) = false := by decide)
    (hb : attributeBase (.Name y p) "pop" X.env (eval (.Name y p) X.env) = eval (.Name y p) X.env := by rfl) (hl : (apos.endLine == cpos.line) = true := by rfl)
    (hs : swapsWith (.Call (.Attribute (.Name y p) "pop" apos) [] [] cpos) none pos.line X.env = pure false := by rfl) : PSd g x W X (.Expr (.Call (.Attribute (.Name y p) "pop" apos) [] [] cpos) pos) (sPop i) :=
  weakS (ps_expr (pe_bm0 PySem.F.plainAttrs_list PySem.F.slot_list_pop PySem.F.type_list_pop mt_pop (pe_var hN hv hd hcd) hb hl) hs) fun D σ H ⟨env, A, H0, r, hp⟩ => by
    unfold sPop at hp
    split at hp
    · rename_i xs e1
      obtain ⟨v, f1, a, vs, ev, za, pa, ra⟩ := r.er.at_ i _ e1
      subst ev
      split at hp
      · rename_i d hd
        obtain ⟨u, hu, q⟩ := ra.get hd
        rw [ra.length] at hu
        exact ⟨.ref a, f1, .inl ⟨rfl, vs, SqL.of pa⟩, a, vs, u, rfl, rfl, pa, hu, hp σ _ (r.mut e1 f1 ra.dropLast)⟩
      · exact hp.elim
    · exact hp.elim
end
end DL
set_option Elab.async false
set_option linter.all false
set_option maxRecDepth 100000
set_option maxHeartbeats 4000000
namespace DL
open PySem PySem.Spec L2
open PyProof.Rows hiding St
/-! ### sep.join(xs), s.startswith(t) -/
def asSL : List D → Option (List Str)
  | [] => some []
  | .str b :: r => (asSL r).map (b :: ·)
  | _ => none
theorem asSL_rep {K : PySem.W.Frag} {g : G0} {H : Hp} {Z : Av} : ∀ {ds : List D} {vs : List V} {bs : List Str}, asSL ds = some bs → RepL K g H Z ds vs → vs = bs.map V.str
  | [], vs, bs, h, r => by
    cases h
    exact RepL.nil_.mp r
  | d :: ds, vs, bs, h, r => by
    cases d with
    | str b =>
      have h : (asSL ds).map (b :: ·) = some bs := h
      cases e : asSL ds with
      | none => rw [e] at h; cases h
      | some cs =>
        rw [e] at h
        cases h
        obtain ⟨v, w, ev, h1, h2⟩ := RepL.cons_.mp r
        rw [ev, Rep.str_.mp h1, asSL_rep e h2]
        rfl
    | _ => cases h
def fJoinL (a : Str) (ds : List D) : R Sl := match asSL ds with
  | some ys => if (ys.map (·.length)).sum + ys.length * a.length ≤ 1000000 then .ok (.fr (.str (Txt.join a ys))) else .st
  | none => .st
def fJoinD (a : Str) : D → R Sl
  | .lst ds => fJoinL a ds
  | .tup ds => fJoinL a ds
  | _ => .st
def mJoinS (mo me : B) : M := fun env => (mo env).bind fun s => match s with
  | .str a => (me env).bind fun d => fJoinD a d
  | _ => .st
def mStarts (mo me : B) : M := fun env => (mo env).bind fun s => match s with
  | .str a => (me env).bind fun d => match d with
    | .str b => .ok (.fr (.bl (Txt.startswith a b)))
    | _ => .st
  | _ => .st
section
variable {g : G0} {x : L2.St → Prop} {W : WX} {X : Cx} {o e : Expr} {pos apos cpos : Pos} {mo me : B}
theorem de_join (ho : PBd g x W X o mo) (he : PBd g x W X e me) (hb : attributeBase o "join" X.env (eval o X.env) = eval o X.env := by rfl) (hl : (apos.endLine == pos.line) = true := by rfl) (hs : starEach [e] X.env = [(false, eval e X.env)] := by rfl) :
    PEd g x W X (.Call (.Attribute o "join" apos) [e] [] pos) (mJoinS mo me) :=
  weakE (pe_join ho he hs hb hl) fun σ H Q ⟨env, Z, er, hp⟩ => useB er hp fun d v H1 e1 k1 r1 hp1 => by
    cases d with
    | str a =>
      have ev := r1.str_
      subst ev
      refine ⟨⟨a, rfl⟩, ?_⟩
      have hp1 : PostE X.K g W Z σ H1 Q ((me env).bind fun d => fJoinD a d) := hp1
      refine useB (er.mono k1) hp1 fun d2 v2 H2 e2 k2 r2 hp2 => ?_
      cases d2 with
      | lst ds =>
        obtain ⟨p, ws, ev, sq, rr⟩ := r2.lst'
        have hp2 : PostE X.K g W Z σ H2 Q (match asSL ds with
          | some ys => if (ys.map (·.length)).sum + ys.length * a.length ≤ 1000000 then .ok (.fr (.str (Txt.join a ys))) else .st
          | none => .st) := hp2
        split at hp2
        · rename_i ys ey
          split at hp2
          · rename_i hz
            have ew := asSL_rep ey rr
            subst ew ev
            exact ⟨a, p, ys, rfl, rfl, .inl sq, by omega, hp2 _ H2 (Same.refl _) (Rep.str_.mpr rfl)⟩
          · exact hp2.elim
        · exact hp2.elim
      | tup ds =>
        obtain ⟨p, ws, ev, tu, rr⟩ := r2.tup_
        have hp2 : PostE X.K g W Z σ H2 Q (match asSL ds with
          | some ys => if (ys.map (·.length)).sum + ys.length * a.length ≤ 1000000 then .ok (.fr (.str (Txt.join a ys))) else .st
          | none => .st) := hp2
        split at hp2
        · rename_i ys ey
          split at hp2
          · rename_i hz
            have ew := asSL_rep ey rr
            subst ew ev
            exact ⟨a, p, ys, rfl, rfl, .inr tu.sqT, by omega, hp2 _ H2 (Same.refl _) (Rep.str_.mpr rfl)⟩
          · exact hp2.elim
        · exact hp2.elim
      | _ => exact hp2.elim
    | _ => exact hp1.elim
theorem de_starts (ho : PBd g x W X o mo) (he : PBd g x W X e me) (hbase : attributeBase o "startswith" X.env (eval o X.env) = eval o X.env := by rfl) (hline : (apos.endLine == cpos.line) = true := by rfl) (hse : starEach [e] X.env = [(false, eval e X.env)] := by rfl) :
    PEd g x W X (.Call (.Attribute o "startswith" apos) [e] [] cpos) (mStarts mo me) :=
  weakE (pe_bm PySem.F.plainAttrs_str PySem.F.slot_str_startswith PySem.F.type_str_startswith mt_startswith ho (pa_cons he pa_nil hse) hbase (by rw [hse]; rfl) hline hse rfl) fun σ H Q ⟨env, Z, er, hp⟩ => useB er hp fun d v H1 e1 k1 r1 hp1 => by
    cases d with
    | str a =>
      have ev := r1.str_
      subst ev
      refine ⟨rfl, ?_⟩
      have hp1 : PostE X.K g W Z σ H1 Q ((me env).bind fun d => match d with
        | .str b => .ok (.fr (.bl (Txt.startswith a b)))
        | _ => .st) := hp1
      refine useB (er.mono k1) hp1 fun d2 v2 H2 e2 k2 r2 hp2 => ?_
      cases d2 with
      | str b =>
        have ev := r2.str_
        subst ev
        exact ⟨a, b, rfl, rfl, hp2 _ H2 (Same.refl _) (Rep.bl_.mpr rfl)⟩
      | _ => exact hp2.elim
    | _ => exact hp1.elim
end
end DL
set_option Elab.async false
set_option linter.all false
set_option maxRecDepth 100000
set_option maxHeartbeats 4000000
namespace DL
open PySem PySem.Spec L2
open PyProof.Rows hiding St
/-! ### str(n), str(text) -/
def fStr : List D → R Sl
  | [.int i] => if i.natAbs.log2 < 1920 then .ok (.fr (.str (toString i))) else .st
  | [.str a] => .ok (.fr (.str a))
  | _ => .st
section
variable {K : PySem.W.Frag}
theorem cf_str : CallF K (fun xs H Q => (∃ i, xs = [.int i] ∧ i.natAbs.log2 < 1920 ∧ Q (.str (toString i)) H) ∨ ∃ a, xs = [.str a] ∧ Q (.str a) H) fStr := by
  intro g W H Z σ xs vs Q dom r hp
  unfold fStr at hp
  split at hp
  · rename_i i
    obtain ⟨v, ev, rv⟩ := r.one_
    subst ev
    split at hp
    · exact .inl ⟨i, by rw [rv.int_], by assumption, hp _ H (Same.refl _) (Rep.str_.mpr rfl)⟩
    · exact hp.elim
  · rename_i a
    obtain ⟨v, ev, rv⟩ := r.one_
    subst ev
    exact .inr ⟨a, by rw [rv.str_], hp _ H (Same.refl _) (Rep.str_.mpr rfl)⟩
  · exact hp.elim
end
section
variable {g : G0} {x : L2.St → Prop} {W : WX} {X : Cx} {e : Expr} {es : List Expr} {mr : En → R (List D)} {pos p : Pos}
theorem de_str1 (hg : Gl X "str") (hm : X.mg "str" = none) (ha : PBAd g x W X (e :: es) mr) (he : starEach (e :: es) X.env = (false, eval e X.env) :: starEach es X.env := by rfl) (hpl : (backTo pos (starEach es X.env)).any (·.1) = false := by rfl) :
    PEd g x W X (.Call (.Name "str" p) (e :: es) [] pos) (mCall fStr mr) := de_callT (call_str_int.or SkE.call_str_str) cf_str hg hm (by decide +kernel) ha (by decide) (by decide) he hpl
end
end DL
set_option Elab.async false
set_option linter.all false
set_option maxRecDepth 100000
namespace DL
open PySem PySem.Spec L2
open PyProof.Rows hiding St
/-! ### powers and shifts -/
def smallE (i j : Int) : Bool := decide (0 ≤ j) && decide (j ≤ 1000000) && decide (i.natAbs < 2 ^ 64)
def fPow : D → D → R Sl
  | .int a, .int b => if smallE a b = true then .ok (.fr (.int (a ^ b.toNat))) else .st
  | _, _ => .st
def fShl : D → D → R Sl
  | .int a, .int b => if smallE a b = true then .ok (.fr (.int (a * 2 ^ b.toNat))) else .st
  | _, _ => .st
def fShr : D → D → R Sl
  | .int a, .int b => if 0 ≤ b then .ok (.fr (.int (a / 2 ^ b.toNat))) else .st
  | _, _ => .st
theorem smallE_of {i j : Int} (h : smallE i j = true) : CPow i j := by
  unfold smallE at h
  rw [Bool.and_eq_true, Bool.and_eq_true, decide_eq_true_iff, decide_eq_true_iff, decide_eq_true_iff] at h
  exact ⟨h.1.1, h.1.2, h.2⟩
section
variable {K : PySem.W.Frag}
theorem of_pow : OpF K (rI CPow fun i j => .int (i ^ j.toNat)) fPow := by
  intro g W H Z σ x y v u Q dom rx ry hp
  cases x <;> cases y <;> first | exact hp.elim | skip
  rename_i i j
  have hp : PostE K g W Z σ H Q (if smallE i j = true then .ok (.fr (.int (i ^ j.toNat))) else .st) := hp
  split at hp
  · rename_i h
    rw [rx.int_, ry.int_]
    exact ⟨_, _, rfl, rfl, smallE_of h, hp _ H (Same.refl _) (Rep.int_.mpr rfl)⟩
  · exact hp.elim
theorem of_shl : OpF K (rI CPow fun i j => .int (i * 2 ^ j.toNat)) fShl := by
  intro g W H Z σ x y v u Q dom rx ry hp
  cases x <;> cases y <;> first | exact hp.elim | skip
  rename_i i j
  have hp : PostE K g W Z σ H Q (if smallE i j = true then .ok (.fr (.int (i * 2 ^ j.toNat))) else .st) := hp
  split at hp
  · rename_i h
    rw [rx.int_, ry.int_]
    exact ⟨_, _, rfl, rfl, smallE_of h, hp _ H (Same.refl _) (Rep.int_.mpr rfl)⟩
  · exact hp.elim
theorem of_shr : OpF K (rI (fun _ j => 0 ≤ j) fun i j => .int (i / 2 ^ j.toNat)) fShr := by
  intro g W H Z σ x y v u Q dom rx ry hp
  cases x <;> cases y <;> first | exact hp.elim | skip
  rename_i i j
  have hp : PostE K g W Z σ H Q (if 0 ≤ j then .ok (.fr (.int (i / 2 ^ j.toNat))) else .st) := hp
  split at hp
  · rename_i h
    rw [rx.int_, ry.int_]
    exact ⟨_, _, rfl, rfl, h, hp _ H (Same.refl _) (Rep.int_.mpr rfl)⟩
  · exact hp.elim
end
section
variable {g : G0} {x : L2.St → Prop} {W : WX} {X : Cx} {a b : Expr} {pos : Pos} {ma mb : B}
theorem de_pow (ha : PBd g x W X a ma) (hb : PBd g x W X b mb) : PEd g x W X (.BinOp a .Pow b pos) (mBin fPow ma mb) := de_op op_pow of_pow ha hb
theorem de_shl (ha : PBd g x W X a ma) (hb : PBd g x W X b mb) : PEd g x W X (.BinOp a .LShift b pos) (mBin fShl ma mb) := de_op op_shl of_shl ha hb
theorem de_shr (ha : PBd g x W X a ma) (hb : PBd g x W X b mb) : PEd g x W X (.BinOp a .RShift b pos) (mBin fShr ma mb) := de_op op_shr of_shr ha hb
end
/-! ### reversed(list or tuple) -/
def mRevS (m : M) : En → R (List D) := fun env => (m env).bind fun s => (asSeq s.d).bind fun xs => .ok xs.reverse
theorem rev_get {α : Type} {xs : List α} {i : Nat} {d : α} (h : xs.reverse[i]? = some d) : i < xs.length ∧ xs[xs.length - 1 - i]? = some d := by
  have hl : i < xs.length := by
    have := (List.getElem?_eq_some_iff.mp h).1
    simpa using this
  rw [List.getElem?_reverse hl] at h
  exact ⟨hl, h⟩
section
variable {K : PySem.W.Frag} {g : G0} {H : Hp} {Z : Av}
theorem walk_revL {a : Addr} {ds : List D} {vs : List V} (h : Ls K H Z a vs) (r : RepL K g H Z ds vs) : Walk K g Z H (Itv K a vs.length) ds.reverse where
  go := fun i d H' e k => by
    obtain ⟨hl, e2⟩ := rev_get e
    obtain ⟨v, e3, _⟩ := r.get e2
    rw [r.length] at hl e3
    exact ⟨hl, vs, v, (k.ls h).sq, e3⟩
  yld := fun i d H' v H'' e k y => by
    obtain ⟨rfl, y⟩ := y
    obtain ⟨hl, e2⟩ := rev_get e
    obtain ⟨w, e3, q⟩ := r.get e2
    have := y vs (k.ls h).sq
    rw [r.length] at e3
    rw [e3] at this
    cases this
    exact ⟨Same.refl _, fun Z' k2 _ => Rep.mono k2 _ _ q⟩
  stop := fun i H' l k => by rw [List.length_reverse, r.length] at l; exact l
theorem walk_revT {a : Addr} {ds : List D} {vs : List V} (h : Tu K H a vs) (r : RepL K g H Z ds vs) : Walk K g Z H (RT.ItvT K a vs.length) ds.reverse where
  go := fun i d H' e k => by
    obtain ⟨hl, e2⟩ := rev_get e
    obtain ⟨v, e3, _⟩ := r.get e2
    rw [r.length] at hl e3
    exact ⟨hl, vs, v, (k.tu h).sqT, e3⟩
  yld := fun i d H' v H'' e k y => by
    obtain ⟨rfl, y⟩ := y
    obtain ⟨hl, e2⟩ := rev_get e
    obtain ⟨w, e3, q⟩ := r.get e2
    have := y vs (k.tu h).sqT
    rw [r.length] at e3
    rw [e3] at this
    cases this
    exact ⟨Same.refl _, fun Z' k2 _ => Rep.mono k2 _ _ q⟩
  stop := fun i H' l k => by rw [List.length_reverse, r.length] at l; exact l
end
section
variable {g : G0} {x : L2.St → Prop} {W : WX} {X : Cx} {e tg : Expr} {p pos : Pos} {m : M}
theorem di_revS (hg : Gl X "reversed") (hm : X.mg "reversed" = none) (he : PEd g x W X e m) (hs : starEach [e] X.env = (false, eval e X.env) :: starEach [] X.env := by rfl) : PId g x W X tg (.Call (.Name "reversed" p) [e] [] pos) (mRevS m) :=
  weakI (RT.pi_revA hg hm he hs) fun σ H Rn ⟨env, Z, er, hp⟩ => by
    refine use er ?_
    unfold mRevS at hp
    cases em : m env with
    | ok s =>
      rw [em] at hp
      have hp : PostI X.K g W Z σ H Rn ((asSeq s.d).bind fun xs => .ok xs.reverse) := hp
      intro v H' k r
      cases ed : s.d with
      | lst xs =>
        rw [ed] at hp r
        obtain ⟨a, vs, ev, rd, rr⟩ := Rep.lst_.mp r
        exact ⟨a, vs, ev, .inl ⟨rd.sq, hp _ H' k (walk_revL rd rr)⟩⟩
      | tup xs =>
        rw [ed] at hp r
        obtain ⟨a, vs, ev, tu, rr⟩ := Rep.tup_.mp r
        exact ⟨a, vs, ev, .inr ⟨tu.sqT, hp _ H' k (walk_revT tu rr)⟩⟩
      | non => rw [ed] at hp; exact hp.elim
      | bl b => rw [ed] at hp; exact hp.elim
      | int i => rw [ed] at hp; exact hp.elim
      | str z => rw [ed] at hp; exact hp.elim
      | obj c fs => rw [ed] at hp; exact hp.elim
    | ex c pl => rw [em] at hp; exact hp
    | st => rw [em] at hp; exact hp.elim
end
end DL
set_option Elab.async false
set_option linter.all false
set_option maxRecDepth 100000
namespace DL
open PySem PySem.Spec L2 StX
open PyProof.Rows hiding St
/-! ### defs with a star parameter: what is left over is a tuple -/
/-- the def's meaning of all that a call hands over -/
def starF (n : Nat) (f : Fn) : Fn := fun ds => if n ≤ ds.length ∧ ds.length ≤ lim then f (ds.take n ++ [.tup (ds.drop n)]) else .st
structure FDs (P : Program) (w : World) (K : PySem.W.Frag) (mg : Str → Option Value) (base : Heap) (g : G0) (k : Nat) (y : Str) (f : Fn) : Prop where
  ex : ∃ a, mg y = some (.ref a) ∧ PySem.W.keepIn K (.ref a) = true ∧ FnR P w K mg base (L2.CX P w) k a (Prom K g f)
theorem FDs.mono {P : Program} {w : World} {K : PySem.W.Frag} {mg : Str → Option Value} {base : Heap} {g : G0} {j k : Nat} {y : Str} {f : Fn} (F : FDs P w K mg base g j y f) (h : j ≤ k) : FDs P w K mg base g k y f := by
  obtain ⟨a, h1, h2, h3⟩ := F.ex
  exact ⟨a, h1, h2, h3.mono h⟩
section
variable {CX : CXT} {P : Program} {w : World} {K : PySem.W.Frag} {mg : Str → Option Value} {base : Heap} {k : Nat} {f : Addr} {name qual : Str} {params : Arguments} {body : List Stmt} {scope : Scope} {dV kV doc pm cdv ct oc : Value} {an od : Option Addr}
  {osl : Array (Option Value)} {N ps : List Str} {sp : Sp}
/-- as the library's, but the new tuple is tracked with its object -/
theorem fn_starF {pv : Str} (lk : K.lookup f = some ⟨oc, od, .func (PySem.W.fnOf name qual params body scope dV kV doc pm an cdv ct), osl⟩) (hcd : PySem.W.codeIn K cdv qual = true) (S : FnScope N (ps ++ [pv]) scope) (hCX : CXUp CX)
    (hb : ∀ us rest : List Value, us.length = ps.length → bindArgs (PySem.W.fnOf name qual params body scope dV kV doc pm an cdv ct) ⟨us ++ rest, []⟩ = (newTuple rest >>= fun t => pure (ps.zip us ++ [(pv, t)])))
    (hbody : ∀ (A : Around) (outer : List Env) (s : Shared) (H : Hp) (vs : List V) (Q : VK) (E : XK), Room k (A.deeper (envOfC qual scope s.heap.objs.size f cdv)) → sp vs H Q E →
      ∃ t, PSs (cxOf CX P w K mg base N qual scope f cdv A outer s H E) body t ∧ t { nx := fun _ H' => Q .non H', rt := Q } (start N vs) H) :
    FnR P w K mg base CX (k + 1) f (fun vs H Q E => ∃ ws rest, vs = ws ++ rest ∧ ws.length = ps.length ∧ rest.length ≤ sizeLine ∧ ∀ (p : Addr) (o : Obj), H p = Option.none → o.cls = .type "tuple" → o.dict = none → sp (ws ++ [V.ref p]) (upd H p (.frz o (.tup rest))) Q E) := by
  intro A outer s H us vs Q E hr e0 r ⟨ws, rest, ev, hl, hz, hq⟩
  subst ev
  obtain ⟨u1, u2, eu, r1, r2⟩ := vals_split r
  subst eu
  have fresh : H s.heap.objs.size = Option.none := e0.hok.fresh (Nat.le_refl _)
  have l1 : u1.length = ps.length := by rw [← r1.length, hl]
  have l2 : u2.length ≤ sizeLine := by rw [← r2.length]; exact hz
  refine run_bnd lk hcd S hr e0 (G := fun xs H2 => ∃ (p : Addr) (o : Obj), H p = Option.none ∧ o.cls = .type "tuple" ∧ o.dict = none ∧ xs = ws ++ [V.ref p] ∧ H2 = upd H p (.frz o (.tup rest))) (fun A' Ex Q' h => ?_) fun s2 H2 xs g hr' => ?_
  · rw [hb u1 u2 l1]
    refine wpAny_bind (wpAny_newTuple (wpAny_pure ?_) l2)
    have at0 : (s.heap.push ({ cls := .type "tuple", data := .seq u2.toArray } : Obj)).get? s.heap.objs.size = some ({ cls := .type "tuple", data := .seq u2.toArray } : Obj) := Heap.get?_push_size _ rfl
    have laid : ObjOk P w (upd H s.heap.objs.size (.frz ({ cls := .type "tuple", data := .seq u2.toArray } : Obj) (.tup rest))) (s.heap.push ({ cls := .type "tuple", data := .seq u2.toArray } : Obj)) s.heap.objs.size (.frz ({ cls := .type "tuple", data := .seq u2.toArray } : Obj) (.tup rest)) := ⟨at0, hz, u2, r2, ⟨_, at0, rfl, _, rfl⟩⟩
    have un := un_laid (fs := frs outer) (s := s) (o := ({ cls := .type "tuple", data := .seq u2.toArray } : Obj)) (u := .frz ({ cls := .type "tuple", data := .seq u2.toArray } : Obj) (.tup rest)) fresh
    have z := h _ _ (ws ++ [V.ref s.heap.objs.size]) (u1 ++ [Value.ref s.heap.objs.size]) (env0_laid e0 laid) un rfl (fun e s' => hCX outer s H _ _ E e s' un (fun b o q => Heap.get?_push_of_some _ q) rfl) (r1.append (.cons rfl .nil))
      (by rw [List.length_append, List.length_append, hl] <;> rfl) ⟨_, _, fresh, rfl, rfl, rfl, rfl⟩
    rw [List.zip_append l1.symm] at z
    exact z
  · obtain ⟨p, o, np, oc, od, ex, eH⟩ := g
    subst ex eH
    exact hbody A outer s2 _ _ Q E hr' (hq p o np oc od)
end
section
variable {P : Program} {w : World} {K : PySem.W.Frag} {mg : Str → Option Value} {base : Heap} {g : G0}
theorem okS {y qual pv : Str} {params : Arguments} {bd : List Stmt} {scope : Scope} {dV kV doc pm cdv ct oc : Value} {an od : Option Addr} {osl : Array (Option Value)} {a : Addr} {N ps : List Str} {k : Nat}
    (lk : K.lookup a = some ⟨oc, od, .func (PySem.W.fnOf y qual params bd scope dV kV doc pm an cdv ct), osl⟩) (hcd : PySem.W.codeIn K cdv qual = true) (kp : PySem.W.keepIn K (.ref a) = true) (S : FnScope N (ps ++ [pv]) scope) (hm : mg y = some (.ref a))
    (hb : ∀ us rest : List Value, us.length = ps.length → bindArgs (PySem.W.fnOf y qual params bd scope dV kV doc pm an cdv ct) ⟨us ++ rest, []⟩ = (newTuple rest >>= fun t => pure (ps.zip us ++ [(pv, t)]))) (m : MS)
    (body : ∀ (cdv : Value) (A : Around) (outer : List Env) (s : Shared) (H : Hp) (E : XK), Room k (A.deeper (envOfC qual scope s.heap.objs.size a cdv)) →
      PSsd g T (fun c d _ H => E c d H) (cxOf (L2.CX P w) P w K mg base N qual scope a cdv A outer s H E) bd m) : FDs P w K mg base g (k + 1) y (starF ps.length (runF (ps.length + 1) N.length m)) := by
  refine ⟨a, hm, kp, ?_⟩
  have hl : (ps ++ [pv]).length ≤ N.length := by have := congrArg List.length S.pre; rw [List.length_take] at this; omega
  refine FnR.imp (fn_starF (CX := L2.CX P w) (sp := fun vs H Q E => vs.length = ps.length + 1 ∧ Prom K g (runF (ps.length + 1) N.length m) vs H Q E) lk hcd S cxUp hb fun A outer s H vs Q E hr hsp => ?_) fun vs H Q E ⟨Z, ds, dom, r, hp⟩ => ?_
  · obtain ⟨lv, Z, ds, dom, r, hp⟩ := hsp
    refine ⟨_, body cdv A outer s H E hr, ?_⟩
    have ld : ds.length = ps.length + 1 := by rw [r.length, lv]
    unfold runF at hp
    rw [if_pos ld] at hp
    have zZ : ∀ b, zz Z (env0 (ps.length + 1) N.length ds) (L2.start N vs) b → Z b := by
      rintro b (z | ⟨i, xs, e1, e2⟩)
      · exact z
      · have e1 := env0_get e1
        rw [List.getElem?_map] at e1
        cases ed : ds[i]? with
        | none => rw [ed] at e1; cases e1
        | some d => rw [ed] at e1; cases e1
    have noow : ∀ (i : Nat) (xs : List D), (env0 (ps.length + 1) N.length ds)[i]? = some (some (Sl.ow xs)) → False := fun i xs e1 => by
      have e1 := env0_get e1
      rw [List.getElem?_map] at e1
      cases ed : ds[i]? with
      | none => rw [ed] at e1; cases e1
      | some d => rw [ed] at e1; cases e1
    have hlen : (env0 (ps.length + 1) N.length ds).length = (L2.start N vs).length := by
      unfold env0 L2.start
      rw [List.length_append, List.length_append, List.length_map, List.length_map, List.length_replicate, List.length_replicate, lv, ld]
    have sr : SRel K g T Z H (env0 (ps.length + 1) N.length ds) (L2.start N vs) H := by
      refine ⟨⟨fun b z => dom b (zZ b z), trivial, hlen, fun i s e1 => ?_⟩, Same.refl _, dom, fun i xs a e1 _ => (noow i xs e1).elim, fun i j xs ys a e1 _ _ _ => (noow i xs e1).elim, hlen⟩
      obtain ⟨v, e2, q⟩ := repl_map r (env0_get e1)
      refine ⟨v, ?_, ?_⟩
      · unfold L2.start
        rw [List.getElem?_append_left]
        · exact e2
        · exact (List.getElem?_eq_some_iff.mp e2).1
      · cases s with
        | fr d => exact Rep.mono (.of (Same.refl _) fun b _ z => zZ b z) _ _ q
        | ow xs => exact (noow i xs e1).elim
    refine ⟨env0 (ps.length + 1) N.length ds, Z, H, sr, ?_⟩
    cases e : m (env0 (ps.length + 1) N.length ds) with
    | nx e' => rw [e] at hp; exact fun σ' H' q => hp .non H' q.same (Rep.non_.mpr rfl)
    | rt s => rw [e] at hp; cases s <;> exact hp
    | ex c p e' => rw [e] at hp; exact fun σ' H' dd q z => hp H' dd q.same z
    | bk e' => rw [e] at hp; exact hp.elim
    | ct e' => rw [e] at hp; exact hp.elim
    | st => rw [e] at hp; exact hp.elim
  · unfold starF at hp
    split at hp
    · rename_i h
      have vl := r.length
      refine ⟨vs.take ps.length, vs.drop ps.length, (List.take_append_drop _ _).symm, by rw [List.length_take]; omega, by rw [List.length_drop]; exact limLine (by omega), fun p o np oc od => ?_⟩
      have rt := RepL.take ps.length r
      have rd := RepL.drop ps.length r
      refine ⟨by rw [List.length_append, List.length_take]; simp; omega, Z, _, fun b z => ?_, (RepL.mono (.same_ (same_upd np)) _ _ rt).append (.one (rtup_new np oc od rd)), ?_⟩
      · have := dom b z
        rw [upd_ne (fun e => this (by rw [e]; exact np))]
        exact this
      · exact PostE.later (σ := []) (same_upd np) hp
    · exact hp.elim
end
section
variable {g : G0} {x : L2.St → Prop} {W : WX} {X : Cx} {e : Expr} {es : List Expr} {mr : En → R (List D)} {pos p : Pos}
theorem de_fnS {k : Nat} {y : Str} {f : Fn} (F : FDs X.prog X.w X.K X.mg X.base g k y f) (hr : Room k X.A) (tk : Takes X W) (hg : Gl X y) (ha : PAd g x W X (e :: es) mr)
    (hdb : (y == ("__debug__" : Str)) = false := by decide) (he : starEach (e :: es) X.env = (false, eval e X.env) :: starEach es X.env := by rfl) (hpl : (backTo pos (starEach es X.env)).any (·.1) = false := by rfl) :
    PEd g x W X (.Call (.Name y p) (e :: es) [] pos) (mCall f mr) := by
  obtain ⟨a, hm, hk, hF⟩ := F.ex
  have rule : PE X (.Call (.Name y p) (e :: es) [] pos) (tCallS (Prom X.K g f) (WE W) (tA X.K g x W mr)) := by
    refine ⟨fun pins s σ H Q I h => ?_⟩
    refine wpAny_Call_Name_kw (ld_glob I hg hm ?_ hdb)
    refine PySem.W.callWith_K (h₀ := X.base) I.ok.mod.kin hk (thn (ha.run pos pins s σ H _ I h) fun us s1 ⟨vs, H1, I1, r, q⟩ => ⟨I1.kIn, ?_⟩) he hpl
    refine wpAny_call (codeAny_mono (hF X.A X.stack s1 H1 us vs Q (WE W σ) hr I1.env0 r q) fun r s' hq => ?_)
    cases r with
    | error e => exact passAt tk σ pins H1 s1 e s' I1 hq
    | ok fl =>
      cases fl with
      | ret u => exact I1.after hq
      | next => exact False.elim hq
      | brk => exact False.elim hq
      | cont => exact False.elim hq
  exact weakE rule fun σ H Q ⟨env, Z, er, hp⟩ =>
    useA er hp fun ds vs H1 e1 k1 r1 hp1 => ⟨Z, ds, dom_mono k1 er.dom, r1, postW hp1⟩
end
end DL
set_option Elab.async false
set_option linter.all false
set_option maxRecDepth 100000
namespace DL
open PySem PySem.Spec L2
open PyProof.Rows hiding St
/-! ### y = [.. for x in xs], xs an owned list that is changed later on: the result holds no list -/
mutual
def noL : D → Bool
  | .lst _ => false
  | .obj _ _ => false
  | .tup xs => noLL xs
  | _ => true
def noLL : List D → Bool
  | [] => true
  | d :: ds => noL d && noLL ds
end
section
variable {K : PySem.W.Frag} {g : G0} {H : Hp} {Z Z' : Av}
mutual
theorem Rep.noZ : ∀ (d : D) (v : V), noL d = true → Rep K g H Z d v → Rep K g H Z' d v
  | .non, v, _, h => by unfold Rep at h ⊢; exact h
  | .bl b, v, _, h => by unfold Rep at h ⊢; exact h
  | .int i, v, _, h => by unfold Rep at h ⊢; exact h
  | .str x, v, _, h => by unfold Rep at h ⊢; exact h
  | .tup xs, v, n, h => by
    unfold Rep at h ⊢
    obtain ⟨a, vs, e, s, r⟩ := h
    exact ⟨a, vs, e, s, RepL.noZ xs vs (by simpa [noL] using n) r⟩
  | .lst xs, v, n, _ => by simp [noL] at n
  | .obj c fs, v, n, _ => by simp [noL] at n
theorem RepL.noZ : ∀ (ds : List D) (vs : List V), noLL ds = true → RepL K g H Z ds vs → RepL K g H Z' ds vs
  | [], vs, _, h => by unfold RepL at h ⊢; exact h
  | d :: ds, vs, n, h => by
    unfold RepL at h ⊢
    simp only [noLL, Bool.and_eq_true] at n
    obtain ⟨v, r, e, h1, h2⟩ := h
    exact ⟨v, r, e, Rep.noZ d v n.1 h1, RepL.noZ ds r n.2 h2⟩
end
end
def sThaw (js : List Nat) (i : Nat) (m : M) : MS := fun env => match m (frz js env) with
  | .ok (.fr d) => if noL d = true then .nx (env.set i (some (.fr d))) else .st
  | .ok (.ow xs) => if noLL xs = true then .nx (env.set i (some (.ow xs))) else .st
  | _ => .st
section
variable {g : G0} {x : L2.St → Prop} {W : WX} {X : Cx} {tg iter elt : Expr} {ifs : List Expr} {scope : Scope} {pos : Pos} {mi : En → R (List D)} {pt : Pt} {t : En → R Bool} {me : M} {own : List (Str × Nat)}
theorem ds_thawLc {i : Nat} {y : Str} {py spos : Pos} (js : List Nat) (hx : ∀ σ, x σ) (hc : X.calm = true) (hN : X.N.Nodup) (hy : X.N[i]? = some y) (hyl : X.env.scope.names.lookup y = some .local)
    (hsw : swapsWith (.ListComp elt [⟨tg, iter, ifs, 0⟩] scope pos) (some (.Name y py)) spos.line X.env = pure true) (hi : PId g x W X tg iter mi) (ok : BlkOk X.N X.env.scope scope own) (sub : ∀ i ∈ pt.slots, i ∈ own.map (·.2))
    (hg : ∀ (s : Shared) (H : Hp) (C : Addr) (cl : List (Str × Addr)) (fp : List Addr), PG (X.blk s H scope (compEnvC scope cl C X.env) fp) tg (pt.tg X.K))
    (ht : ∀ (s : Shared) (H : Hp) (C : Addr) (cl : List (Str × Addr)) (fp : List Addr), PTsd g T W0 (X.blk s H scope (compEnvC scope cl C X.env) fp) ifs t)
    (he : ∀ (s : Shared) (H : Hp) (C : Addr) (cl : List (Str × Addr)) (fp : List Addr), PEd g T W0 (X.blk s H scope (compEnvC scope cl C X.env) fp) elt me) (hs : ∀ x, foldedSetIterable iter X.env x = pure x := by intro _; rfl) :
    PSd g x W X (.Assign [.Name y py] (.ListComp elt [⟨tg, iter, ifs, 0⟩] scope pos) spos) (sThaw js i (mComp mi pt t me (own.map (·.2)))) :=
  weakS (ps_setLc hc hN hy hyl hsw hi ok hg ht he hs) fun D σ H ⟨env, A, H0, r, hp⟩ => lcOk sub (by
    refine ⟨DL.frz js env, _, (r.frz js).er, ?_⟩
    unfold sThaw at hp
    cases e : mComp mi pt t me (own.map (·.2)) (DL.frz js env) with
    | ok s =>
      rw [e] at hp
      cases s with
      | fr d =>
        have hp : PostS X.K g x W A H0 D (if noL d = true then .nx (env.set i (some (.fr d))) else .st) := hp
        split at hp
        · rename_i n
          exact fun v H' k q => hp _ _ (r.setFr hx k (Rep.noZ _ _ n q))
        · exact hp.elim
      | ow xs =>
        have hp : PostS X.K g x W A H0 D (if noLL xs = true then .nx (env.set i (some (.ow xs))) else .st) := hp
        split at hp
        · rename_i n
          exact fun a vs H' k nn p q => hp _ _ (r.setOw hx k nn p (RepL.noZ _ _ n q))
        · exact hp.elim
    | ex c p => rw [e] at hp; exact hp.elim
    | st => rw [e] at hp; exact hp.elim)
end
end DL
set_option Elab.async false
set_option linter.all false
set_option maxRecDepth 100000
namespace DL
open PySem PySem.Spec L2 StX
open PyProof.Rows hiding St
/-! ### [.., *e]: the items of a tuple or list, put in -/
def mStar (m : M) (mr : En → R (List D)) : En → R (List D) := fun env => (m env).bind fun s => (asSeq s.d).bind fun xs => (mr env).bind fun ys => .ok (xs ++ ys)
section
variable {g : G0} {x : L2.St → Prop} {W : WX} {X : Cx} {e : Expr} {es : List Expr} {p : Pos} {m : M} {mr : En → R (List D)}
theorem da_star (he : PEd g x W X e m) (hr : PAd g x W X es mr) (hs : starEach (.Starred e p :: es) X.env = (true, eval e X.env) :: starEach es X.env := by rfl) : PAd g x W X (.Starred e p :: es) (mStar m mr) := by
  refine weakA (pa_star he hr hs) fun σ H Q ⟨env, Z, er, hp⟩ => use1A er hp fun s v H1 e1 k1 r1 hp1 => ?_
  cases ed : s.d with
  | lst xs =>
    rw [ed] at hp1 r1
    obtain ⟨a, vs, ev, rd, rr⟩ := Rep.lst_.mp r1
    exact ⟨a, vs, ev, .inr rd.sq, useAA (er.mono k1) hp1 fun ds ws H2 e2 k2 r2 hp2 => hp2 _ H2 (Same.refl _) ((RepL.mono (.same_ k2) _ _ rr).append r2)⟩
  | tup xs =>
    rw [ed] at hp1 r1
    obtain ⟨a, vs, ev, tu, rr⟩ := Rep.tup_.mp r1
    exact ⟨a, vs, ev, .inl tu.sqT, useAA (er.mono k1) hp1 fun ds ws H2 e2 k2 r2 hp2 => hp2 _ H2 (Same.refl _) ((RepL.mono (.same_ k2) _ _ rr).append r2)⟩
  | non => rw [ed] at hp1; exact hp1.elim
  | bl b => rw [ed] at hp1; exact hp1.elim
  | int i => rw [ed] at hp1; exact hp1.elim
  | str z => rw [ed] at hp1; exact hp1.elim
  | obj c fs => rw [ed] at hp1; exact hp1.elim
end
end DL
set_option Elab.async false
set_option linter.all false
set_option maxRecDepth 100000
set_option maxHeartbeats 4000000
/-! zip of a list with a tuple, and of a tuple with a list: one walk for two sides of any kind -/
namespace DL
open PySem PySem.Spec L2
open PyProof.Rows hiding St
/-- one side of a zip: the iterator `it` over the row at `l`, how it stands before turn i, and what a turn does -/
structure Side (P : Program) (w : World) (it l : Addr) (pos : Nat → Heap → Prop) (src : Heap → Prop) (row : Array Value) : Prop where
  keepIt : ∀ {i h h' c}, pos i h → it ≠ c → Heap.ExtBut c h h' → pos i h'
  keepSrc : ∀ {h h' c}, src h → l ≠ c → Heap.ExtBut c h h' → src h'
  atIt : ∀ {i h h'}, pos i h → (∀ o, h.get? it = some o → h'.get? it = some o) → pos i h'
  live : ∀ {i h}, pos i h → it < h.objs.size
  out : ∀ {A : Around} {i s x} {Q : Value → Shared → Prop} {E : Value → Shared → Prop}, pos i s.heap → src s.heap → row[i]? = some x →
    (∀ h', pos (i + 1) h' → Heap.SameBut it s.heap h' → Q x { s with heap := h' }) → wpAny (model P w) A (Builtin.SmallTypes.nextOf (.ref it)) Q E s
  fin : ∀ {A : Around} {i s} {Q : Value → Shared → Prop} {E : Value → Shared → Prop}, A.handled = none → pos i s.heap → src s.heap → row[i]? = none →
    (∀ h' e, Heap.ExtBut it s.heap h' → (∃ o, h'.get? e = some o ∧ o.cls = .type "StopIteration") → E (.ref e) { s with heap := h' }) → wpAny (model P w) A (Builtin.SmallTypes.nextOf (.ref it)) Q E s
theorem side_list {P : Program} {w : World} (it l : Addr) (row : Array Value) : Side P w it l (fun i h => h.IsListIter it l i) (fun h => h.IsList l row) row where
  keepIt := fun p n k => p.extBut k n
  keepSrc := fun p n k => p.extBut k n
  atIt := fun p k => p.at k
  live := fun ⟨_, k, _⟩ => Heap.lt_size k
  out := fun p q g k => wpAny_nextOf_list_item p q g k
  fin := fun hh p q g k => wpAny_nextOf_list_end hh p q g k
theorem side_tuple {P : Program} {w : World} (it l : Addr) (row : Array Value) : Side P w it l (fun i h => h.IsTupleIter it l i) (fun h => h.IsTuple l row) row where
  keepIt := fun p n k => p.extBut k n
  keepSrc := fun p n k => p.extBut k n
  atIt := fun p k => p.at k
  live := fun ⟨_, k, _⟩ => Heap.lt_size k
  out := fun p q g k => RZ.nextOf_tuple_item p q g k
  fin := fun hh p q g k => RZ.nextOf_tuple_end hh p q g k

section
variable {P : Program} {w : World} {A : Around} {E : Value → Shared → Prop} {s : Shared} {z ti to i1 i2 a b : Addr} {p1 p2 : Nat → Heap → Prop} {r1 r2 : Heap → Prop} {xs ys : Array Value} {k : Nat} {u0 v0 : Value}
theorem sides_item {x y : Value} {Q : Value → Shared → Prop} (D : ZipApart z ti to i1 i2 a b) (S1 : Side P w i1 a p1 r1 xs) (S2 : Side P w i2 b p2 r2 ys)
    (oz : IsZip s.heap z ti to .none) (oti : IsPair s.heap ti (.ref i1) (.ref i2)) (oto : IsPair s.heap to u0 v0) (n1 : p1 k s.heap) (n2 : p2 k s.heap) (q1 : r1 s.heap) (q2 : r2 s.heap)
    (gx : xs[k]? = some x) (gy : ys[k]? = some y)
    (fin : ∀ h', IsZip h' z ti to (rawInt s.heap.objs.size) → IsPair h' to x y → p1 (k + 1) h' → p2 (k + 1) h' → IsPair h' s.heap.objs.size x y →
      (∀ c o, c ≠ z → c ≠ to → c ≠ i1 → c ≠ i2 → s.heap.get? c = some o → h'.get? c = some o) → Q (.ref s.heap.objs.size) { s with heap := h' }) :
    wpAny (model P w) A (Builtin.«zip.__next__» ⟨[.ref z], []⟩) (fun r s' => ∃ v, r = .done (.ret v) ∧ Q v s') E s := by
  show wpAny _ _ (field (.ref z) 2 >>= _) _ _ _
  refine wpAny_bind (wpAny_field oz rfl (x := .bool false) rfl ?_)
  show wpAny _ _ (field (.ref z) 3 >>= _) _ _ _
  refine wpAny_bind (wpAny_field oz rfl (x := .ref ti) rfl (wpAny_bind (wpAny_seqItems oti rfl ?_)))
  show wpAny _ _ (Builtin.SmallTypes.ownedTupleIsFree (.ref z) >>= _) _ _ _
  refine wpAny_bind ?_
  unfold Builtin.SmallTypes.ownedTupleIsFree
  refine wpAny_bind (wpAny_field oz rfl (x := .none) rfl (wpAny_pure ?_))
  simp only [if_true]
  refine wpAny_bind (wpAny_rule (wpAny_bind (wpAny_field oz rfl (x := .ref to) rfl (wpAny_bind (wpAny_setField_rec oz (by simp) fun ha za ka => ?_)))))
  have za : IsZip ha z ti to .ellipsis := za
  refine wpAny_bind ?_
  simp only [List.zipIdx_cons, List.zipIdx_nil, List.forIn_cons, List.forIn_nil]
  -- the first side
  have n1a := S1.keepIt n1 D.i1z ka.extBut
  have q1a := S1.keepSrc q1 D.l1z ka.extBut
  have n2a := S2.keepIt n2 D.i2z ka.extBut
  have q2a := S2.keepSrc q2 D.l2z ka.extBut
  have toa : IsPair ha to u0 v0 := ka.extBut _ _ D.TOz oto
  refine wpAny_bind (wpAny_bind (wpAny_onRaise ?_))
  show wpAny _ _ (Builtin.SmallTypes.nextOf (.ref i1) >>= _) _ _ _
  refine wpAny_bind (S1.out (s := { s with heap := ha }) n1a q1a gx fun hb n1b kb => wpAny_pure ?_)
  have tob : IsPair hb to u0 v0 := kb.extBut _ _ D.TOi1 toa
  have n2b := S2.keepIt n2a D.i12.symm kb.extBut
  have q2b := S2.keepSrc q2a D.l2i1 kb.extBut
  have zb : IsZip hb z ti to .ellipsis := kb.extBut _ _ D.i1z.symm za
  refine wpAny_bind (wpAny_seqItems tob rfl (wpAny_bind (wpAny_updateSeq_pair tob fun hc toc kc => ?_)))
  have toc : IsPair hc to x v0 := toc
  have n1c := S1.keepIt n1b D.TOi1.symm kc.extBut
  have n2c := S2.keepIt n2b D.TOi2.symm kc.extBut
  have q2c := S2.keepSrc q2b D.l2TO kc.extBut
  have zc : IsZip hc z ti to .ellipsis := kc.extBut _ _ D.TOz.symm zb
  -- the second side
  refine wpAny_bind (wpAny_letGo (wpAny_pure (wpAny_bind (wpAny_bind (wpAny_onRaise ?_)))))
  show wpAny _ _ (Builtin.SmallTypes.nextOf (.ref i2) >>= _) _ _ _
  refine wpAny_bind (S2.out (s := { s with heap := hc }) n2c q2c gy fun hd n2d kd => wpAny_pure ?_)
  have tod : IsPair hd to x v0 := kd.extBut _ _ D.TOi2 toc
  have n1d := S1.keepIt n1c D.i12 kd.extBut
  have zd : IsZip hd z ti to .ellipsis := kd.extBut _ _ D.i2z.symm zc
  refine wpAny_bind (wpAny_seqItems tod rfl (wpAny_bind (wpAny_updateSeq_pair tod fun he toe ke => ?_)))
  have toe : IsPair he to x y := toe
  have n1e := S1.keepIt n1d D.TOi1.symm ke.extBut
  have n2e := S2.keepIt n2d D.TOi2.symm ke.extBut
  have ze : IsZip he z ti to .ellipsis := ke.extBut _ _ D.TOz.symm zd
  have size : he.objs.size = s.heap.objs.size := by rw [ke.1, kd.1, kc.1, kb.1, ka.1]
  have old : ∀ c o, c ≠ z → c ≠ to → c ≠ i1 → c ≠ i2 → s.heap.get? c = some o → he.get? c = some o := fun c o d1 d2 d3 d4 e =>
    ke.extBut _ _ d2 (kd.extBut _ _ d4 (kc.extBut _ _ d2 (kb.extBut _ _ d3 (ka.extBut _ _ d1 e))))
  -- the new pair
  refine wpAny_bind (wpAny_letGo (wpAny_pure (wpAny_pure (wpAny_bind (wpAny_seqItems toe rfl (wpAny_bind (wpAny_newTuple ?_)))))))
  show wpAny _ _ (Builtin.SmallTypes.ownedTupleHandOut (.ref z) (.ref he.objs.size) >>= _) _ _ _
  refine wpAny_bind ?_
  unfold Builtin.SmallTypes.ownedTupleHandOut
  have zf : IsZip (he.push { cls := .type "tuple", data := .seq #[x, y] }) z ti to .ellipsis := Heap.get?_push_of_some _ ze
  refine wpAny_bind (wpAny_setField_rec zf (by simp) fun hg zg kg => ?_)
  have zg : IsZip hg z ti to (rawInt he.objs.size) := zg
  refine wpAny_setField_rec zg (by simp) fun hi zi ki => ?_
  have zi : IsZip hi z ti to (rawInt he.objs.size) := zi
  have lz : z < he.objs.size := Heap.lt_size ze
  have up : ∀ c o, c ≠ z → he.get? c = some o → hi.get? c = some o := fun c o d e => ki.extBut _ _ d (kg.extBut _ _ d (Heap.get?_push_of_some _ e))
  have new : IsPair hi he.objs.size x y := ki.extBut _ _ (Nat.ne_of_gt lz) (kg.extBut _ _ (Nat.ne_of_gt lz) (Heap.get?_push_size _ rfl))
  refine wpAny_pure ⟨_, rfl, ?_⟩
  show Q (.ref he.objs.size) _
  rw [size] at zi new ⊢
  exact fin hi zi (up _ _ D.TOz toe) (S1.atIt n1e fun o e => up _ o D.i1z e) (S2.atIt n2e fun o e => up _ o D.i2z e) new fun c o d1 d2 d3 d4 e => up c o d1 (old c o d1 d2 d3 d4 e)
theorem sides_end {Q : Fin → Shared → Prop} (hh : A.handled = none) (D : ZipApart z ti to i1 i2 a b) (S1 : Side P w i1 a p1 r1 xs) (S2 : Side P w i2 b p2 r2 ys)
    (oz : IsZip s.heap z ti to .none) (oti : IsPair s.heap ti (.ref i1) (.ref i2)) (oto : IsPair s.heap to u0 v0) (n1 : p1 k s.heap) (n2 : p2 k s.heap) (q1 : r1 s.heap) (q2 : r2 s.heap)
    (over : xs[k]? = none ∨ ys[k]? = none)
    (fin : ∀ h' e, (∀ c o, c ≠ z → c ≠ to → c ≠ i1 → c ≠ i2 → s.heap.get? c = some o → h'.get? c = some o) → (∃ o, h'.get? e = some o ∧ o.cls = .type "StopIteration") → E (.ref e) { s with heap := h' }) :
    wpAny (model P w) A (Builtin.«zip.__next__» ⟨[.ref z], []⟩) Q E s := by
  show wpAny _ _ (field (.ref z) 2 >>= _) _ _ _
  refine wpAny_bind (wpAny_field oz rfl (x := .bool false) rfl ?_)
  show wpAny _ _ (field (.ref z) 3 >>= _) _ _ _
  refine wpAny_bind (wpAny_field oz rfl (x := .ref ti) rfl (wpAny_bind (wpAny_seqItems oti rfl ?_)))
  show wpAny _ _ (Builtin.SmallTypes.ownedTupleIsFree (.ref z) >>= _) _ _ _
  refine wpAny_bind ?_
  unfold Builtin.SmallTypes.ownedTupleIsFree
  refine wpAny_bind (wpAny_field oz rfl (x := .none) rfl (wpAny_pure ?_))
  simp only [if_true]
  refine wpAny_bind (wpAny_rule (wpAny_bind (wpAny_field oz rfl (x := .ref to) rfl (wpAny_bind (wpAny_setField_rec oz (by simp) fun ha za ka => ?_)))))
  have za : IsZip ha z ti to .ellipsis := za
  refine wpAny_bind ?_
  simp only [List.zipIdx_cons, List.zipIdx_nil, List.forIn_cons, List.forIn_nil]
  have n1a := S1.keepIt n1 D.i1z ka.extBut
  have q1a := S1.keepSrc q1 D.l1z ka.extBut
  refine wpAny_bind (wpAny_bind (wpAny_onRaise ?_))
  show wpAny _ _ (Builtin.SmallTypes.nextOf (.ref i1) >>= _) _ _ _
  have apart : ∀ {h : Heap} {e : Addr}, IsZip h z ti to .ellipsis → (∃ o, h.get? e = some o ∧ o.cls = .type "StopIteration") → e ≠ z := fun hz ⟨o, ho, hc⟩ q => by
    subst q
    rw [hz] at ho
    cases ho
    simp at hc
  cases gx : xs[k]? with
  | none =>
    refine wpAny_bind (S1.fin (s := { s with heap := ha }) hh n1a q1a gx fun hb e kb ⟨o, ho, hc⟩ => ?_)
    have zb : IsZip hb z ti to .ellipsis := kb _ _ D.i1z.symm za
    exact wpAny_setField_rec zb (by simp) fun hd _ kd => fin hd e (fun c o d1 _ d3 _ g => kd.extBut _ _ d1 (kb _ _ d3 (ka.extBut _ _ d1 g))) ⟨o, kd.extBut _ _ (apart zb ⟨o, ho, hc⟩) ho, hc⟩
  | some x =>
    have gy : ys[k]? = none := over.resolve_left (by rw [gx]; exact nofun)
    have n2a := S2.keepIt n2 D.i2z ka.extBut
    have q2a := S2.keepSrc q2 D.l2z ka.extBut
    have toa : IsPair ha to u0 v0 := ka.extBut _ _ D.TOz oto
    refine wpAny_bind (S1.out (s := { s with heap := ha }) n1a q1a gx fun hb n1b kb => wpAny_pure ?_)
    have tob : IsPair hb to u0 v0 := kb.extBut _ _ D.TOi1 toa
    have n2b := S2.keepIt n2a D.i12.symm kb.extBut
    have q2b := S2.keepSrc q2a D.l2i1 kb.extBut
    have zb : IsZip hb z ti to .ellipsis := kb.extBut _ _ D.i1z.symm za
    refine wpAny_bind (wpAny_seqItems tob rfl (wpAny_bind (wpAny_updateSeq_pair tob fun hc toc kc => ?_)))
    have n2c := S2.keepIt n2b D.TOi2.symm kc.extBut
    have q2c := S2.keepSrc q2b D.l2TO kc.extBut
    have zc : IsZip hc z ti to .ellipsis := kc.extBut _ _ D.TOz.symm zb
    refine wpAny_bind (wpAny_letGo (wpAny_pure (wpAny_bind (wpAny_bind (wpAny_onRaise ?_)))))
    show wpAny _ _ (Builtin.SmallTypes.nextOf (.ref i2) >>= _) _ _ _
    refine wpAny_bind (S2.fin (s := { s with heap := hc }) hh n2c q2c gy fun hd e kd ⟨o, ho, hc'⟩ => ?_)
    have zd : IsZip hd z ti to .ellipsis := kd _ _ D.i2z.symm zc
    exact wpAny_setField_rec zd (by simp) fun he _ ke => fin he e (fun c o d1 d2 d3 d4 g => ke.extBut _ _ d1 (kd _ _ d4 (kc.extBut _ _ d2 (kb.extBut _ _ d3 (ka.extBut _ _ d1 g))))) ⟨o, ke.extBut _ _ (apart zd ⟨o, ho, hc'⟩) ho, hc'⟩
theorem sides_next {x y : Value} {Q : Option Value → Shared → Prop} (D : ZipApart z ti to i1 i2 a b) (S1 : Side P w i1 a p1 r1 xs) (S2 : Side P w i2 b p2 r2 ys)
    (oz : IsZip s.heap z ti to .none) (oti : IsPair s.heap ti (.ref i1) (.ref i2)) (oto : IsPair s.heap to u0 v0) (n1 : p1 k s.heap) (n2 : p2 k s.heap) (q1 : r1 s.heap) (q2 : r2 s.heap)
    (gx : xs[k]? = some x) (gy : ys[k]? = some y)
    (fin : ∀ h', IsZip h' z ti to (rawInt s.heap.objs.size) → IsPair h' to x y → p1 (k + 1) h' → p2 (k + 1) h' → IsPair h' s.heap.objs.size x y →
      (∀ c o, c ≠ z → c ≠ to → c ≠ i1 → c ≠ i2 → s.heap.get? c = some o → h'.get? c = some o) → Q (some (.ref s.heap.objs.size)) { s with heap := h' }) :
    wpAny (model P w) A (pyNext (.ref z)) Q E s := by
  have t : s.TypeIs (.ref z) "zip" := ⟨_, oz, rfl⟩
  unfold pyNext
  refine wpAny_bind (wpAny_attempt (wpAny_callSpecial?_slot (name := Str.ofString "__next__") t F.slot_zip_next (wpAny_call_entry F.slot_zip_next t F.entry_zip_next ?_ (F.args_zip_next_1 _))))
  exact sides_item D S1 S2 oz oti oto n1 n2 q1 q2 gx gy fun h' e1 e2 e3 e4 e5 e6 => wpAny_pure (fin h' e1 e2 e3 e4 e5 e6)
theorem sides_over {Q : Option Value → Shared → Prop} (hh : A.handled = none) (D : ZipApart z ti to i1 i2 a b) (S1 : Side P w i1 a p1 r1 xs) (S2 : Side P w i2 b p2 r2 ys)
    (oz : IsZip s.heap z ti to .none) (oti : IsPair s.heap ti (.ref i1) (.ref i2)) (oto : IsPair s.heap to u0 v0) (n1 : p1 k s.heap) (n2 : p2 k s.heap) (q1 : r1 s.heap) (q2 : r2 s.heap)
    (over : xs[k]? = none ∨ ys[k]? = none) (fin : ∀ h', (∀ c o, c ≠ z → c ≠ to → c ≠ i1 → c ≠ i2 → s.heap.get? c = some o → h'.get? c = some o) → Q none { s with heap := h' }) :
    wpAny (model P w) A (pyNext (.ref z)) Q E s := by
  have t : s.TypeIs (.ref z) "zip" := ⟨_, oz, rfl⟩
  unfold pyNext
  refine wpAny_bind (wpAny_attempt (wpAny_callSpecial?_slot (name := Str.ofString "__next__") t F.slot_zip_next (wpAny_call_entry F.slot_zip_next t F.entry_zip_next ?_ (F.args_zip_next_1 _))))
  refine sides_end hh D S1 S2 oz oti oto n1 n2 q1 q2 over fun h' e hk ⟨o, ho, hc⟩ => ?_
  exact wpAny_bind (wpAny_isInstance (T := "StopIteration") (b := true) ⟨o, ho, hc⟩ isSubtype_stop (wpAny_pure (fin _ hk)))
end
/-! the call zip(list, tuple) -/
abbrev zm1 (h : Heap) (a : Addr) : Heap := h.push { cls := .type "list_iterator", data := .fields #[.ref a, .int 0 0] }
abbrev zm2 (h : Heap) (a b : Addr) : Heap := (zm1 h a).push { cls := .type "tuple_iterator", data := .fields #[.ref b, .int 0 0] }
abbrev zm3 (h : Heap) (a b : Addr) : Heap := (zm2 h a b).push { cls := .type "tuple", data := .seq #[.ref h.objs.size, .ref (zm1 h a).objs.size] }
abbrev zm4 (h : Heap) (a b : Addr) : Heap := (zm3 h a b).push { cls := .type "tuple", data := .seq #[.none, .none] }
abbrev zm5 (h : Heap) (a b : Addr) : Heap := (zm4 h a b).push { cls := .type "zip", data := .fields #[.none, .bool false, .bool false, .ref (zm2 h a b).objs.size, .ref (zm3 h a b).objs.size] }
theorem meets_zm (a b : Addr) (xs ys : Array Value) :
    Meets (Builtin.«zip.__new__» ⟨[.type "zip", .ref a, .ref b], []⟩) (fun _ R s => s.heap.IsList a xs ∧ s.heap.IsTuple b ys ∧ R (.ok (.ret (.ref (zm4 s.heap a b).objs.size))) { s with heap := zm5 s.heap a b }) :=
  .of_wp fun prog w A R s h => by
    obtain ⟨hp, g, d, tk, os⟩ := s
    obtain ⟨qa, qb, h⟩ := h
    have sub := sub_zip
    have la : Heap.IsList (Shared.heap ⟨hp, g, d, tk, os⟩) a xs := qa
    have lb : Heap.IsTuple (Shared.heap ⟨hp.push { cls := .type "list_iterator", data := .fields #[.ref a, .int 0 0] }, g, d, tk, os⟩) b ys := Heap.IsTuple.push qb _
    wp_walk using wpAny_pyIter_list la, wpAny_pyIter_tuple lb
    exact ⟨_, rfl, h⟩
theorem call_zm {P : Program} {w : World} {A : Around} {E : Value → Shared → Prop} {s : Shared} {a b : Addr} {xs ys : Array Value} {Q : Value → Shared → Prop} (qa : s.heap.IsList a xs) (qb : s.heap.IsTuple b ys)
    (fin : ∀ h', IsZip h' (s.heap.objs.size + 4) (s.heap.objs.size + 2) (s.heap.objs.size + 3) .none → IsPair h' (s.heap.objs.size + 2) (.ref s.heap.objs.size) (.ref (s.heap.objs.size + 1)) →
      IsPair h' (s.heap.objs.size + 3) .none .none → h'.IsListIter s.heap.objs.size a 0 → h'.IsTupleIter (s.heap.objs.size + 1) b 0 →
      (∀ c o, s.heap.get? c = some o → h'.get? c = some o) → Q (.ref (s.heap.objs.size + 4)) { s with heap := h' }) :
    wpAny (model P w) A (call (.type "zip") [.ref a, .ref b]) Q E s := by
  refine callType_new F.called_zip (by decide) (F.typeCall_zip_2 _ _) (F.newCall_zip_2 _ _) (fun o => F.args_object_init_3 o _ _) F.entry_zip_new (meets_zm a b xs ys) ⟨qa, qb, ?_⟩
  have z1 : (zm1 s.heap a).objs.size = s.heap.objs.size + 1 := Heap.size_push ..
  have z2 : (zm2 s.heap a b).objs.size = s.heap.objs.size + 2 := by rw [Heap.size_push, z1]
  have z3 : (zm3 s.heap a b).objs.size = s.heap.objs.size + 3 := by rw [Heap.size_push, z2]
  have z4 : (zm4 s.heap a b).objs.size = s.heap.objs.size + 4 := by rw [Heap.size_push, z3]
  have pu : ∀ (h : Heap) (n : Obj) (c : Addr) (o : Obj), h.get? c = some o → (h.push n).get? c = some o := fun h n c o e => Heap.get?_push_of_some _ e
  have f5 : (zm5 s.heap a b).get? (zm4 s.heap a b).objs.size = some _ := Heap.get?_push_size _ rfl
  have f4 : (zm5 s.heap a b).get? (zm3 s.heap a b).objs.size = some _ := pu _ _ _ _ (Heap.get?_push_size _ rfl)
  have f3 : (zm5 s.heap a b).get? (zm2 s.heap a b).objs.size = some _ := pu _ _ _ _ (pu _ _ _ _ (Heap.get?_push_size _ rfl))
  have f2 : (zm5 s.heap a b).get? (zm1 s.heap a).objs.size = some _ := pu _ _ _ _ (pu _ _ _ _ (pu _ _ _ _ (Heap.get?_push_size _ rfl)))
  have f1 : (zm5 s.heap a b).get? s.heap.objs.size = some _ := pu _ _ _ _ (pu _ _ _ _ (pu _ _ _ _ (pu _ _ _ _ (Heap.get?_push_size _ rfl))))
  show _ ∧ _
  rw [z2, z3, z4] at f5
  rw [z1, z2] at f3
  rw [z3] at f4
  rw [z1] at f2
  rw [z4]
  exact ⟨⟨_, f5, rfl⟩, fin _ f5 f3 f4 ⟨_, f1, rfl, rfl⟩ ⟨_, f2, rfl, rfl⟩ fun c o e => pu _ _ _ _ (pu _ _ _ _ (pu _ _ _ _ (pu _ _ _ _ (pu _ _ _ _ e))))⟩
section
variable {P : Program} {w : World} {K : PySem.W.Frag} {elts : List Expr} {kk : Nat} {tpos : Pos} {a b z ti to i1 i2 : Addr}
theorem turn_zm (D : ZipApart z ti to i1 i2 a b) : Turn P w K (.Tuple elts kk tpos) (ItF (fun H xs => SqL K H a xs) fun H ys => SqT K H b ys) [z, ti, to, i1, i2] z
    (fun i h => IsZip h z ti to .none ∧ IsPair h ti (.ref i1) (.ref i2) ∧ (∃ x y, IsPair h to x y) ∧ h.IsListIter i1 a i ∧ h.IsTupleIter i2 b i) where
  mem := List.mem_cons_self ..
  obj := fun i h ⟨oz, oti, ⟨_, _, oto⟩, ⟨o1, e1, _, d1⟩, ⟨o2, e2, _, d2⟩⟩ c hc => by
    rcases five hc with q | q | q | q | q <;> rw [q]
    · exact ⟨_, oz, fun v q => nomatch q⟩
    · exact ⟨_, oti, fun v q => nomatch q⟩
    · exact ⟨_, oto, fun v q => nomatch q⟩
    · refine ⟨o1, e1, fun v q => ?_⟩
      rw [d1] at q
      cases q
    · refine ⟨o2, e2, fun v q => ?_⟩
      rw [d2] at q
      cases q
  keep := fun i h h' ⟨oz, oti, ⟨p, q, oto⟩, n1, n2⟩ k => by
    have m : ∀ c ∈ [z, ti, to, i1, i2], ∀ o, h.get? c = some o → h'.get? c = some o := k
    exact ⟨m z (by simp) _ oz, m ti (by simp) _ oti, ⟨p, q, m to (by simp) _ oto⟩, n1.at fun o e => m i1 (by simp) o e, n2.at fun o e => m i2 (by simp) o e⟩
  self := fun A i s Q E st h => wpAny_pyIter_zip st.1 h
  done := by
    intro X eP ew eK hc i pins s σ H E I hf ⟨oz, oti, ⟨p0, q0, oto⟩, n1, n2⟩ ⟨xs, ys, sx, sy, over⟩
    subst eP ew eK
    obtain ⟨us, va, ta, _⟩ := I.list sx
    obtain ⟨us2, vb, tb, _⟩ := I.tuple sy
    have over' : us.toArray[i]? = none ∨ us2.toArray[i]? = none := by
      have e1 := va.length
      have e2 := vb.length
      rcases over with q | q
      · exact .inl (by simp; omega)
      · exact .inr (by simp; omega)
    refine sides_over (I.ok.hd hc) D (side_list i1 a us.toArray) (side_tuple i2 b us2.toArray) oz oti oto n1 n2 ta.isList tb over' fun h' hk => ⟨rfl, I.turnedL (t' := s.toks) (ch := [z, ti, to, i1, i2]) (fun c o hb q => ?_) hf⟩
    have n : c ≠ z ∧ c ≠ ti ∧ c ≠ to ∧ c ≠ i1 ∧ c ≠ i2 := by simpa using hb
    exact hk c o n.1 n.2.2.1 n.2.2.2.1 n.2.2.2.2 q
  item := by
    intro X eP ew eK hc i pins s σ H E I hf ⟨oz, oti, ⟨p0, q0, oto⟩, n1, n2⟩ ⟨xs, ys, l, r, sx, sy, gl, gr⟩
    subst eP ew eK
    obtain ⟨us, va, ta, _⟩ := I.list sx
    obtain ⟨us2, vb, tb, _⟩ := I.tuple sy
    obtain ⟨u, gu, ru⟩ := va.get gl
    obtain ⟨u2, gu2, ru2⟩ := vb.get gr
    have lz : z < s.heap.objs.size := Heap.lt_size oz
    refine sides_next D (side_list i1 a us.toArray) (side_tuple i2 b us2.toArray) oz oti oto n1 n2 ta.isList tb (x := u) (y := u2) (by simpa using gu) (by simpa using gu2) fun h1 z1 to1 m1 m2 nt hk => ⟨_, rfl, wpAny_letOwnedTupleGo_zip (s := { s with heap := h1 }) z1 fun h2 z2 sb => ?_⟩
    have I1 := pair_new (ch := [z, ti, to, i1, i2]) (h' := h2) I hf ((sb.2 _ (Nat.ne_of_gt lz)).trans nt) ru ru2 fun c o hb q => by
      have n : c ≠ z ∧ c ≠ ti ∧ c ≠ to ∧ c ≠ i1 ∧ c ≠ i2 := by simpa using hb
      exact (sb.2 c n.1).trans (hk c o n.1 n.2.2.1 n.2.2.2.1 n.2.2.2.2 q)
    refine ⟨.ref s.heap.objs.size, _, I1, rfl, ⟨_, _, l, r, rfl, I.hok.fresh (Nat.le_refl _), rfl, rfl, rfl, fun zs q => by rw [I.list_inj q sx]; exact gl, fun zs q => by rw [I.tuple_inj q sy]; exact gr⟩,
      ⟨z2, (sb.2 _ D.TIz).trans (hk _ _ D.TIz D.TITO D.TIi1 D.TIi2 oti), ⟨u, u2, (sb.2 _ D.TOz).trans to1⟩, m1.at fun o q => (sb.2 _ D.i1z).trans q, m2.at fun o q => (sb.2 _ D.i2z).trans q⟩, fun c hcm => ?_⟩
    have lt : c < s.heap.objs.size := by
      obtain ⟨_, k1, _⟩ := n1
      obtain ⟨_, k2, _⟩ := n2
      rcases five hcm with q | q | q | q | q <;> rw [q]
      · exact lz
      · exact Heap.lt_size oti
      · exact Heap.lt_size oto
      · exact Heap.lt_size k1
      · exact Heap.lt_size k2
    rw [upd_ne (Nat.ne_of_lt lt)]
    exact (hf c hcm).1
end
section
variable {X : Cx} {e e2 : Expr} {ta : TA} {p pos tpos : Pos} {elts : List Expr} {kk : Nat}
theorem pi_zm (hg : Gl X "zip") (hm : X.mg "zip" = none) (ha : PA X [e, e2] ta)
    (hs : starEach [e, e2] X.env = (false, eval e X.env) :: starEach [e2] X.env := by rfl) (hpl : (backTo pos (starEach [e2] X.env)).any (·.1) = false := by rfl) :
    PI X (.Tuple elts kk tpos) (.Call (.Name "zip" p) [e, e2] [] pos) (fun σ H R => ta σ H fun vs H1 => ∃ a b xs ys, vs = [.ref a, .ref b] ∧ SqL X.K H1 a xs ∧ SqT X.K H1 b ys ∧ R (ItF (fun H xs => SqL X.K H a xs) fun H ys => SqT X.K H b ys) H1) := by
  refine ⟨fun pins s σ H R I h => Call_ (ld_blt I hg hm PyProof.Rows.boot_zip (PyProof.Rows.callWith_type1 (thn (ha.run pos pins s σ H _ I h) fun us s1 ⟨vs, H1, I1, rr, a, b, xs, ys, ev, sx, sy, q⟩ => ?_) hs hpl))⟩
  subst ev
  obtain ⟨u, u2, eu, ra, rb⟩ := vals2 rr
  subst eu
  obtain rfl : u = .ref a := ra
  obtain rfl : u2 = .ref b := rb
  have fp : ∀ c ∈ [s1.heap.objs.size + 4, s1.heap.objs.size + 2, s1.heap.objs.size + 3, s1.heap.objs.size, s1.heap.objs.size + 1], FpOk X pins H1 c := fun c hc => by
    have le : s1.heap.objs.size ≤ c := by
      rcases five hc with q | q | q | q | q <;> rw [q]
      · exact Nat.le_add_right _ _
      · exact Nat.le_add_right _ _
      · exact Nat.le_add_right _ _
      · exact Nat.le_refl _
      · exact Nat.le_add_right _ _
    exact I1.fpOk le (I1.hok.fresh le)
  obtain ⟨us, _, ta, _⟩ := I1.list sx
  obtain ⟨us2, _, tb, _⟩ := I1.tuple sy
  have lb : b < s1.heap.objs.size := by obtain ⟨o, k, _⟩ := tb; exact Heap.lt_size k
  refine call_zm ta.isList (show s1.heap.IsTuple b us2.toArray from tb) fun h' oz oti oto n1 n2 hk => wpAny_pyIter_zip oz ?_
  exact ⟨_, [s1.heap.objs.size + 4, s1.heap.objs.size + 2, s1.heap.objs.size + 3, s1.heap.objs.size, s1.heap.objs.size + 1], _, _, H1, rfl, I1.kept (t' := s1.toks) hk, turn_zm (PySem.W.ktu_apart s1.heap.objs.size a b ta.lt lb), ⟨oz, oti, ⟨_, _, oto⟩, n1, n2⟩, fp, q⟩
end
/-- zip of a list with a tuple -/
def zipM : List D → R (List D)
  | [.lst xs, .tup ys] => .ok (zipD xs ys)
  | _ => .st
theorem zipM_cases (ds : List D) : (∃ xs ys, ds = [.lst xs, .tup ys] ∧ zipM ds = .ok (zipD xs ys)) ∨ zipM ds = .st := by
  unfold zipM
  split
  · exact .inl ⟨_, _, rfl, rfl⟩
  · exact .inr rfl
def mZipM (mr : En → R (List D)) : En → R (List D) := fun env => (mr env).bind zipM
section
variable {g : G0} {x : L2.St → Prop} {W : WX} {X : Cx} {e e2 : Expr} {p pos tpos : Pos} {elts : List Expr} {kk : Nat} {mr : En → R (List D)}
theorem di_zipM (hg : Gl X "zip") (hm : X.mg "zip" = none) (ha : PAd g x W X [e, e2] mr)
    (hs : starEach [e, e2] X.env = (false, eval e X.env) :: starEach [e2] X.env := by rfl) (hpl : (backTo pos (starEach [e2] X.env)).any (·.1) = false := by rfl) : PId g x W X (.Tuple elts kk tpos) (.Call (.Name "zip" p) [e, e2] [] pos) (mZipM mr) :=
  weakI (pi_zm hg hm ha hs hpl) fun σ H Rn ⟨env, Z, er, hp⟩ => by
    refine ⟨env, Z, er, ?_⟩
    unfold mZipM at hp
    cases em : mr env with
    | ok ds =>
      rw [em] at hp
      have hp : PostI X.K g W Z σ H Rn (zipM ds) := hp
      intro vs H' k r
      rcases zipM_cases ds with ⟨xs, ys, ed, ez⟩ | ez
      · rw [ez] at hp
        subst ed
        obtain ⟨v, _, e1, q1, r2⟩ := RepL.cons_.mp r
        obtain ⟨v2, _, e3, q2, r3⟩ := RepL.cons_.mp r2
        have e4 := RepL.nil_.mp r3
        subst e1 e3 e4
        obtain ⟨a, us, e5, rd, rr⟩ := Rep.lst_.mp q1
        obtain ⟨b, ws, e6, rd2, rr2⟩ := Rep.tup_.mp q2
        subst e5 e6
        exact ⟨a, b, us, ws, rfl, rd.sq, rd2.sqT, hp _ H' k (walk_zipF rr rr2 (fun H2 k2 => (k2.ls rd).sq) fun H2 k2 => (k2.tu rd2).sqT)⟩
      · rw [ez] at hp
        exact hp.elim
    | ex c p => rw [em] at hp; exact hp
    | st => rw [em] at hp; exact hp.elim
end
end DL
set_option Elab.async false
set_option linter.all false
set_option maxRecDepth 100000
namespace DL
open PySem PySem.Spec L2
open PyProof.Rows hiding St
/-! ### lists of ints -/
theorem leD_int (a b : Int) : leD (.int a) (.int b) = decide (a ≤ b) := congrFun (congrFun (PySem.W.dataLe_int (fun i : Int => i)) a) b
theorem eqDL_ints : ∀ xs ys : List Int, eqDL (xs.map .int) (ys.map .int) = decide (xs = ys)
  | [], [] => by simp [eqDL]
  | [], y :: ys => by simp [eqDL]
  | x :: xs, [] => by simp [eqDL]
  | x :: xs, y :: ys => by
    show eqDL (.int x :: xs.map .int) (.int y :: ys.map .int) = _
    unfold eqDL
    rw [eqDL_ints xs ys]
    show (eqD (.int x) (.int y) && decide (xs = ys)) = _
    rw [show eqD (.int x) (.int y) = (x == y) by unfold eqD; rfl]
    by_cases h : x = y
    · subst h; simp
    · simp [h]
def leI (a b : Int) : Bool := decide (a ≤ b)
theorem ins_ints (a : Int) : ∀ xs : List Int, ins leD (.int a) (xs.map .int) = (ins leI a xs).map .int
  | [] => rfl
  | x :: xs => by
    show ins leD (.int a) (.int x :: xs.map .int) = _
    unfold ins
    rw [leD_int, ins_ints a xs]
    show (if leI a x = true then _ else _) = _
    split <;> rfl
theorem isort_ints : ∀ xs : List Int, isort leD (xs.map .int) = (isort leI xs).map .int
  | [] => rfl
  | x :: xs => by
    show ins leD (.int x) (isort leD (xs.map .int)) = (ins leI x (isort leI xs)).map .int
    rw [isort_ints xs, ins_ints]
theorem ins_perm {α : Type} (le : α → α → Bool) (a : α) : ∀ xs : List α, (ins le a xs).Perm (a :: xs)
  | [] => .refl _
  | x :: xs => by
    unfold ins
    split
    · exact .refl _
    · exact ((ins_perm le a xs).cons x).trans (.swap a x xs)
theorem isort_permI {α : Type} (le : α → α → Bool) : ∀ xs : List α, (isort le xs).Perm xs
  | [] => .refl _
  | x :: xs => (ins_perm le x _).trans ((isort_permI le xs).cons x)
theorem okSort_ints (xs : List Int) (h : xs.length ≤ lim) : okSort (xs.map .int) = true := by
  have hd : ∀ a : Int, decide ((toPy (.int a)).depth ≤ 60) = true := fun a => rfl
  have e1 : ((xs.map D.int).all fun a => noObj a && decide ((toPy a).depth ≤ 60)) = true := by
    rw [List.all_eq_true]
    intro d m
    obtain ⟨a, _, rfl⟩ := List.mem_map.mp m
    rfl
  have e2 : ((xs.map D.int).all fun a => (xs.map D.int).all fun b => PySem.W.alike (toPy a) (toPy b)) = true := by
    rw [List.all_eq_true]
    intro d m
    rw [List.all_eq_true]
    intro d2 m2
    obtain ⟨a, _, rfl⟩ := List.mem_map.mp m
    obtain ⟨b, _, rfl⟩ := List.mem_map.mp m2
    rfl
  have e3 : (xs.map D.int).all noTN = true := by
    rw [List.all_eq_true]
    intro d m
    obtain ⟨a, _, rfl⟩ := List.mem_map.mp m
    rfl
  unfold okSort
  rw [e1, e2, e3, decide_eq_true (show (xs.map D.int).length ≤ lim by rw [List.length_map]; exact h)]
  simp
theorem fSorted_ints (xs : List Int) (h : xs.length ≤ lim) : fSorted [.tup (xs.map .int)] = .ok (.ow ((isort leI xs).map .int)) := by
  show (if okSort (xs.map .int) = true then _ else _) = _
  rw [if_pos (okSort_ints xs h), isort_ints]
theorem isort_ordered : ∀ xs : List Int, (isort leI xs).Pairwise (· ≤ ·) := by
  have hi : ∀ (a : Int) (xs : List Int), xs.Pairwise (· ≤ ·) → (ins leI a xs).Pairwise (· ≤ ·) := by
    intro a xs
    induction xs with
    | nil => intro _; simp [ins]
    | cons x xs ih =>
      intro h
      unfold ins
      split
      · rename_i e
        have e : a ≤ x := of_decide_eq_true e
        refine List.pairwise_cons.mpr ⟨fun b m => ?_, h⟩
        rcases List.mem_cons.mp m with rfl | m
        · exact e
        · exact Int.le_trans e ((List.pairwise_cons.mp h).1 b m)
      · rename_i e
        have e : ¬ a ≤ x := fun q => e (decide_eq_true q)
        refine List.pairwise_cons.mpr ⟨fun b m => ?_, ih (List.pairwise_cons.mp h).2⟩
        rcases List.mem_cons.mp ((ins_perm leI a xs).mem_iff.mp m) with rfl | m
        · omega
        · exact (List.pairwise_cons.mp h).1 b m
  intro xs
  induction xs with
  | nil => exact List.Pairwise.nil
  | cons x xs ih => exact hi x _ ih
def rng (n : Nat) : List Int := (List.range n).map fun i : Nat => (i : Int)
theorem rng_ordered (n : Nat) : (rng n).Pairwise (· ≤ ·) := by
  unfold rng
  rw [List.pairwise_map]
  exact (List.pairwise_lt_range (n := n)).imp fun h => by omega
theorem eq_of_ordered : ∀ {xs ys : List Int}, xs.Pairwise (· ≤ ·) → ys.Pairwise (· ≤ ·) → xs.Perm ys → xs = ys
  | [], ys, _, _, p => (List.nil_perm.mp p).symm
  | x :: xs, [], _, _, p => by simpa using p.length_eq
  | x :: xs, y :: ys, h1, h2, p => by
    have a1 := List.pairwise_cons.mp h1
    have a2 := List.pairwise_cons.mp h2
    have le1 : x ≤ y := by
      rcases List.mem_cons.mp (p.mem_iff.mpr (List.mem_cons_self (a := y) (l := ys))) with e | m
      · omega
      · exact a1.1 y m
    have le2 : y ≤ x := by
      rcases List.mem_cons.mp (p.mem_iff.mp (List.mem_cons_self (a := x) (l := xs))) with e | m
      · omega
      · exact a2.1 x m
    have e : x = y := by omega
    subst e
    rw [eq_of_ordered a1.2 a2.2 (List.Perm.cons_inv p)]
/-- sorted(xs) is the range: xs is a permutation -/
theorem isort_rng (xs : List Int) (n : Nat) : isort leI xs = rng n ↔ xs.Perm (rng n) :=
  ⟨fun h => (isort_permI leI xs).symm.trans (by rw [h]), fun h => eq_of_ordered (isort_ordered xs) (rng_ordered n) ((isort_permI leI xs).trans h)⟩
theorem rng_nodup (n : Nat) : (rng n).Nodup := by
  unfold rng
  rw [List.nodup_iff_pairwise_ne, List.pairwise_map]
  exact (List.pairwise_lt_range (n := n)).imp fun h => by omega
theorem mem_rng {n : Nat} {x : Int} : x ∈ rng n ↔ ∃ i, i < n ∧ x = (i : Int) := by
  unfold rng
  simp only [List.mem_map, List.mem_range]
  exact ⟨fun ⟨i, h, e⟩ => ⟨i, h, e.symm⟩, fun ⟨i, h, e⟩ => ⟨i, h, e.symm⟩⟩
theorem perm_of_sub : ∀ (ys xs : List Int), ys.Nodup → xs.length = ys.length → (∀ y ∈ ys, y ∈ xs) → xs.Perm ys
  | [], xs, _, hl, _ => by
    have : xs = [] := List.length_eq_zero_iff.mp hl
    rw [this]
  | y :: ys, xs, hn, hl, h => by
    have hy := h y List.mem_cons_self
    have hn2 := List.nodup_cons.mp hn
    have e1 : xs.Perm (y :: xs.erase y) := List.perm_cons_erase hy
    have l2 : (xs.erase y).length = ys.length := by
      have := e1.length_eq
      simp at this hl
      omega
    refine e1.trans (.cons y (perm_of_sub ys _ hn2.2 l2 fun z m => ?_))
    have zy : z ≠ y := fun q => hn2.1 (q ▸ m)
    exact (List.mem_erase_of_ne zy).mpr (h z (List.mem_cons_of_mem _ m))
/-- each number of the range occurs once -/
theorem perm_count (xs : List Int) : (∀ k, k < xs.length → (xs.filter fun x => decide (x = (k : Int))).length = 1) ↔ xs.Perm (rng xs.length) := by
  constructor
  · intro h
    refine perm_of_sub _ _ (rng_nodup _) (by simp [rng]) fun y m => ?_
    obtain ⟨k, hk, rfl⟩ := mem_rng.mp m
    have := h k hk
    obtain ⟨z, hz⟩ : ∃ z, z ∈ xs.filter fun x => decide (x = (k : Int)) := by
      cases e : xs.filter fun x => decide (x = (k : Int)) with
      | nil => rw [e] at this; cases this
      | cons z r => exact ⟨z, List.mem_cons_self⟩
    obtain ⟨h1, h2⟩ := List.mem_filter.mp hz
    exact of_decide_eq_true h2 ▸ h1
  · intro p k hk
    have q := (p.filter fun x => decide (x = (k : Int))).length_eq
    rw [q]
    have : ∀ n k, k < n → ((rng n).filter fun x => decide (x = (k : Int))).length = 1 := by
      intro n k hk
      have hn := rng_nodup n
      have hm : (k : Int) ∈ rng n := mem_rng.mpr ⟨k, hk, rfl⟩
      have : (rng n).filter (fun x => decide (x = (k : Int))) = (rng n).filter (fun x => x == (k : Int)) := by
        congr 1
      rw [this, ← List.countP_eq_length_filter]
      have c := hn.count (a := (k : Int))
      rw [if_pos hm] at c
      exact c
    exact this _ k hk
end DL
set_option Elab.async false
set_option linter.all false
set_option maxRecDepth 100000
set_option maxHeartbeats 4000000
namespace DM
open PySem PySem.Spec L2 DL
open PyProof.Rows hiding St
/-! ### helpers that recur in the laws: their mirrors as gen.py prints them, and their values -/
abbrev nbody : MS := (sIf (mTest (mB (mBin fGe (mBV 2) (mB (mC (.int 5040)))))) (sSeq (sApp 4 (mBin fMod (mB (mCall fInt (bCons (mBV 2) bNil))) (mB (mC (.int 5040)))))
    (sSet 2 (mBin fDiv (mBV 2) (mB (mC (.int 5040)))))) (sSeq (sSet 3 (mBin fMod (mB (mCall fInt (bCons (mB (mBin fAddL (mB (mBin fMul (mBV 3) (mB (mC (.int 48271))))) (mB (mBin fMul (mB (mC (.int 69621))) (mB (mBin fAddL (mBV 5) (mB (mC (.int 1))))))))) bNil))) (mB (mC (.int 2147483647)))))
    (sApp 4 (mBin fMod (mB (mBin fDiv (mB (mBin fMod (mB (mCall fInt (bCons (mB (mBin fAddL (mB (mBin fDiv (mB (mBin fMul (mBV 3) (mBV 3))) (mB (mC (.int 7))))) (mB (mBin fMul (mB (mC (.int 3))) (mBV 3))))) bNil))) (mB (mC (.int 2147483629))))) (mB (mC (.int 11))))) (mB (mC (.int 5040)))))))
def m_numbers : MS := (sSeq (sSet 2 (mCall fAbs (bCons (mB (mCall fInt (bCons (mBV 0) bNil))) bNil)))
    (sSeq (sSet 3 (mBin fAddL (mB (mBin fMod (mB (mCall fInt (bCons (mBV 2) bNil))) (mB (mC (.int 2147483629))))) (mB (mC (.int 1)))))
    (sSeq (sSet 4 (mCall fLst mNil))
    (sSeq (sFor (mRng1 (mBV 1)) (.nm 5) nbody)
    (sRetV 4)))))
def f_numbers : Fn := runF 2 6 m_numbers
theorem fDiv_small (a : Int) {b : Int} (h : 0 < b) (h2 : b < 100000) : fDiv (.int a) (.int b) = .ok (.fr (.int (a / b))) := by
  have h3 : b.natAbs < 2 ^ 4000 := Nat.lt_of_lt_of_le (show b.natAbs < 2 ^ 17 by omega) (Nat.pow_le_pow_right (by decide) (by decide))
  show (if 0 < b ∧ b.natAbs < 2 ^ 4000 then R.ok (Sl.fr (.int (a / b))) else .st) = _
  rw [if_pos ⟨h, h3⟩]
theorem fMul_left {a b : Int} (h : a.natAbs < 2 ^ 64) : fMul (.int a) (.int b) = .ok (.fr (.int (a * b))) := by
  show (if DL.MulOk a b = true then R.ok (Sl.fr (.int (a * b))) else .st) = _
  rw [if_pos]
  unfold DL.MulOk
  rw [decide_eq_true h]
  rfl
theorem fMul_right {a b : Int} (h : b.natAbs < 2 ^ 64) : fMul (.int a) (.int b) = .ok (.fr (.int (a * b))) := by
  show (if DL.MulOk a b = true then R.ok (Sl.fr (.int (a * b))) else .st) = _
  rw [if_pos]
  unfold DL.MulOk
  rw [decide_eq_true h, Bool.or_true]
  rfl
theorem fAddL_int (a b : Int) : fAddL (.int a) (.int b) = .ok (.fr (.int (a + b))) := rfl
theorem nstep {s0 s1 : Option Sl} {num mx k : Int} {zs : List Int} (h0 : 0 ≤ num) (h1 : 0 ≤ mx ∧ mx < 2147483650) (hl : zs.length < lim) :
    ∃ (num' mx' z : Int), 0 ≤ num' ∧ (0 ≤ mx' ∧ mx' < 2147483650) ∧ (0 ≤ z ∧ z < 5040) ∧ nbody [s0, s1, some (.fr (.int num)), some (.fr (.int mx)), some (.ow (zs.map .int)), some (.fr (.int k))] = .nx [s0, s1, some (.fr (.int num')), some (.fr (.int mx')), some (.ow ((zs ++ [z]).map .int)), some (.fr (.int k))] := by
  have d1 := fDiv_small num (b := 5040) (by decide) (by decide)
  by_cases c : 5040 ≤ num
  · refine ⟨num / 5040, mx, num % 5040, Int.ediv_nonneg h0 (by decide), h1, ⟨Int.emod_nonneg _ (by decide), Int.emod_lt_of_pos _ (by decide)⟩, ?_⟩
    unfold nbody
    simp [runF, env0, fin, sSeq, sSet, sIf, sRet, sRetV, sDrop, sFrz, frz, frz1, sNop, sTry, mAnd, mOr, mNot, mB, mBin, mUn, mCall, mCons, mNil, bCons, bNil, mBV, mVar, mC, mTest, tNotM, tAndM, tOrM, R.bind, Sl.d, asB, fGe, c, fMod, fInt, d1, sApp, hl]
  · obtain ⟨m2, hm2⟩ : ∃ m2 : Int, (mx * 48271 + 69621 * (k + 1)) % 2147483647 = m2 := ⟨_, rfl⟩
    have b2 : 0 ≤ m2 ∧ m2 < 2147483647 := by rw [← hm2]; exact ⟨Int.emod_nonneg _ (by decide), Int.emod_lt_of_pos _ (by decide)⟩
    have e1 : fMul (.int mx) (.int 48271) = .ok (.fr (.int (mx * 48271))) := fMul_right (by decide)
    have e2 : fMul (.int 69621) (.int (k + 1)) = .ok (.fr (.int (69621 * (k + 1)))) := fMul_left (by decide)
    have e3 : fMul (.int m2) (.int m2) = .ok (.fr (.int (m2 * m2))) := fMul_left (by omega)
    have e4 : fMul (.int 3) (.int m2) = .ok (.fr (.int (3 * m2))) := fMul_left (by decide)
    have d7 := fDiv_small (m2 * m2) (b := 7) (by decide) (by decide)
    have d11 := fDiv_small ((m2 * m2 / 7 + 3 * m2) % 2147483629) (b := 11) (by decide) (by decide)
    refine ⟨num, m2, (m2 * m2 / 7 + 3 * m2) % 2147483629 / 11 % 5040, h0, ⟨b2.1, by omega⟩, ⟨Int.emod_nonneg _ (by decide), Int.emod_lt_of_pos _ (by decide)⟩, ?_⟩
    unfold nbody
    simp [runF, env0, fin, sSeq, sSet, sIf, sRet, sRetV, sDrop, sFrz, frz, frz1, sNop, sTry, mAnd, mOr, mNot, mB, mBin, mUn, mCall, mCons, mNil, bCons, bNil, mBV, mVar, mC, mTest, tNotM, tAndM, tOrM, R.bind, Sl.d, asB, fGe, c, fMod, fInt, sApp, hl, fAddL_int, e1, e2, hm2, e3, e4, d7, d11]
theorem nloop {s0 s1 : Option Sl} : ∀ (ks : List Nat) {num mx : Int} {zs : List Int} (s : Option Sl), 0 ≤ num → (0 ≤ mx ∧ mx < 2147483650) → zs.length + ks.length ≤ 1000 → (∀ z ∈ zs, 0 ≤ z ∧ z < 5040) →
    ∃ (num' mx' : Int) (ws : List Int) (s' : Option Sl), ws.length = zs.length + ks.length ∧ (∀ z ∈ ws, 0 ≤ z ∧ z < 5040) ∧
      forM (Pt.nm 5).go nbody (ks.map fun k : Nat => .int (k : Int)) [s0, s1, some (.fr (.int num)), some (.fr (.int mx)), some (.ow (zs.map .int)), s] = .nx [s0, s1, some (.fr (.int num')), some (.fr (.int mx')), some (.ow (ws.map .int)), s']
  | [], num, mx, zs, s, h0, h1, hl, hz => ⟨num, mx, zs, s, rfl, hz, rfl⟩
  | k :: ks, num, mx, zs, s, h0, h1, hl, hz => by
    have hl' : zs.length + (ks.length + 1) ≤ 1000 := by simpa using hl
    obtain ⟨n1, m1, z, a1, a2, a3, e⟩ := nstep (s0 := s0) (s1 := s1) (k := k) (zs := zs) h0 h1 (by unfold lim; omega)
    obtain ⟨n2, m2, ws, s2, l2, z2, e2⟩ := nloop (s0 := s0) (s1 := s1) ks (zs := zs ++ [z]) (some (.fr (.int k))) a1 a2 (by simp; omega) (by
      intro y hy
      rcases List.mem_append.mp hy with q | q
      · exact hz y q
      · rw [List.mem_singleton.mp q]; exact a3)
    refine ⟨n2, m2, ws, s2, by rw [l2]; simp; omega, z2, ?_⟩
    have st : forM (Pt.nm 5).go nbody ((k :: ks).map fun k : Nat => .int (k : Int)) [s0, s1, some (.fr (.int num)), some (.fr (.int mx)), some (.ow (zs.map .int)), s] = match nbody [s0, s1, some (.fr (.int num)), some (.fr (.int mx)), some (.ow (zs.map .int)), some (.fr (.int k))] with
      | .nx e => forM (Pt.nm 5).go nbody (ks.map fun k : Nat => .int (k : Int)) e
      | .ct e => forM (Pt.nm 5).go nbody (ks.map fun k : Nat => .int (k : Int)) e
      | .bk e => .nx e
      | .rt s => .rt s
      | .ex c p e => .ex c p e
      | .st => .st := rfl
    rw [st, e]
    exact e2
theorem rangeD_nat (n : Nat) : rangeD 0 n = (List.range n).map fun k : Nat => D.int (k : Int) := by
  unfold rangeD
  refine List.map_congr_left fun i _ => ?_
  show D.int (0 + (i : Int)) = D.int (i : Int)
  rw [Int.zero_add]
/-- _law_numbers(cell, many): so many numbers from 0 to 5039 -/
theorem numbers_ok (c : Int) {m : Nat} (hm : m ≤ 1000) : ∃ zs : List Int, zs.length = m ∧ (∀ z ∈ zs, 0 ≤ z ∧ z < 5040) ∧ f_numbers [.int c, .int m] = .ok (.ow (zs.map .int)) := by
  have l3 : (m : Int) ≤ big := by unfold big; omega
  have l4 : -big ≤ (m : Int) := by unfold big; omega
  obtain ⟨d, hd⟩ : ∃ d : Int, (if c < 0 then -c else c) = d := ⟨_, rfl⟩
  have d0 : 0 ≤ d := by rw [← hd]; split <;> omega
  have b1 : 0 ≤ d % 2147483629 + 1 ∧ d % 2147483629 + 1 < 2147483650 := by
    have := Int.emod_nonneg d (show (2147483629 : Int) ≠ 0 by decide)
    have := Int.emod_lt_of_pos d (show (0 : Int) < 2147483629 by decide)
    omega
  obtain ⟨n2, m2, ws, s2, l2, z2, e2⟩ := nloop (s0 := some (.fr (.int c))) (s1 := some (.fr (.int m))) (List.range m) (zs := []) none d0 b1 (by simpa using hm) (by simp)
  rw [List.map_nil] at e2
  refine ⟨ws, by simpa using l2, z2, ?_⟩
  unfold f_numbers m_numbers
  simp [runF, env0, fin, sSeq, sSet, sIf, sRet, sRetV, sDrop, sFrz, frz, frz1, sNop, sTry, mAnd, mOr, mNot, mB, mBin, mUn, mCall, mCons, mNil, bCons, bNil, mBV, mVar, mC, mTest, tNotM, tAndM, tOrM, R.bind, Sl.d, asB, fAbs, fInt, hd, fMod, fAddL_int, fLst, sFor, mRng1, l3, l4, rangeD_nat, e2]

/-! ### _law_same -/
def m_same (self : Fn) : MS := (sSeq (sIf (tOrM (mTest (mB (mUn (fIs .tuple) (mBV 1)))) (mTest (mB (mUn (fIs .list) (mBV 1))))) (sSeq (sIf (tOrM (mTest (mB (mBin fNe (mB (mUn (fIs .tuple) (mBV 1))) (mB (mUn (fIs .tuple) (mBV 0)))))) (mTest (mB (mBin fNe (mB (mUn (fIs .list) (mBV 1))) (mB (mUn (fIs .list) (mBV 0))))))) (sRet (mC (.bl false))) sNop)
    (sSeq (sIf (mTest (mB (mBin fNe (mB (mCall fLen (bCons (mBV 0) bNil))) (mB (mCall fLen (bCons (mBV 1) bNil)))))) (sRet (mC (.bl false))) sNop)
    (sSeq (sFor (mRng1 (mB (mCall fLen (bCons (mBV 1) bNil)))) (.nm 2) (sIf (tNotM (mTest (mB (mCall self (mCons (mBin fIx (mBV 0) (mBV 2)) (mCons (mBin fIx (mBV 1) (mBV 2)) mNil)))))) (sRet (mC (.bl false))) sNop))
    (sRet (mC (.bl true)))))) sNop)
    (sSeq (sIf (mTest (mB (mBin fIsN (mBV 1) (mB (mC .non))))) (sRet (mBin fIsN (mBV 0) (mB (mC .non)))) sNop)
    (sSeq (sIf (mTest (mB (mUn (fIs .bool) (mBV 1)))) (sRet (mAnd (mB (mUn (fIs .bool) (mBV 0))) (mB (mBin fEq (mBV 0) (mBV 1))))) sNop)
    (sSeq (sIf (mTest (mB (mUn (fIs .str) (mBV 1)))) (sRet (mAnd (mB (mUn (fIs .str) (mBV 0))) (mB (mBin fEq (mBV 0) (mBV 1))))) sNop)
    (sRet (mAnd (mB (mUn (fIs .int) (mBV 0))) (mB (mAnd (mB (mNot (mB (mUn (fIs .bool) (mBV 0))))) (mB (mBin fEq (mBV 0) (mBV 1)))))))))))
/-! data without objects, whose texts can be compared -/
mutual
def goodD : Nat → D → Bool
  | _, .non => true
  | _, .bl _ => true
  | _, .int _ => true
  | _, .str z => okE (.str z)
  | k + 1, .tup xs => decide (xs.length ≤ 1000000) && goodL k xs
  | k + 1, .lst xs => decide (xs.length ≤ 1000000) && goodL k xs
  | _, _ => false
def goodL : Nat → List D → Bool
  | _, [] => true
  | k, x :: xs => goodD k x && goodL k xs
end
theorem goodL_get {k : Nat} : ∀ {xs : List D} {i : Nat} {d : D}, goodL k xs = true → xs[i]? = some d → goodD k d = true
  | [], i, d, h, e => by simp at e
  | x :: xs, 0, d, h, e => by
    unfold goodL at h
    rw [Bool.and_eq_true] at h
    cases e
    exact h.1
  | x :: xs, i + 1, d, h, e => by
    unfold goodL at h
    rw [Bool.and_eq_true] at h
    exact goodL_get h.2 (by simpa using e)
theorem fNe_bl (b : Bool) : fNe (.bl b) (.bl b) = .ok (.fr (.bl false)) := by cases b <;> with_unfolding_all rfl
theorem fEq_bl (b : Bool) : fEq (.bl b) (.bl b) = .ok (.fr (.bl true)) := by cases b <;> with_unfolding_all rfl
theorem fEq_int (a b : Int) : fEq (.int a) (.int b) = .ok (.fr (.bl (decide (a = b)))) := by
  show R.ok (Sl.fr (.bl (eqD (.int a) (.int b)))) = _
  rw [show eqD (.int a) (.int b) = (a == b) by unfold eqD; rfl]
  rfl
theorem fNe_int (a b : Int) : fNe (.int a) (.int b) = .ok (.fr (.bl (!decide (a = b)))) := by
  show R.ok (Sl.fr (.bl (!eqD (.int a) (.int b)))) = _
  rw [show eqD (.int a) (.int b) = (a == b) by unfold eqD; rfl]
  rfl
theorem fEq_str {z : Str} (h : okE (.str z) = true) : fEq (.str z) (.str z) = .ok (.fr (.bl true)) := by
  unfold fEq
  rw [h]
  show R.ok (Sl.fr (.bl (eqD (.str z) (.str z)))) = _
  rw [show eqD (.str z) (.str z) = (z == z) by unfold eqD; rfl, beq_self_eq_true]
theorem ix_at {xs : List D} {k : Nat} {d : D} (h : xs[k]? = some d) : atD xs (k : Int) = .ok (.fr d) := by
  have hk : k < xs.length := (List.getElem?_eq_some_iff.mp h).1
  unfold atD ixD
  rw [if_pos (Int.natCast_nonneg k), if_pos (by omega)]
  show (match xs[(k : Int).toNat]? with | some d => R.ok (Sl.fr d) | none => .st) = _
  rw [Int.toNat_natCast, h]
abbrev samebody (self : Fn) : MS := sIf (tNotM (mTest (mB (mCall self (mCons (mBin fIx (mBV 0) (mBV 2)) (mCons (mBin fIx (mBV 1) (mBV 2)) mNil)))))) (sRet (mC (.bl false))) sNop
theorem same_loop {self : Fn} {d : D} {xs : List D} (hd : ∀ (k : Nat) (e : D), xs[k]? = some e → fIx d (.int k) = .ok (.fr e)) (hs : ∀ (k : Nat) (e : D), xs[k]? = some e → self [e, e] = .ok (.fr (.bl true))) : ∀ (ks : List Nat) (a : Option Sl), (∀ k ∈ ks, k < xs.length) →
    ∃ a', forM (Pt.nm 2).go (samebody self) (ks.map fun k : Nat => .int (k : Int)) [some (.fr d), some (.fr d), a] = .nx [some (.fr d), some (.fr d), a']
  | [], a, _ => ⟨a, rfl⟩
  | k :: ks, a, hk => by
    obtain ⟨z, hz⟩ : ∃ z, xs[k]? = some z := ⟨_, List.getElem?_eq_getElem (hk k List.mem_cons_self)⟩
    obtain ⟨a', ih⟩ := same_loop hd hs ks (some (.fr (.int (k : Int)))) fun k m => hk k (List.mem_cons_of_mem _ m)
    refine ⟨a', ?_⟩
    have df : ∀ d, (Sl.fr d).d = d := fun _ => rfl
    have e : samebody self [some (.fr d), some (.fr d), some (.fr (.int (k : Int)))] = .nx [some (.fr d), some (.fr d), some (.fr (.int (k : Int)))] := by
      unfold samebody
      simp only [sIf, tNotM, mTest, mB, mCall, mCons, mNil, mBin, mBV, R.bind, List.getElem?_cons_zero, List.getElem?_cons_succ, df, hd k z hz, hs k z hz, asB, Bool.not_true]
      rfl
    have st : forM (Pt.nm 2).go (samebody self) ((k :: ks).map fun k : Nat => .int (k : Int)) [some (.fr d), some (.fr d), a] = match samebody self [some (.fr d), some (.fr d), some (.fr (.int (k : Int)))] with
      | .nx e => forM (Pt.nm 2).go (samebody self) (ks.map fun k : Nat => .int (k : Int)) e
      | .ct e => forM (Pt.nm 2).go (samebody self) (ks.map fun k : Nat => .int (k : Int)) e
      | .bk e => .nx e
      | .rt s => .rt s
      | .ex c p e => .ex c p e
      | .st => .st := rfl
    rw [st, e]
    exact ih
/-- what is the same value is told to be the same -/
theorem same_ok : ∀ (k : Nat) (d : D), goodD k d = true → recF 2 3 m_same (k + 1) [d, d] = .ok (.fr (.bl true))
  | k, .non, h => by
    unfold recF m_same
    simp [runF, env0, fin, sSeq, sSet, sIf, sRet, sRetV, sDrop, sFrz, frz, frz1, sNop, sTry, mAnd, mOr, mNot, mB, mBin, mUn, mCall, mCons, mNil, bCons, bNil, mBV, mVar, mC, mTest, tNotM, tAndM, tOrM, R.bind, Sl.d, asB, fIs, fIsN, DL.isNon]
  | k, .bl b, h => by
    unfold recF m_same
    simp [runF, env0, fin, sSeq, sSet, sIf, sRet, sRetV, sDrop, sFrz, frz, frz1, sNop, sTry, mAnd, mOr, mNot, mB, mBin, mUn, mCall, mCons, mNil, bCons, bNil, mBV, mVar, mC, mTest, tNotM, tAndM, tOrM, R.bind, Sl.d, asB, fIs, fIsN, DL.isNon, fEq_bl]
  | k, .int i, h => by
    unfold recF m_same
    simp [runF, env0, fin, sSeq, sSet, sIf, sRet, sRetV, sDrop, sFrz, frz, frz1, sNop, sTry, mAnd, mOr, mNot, mB, mBin, mUn, mCall, mCons, mNil, bCons, bNil, mBV, mVar, mC, mTest, tNotM, tAndM, tOrM, R.bind, Sl.d, asB, fIs, fIsN, DL.isNon, fEq_int]
  | k, .str z, h => by
    have e := fEq_str (z := z) (by simpa [goodD] using h)
    unfold recF m_same
    simp [runF, env0, fin, sSeq, sSet, sIf, sRet, sRetV, sDrop, sFrz, frz, frz1, sNop, sTry, mAnd, mOr, mNot, mB, mBin, mUn, mCall, mCons, mNil, bCons, bNil, mBV, mVar, mC, mTest, tNotM, tAndM, tOrM, R.bind, Sl.d, asB, fIs, fIsN, DL.isNon, e]
  | k + 1, .tup xs, h => by
    rw [goodD, Bool.and_eq_true, decide_eq_true_iff] at h
    obtain ⟨hl, hg⟩ := h
    obtain ⟨a', lp⟩ := same_loop (self := recF 2 3 m_same (k + 1)) (d := .tup xs) (xs := xs) (fun j e q => ix_at q) (fun j e q => same_ok k e (goodL_get hg q)) (List.range xs.length) none fun j m => List.mem_range.mp m
    have l3 : (xs.length : Int) ≤ big := by unfold big; omega
    have l4 : -big ≤ (xs.length : Int) := by unfold big; omega
    have hln : fLen [.tup xs] = .ok (.fr (.int xs.length)) := rfl
    rw [recF]
    obtain ⟨self, hself⟩ : ∃ self, recF 2 3 m_same (k + 1) = self := ⟨_, rfl⟩
    rw [hself] at lp ⊢
    unfold m_same
    simp [runF, env0, fin, sSeq, sSet, sIf, sRet, sRetV, sDrop, sFrz, frz, frz1, sNop, sTry, mAnd, mOr, mNot, mB, mBin, mUn, mCall, mCons, mNil, bCons, bNil, mBV, mVar, mC, mTest, tNotM, tAndM, tOrM, R.bind, Sl.d, asB, fIs, fNe_bl, fNe_int, hln, sFor, mRng1, l3, l4, rangeD_nat, lp]
  | k + 1, .lst xs, h => by
    rw [goodD, Bool.and_eq_true, decide_eq_true_iff] at h
    obtain ⟨hl, hg⟩ := h
    obtain ⟨a', lp⟩ := same_loop (self := recF 2 3 m_same (k + 1)) (d := .lst xs) (xs := xs) (fun j e q => ix_at q) (fun j e q => same_ok k e (goodL_get hg q)) (List.range xs.length) none fun j m => List.mem_range.mp m
    have l3 : (xs.length : Int) ≤ big := by unfold big; omega
    have l4 : -big ≤ (xs.length : Int) := by unfold big; omega
    have hln : fLen [.lst xs] = .ok (.fr (.int xs.length)) := rfl
    rw [recF]
    obtain ⟨self, hself⟩ : ∃ self, recF 2 3 m_same (k + 1) = self := ⟨_, rfl⟩
    rw [hself] at lp ⊢
    unfold m_same
    simp [runF, env0, fin, sSeq, sSet, sIf, sRet, sRetV, sDrop, sFrz, frz, frz1, sNop, sTry, mAnd, mOr, mNot, mB, mBin, mUn, mCall, mCons, mNil, bCons, bNil, mBV, mVar, mC, mTest, tNotM, tAndM, tOrM, R.bind, Sl.d, asB, fIs, fNe_bl, fNe_int, hln, sFor, mRng1, l3, l4, rangeD_nat, lp]
  | 0, .tup xs, h => by simp [goodD] at h
  | 0, .lst xs, h => by simp [goodD] at h
  | 0, .obj c fs, h => by simp [goodD] at h
  | k + 1, .obj c fs, h => by simp [goodD] at h

/-! ### _law_cell -/
def m_cell : MS := (sSeq (sIf (mTest (mB (mBin fLt (mBV 1) (mB (mCall fLen (bCons (mBV 0) bNil)))))) (sRet (mCall fInt (bCons (mB (mBin fIx (mBV 0) (mBV 1))) bNil))) sNop)
    (sSeq (sIf (mTest (mB (mBin fGt (mB (mCall fLen (bCons (mBV 0) bNil))) (mB (mC (.int 0)))))) (sRet (mBin fAddL (mB (mBin fMul (mB (mCall fInt (bCons (mB (mBin fIx (mBV 0) (mB (mC (.int 0))))) bNil))) (mB (mBin fAddL (mB (mBin fMul (mB (mC (.int 2))) (mBV 1))) (mB (mC (.int 3))))))) (mB (mBin fMul (mB (mC (.int 977))) (mBV 1))))) sNop)
    (sRet (mBin fMul (mB (mC (.int 977))) (mBV 1)))))
def f_cell : Fn := runF 2 2 m_cell
theorem fMul_small (a : Int) {b : Int} (h : b.natAbs < 2 ^ 64) : fMul (.int a) (.int b) = .ok (.fr (.int (a * b))) := fMul_right h
/-- a cell of the script is an int -/
theorem cell_ok (ns : List Int) {k : Nat} (hk : k ≤ 1000) : ∃ v : Int, f_cell [.lst (ns.map .int), .int k] = .ok (.fr (.int v)) := by
  have hlen : fLen [.lst (ns.map .int)] = .ok (.fr (.int ns.length)) := by
    show R.ok (Sl.fr (.int ((ns.map D.int).length : Int))) = _
    rw [List.length_map]
  have ix : ∀ (j : Nat) (a : Int), ns[j]? = some a → fIx (.lst (ns.map .int)) (.int j) = .ok (.fr (.int a)) := fun j a h => by
    have := ix_at (xs := ns.map D.int) (k := j) (d := .int a) (by rw [List.getElem?_map, h]; rfl)
    exact this
  have m977 : fMul (.int 977) (.int k) = .ok (.fr (.int (977 * k))) := fMul_left (by decide)
  have m2 : fMul (.int 2) (.int k) = .ok (.fr (.int (2 * k))) := fMul_left (by decide)
  unfold f_cell m_cell
  by_cases c : k < ns.length
  · have e1 := ix k ns[k] (List.getElem?_eq_getElem c)
    have ci : ((k : Int) < (ns.length : Int)) := by omega
    exact ⟨ns[k], by simp [runF, env0, fin, sSeq, sSet, sIf, sRet, sRetV, sDrop, sFrz, frz, frz1, sNop, sTry, mAnd, mOr, mNot, mB, mBin, mUn, mCall, mCons, mNil, bCons, bNil, mBV, mVar, mC, mTest, tNotM, tAndM, tOrM, R.bind, Sl.d, asB, hlen, fLt, e1, ci, fInt]⟩
  · have ci : ¬ ((k : Int) < (ns.length : Int)) := by omega
    by_cases c0 : 0 < ns.length
    · have e0 := ix 0 ns[0] (List.getElem?_eq_getElem c0)
      have e0' : fIx (.lst (ns.map .int)) (.int 0) = .ok (.fr (.int ns[0])) := e0
      have c0' : (0 : Int) < (ns.length : Int) := by omega
      have mm : fMul (.int ns[0]) (.int (2 * (k : Int) + 3)) = .ok (.fr (.int (ns[0] * (2 * (k : Int) + 3)))) := fMul_right (by omega)
      exact ⟨ns[0] * (2 * (k : Int) + 3) + 977 * k, by simp [runF, env0, fin, sSeq, sSet, sIf, sRet, sRetV, sDrop, sFrz, frz, frz1, sNop, sTry, mAnd, mOr, mNot, mB, mBin, mUn, mCall, mCons, mNil, bCons, bNil, mBV, mVar, mC, mTest, tNotM, tAndM, tOrM, R.bind, Sl.d, asB, hlen, fLt, fGt, ci, c0, e0', fInt, m977, m2, mm, fAddL_int]⟩
    · have c0' : ¬ (0 : Int) < (ns.length : Int) := by omega
      exact ⟨977 * k, by simp [runF, env0, fin, sSeq, sSet, sIf, sRet, sRetV, sDrop, sFrz, frz, frz1, sNop, sTry, mAnd, mOr, mNot, mB, mBin, mUn, mCall, mCons, mNil, bCons, bNil, mBV, mVar, mC, mTest, tNotM, tAndM, tOrM, R.bind, Sl.d, asB, hlen, fLt, fGt, ci, c0, fInt, m977]⟩
end DM
set_option Elab.async false
set_option linter.all false
set_option maxRecDepth 100000
set_option maxHeartbeats 4000000
namespace DM
open PySem PySem.Spec L2 DL
open PyProof.Rows hiding St
/-! ### tuples of ints, pairs of ints -/
abbrev tupI (xs : List Int) : D := .tup (xs.map .int)
abbrev pr (p : Int × Int) : D := .tup [.int p.1, .int p.2]
theorem rangeD_rng (n : Nat) : rangeD 0 n = (rng n).map .int := by
  unfold rangeD rng
  rw [List.map_map]
  refine List.map_congr_left fun i _ => ?_
  show D.int (0 + (i : Int)) = D.int (i : Int)
  rw [Int.zero_add]
theorem fLen_tupI (xs : List Int) : fLen [tupI xs] = .ok (.fr (.int xs.length)) := by
  show R.ok (Sl.fr (.int ((xs.map D.int).length : Int))) = _
  rw [List.length_map]
theorem fLen_lstI (xs : List Int) : fLen [.lst (xs.map .int)] = .ok (.fr (.int xs.length)) := by
  show R.ok (Sl.fr (.int ((xs.map D.int).length : Int))) = _
  rw [List.length_map]
theorem okE_int (a : Int) : okE (.int a) = true := rfl
theorem okE7 : ∀ xs : List Int, xs.length ≤ 7 → okE (.lst (xs.map .int)) = true
  | [], _ => rfl
  | [_], _ => rfl
  | [_, _], _ => rfl
  | [_, _, _], _ => rfl
  | [_, _, _, _], _ => rfl
  | [_, _, _, _, _], _ => rfl
  | [_, _, _, _, _, _], _ => rfl
  | [_, _, _, _, _, _, _], _ => rfl
  | _ :: _ :: _ :: _ :: _ :: _ :: _ :: _ :: _, h => absurd h (by simp only [List.length_cons]; omega)
theorem okT7 : ∀ xs : List Int, xs.length ≤ 7 → okE (tupI xs) = true
  | [], _ => rfl
  | [_], _ => rfl
  | [_, _], _ => rfl
  | [_, _, _], _ => rfl
  | [_, _, _, _], _ => rfl
  | [_, _, _, _, _], _ => rfl
  | [_, _, _, _, _, _], _ => rfl
  | [_, _, _, _, _, _, _], _ => rfl
  | _ :: _ :: _ :: _ :: _ :: _ :: _ :: _ :: _, h => absurd h (by simp only [List.length_cons]; omega)
theorem fEq_lst {xs ys : List Int} (hx : xs.length ≤ 7) (hy : ys.length ≤ 7) : fEq (.lst (xs.map .int)) (.lst (ys.map .int)) = .ok (.fr (.bl (decide (xs = ys)))) := by
  unfold fEq
  rw [okE7 xs hx, okE7 ys hy, ← eqDL_ints]
  show (if true = true then R.ok (Sl.fr (.bl (eqD (.lst (xs.map .int)) (.lst (ys.map .int))))) else _) = _
  rw [if_pos rfl]
  unfold eqD
  rfl
theorem fEq_tup {xs ys : List Int} (hx : xs.length ≤ 7) (hy : ys.length ≤ 7) : fEq (tupI xs) (tupI ys) = .ok (.fr (.bl (decide (xs = ys)))) := by
  unfold fEq
  rw [okT7 xs hx, okT7 ys hy, ← eqDL_ints]
  show (if true = true then R.ok (Sl.fr (.bl (eqD (.tup (xs.map .int)) (.tup (ys.map .int))))) else _) = _
  rw [if_pos rfl]
  unfold eqD
  rfl
theorem fIx_tupI {xs : List Int} {k : Nat} {a : Int} (h : xs[k]? = some a) : fIx (tupI xs) (.int k) = .ok (.fr (.int a)) :=
  ix_at (xs := xs.map D.int) (by rw [List.getElem?_map, h]; rfl)
theorem fIx_lstI {xs : List Int} {k : Nat} {a : Int} (h : xs[k]? = some a) : fIx (.lst (xs.map .int)) (.int k) = .ok (.fr (.int a)) := fIx_tupI h
theorem ix_neg {xs : List D} {k : Nat} {d : D} (hk : 0 < k) (hl : k ≤ xs.length) (h : xs[xs.length - k]? = some d) : atD xs (-(k : Int)) = .ok (.fr d) := by
  unfold atD ixD
  rw [if_neg (by omega), if_pos (by omega)]
  show (match xs[(-(k : Int) + (xs.length : Int)).toNat]? with | some d => R.ok (Sl.fr d) | none => .st) = _
  rw [show (-(k : Int) + (xs.length : Int)).toNat = xs.length - k by omega, h]
theorem fIx_tupN {xs : List Int} {k : Nat} {a : Int} (hk : 0 < k) (hl : k ≤ xs.length) (h : xs[xs.length - k]? = some a) : fIx (tupI xs) (.int (-(k : Int))) = .ok (.fr (.int a)) :=
  ix_neg (xs := xs.map D.int) hk (by simpa using hl) (by rw [List.length_map, List.getElem?_map, h]; rfl)
/-! ### slices -/
theorem cutD_map {α β : Type} (f : α → β) (xs : List α) (lo hi : Option Int) : cutD (xs.map f) lo hi = (cutD xs lo hi).map f := by
  unfold DL.cutD
  rw [List.length_map, ← List.map_drop, ← List.map_take]
theorem cut_from {α : Type} (xs : List α) {k : Nat} (h : k ≤ xs.length) : cutD xs (some (k : Int)) none = xs.drop k := by
  unfold DL.cutD
  rw [HT.sIx_nat, HT.sIx_none, Nat.min_eq_left h, List.take_of_length_le (by rw [List.length_drop]; omega)]
theorem cut_to {α : Type} (xs : List α) {k : Nat} (h : k ≤ xs.length) : cutD xs none (some (k : Int)) = xs.take k := by
  unfold DL.cutD
  rw [HT.sIx_nat, HT.sIx_none, Nat.min_eq_left h, List.drop_zero, Nat.sub_zero]
theorem cut_mid {α : Type} (xs : List α) {a b : Nat} (h : b ≤ xs.length) (hab : a ≤ b) : cutD xs (some (a : Int)) (some (b : Int)) = (xs.drop a).take (b - a) := by
  unfold DL.cutD
  rw [HT.sIx_nat, HT.sIx_nat, Nat.min_eq_left h, Nat.min_eq_left (by omega)]
theorem fSl_from {xs : List Int} {k : Nat} (h : k ≤ xs.length) : fSl (tupI xs) (some (k : Int)) none = .ok (.fr (tupI (xs.drop k))) := by
  show R.ok (Sl.fr (.tup (cutD (xs.map D.int) _ _))) = _
  rw [cutD_map, cut_from xs h]
theorem fSl_to {xs : List Int} {k : Nat} (h : k ≤ xs.length) : fSl (tupI xs) none (some (k : Int)) = .ok (.fr (tupI (xs.take k))) := by
  show R.ok (Sl.fr (.tup (cutD (xs.map D.int) _ _))) = _
  rw [cutD_map, cut_to xs h]
theorem fAddL_tup {xs ys : List Int} (h : xs.length + ys.length ≤ 1000000) : fAddL (tupI xs) (tupI ys) = .ok (.fr (tupI (xs ++ ys))) := by
  show (if (xs.map D.int).length + (ys.map D.int).length ≤ lim then R.ok (Sl.fr (.tup (xs.map D.int ++ ys.map D.int))) else .st) = _
  rw [List.length_map, List.length_map, if_pos (show xs.length + ys.length ≤ lim from h), ← List.map_append]
theorem pick_back {α : Type} (xs : List α) : ∀ m : Nat, m ≤ xs.length → pick xs ((List.range m).map fun (k : Nat) => ((xs.length : Int) - 1 + (k : Int) * (-1)).toNat) = (xs.drop (xs.length - m)).reverse
  | 0, _ => by
    rw [Nat.sub_zero, List.drop_length]
    rfl
  | m + 1, h => by
    have ih := pick_back xs m (by omega)
    have e : xs.drop (xs.length - (m + 1)) = xs[xs.length - (m + 1)] :: xs.drop (xs.length - m) := by
      rw [List.drop_eq_getElem_cons (by omega), show xs.length - (m + 1) + 1 = xs.length - m by omega]
    rw [e, List.reverse_cons, ← ih, List.range_succ, List.map_append]
    unfold pick
    rw [List.filterMap_append]
    congr 1
    show [((xs.length : Int) - 1 + (m : Int) * (-1)).toNat].filterMap (xs[·]?) = _
    rw [show ((xs.length : Int) - 1 + (m : Int) * (-1)).toNat = xs.length - (m + 1) by omega, List.filterMap_cons, List.getElem?_eq_getElem (by omega)]
    rfl
theorem backN_all (n : Nat) : backN n none none = ((n : Int) - 1, n) := by
  unfold backN Builtin.Slice.sliceAdjust Builtin.Slice.slicePlaces
  simp
  by_cases h : 0 < n
  · rw [if_pos (by omega)]; omega
  · rw [if_neg (by omega)]; omega
theorem backN_0 (n : Nat) : backN n none (some 0) = ((n : Int) - 1, n - 1) := by
  unfold backN Builtin.Slice.sliceAdjust Builtin.Slice.slicePlaces
  simp
  by_cases h : 1 < n
  · rw [show min (0 : Int) ((n : Int) - 1) = 0 by omega, if_pos (by omega)]; omega
  · rw [if_neg (by omega)]; omega
theorem back0 (xs : List Int) (h : xs.length ≤ 1000) : fSlB (tupI xs) none (some 0) = .ok (.fr (tupI ((xs.drop 1).reverse))) := by
  have e : pick (xs.map D.int) (backIx (xs.map D.int).length none (some 0)) = ((xs.drop 1).reverse).map .int := by
    unfold backIx
    rw [backN_0, pick_back (xs.map D.int) _ (by omega), ← List.map_drop, ← List.map_reverse, List.length_map]
    by_cases c : xs.length = 0
    · rw [List.length_eq_zero_iff.mp c]; rfl
    · rw [show xs.length - (xs.length - 1) = 1 by omega]
  show (if (backIx (xs.map D.int).length none (some 0)).length ≤ lim then R.ok (Sl.fr (.tup (pick (xs.map D.int) (backIx (xs.map D.int).length none (some 0))))) else .st) = _
  rw [e, if_pos]
  unfold backIx
  rw [backN_0, List.length_map, List.length_range, List.length_map]
  show xs.length - 1 ≤ 1000000
  omega
theorem backA (xs : List Int) (h : xs.length ≤ 1000) : fSlB (tupI xs) none none = .ok (.fr (tupI xs.reverse)) := by
  have e : pick (xs.map D.int) (backIx (xs.map D.int).length none none) = (xs.reverse).map .int := by
    unfold backIx
    rw [backN_all, pick_back (xs.map D.int) _ (Nat.le_refl _), Nat.sub_self, List.drop_zero, ← List.map_reverse]
  show (if (backIx (xs.map D.int).length none none).length ≤ lim then R.ok (Sl.fr (.tup (pick (xs.map D.int) (backIx (xs.map D.int).length none none)))) else .st) = _
  rw [e, if_pos]
  unfold backIx
  rw [backN_all, List.length_map, List.length_range, List.length_map]
  show xs.length ≤ 1000000
  omega
/-! ### index -/
def idxA (a : Int) : List Int → Nat → Option Nat
  | [], _ => none
  | x :: xs, n => if x = a then some n else idxA a xs (n + 1)
theorem eqD_int (a b : Int) : eqD (.int a) (.int b) = decide (a = b) := by
  rw [show eqD (.int a) (.int b) = (a == b) by unfold eqD; rfl]; rfl
theorem fIdx_int (a : Int) : ∀ (xs : List Int) (n : Nat), fIdxAux (.int a) (xs.map .int) n = idxA a xs n
  | [], n => rfl
  | x :: xs, n => by
    show (if eqD (.int x) (.int a) = true then some n else fIdxAux (.int a) (xs.map .int) (n + 1)) = if x = a then some n else idxA a xs (n + 1)
    rw [eqD_int, fIdx_int a xs (n + 1)]
    by_cases h : x = a <;> simp [h]
theorem idxA_mem {a : Int} : ∀ {xs : List Int} (n : Nat), a ∈ xs → ∃ j, idxA a xs n = some (n + j) ∧ j < xs.length
  | x :: xs, n, h => by
    unfold idxA
    by_cases e : x = a
    · exact ⟨0, by rw [if_pos e]; rfl, by simp⟩
    · rcases List.mem_cons.mp h with q | q
      · exact absurd q.symm e
      · obtain ⟨j, h1, h2⟩ := idxA_mem (n + 1) q
        exact ⟨j + 1, by rw [if_neg e, h1]; congr 1; omega, by simp; omega⟩
theorem flat_ints (a : Int) (xs : List Int) : (flatD (.int a) && (xs.map D.int).all flatD) = true := by
  rw [Bool.and_eq_true]
  refine ⟨rfl, List.all_eq_true.mpr fun d m => ?_⟩
  obtain ⟨i, _, rfl⟩ := List.mem_map.mp m
  rfl
theorem fTupIdx_int {a : Int} {xs : List Int} {j : Nat} (h : idxA a xs 0 = some j) : fTupIdx (tupI xs) (.int a) = .ok (.fr (.int j)) := by
  show (if (flatD (.int a) && (xs.map D.int).all flatD) = true then match fIdxAux (.int a) (xs.map D.int) 0 with | some j => R.ok (Sl.fr (.int j)) | none => .st else .st) = _
  rw [flat_ints, if_pos rfl, fIdx_int, h]
theorem fLstIdx_int {a : Int} {xs : List Int} {j : Nat} (hx : xs.length ≤ 7) (h : idxA a xs 0 = some j) : fLstIdx (.lst (xs.map .int)) (.int a) = .ok (.fr (.int j)) := by
  show (if (okE (.lst (xs.map D.int)) && okE (.int a)) = true then match fIdxAux (.int a) (xs.map D.int) 0 with | some j => R.ok (Sl.fr (.int j)) | none => .st else .st) = _
  rw [okE7 xs hx, okE_int, fIdx_int, h]
  rfl
/-! ### pairs, sorted -/
def leP (p q : Int × Int) : Bool := decide (p.1 < q.1 ∨ (p.1 = q.1 ∧ p.2 ≤ q.2))
theorem leD_pr (p q : Int × Int) : leD (pr p) (pr q) = leP p q := congrFun (congrFun (PySem.W.dataLe_ii (fun p : Int × Int => p.1) (fun p : Int × Int => p.2)) p) q
theorem ins_prs (a : Int × Int) : ∀ xs : List (Int × Int), ins leD (pr a) (xs.map pr) = (ins leP a xs).map pr
  | [] => rfl
  | x :: xs => by
    show ins leD (pr a) (pr x :: xs.map pr) = _
    unfold ins
    rw [leD_pr, ins_prs a xs]
    show (if leP a x = true then _ else _) = _
    split <;> rfl
theorem isort_prs : ∀ xs : List (Int × Int), isort leD (xs.map pr) = (isort leP xs).map pr
  | [] => rfl
  | x :: xs => by
    show ins leD (pr x) (isort leD (xs.map pr)) = (ins leP x (isort leP xs)).map pr
    rw [isort_prs xs, ins_prs]
theorem okSort_prs (xs : List (Int × Int)) (h : xs.length ≤ lim) : okSort (xs.map pr) = true := by
  have e1 : ((xs.map pr).all fun a => noObj a && decide ((toPy a).depth ≤ 60)) = true := by
    rw [List.all_eq_true]
    intro d m
    obtain ⟨a, _, rfl⟩ := List.mem_map.mp m
    rfl
  have e2 : ((xs.map pr).all fun a => (xs.map pr).all fun b => PySem.W.alike (toPy a) (toPy b)) = true := by
    rw [List.all_eq_true]
    intro d m
    rw [List.all_eq_true]
    intro d2 m2
    obtain ⟨a, _, rfl⟩ := List.mem_map.mp m
    obtain ⟨b, _, rfl⟩ := List.mem_map.mp m2
    rfl
  have e3 : (xs.map pr).all isTupC = true := by
    rw [List.all_eq_true]
    intro d m
    obtain ⟨a, _, rfl⟩ := List.mem_map.mp m
    rfl
  unfold okSort
  rw [e1, e2, e3, decide_eq_true (show (xs.map pr).length ≤ lim by rw [List.length_map]; exact h)]
  rfl
theorem fSorted_prs (xs : List (Int × Int)) (h : xs.length ≤ lim) : fSorted [.lst (xs.map pr)] = .ok (.ow ((isort leP xs).map pr)) := by
  show (if okSort (xs.map pr) = true then _ else _) = _
  rw [if_pos (okSort_prs xs h), isort_prs]
/-! ### comprehensions and loops -/
theorem compL_map {α : Type} {as : D → En → Option En} {t : En → R Bool} {me : M} {env : En} {f : α → D} {g : α → D} : ∀ {xs : List α},
    (∀ a ∈ xs, ∃ e1 s, as (f a) env = some e1 ∧ t e1 = .ok true ∧ me e1 = .ok s ∧ s.d = g a) → compL as t me env (xs.map f) = .ok (xs.map g)
  | [], _ => rfl
  | a :: xs, h => by
    obtain ⟨e1, s, h1, h2, h3, h4⟩ := h a List.mem_cons_self
    have ih := compL_map fun b m => h b (List.mem_cons_of_mem _ m)
    show compL as t me env (f a :: xs.map f) = _
    unfold compL
    rw [h1]
    show ((t e1).quiet.bind fun b => if b = true then (me e1).quiet.bind fun s => (compL as t me env (xs.map f)).bind fun r => .ok (s.d :: r) else compL as t me env (xs.map f)) = _
    rw [h2, ih]
    show ((me e1).quiet.bind fun s => R.ok (s.d :: xs.map g)) = _
    rw [h3]
    show R.ok (s.d :: xs.map g) = _
    rw [h4]
    rfl
theorem compL_filter {α : Type} {as : D → En → Option En} {t : En → R Bool} {me : M} {env : En} {f : α → D} {g : α → D} {p : α → Bool} : ∀ {xs : List α},
    (∀ a ∈ xs, ∃ e1, as (f a) env = some e1 ∧ t e1 = .ok (p a) ∧ (p a = true → ∃ s, me e1 = .ok s ∧ s.d = g a)) → compL as t me env (xs.map f) = .ok ((xs.filter p).map g)
  | [], _ => rfl
  | a :: xs, h => by
    obtain ⟨e1, h1, h2, h3⟩ := h a List.mem_cons_self
    have ih := compL_filter fun b m => h b (List.mem_cons_of_mem _ m)
    show compL as t me env (f a :: xs.map f) = _
    unfold compL
    rw [h1]
    show ((t e1).quiet.bind fun b => if b = true then (me e1).quiet.bind fun s => (compL as t me env (xs.map f)).bind fun r => .ok (s.d :: r) else compL as t me env (xs.map f)) = _
    rw [h2, ih]
    cases hp : p a with
    | true =>
      obtain ⟨s, h4, h5⟩ := h3 hp
      show ((me e1).quiet.bind fun s => R.ok (s.d :: (xs.filter p).map g)) = _
      rw [h4, List.filter_cons, hp, if_pos rfl]
      show R.ok (s.d :: (xs.filter p).map g) = _
      rw [h5]
      rfl
    | false =>
      rw [List.filter_cons, hp]
      rfl
/-- a loop's invariant over what is left -/
theorem forM_inv {as : D → En → Option En} {b : MS} {P : List D → En → Prop} (step : ∀ d ds env, P (d :: ds) env → ∃ e1 e2, as d env = some e1 ∧ (b e1 = .nx e2 ∨ b e1 = .ct e2) ∧ P ds e2) : ∀ (ds : List D) (env : En), P ds env → ∃ e2, forM as b ds env = .nx e2 ∧ P [] e2
  | [], env, h => ⟨env, rfl, h⟩
  | d :: ds, env, h => by
    obtain ⟨e1, e2, h1, h2, h3⟩ := step d ds env h
    obtain ⟨e3, h4, h5⟩ := forM_inv step ds e2 h3
    refine ⟨e3, ?_, h5⟩
    unfold DL.forM
    rw [h1]
    rcases h2 with h2 | h2
    · show (match b e1 with | .nx e => forM as b ds e | .ct e => forM as b ds e | .bk e => .nx e | .rt s => .rt s | .ex c p e => .ex c p e | .st => .st) = _
      rw [h2]; exact h4
    · show (match b e1 with | .nx e => forM as b ds e | .ct e => forM as b ds e | .bk e => .nx e | .rt s => .rt s | .ex c p e => .ex c p e | .st => .st) = _
      rw [h2]; exact h4
/-- a loop that only looks: each turn ends where it may, and leaves the environment but for its variable -/
theorem forM_each {α : Type} {i : Nat} {b : MS} {f : α → D} {env : En} : ∀ (xs : List α) (o : Option Sl), (∀ a ∈ xs, ∃ w, b (env.set i (some (.fr (f a)))) = .nx (w) ∧ ∃ o, w = env.set i o) →
    (∃ o', forM (Pt.nm i).go b (xs.map f) (env.set i o) = .nx (env.set i o'))
  | [], o, _ => ⟨o, rfl⟩
  | a :: xs, o, h => by
    obtain ⟨w, h1, o1, rfl⟩ := h a List.mem_cons_self
    obtain ⟨o2, ih⟩ := forM_each xs o1 fun b m => h b (List.mem_cons_of_mem _ m)
    refine ⟨o2, ?_⟩
    by_cases hi : i < env.length
    · have hg : (Pt.nm i).go (f a) (env.set i o) = some (env.set i (some (.fr (f a)))) := by
        simp [Pt.go, hi]
      show forM (Pt.nm i).go b (f a :: xs.map f) (env.set i o) = _
      unfold DL.forM
      rw [hg]
      show (match b (env.set i (some (.fr (f a)))) with | .nx e => forM (Pt.nm i).go b (xs.map f) e | .ct e => forM (Pt.nm i).go b (xs.map f) e | .bk e => .nx e | .rt s => .rt s | .ex c p e => .ex c p e | .st => .st) = _
      rw [h1]
      exact ih
    · have hg : (Pt.nm i).go (f a) (env.set i o) = some (env.set i (some (.fr (f a)))) := by
        simp [Pt.go, hi]
      show forM (Pt.nm i).go b (f a :: xs.map f) (env.set i o) = _
      unfold DL.forM
      rw [hg]
      show (match b (env.set i (some (.fr (f a)))) with | .nx e => forM (Pt.nm i).go b (xs.map f) e | .ct e => forM (Pt.nm i).go b (xs.map f) e | .bk e => .nx e | .rt s => .rt s | .ex c p e => .ex c p e | .st => .st) = _
      rw [h1]
      exact ih
/-! ### all orders of a list -/
def insAll (x : Int) : List Int → List (List Int)
  | [] => [[x]]
  | y :: ys => (x :: y :: ys) :: (insAll x ys).map (y :: ·)
def perms : List Int → List (List Int)
  | [] => [[]]
  | x :: xs => (perms xs).flatMap (insAll x)
theorem mem_insAll (x : Int) : ∀ a b : List Int, a ++ x :: b ∈ insAll x (a ++ b)
  | [], [] => by simp [insAll]
  | [], y :: b => by simp [insAll]
  | z :: a, b => by
    have ih := mem_insAll x a b
    show z :: (a ++ x :: b) ∈ insAll x (z :: (a ++ b))
    unfold insAll
    exact List.mem_cons_of_mem _ (List.mem_map.mpr ⟨_, ih, rfl⟩)
theorem mem_perms : ∀ (ys xs : List Int), xs.Perm ys → xs ∈ perms ys
  | [], xs, h => by rw [List.perm_nil.mp h]; exact List.mem_cons_self
  | y :: ys, xs, h => by
    have hy : y ∈ xs := h.mem_iff.mpr List.mem_cons_self
    obtain ⟨a, b, rfl⟩ := List.append_of_mem hy
    have h2 : (a ++ b).Perm ys := List.Perm.cons_inv (List.perm_middle.symm.trans h)
    unfold perms
    exact List.mem_flatMap.mpr ⟨a ++ b, mem_perms ys _ h2, mem_insAll y a b⟩
end DM
set_option Elab.async false
set_option linter.all false
set_option maxRecDepth 100000
set_option maxHeartbeats 4000000
namespace DM
open PySem PySem.Spec L2 DL
open PyProof.Rows hiding St
/-! ### _law_factorial, _law_permutation -/
def m_factorial : MS := (sSeq (sSet 1 (mC (.int 1)))
    (sSeq (sFor (mRng1 (mBV 0)) (.nm 2) (sSet 1 (mBin fMul (mBV 1) (mB (mBin fAddL (mBV 2) (mB (mC (.int 1))))))))
    (sRetV 1)))
def f_factorial : Fn := runF 1 3 m_factorial
def isI (n : Int) : R Sl → Bool
  | .ok (.fr (.int m)) => decide (m = n)
  | _ => false
theorem isI_eq {r : R Sl} {n : Int} (h : isI n r = true) : r = .ok (.fr (.int n)) := by
  unfold isI at h
  split at h
  · rw [of_decide_eq_true h]
  · cases h
theorem fac_tab : (List.range 8).all (fun n => isI (facN n) (f_factorial [.int n])) = true := by decide +kernel
theorem fac_ok {n : Nat} (h : n ≤ 7) : f_factorial [.int n] = .ok (.fr (.int (facN n))) := isI_eq (List.all_eq_true.mp fac_tab n (List.mem_range.mpr (by omega)))
theorem facN_pos : ∀ n : Nat, 0 < facN n
  | 0 => by decide
  | n + 1 => Nat.mul_pos (facN_pos n) (by omega)
theorem facN_le {n : Nat} (h : n ≤ 7) : facN n ≤ 5040 := by
  have : (List.range 8).all (fun n => decide (facN n ≤ 5040)) = true := by decide +kernel
  exact of_decide_eq_true (List.all_eq_true.mp this n (List.mem_range.mpr (by omega)))
theorem getD_some {xs : List Int} {k : Nat} (h : k < xs.length) : xs[k]? = some (xs.getD k 0) := by
  rw [List.getElem?_eq_getElem h]
  simp [List.getD, h]
theorem getD_get {xs : List Int} {k : Nat} (h : k < xs.length) : xs.getD k 0 = xs[k] := by simp [List.getD, h]
abbrev pbody : MS := (sSeq (sSet 5 (mCall f_factorial (mCons (mBin fSub (mB (mBin fSub (mBV 0) (mB (mC (.int 1))))) (mBV 3)) mNil)))
    (sSeq (sAppPop 4 2 (mB (mBin fDiv (mBV 1) (mBV 5))))
    (sSet 1 (mBin fMod (mB (mCall fInt (bCons (mBV 1) bNil))) (mBV 5)))))
def m_perm : MS := (sSeq (sSet 2 (mComp (mRng1 (mBV 0)) (.nm 3) tYesM (mVar 3) [3]))
    (sSeq (sSet 4 (mCall fLst mNil))
    (sSeq (sFor (mRng1 (mBV 0)) (.nm 3) pbody)
    (sRetV 4))))
def f_perm : Fn := runF 2 6 m_perm
def PInv (n : Nat) (ds : List D) (env : En) : Prop := ∃ (k : Nat) (row left : List Int) (num : Nat) (o3 o5 : Option Sl),
  env = [some (.fr (.int n)), some (.fr (.int num)), some (.ow (left.map .int)), o3, some (.ow (row.map .int)), o5] ∧ k + left.length = n ∧ (row ++ left).Perm (rng n) ∧ num < facN left.length ∧ ds = (List.range' k left.length).map fun k : Nat => D.int k
theorem pstep {n : Nat} (hn : n ≤ 7) (d : D) (ds : List D) (env : En) (h : PInv n (d :: ds) env) : ∃ e1 e2, (Pt.nm 3).go d env = some e1 ∧ (pbody e1 = .nx e2 ∨ pbody e1 = .ct e2) ∧ PInv n ds e2 := by
  obtain ⟨k, row, left, num, o3, o5, rfl, hl, hp, hnum, hd⟩ := h
  cases left with
  | nil => simp at hd
  | cons x xs =>
    have hd2 : d = .int k ∧ ds = (List.range' (k + 1) xs.length).map fun k : Nat => D.int k := by
      rw [List.length_cons, List.range'_succ, List.map_cons] at hd
      exact ⟨(List.cons.inj hd).1, (List.cons.inj hd).2⟩
    obtain ⟨rfl, rfl⟩ := hd2
    have hlen : k + (xs.length + 1) = n := by simpa using hl
    have lk : xs.length ≤ 7 := by omega
    have f1 := fac_ok (n := xs.length) lk
    have fp := facN_pos xs.length
    have fb := facN_le lk
    have hnum' : num < facN xs.length * (xs.length + 1) := hnum
    have ix : num / facN xs.length < (x :: xs).length := by
      rw [List.length_cons]
      exact (Nat.div_lt_iff_lt_mul fp).mpr (by rw [Nat.mul_comm]; exact hnum')
    obtain ⟨q, hq⟩ : ∃ q, num / facN xs.length = q := ⟨_, rfl⟩
    rw [hq] at ix
    have e1 : fDiv (.int num) (.int (facN xs.length)) = .ok (.fr (.int q)) := by
      rw [fDiv_small _ (by omega) (by omega), ← Int.natCast_ediv, hq]
    have e2 : fMod (.int num) (.int (facN xs.length)) = .ok (.fr (.int ((num % facN xs.length : Nat) : Int))) := by
      show (if 0 < (facN xs.length : Int) then R.ok (Sl.fr (.int ((num : Int) % (facN xs.length : Int)))) else .st) = _
      rw [if_pos (by omega), ← Int.natCast_emod]
    have e3 : ((n : Int) - 1) - (k : Int) = (xs.length : Int) := by omega
    have rl : row.length ≤ 7 := by
      have := hp.length_eq
      simp [rng] at this
      omega
    have gi : ((x :: xs).map D.int)[q]? = some (D.int ((x :: xs).getD q 0)) := by
      rw [List.getElem?_map, getD_some ix]
      rfl
    have xd : ixD ((x :: xs).map D.int).length (q : Int) = some q := by
      unfold ixD
      rw [List.length_map, if_pos (by omega), if_pos (by omega), Int.toNat_natCast]
    have el : ((x :: xs).map D.int).eraseIdx q = ((x :: xs).eraseIdx q).map .int := by
      rw [List.eraseIdx_eq_take_drop_succ, List.eraseIdx_eq_take_drop_succ, List.map_append, List.map_take, List.map_drop]
    refine ⟨[some (.fr (.int n)), some (.fr (.int num)), some (.ow ((x :: xs).map .int)), some (.fr (.int k)), some (.ow (row.map .int)), o5], [some (.fr (.int n)), some (.fr (.int ((num % facN xs.length : Nat) : Int))), some (.ow (((x :: xs).eraseIdx q).map .int)), some (.fr (.int k)), some (.ow ((row ++ [(x :: xs).getD q 0]).map .int)), some (.fr (.int (facN xs.length)))], rfl, .inl ?_, ?_⟩
    · have s1 : (sSet 5 (mCall f_factorial (mCons (mBin fSub (mB (mBin fSub (mBV 0) (mB (mC (.int 1))))) (mBV 3)) mNil))) [some (.fr (.int n)), some (.fr (.int num)), some (.ow ((x :: xs).map .int)), some (.fr (.int k)), some (.ow (row.map .int)), o5] = .nx [some (.fr (.int n)), some (.fr (.int num)), some (.ow ((x :: xs).map .int)), some (.fr (.int k)), some (.ow (row.map .int)), some (.fr (.int (facN xs.length)))] := by
        simp [runF, env0, fin, sSeq, sSet, sIf, sRet, sRetN, sRetV, sDrop, sFrz, frz, frz1, sNop, sTry, sTryAs, mAnd, mOr, mNot, mB, mBin, mUn, mCall, mCons, mNil, bCons, bNil, mBV, mVar, mC, mTest, tNotM, tAndM, tOrM, tYesM, R.bind, R.quiet, Sl.d, asB, mIf, fSub, e3, f1]
      have s2 : (sAppPop 4 2 (mB (mBin fDiv (mBV 1) (mBV 5)))) [some (.fr (.int n)), some (.fr (.int num)), some (.ow ((x :: xs).map .int)), some (.fr (.int k)), some (.ow (row.map .int)), some (.fr (.int (facN xs.length)))] = .nx [some (.fr (.int n)), some (.fr (.int num)), some (.ow (((x :: xs).eraseIdx q).map .int)), some (.fr (.int k)), some (.ow ((row ++ [(x :: xs).getD q 0]).map .int)), some (.fr (.int (facN xs.length)))] := by
        generalize hL : (x :: xs).map D.int = L at gi xd el ⊢
        unfold sAppPop
        simp [runF, env0, fin, sSeq, sSet, sIf, sRet, sRetN, sRetV, sDrop, sFrz, frz, frz1, sNop, sTry, sTryAs, mAnd, mOr, mNot, mB, mBin, mUn, mCall, mCons, mNil, bCons, bNil, mBV, mVar, mC, mTest, tNotM, tAndM, tOrM, tYesM, R.bind, R.quiet, Sl.d, asB, mIf, e1, xd, gi, lim, el]
        have ix' : q < xs.length + 1 := by simpa using ix
        omega
      unfold pbody
      unfold sSeq
      rw [s1]
      simp only [s2]
      simp [runF, env0, fin, sSeq, sSet, sIf, sRet, sRetN, sRetV, sDrop, sFrz, frz, frz1, sNop, sTry, sTryAs, mAnd, mOr, mNot, mB, mBin, mUn, mCall, mCons, mNil, bCons, bNil, mBV, mVar, mC, mTest, tNotM, tAndM, tOrM, tYesM, R.bind, R.quiet, Sl.d, asB, mIf, fInt, e2]
    · have xl : ((x :: xs).eraseIdx q).length = xs.length := by
        rw [List.length_eraseIdx, if_pos ix]; simp
      refine ⟨k + 1, row ++ [(x :: xs).getD q 0], (x :: xs).eraseIdx q, num % facN xs.length, _, _, rfl, by rw [xl]; omega, ?_, by rw [xl]; exact Nat.mod_lt _ fp, by rw [xl]⟩
      refine List.Perm.trans ?_ hp
      rw [List.append_assoc]
      refine List.Perm.append_left _ ?_
      rw [List.eraseIdx_eq_take_drop_succ]
      have dr : (x :: xs) = (x :: xs).take q ++ (x :: xs).getD q 0 :: (x :: xs).drop (q + 1) := by
        have h2 := List.drop_eq_getElem_cons ix
        have h3 : (x :: xs).getD q 0 = (x :: xs)[q] := getD_get ix
        rw [h3, ← h2, List.take_append_drop]
      have : ([(x :: xs).getD q 0] ++ ((x :: xs).take q ++ (x :: xs).drop (q + 1))).Perm ((x :: xs).take q ++ (x :: xs).getD q 0 :: (x :: xs).drop (q + 1)) := (List.perm_middle (a := (x :: xs).getD q 0) (l₁ := (x :: xs).take q) (l₂ := (x :: xs).drop (q + 1))).symm
      rw [← dr] at this
      exact this
theorem self_comp (n : Nat) (o0 o1 o2 o4 o5 : Option Sl) : compL (Pt.nm 3).go tYesM (mVar 3) [o0, o1, o2, none, o4, o5] ((rng n).map .int) = .ok ((rng n).map .int) := compL_map fun i _ => ⟨_, _, rfl, rfl, rfl, rfl⟩
theorem rng_len (n : Nat) : (rng n).length = n := by simp [rng]
/-- the permutation of this number is one -/
theorem perm_ok {n num : Nat} (hn : n ≤ 7) (hm : num < facN n) : ∃ xs : List Int, f_perm [.int n, .int num] = .ok (.ow (xs.map .int)) ∧ xs.Perm (rng n) := by
  have c := self_comp n (some (.fr (.int n))) (some (.fr (.int num))) none none none
  have l4 : (n : Int) ≤ big ∧ -big ≤ (n : Int) := by unfold big; omega
  have rl : (rng n).length ≤ lim := by rw [rng_len]; unfold lim; omega
  obtain ⟨e2, q, r⟩ := forM_inv (as := (Pt.nm 3).go) (b := pbody) (P := PInv n) (pstep hn) ((rng n).map .int) [some (.fr (.int n)), some (.fr (.int num)), some (.ow ((rng n).map .int)), none, some (.ow []), none] ⟨0, [], rng n, num, none, none, rfl, by rw [rng_len]; omega, .refl _, by rw [rng_len]; exact hm, by
    rw [rng_len, ← List.range_eq_range']
    unfold rng
    rw [List.map_map]
    rfl⟩
  obtain ⟨k, row, left, num2, o3, o5, rfl, h1, h2, h3, h4⟩ := r
  have l0 : left = [] := by
    cases left with
    | nil => rfl
    | cons x xs => simp [List.range'_succ] at h4
  subst l0
  rw [List.append_nil] at h2
  refine ⟨row, ?_, h2⟩
  unfold f_perm m_perm
  obtain ⟨PB, hpb⟩ : ∃ m, pbody = m := ⟨_, rfl⟩
  rw [hpb] at q ⊢
  have rr := rangeD_rng n
  have rl2 : ((rng n).map D.int).length ≤ lim := by rw [List.length_map]; exact rl
  generalize (rng n).map D.int = RR at c q rr rl2
  simp [runF, env0, fin, sSeq, sSet, sIf, sRet, sRetN, sRetV, sDrop, sFrz, frz, frz1, sNop, sTry, sTryAs, mAnd, mOr, mNot, mB, mBin, mUn, mCall, mCons, mNil, bCons, bNil, mBV, mVar, mC, mTest, tNotM, tAndM, tOrM, tYesM, R.bind, R.quiet, Sl.d, asB, mIf, mComp, mRng1, wipeE, l4, rr, c, rl2, fLst, sFor, q]
/-! ### sums of orders -/
theorem perm_sum {xs ys : List Int} (h : xs.Perm ys) : xs.sum = ys.sum := by
  induction h with
  | nil => rfl
  | cons x _ ih => simp [ih]
  | swap x y l => simp; omega
  | trans _ _ h1 h2 => exact h1.trans h2
/-- one entry exchanged for another: no order of the same any more -/
theorem not_perm {a b : List Int} {x y : Int} {n : Nat} (h : (a ++ x :: b).Perm (rng n)) (hy : y ≠ x) : ¬ (a ++ y :: b).Perm (rng n) := fun h2 => by
  have := perm_sum (h.trans h2.symm)
  simp at this
  omega
end DM
set_option Elab.async false
set_option linter.all false
set_option maxRecDepth 100000
set_option maxHeartbeats 4000000
namespace DM
open PySem PySem.Spec L2 DL
open PyProof.Rows hiding St
/-! ### data that can be compared, whatever its length -/
def cmp (k : Nat) (d : D) : Prop := noObj d = true ∧ (toPy d).canLay0 = true ∧ (toPy d).depth ≤ k
theorem cmp_all {α : Type} {f : α → D} {k : Nat} (h : ∀ a, cmp k (f a)) : ∀ xs : List α, noObjL (xs.map f) = true ∧ PyData.canLayAll0 (toPyL (xs.map f)) = true ∧ PyData.depthAll (toPyL (xs.map f)) ≤ k
  | [] => ⟨rfl, rfl, Nat.zero_le _⟩
  | x :: xs => by
    obtain ⟨h1, h2, h3⟩ := cmp_all h xs
    obtain ⟨g1, g2, g3⟩ := h x
    refine ⟨?_, ?_, ?_⟩
    · show (noObj (f x) && noObjL (xs.map f)) = true
      rw [g1, h1]; rfl
    · show PyData.canLayAll0 (toPy (f x) :: toPyL (xs.map f)) = true
      simp only [PyData.canLayAll0, g2, h2, Bool.and_self]
    · show PyData.depthAll (toPy (f x) :: toPyL (xs.map f)) ≤ k
      simp only [PyData.depthAll]
      omega
theorem cmp_lst {α : Type} {f : α → D} {k : Nat} (h : ∀ a, cmp k (f a)) (xs : List α) : cmp (k + 1) (.lst (xs.map f)) := by
  obtain ⟨h1, h2, h3⟩ := cmp_all h xs
  refine ⟨by simpa [noObj] using h1, by simpa [toPy, PyData.canLay0] using h2, ?_⟩
  simp only [toPy, PyData.depth]
  omega
theorem cmp_tup {α : Type} {f : α → D} {k : Nat} (h : ∀ a, cmp k (f a)) (xs : List α) : cmp (k + 1) (.tup (xs.map f)) := by
  obtain ⟨h1, h2, h3⟩ := cmp_all h xs
  refine ⟨by simpa [noObj] using h1, by simpa [toPy, PyData.canLay0] using h2, ?_⟩
  simp only [toPy, PyData.depth]
  omega
theorem okE_of {d : D} {k : Nat} (h : cmp k d) (hk : k ≤ 64) : okE d = true := by
  obtain ⟨h1, h2, h3⟩ := h
  unfold okE SeqAt.shaped
  rw [h1, h2, decide_eq_true (Nat.le_trans h3 hk)]
  rfl
theorem cmp_int (a : Int) : cmp 0 (.int a) := ⟨rfl, rfl, Nat.le_refl _⟩
theorem cmp_pr (p : Int × Int) : cmp 1 (pr p) := cmp_tup cmp_int [p.1, p.2]
theorem okE_ints (xs : List Int) : okE (.lst (xs.map .int)) = true := okE_of (cmp_lst cmp_int xs) (by decide)
theorem okE_tints (xs : List Int) : okE (tupI xs) = true := okE_of (cmp_tup cmp_int xs) (by decide)
theorem okE_pr (p : Int × Int) : okE (pr p) = true := okE_of (cmp_pr p) (by decide)
theorem okE_prs (xs : List (Int × Int)) : okE (.lst (xs.map pr)) = true := okE_of (cmp_lst cmp_pr xs) (by decide)
/-! ### pairs: membership, place -/
theorem eqD_pr (p q : Int × Int) : eqD (pr p) (pr q) = decide (p = q) := by
  have e : eqD (pr p) (pr q) = eqDL ([p.1, p.2].map .int) ([q.1, q.2].map .int) := by
    show eqD (.tup _) (.tup _) = _
    unfold eqD; rfl
  rw [e, eqDL_ints]
  obtain ⟨a, b⟩ := p
  obtain ⟨c, d⟩ := q
  by_cases h : (a, b) = (c, d)
  · cases h; simp
  · rw [decide_eq_false h, decide_eq_false]
    intro q
    simp at q
    exact h (by rw [q.1, q.2])
theorem inD_prs (p : Int × Int) (xs : List (Int × Int)) : inD (pr p) (xs.map pr) = decide (p ∈ xs) := by
  unfold inD
  rw [List.any_map]
  induction xs with
  | nil => simp
  | cons x xs ih =>
    rw [List.any_cons, ih]
    show (eqD (pr x) (pr p) || _) = _
    rw [eqD_pr]
    by_cases h : x = p
    · subst h; simp
    · have h' : ¬ p = x := fun q => h q.symm
      by_cases h2 : p ∈ xs <;> simp [h, h', h2]
theorem fIn_lst (p : Int × Int) (xs : List (Int × Int)) : fIn (pr p) (.lst (xs.map pr)) = .ok (.fr (.bl (decide (p ∈ xs)))) := by
  show (if (okE (pr p) && okE (.lst (xs.map pr))) = true then R.ok (Sl.fr (.bl (if false = true then !inD (pr p) (xs.map pr) else inD (pr p) (xs.map pr)))) else .st) = _
  rw [okE_pr, okE_prs, inD_prs]
  rfl
theorem fIn_tup (p : Int × Int) (xs : List (Int × Int)) : fIn (pr p) (.tup (xs.map pr)) = .ok (.fr (.bl (decide (p ∈ xs)))) := fIn_lst p xs
/-! ### the lesser and the greater end -/
def ped (p : Int × Int) : Int × Int := (if p.2 < p.1 then p.2 else p.1, if p.2 > p.1 then p.2 else p.1)
theorem fMin_is (a b : Int) : fMin [.int a, .int b] = .ok (.fr (.int (ped (a, b)).1)) := rfl
theorem fMax_is (a b : Int) : fMax [.int a, .int b] = .ok (.fr (.int (ped (a, b)).2)) := rfl
theorem ped_le (p : Int × Int) : (ped p).1 ≤ (ped p).2 := by unfold ped; split <;> split <;> simp <;> omega
theorem ped_of {p : Int × Int} (h : p.1 ≤ p.2) : ped p = p := by
  obtain ⟨a, b⟩ := p
  unfold ped
  simp at h ⊢
  constructor
  · intro h1; omega
  · intro h1; omega
theorem ped_swap (a b : Int) : ped (b, a) = ped (a, b) := by
  unfold ped
  simp
  constructor
  · split <;> split <;> omega
  · split <;> split <;> omega
theorem ped_cases (p : Int × Int) : ped p = p ∨ ped p = (p.2, p.1) := by
  by_cases h : p.1 ≤ p.2
  · exact .inl (ped_of h)
  · right
    have := ped_of (p := (p.2, p.1)) (by simp; omega)
    rw [ped_swap] at this
    exact this
/-! ### graphs -/
def okEdge (n : Nat) (e : Int × Int) (found : List (Int × Int)) : Bool := decide (0 ≤ e.1) && decide (e.2 < n) && decide (e.1 ≠ e.2) && decide (e ∉ found)
def pfound (n : Nat) : List (Int × Int) → List (Int × Int) → Option (List (Int × Int))
  | [], found => some found
  | p :: ps, found => if okEdge n (ped p) found = true then pfound n ps (found ++ [ped p]) else none
def pgraph (n : Nat) (ps : List (Int × Int)) : Option (List (Int × Int)) := (pfound n ps []).map (isort leP)
/-- what a graph's edges are -/
def GE (n : Nat) (g : List (Int × Int)) : Prop := (∀ e ∈ g, 0 ≤ e.1 ∧ e.1 < e.2 ∧ e.2 < n) ∧ g.Nodup
theorem pfound_ge {n : Nat} : ∀ {ps found g : List (Int × Int)}, GE n found → pfound n ps found = some g → GE n g ∧ g = found ++ ps.map ped
  | [], found, g, h, e => by
    cases e
    exact ⟨h, by simp⟩
  | p :: ps, found, g, h, e => by
    unfold pfound at e
    split at e
    · rename_i c
      unfold okEdge at c
      simp only [Bool.and_eq_true, decide_eq_true_iff] at c
      have l := ped_le p
      have := pfound_ge (found := found ++ [ped p]) ⟨fun q m => by
        rcases List.mem_append.mp m with m | m
        · exact h.1 q m
        · rw [List.mem_singleton.mp m]
          exact ⟨c.1.1.1, by have := c.1.2; omega, c.1.1.2⟩, by
        rw [List.nodup_append]
        refine ⟨h.2, by simp, fun a ha b hb => ?_⟩
        rw [List.mem_singleton.mp hb]
        intro q
        exact c.2 (q ▸ ha)⟩ e
      refine ⟨this.1, ?_⟩
      rw [this.2]
      simp
    · cases e
theorem pfound_of {n : Nat} : ∀ {ps found : List (Int × Int)}, (∀ p ∈ ps, 0 ≤ (ped p).1 ∧ (ped p).1 < (ped p).2 ∧ (ped p).2 < n) → (found ++ ps.map ped).Nodup → pfound n ps found = some (found ++ ps.map ped)
  | [], found, _, _ => by simp [pfound]
  | p :: ps, found, h, hn => by
    have hp := h p List.mem_cons_self
    have hn' : ((found ++ [ped p]) ++ ps.map ped).Nodup := by simpa using hn
    have nm : ped p ∉ found := by
      rw [List.nodup_append] at hn'
      have := hn'.1
      rw [List.nodup_append] at this
      exact fun m => this.2.2 _ m (ped p) (by simp) rfl
    have ih := pfound_of (fun q m => h q (List.mem_cons_of_mem _ m)) hn'
    unfold pfound
    rw [if_pos, ih]
    · simp
    · unfold okEdge
      simp only [Bool.and_eq_true, decide_eq_true_iff]
      exact ⟨⟨⟨hp.1, hp.2.2⟩, by omega⟩, nm⟩
theorem GE.perm {n : Nat} {g h : List (Int × Int)} (k : GE n g) (p : h.Perm g) : GE n h := ⟨fun e m => k.1 e (p.mem_iff.mp m), p.nodup_iff.mpr k.2⟩
theorem pgraph_ge {n : Nat} {ps g : List (Int × Int)} (h : pgraph n ps = some g) : GE n g ∧ g = isort leP (ps.map ped) := by
  unfold pgraph at h
  cases e : pfound n ps [] with
  | none => rw [e] at h; cases h
  | some f =>
    rw [e] at h
    obtain ⟨h1, h2⟩ := pfound_ge ⟨by simp, by simp⟩ e
    cases h
    rw [List.nil_append] at h2
    exact ⟨h1.perm (isort_permI _ _), by rw [h2]⟩
theorem pgraph_of {n : Nat} {ps : List (Int × Int)} (h : GE n (ps.map ped)) : pgraph n ps = some (isort leP (ps.map ped)) := by
  unfold pgraph
  rw [pfound_of (fun p m => by have := h.1 (ped p) (List.mem_map.mpr ⟨p, m, rfl⟩); exact this) (by simpa using h.2)]
  simp
/-! ### sorted pairs: one order for one set -/
theorem leP_total (p q : Int × Int) : leP p q = true ∨ leP q p = true := by
  unfold leP
  rw [decide_eq_true_iff, decide_eq_true_iff]
  omega
theorem leP_trans {p q r : Int × Int} (h1 : leP p q = true) (h2 : leP q r = true) : leP p r = true := by
  unfold leP at *
  rw [decide_eq_true_iff] at *
  omega
theorem leP_antisymm {p q : Int × Int} (h1 : leP p q = true) (h2 : leP q p = true) : p = q := by
  unfold leP at *
  rw [decide_eq_true_iff] at *
  exact Prod.ext (by omega) (by omega)
theorem isortP_ordered : ∀ xs : List (Int × Int), (isort leP xs).Pairwise (fun a b => leP a b = true) := by
  have hi : ∀ (a : Int × Int) (xs : List (Int × Int)), xs.Pairwise (fun a b => leP a b = true) → (ins leP a xs).Pairwise (fun a b => leP a b = true) := by
    intro a xs
    induction xs with
    | nil => intro _; simp [ins]
    | cons x xs ih =>
      intro h
      unfold ins
      split
      · rename_i e
        refine List.pairwise_cons.mpr ⟨fun b m => ?_, h⟩
        rcases List.mem_cons.mp m with rfl | m
        · exact e
        · exact leP_trans e ((List.pairwise_cons.mp h).1 b m)
      · rename_i e
        refine List.pairwise_cons.mpr ⟨fun b m => ?_, ih (List.pairwise_cons.mp h).2⟩
        rcases List.mem_cons.mp ((ins_perm leP a xs).mem_iff.mp m) with rfl | m
        · exact (leP_total x b).resolve_right e
        · exact (List.pairwise_cons.mp h).1 b m
  intro xs
  induction xs with
  | nil => exact List.Pairwise.nil
  | cons x xs ih => exact hi x _ ih
theorem eqP_of_ordered : ∀ {xs ys : List (Int × Int)}, xs.Pairwise (fun a b => leP a b = true) → ys.Pairwise (fun a b => leP a b = true) → xs.Perm ys → xs = ys
  | [], ys, _, _, p => (List.nil_perm.mp p).symm
  | x :: xs, [], _, _, p => by simpa using p.length_eq
  | x :: xs, y :: ys, h1, h2, p => by
    have a1 := List.pairwise_cons.mp h1
    have a2 := List.pairwise_cons.mp h2
    have le1 : leP x y = true := by
      rcases List.mem_cons.mp (p.mem_iff.mpr (List.mem_cons_self (a := y) (l := ys))) with e | m
      · rw [e]; exact (leP_total x x).elim id id
      · exact a1.1 y m
    have le2 : leP y x = true := by
      rcases List.mem_cons.mp (p.mem_iff.mp (List.mem_cons_self (a := x) (l := xs))) with e | m
      · rw [e]; exact (leP_total y y).elim id id
      · exact a2.1 x m
    have e := leP_antisymm le1 le2
    subst e
    rw [eqP_of_ordered a1.2 a2.2 (List.Perm.cons_inv p)]
theorem isortP_perm {xs ys : List (Int × Int)} (p : xs.Perm ys) : isort leP xs = isort leP ys :=
  eqP_of_ordered (isortP_ordered xs) (isortP_ordered ys) ((isort_permI _ _).trans (p.trans (isort_permI _ _).symm))
theorem isortP_fix {g : List (Int × Int)} (xs : List (Int × Int)) (h : g = isort leP xs) : isort leP g = g := by
  rw [h, isortP_perm (isort_permI leP xs)]
/-! ### nodes called anew -/
def at0 (row : List Int) (i : Int) : Int := row.getD i.toNat 0
def mov (row : List Int) (e : Int × Int) : Int × Int := (at0 row e.1, at0 row e.2)
theorem at0_nat (row : List Int) (k : Nat) : at0 row (k : Int) = row.getD k 0 := by unfold at0; rw [Int.toNat_natCast]
theorem at0_mem {row : List Int} {n : Nat} (hp : row.Perm (rng n)) {i : Int} (h : 0 ≤ i ∧ i < n) : 0 ≤ at0 row i ∧ at0 row i < n := by
  have l : row.length = n := by rw [hp.length_eq, rng_len]
  have m : at0 row i ∈ row := by unfold at0; rw [getD_get (by omega)]; exact List.getElem_mem _
  obtain ⟨k, h1, h2⟩ := mem_rng.mp (hp.mem_iff.mp m)
  omega
theorem at0_inj {row : List Int} {n : Nat} (hp : row.Perm (rng n)) {i j : Int} (hi : 0 ≤ i ∧ i < n) (hj : 0 ≤ j ∧ j < n) (h : at0 row i = at0 row j) : i = j := by
  have l : row.length = n := by rw [hp.length_eq, rng_len]
  have nd : row.Nodup := hp.nodup_iff.mpr (rng_nodup n)
  unfold at0 at h
  rw [getD_get (by omega), getD_get (by omega)] at h
  have pw := List.pairwise_iff_getElem.mp (List.nodup_iff_pairwise_ne.mp nd)
  have : i.toNat = j.toNat := by
    rcases Nat.lt_trichotomy i.toNat j.toNat with q | q | q
    · exact absurd h (pw _ _ (by omega) (by omega) q)
    · exact q
    · exact absurd h.symm (pw _ _ (by omega) (by omega) q)
  omega
theorem mov_ge {row : List Int} {n : Nat} (hp : row.Perm (rng n)) {g : List (Int × Int)} (h : GE n g) : GE n ((g.map (mov row)).map ped) := by
  constructor
  · intro e m
    rw [List.map_map] at m
    obtain ⟨p, hm, rfl⟩ := List.mem_map.mp m
    have b := h.1 p hm
    have b1 := at0_mem hp (i := p.1) (by omega)
    have b2 := at0_mem hp (i := p.2) (by omega)
    have ne : at0 row p.1 ≠ at0 row p.2 := fun q => by have := at0_inj hp (by omega) (by omega) q; omega
    show 0 ≤ (ped (mov row p)).1 ∧ (ped (mov row p)).1 < (ped (mov row p)).2 ∧ (ped (mov row p)).2 < n
    rcases ped_cases (mov row p) with c | c
    · have := ped_le (mov row p)
      rw [c] at this ⊢
      unfold mov at this ⊢
      simp at this ⊢
      omega
    · have := ped_le (mov row p)
      rw [c] at this ⊢
      unfold mov at this ⊢
      simp at this ⊢
      omega
  · rw [List.map_map]
    refine List.nodup_iff_pairwise_ne.mpr ?_
    rw [List.pairwise_map]
    refine (List.pairwise_iff_forall_sublist.mpr ?_)
    intro p q sub
    have mp := sub.subset (List.mem_cons_self (a := p) (l := [q]))
    have mq := sub.subset (List.mem_cons_of_mem p (List.mem_cons_self (a := q) (l := [])))
    have ne : p ≠ q := by
      have nd := List.nodup_iff_pairwise_ne.mp h.2
      exact List.pairwise_iff_forall_sublist.mp nd sub
    have bp := h.1 p mp
    have bq := h.1 q mq
    intro e
    apply ne
    have e : ped (mov row p) = ped (mov row q) := e
    have key : ∀ u v : Int × Int, ped u = ped v → u = v ∨ u = (v.2, v.1) := by
      intro u v q
      rcases ped_cases u with c | c <;> rcases ped_cases v with d | d <;> rw [c, d] at q
      · exact .inl q
      · exact .inr q
      · right
        obtain ⟨u1, u2⟩ := u
        obtain ⟨v1, v2⟩ := v
        simp at q ⊢
        omega
      · left
        obtain ⟨u1, u2⟩ := u
        obtain ⟨v1, v2⟩ := v
        simp at q ⊢
        omega
    rcases key _ _ e with k | k
    · unfold mov at k
      simp at k
      exact Prod.ext (at0_inj hp (by omega) (by omega) k.1) (at0_inj hp (by omega) (by omega) k.2)
    · unfold mov at k
      simp at k
      have a := at0_inj hp (by omega) (by omega) k.1
      have b := at0_inj hp (by omega) (by omega) k.2
      omega
theorem ped_mov {row : List Int} (p : Int × Int) : ped (mov row (ped p)) = ped (mov row p) := by
  rcases ped_cases p with c | c
  · rw [c]
  · rw [c]
    unfold mov
    exact ped_swap _ _
/-- the graph called anew twice -/
def pmoved (row : List Int) (g : List (Int × Int)) : List (Int × Int) := isort leP ((g.map (mov row)).map ped)
theorem pmoved_perm {row : List Int} {g h : List (Int × Int)} (p : g.Perm h) : pmoved row g = pmoved row h := isortP_perm ((p.map _).map _)
theorem pmoved_ge {row : List Int} {n : Nat} (hp : row.Perm (rng n)) {g : List (Int × Int)} (h : GE n g) : GE n (pmoved row g) := (mov_ge hp h).perm (isort_permI _ _)
def pafter (p q : List Int) : List Int := p.map (at0 q)
theorem at0_after {p q : List Int} {i : Int} (h : 0 ≤ i ∧ i < p.length) : at0 (pafter p q) i = at0 q (at0 p i) := by
  unfold pafter
  show (p.map (at0 q)).getD i.toNat 0 = at0 q (p.getD i.toNat 0)
  rw [getD_get (by simp; omega), getD_get (by omega), List.getElem_map]
theorem pmoved_twice {n : Nat} {p q : List Int} {g : List (Int × Int)} (hl : p.length = n) (h : GE n g) : pmoved q (pmoved p g) = pmoved (pafter p q) g := by
  have e : pmoved q (pmoved p g) = pmoved q ((g.map (mov p)).map ped) := pmoved_perm (isort_permI _ _)
  rw [e]
  unfold pmoved
  congr 1
  rw [List.map_map, List.map_map, List.map_map, List.map_map]
  refine List.map_congr_left fun x m => ?_
  have b := h.1 x m
  show ped (mov q (ped (mov p x))) = ped (mov (pafter p q) x)
  rw [ped_mov]
  unfold mov
  rw [at0_after (by omega), at0_after (by omega)]
theorem pmoved_id {n : Nat} {r : List Int} {g : List (Int × Int)} (h : GE n g) (hr : ∀ i : Int, 0 ≤ i → i < n → at0 r i = i) : pmoved r g = isort leP g := by
  unfold pmoved
  congr 1
  rw [List.map_map]
  conv => rhs; rw [← List.map_id g]
  refine List.map_congr_left fun x m => ?_
  have b := h.1 x m
  show ped (mov r x) = x
  unfold mov
  rw [hr _ (by omega) (by omega), hr _ (by omega) (by omega)]
  exact ped_of (by omega)
/-- the places of the nodes: the order that undoes -/
def pinv (p : List Int) : List Int := (List.range p.length).map fun (a : Nat) => (((idxA (a : Int) p 0).getD 0 : Nat) : Int)
theorem idxA_at {a : Int} : ∀ {xs : List Int} {n j : Nat}, idxA a xs n = some j → n ≤ j ∧ xs[j - n]? = some a
  | x :: xs, n, j, h => by
    unfold idxA at h
    split at h
    · rename_i e
      cases h
      exact ⟨Nat.le_refl _, by rw [Nat.sub_self, e]; rfl⟩
    · have ih := idxA_at (n := n + 1) h
      refine ⟨by omega, ?_⟩
      rw [show j - n = (j - (n + 1)) + 1 by omega]
      exact ih.2
theorem pinv_at {n : Nat} {p : List Int} (hp : p.Perm (rng n)) {i : Int} (h : 0 ≤ i ∧ i < n) : at0 (pafter p (pinv p)) i = i := by
  have l : p.length = n := by rw [hp.length_eq, rng_len]
  rw [at0_after (by omega)]
  have b := at0_mem hp h
  obtain ⟨k, hk⟩ := Int.eq_ofNat_of_zero_le b.1
  have mk : (k : Int) ∈ p := hp.mem_iff.mpr (mem_rng.mpr ⟨k, by omega, rfl⟩)
  obtain ⟨j, hj, jl⟩ := idxA_mem 0 mk
  rw [Nat.zero_add] at hj
  have e1 : at0 (pinv p) (at0 p i) = (j : Int) := by
    rw [hk, at0_nat]
    unfold pinv
    rw [getD_get (by simp; omega), List.getElem_map, List.getElem_range, hj]
    rfl
  have e2 := (idxA_at hj).2
  rw [Nat.sub_zero, getD_some (by omega)] at e2
  have e3 : at0 p (j : Int) = at0 p i := by rw [at0_nat, Option.some.inj e2, hk]
  rw [e1]
  exact at0_inj hp (by omega) h e3
theorem pinv_perm {n : Nat} {p : List Int} (hp : p.Perm (rng n)) : (pinv p).Perm (rng n) := by
  have l : p.length = n := by rw [hp.length_eq, rng_len]
  have pl : (pinv p).length = n := by unfold pinv; simp [l]
  refine perm_of_sub _ _ (rng_nodup _) (by rw [pl, rng_len]) fun y m => ?_
  obtain ⟨i, hi, rfl⟩ := mem_rng.mp m
  have e := pinv_at hp (i := (i : Int)) (by omega)
  rw [at0_after (by omega)] at e
  have b := at0_mem hp (i := (i : Int)) (by omega)
  rw [← e]
  unfold at0
  rw [getD_get (xs := pinv p) (by rw [pl]; exact (by have := b; unfold at0 at this; omega))]
  exact List.getElem_mem _
theorem pafter_perm {n : Nat} {p q : List Int} (hp : p.Perm (rng n)) (hq : q.Perm (rng n)) : (pafter p q).Perm (rng n) := by
  have e : (rng n).map (at0 q) = q := by
    have l : q.length = n := by rw [hq.length_eq, rng_len]
    apply List.ext_getElem
    · rw [List.length_map, rng_len, l]
    · intro i h1 h2
      rw [List.getElem_map]
      unfold rng
      rw [List.getElem_map, List.getElem_range, at0_nat, getD_get h2]
  have h1 : (pafter p q).Perm ((rng n).map (at0 q)) := hp.map _
  rw [e] at h1
  exact h1.trans hq
end DM
set_option Elab.async false
set_option linter.all false
set_option maxRecDepth 100000
set_option maxHeartbeats 4000000
namespace DM
open PySem PySem.Spec L2 DL
open PyProof.Rows hiding St
theorem fMod_nat {a : Int} {n : Nat} (h : 0 < n) : fMod (.int a) (.int n) = .ok (.fr (.int (a % n))) := by
  show (if 0 < (n : Int) then R.ok (Sl.fr (.int (a % n))) else .st) = _
  rw [if_pos (by omega)]
theorem mod_nat (z : Int) {n : Nat} (h : 0 < n) : ∃ k : Nat, k < n ∧ fMod (.int z) (.int n) = .ok (.fr (.int k)) := by
  have h1 := Int.emod_nonneg z (show (n : Int) ≠ 0 by omega)
  have h2 := Int.emod_lt_of_pos z (show (0 : Int) < n by omega)
  obtain ⟨k, hk⟩ := Int.eq_ofNat_of_zero_le h1
  refine ⟨k, by omega, ?_⟩
  rw [fMod_nat h, hk]
/-- an item of a written list of ints -/
theorem ints_at {xs : List Int} {i : Int} (h : 0 ≤ i ∧ i < xs.length) : fIx (.lst (xs.map .int)) (.int i) = .ok (.fr (.int (at0 xs i))) := by
  obtain ⟨k, rfl⟩ := Int.eq_ofNat_of_zero_le h.1
  rw [at0_nat]
  exact fIx_lstI (getD_some (by omega))
theorem isort_map {α : Type} (le : D → D → Bool) (f : α → D) : ∀ xs : List α, isort le (xs.map f) = (isort (fun a b => le (f a) (f b)) xs).map f
  | [] => rfl
  | x :: xs => by
    have hi : ∀ (a : α) (ys : List α), ins le (f a) (ys.map f) = (ins (fun a b => le (f a) (f b)) a ys).map f := by
      intro a ys
      induction ys with
      | nil => rfl
      | cons y ys ih =>
        show ins le (f a) (f y :: ys.map f) = _
        unfold ins
        rw [ih]
        show (if le (f a) (f y) = true then _ else _) = _
        split <;> rfl
    show ins le (f x) (isort le (xs.map f)) = (ins _ x (isort _ xs)).map f
    rw [isort_map le f xs, hi]
theorem fSl_lto {α : Type} (f : α → D) {xs : List α} {k : Nat} (h : k ≤ xs.length) : fSl (.lst (xs.map f)) none (some (k : Int)) = .ok (.ow ((xs.take k).map f)) := by
  show R.ok (Sl.ow (DL.cutD (xs.map f) _ _)) = _
  rw [cutD_map, cut_to xs h]
theorem fSl_lfrom {α : Type} (f : α → D) {xs : List α} {k : Nat} (h : k ≤ xs.length) : fSl (.lst (xs.map f)) (some (k : Int)) none = .ok (.ow ((xs.drop k).map f)) := by
  show R.ok (Sl.ow (DL.cutD (xs.map f) _ _)) = _
  rw [cutD_map, cut_from xs h]
theorem fSl_lmid {α : Type} (f : α → D) {xs : List α} {a b : Nat} (h : b ≤ xs.length) (hab : a ≤ b) : fSl (.lst (xs.map f)) (some (a : Int)) (some (b : Int)) = .ok (.ow (((xs.drop a).take (b - a)).map f)) := by
  show R.ok (Sl.ow (DL.cutD (xs.map f) _ _)) = _
  rw [cutD_map, cut_mid xs h hab]
theorem fAddL_lst {xs ys : List D} (h : xs.length + ys.length ≤ 1000000) : fAddL (.lst xs) (.lst ys) = .ok (.ow (xs ++ ys)) := by
  show (if xs.length + ys.length ≤ lim then R.ok (Sl.ow (xs ++ ys)) else .st) = _
  rw [if_pos (show xs.length + ys.length ≤ lim from h)]
theorem fIx_map {α : Type} (f : α → D) {xs : List α} {k : Nat} {a : α} (h : xs[k]? = some a) : fIx (.lst (xs.map f)) (.int k) = .ok (.fr (f a)) :=
  ix_at (xs := xs.map f) (by rw [List.getElem?_map, h]; rfl)
theorem fLen_map {α : Type} (f : α → D) (xs : List α) : fLen [.lst (xs.map f)] = .ok (.fr (.int xs.length)) := by
  show R.ok (Sl.fr (.int ((xs.map f).length : Int))) = _
  rw [List.length_map]
theorem emod_b (z : Int) {n : Int} (h : 0 < n) : 0 ≤ z % n ∧ z % n < n := ⟨Int.emod_nonneg _ (by omega), Int.emod_lt_of_pos _ h⟩
theorem fMod_int {a b : Int} (h : 0 < b) : fMod (.int a) (.int b) = .ok (.fr (.int (a % b))) := by
  show (if 0 < b then R.ok (Sl.fr (.int (a % b))) else .st) = _
  rw [if_pos h]
end DM
set_option Elab.async false
set_option linter.all false
set_option maxRecDepth 100000
set_option maxHeartbeats 4000000
namespace K15
open PySem PySem.Spec L2 DL
open PyProof.Rows hiding St

def topS (i : Nat) : Stmt := PySem.Challenge.pw_provedunseen_k15_alike_like_paths.main.body.getD i (.Pass ⟨0, 0, 0, 0⟩)
def cat_BadPermutation (c : Nat) : Option Bool := match c with
  | 0 => some false
  | 1 => some true
  | 2 => some false
  | 3 => some false
  | 4 => some false
  | 5 => some false
  | _ => none
theorem cat_BadPermutation_lt {c : Nat} (h : cat_BadPermutation c = some true) : c < 6 := by
  match c, h with
  | 0, _ => exact (by decide)
  | 1, _ => exact (by decide)
  | 2, _ => exact (by decide)
  | 3, _ => exact (by decide)
  | 4, _ => exact (by decide)
  | 5, _ => exact (by decide)
  | n + 6, h => cases h
def cat_BadStatement (c : Nat) : Option Bool := match c with
  | 0 => some false
  | 1 => some false
  | 2 => some false
  | 3 => some false
  | 4 => some true
  | 5 => some false
  | _ => none
theorem cat_BadStatement_lt {c : Nat} (h : cat_BadStatement c = some true) : c < 6 := by
  match c, h with
  | 0, _ => exact (by decide)
  | 1, _ => exact (by decide)
  | 2, _ => exact (by decide)
  | 3, _ => exact (by decide)
  | 4, _ => exact (by decide)
  | 5, _ => exact (by decide)
  | n + 6, h => cases h
def isv_BadDraw (c : Nat) : Bool := match c with
  | 0 => false
  | 1 => false
  | 2 => true
  | 3 => false
  | 4 => false
  | 5 => false
  | _ => false
def isv_BadGraph (c : Nat) : Bool := match c with
  | 0 => false
  | 1 => false
  | 2 => false
  | 3 => true
  | 4 => false
  | 5 => false
  | _ => false
def isv_BadPermutation (c : Nat) : Bool := match c with
  | 0 => false
  | 1 => true
  | 2 => false
  | 3 => false
  | 4 => false
  | 5 => false
  | _ => false
def isv_BadStatement (c : Nat) : Bool := match c with
  | 0 => false
  | 1 => false
  | 2 => false
  | 3 => false
  | 4 => true
  | 5 => false
  | _ => false
def isv_BadWitness (c : Nat) : Bool := match c with
  | 0 => false
  | 1 => false
  | 2 => false
  | 3 => false
  | 4 => false
  | 5 => true
  | _ => false
def isv_UnseenError (c : Nat) : Bool := match c with
  | 0 => true
  | 1 => true
  | 2 => true
  | 3 => true
  | 4 => true
  | 5 => true
  | _ => false
def isv_ValueError (c : Nat) : Bool := match c with
  | 0 => true
  | 1 => true
  | 2 => true
  | 3 => true
  | 4 => true
  | 5 => true
  | _ => false
structure Tx (K : PySem.W.Frag) (mg : Str → Option Value) (g : G0) : Prop where
  n_ValueError : mg "ValueError" = none
  n_abs : mg "abs" = none
  n_all : mg "all" = none
  n_bool : mg "bool" = none
  n_enumerate : mg "enumerate" = none
  n_int : mg "int" = none
  n_isinstance : mg "isinstance" = none
  n_len : mg "len" = none
  n_list : mg "list" = none
  n_max : mg "max" = none
  n_min : mg "min" = none
  n_range : mg "range" = none
  n_sorted : mg "sorted" = none
  n_str : mg "str" = none
  n_tuple : mg "tuple" = none
  n_type : mg "type" = none
  n_zip : mg "zip" = none
  c_LARGEST_SIZE : ∃ t, mg "LARGEST_SIZE" = some (.int 6 t)
  c_LEAST_RING : ∃ t, mg "LEAST_RING" = some (.int 3 t)
  c_LEAST_RING_NODES : ∃ t, mg "LEAST_RING_NODES" = some (.int 3 t)
  c_MOST_ATOMS : ∃ t, mg "MOST_ATOMS" = some (.int 4 t)
  c_MOST_GATES : ∃ t, mg "MOST_GATES" = some (.int 6 t)
  c_MOST_INPUTS : ∃ t, mg "MOST_INPUTS" = some (.int 4 t)
  c_MOST_NODES : ∃ t, mg "MOST_NODES" = some (.int 6 t)
  e_UnseenError : ECls K mg g 0 "UnseenError"
  e_BadPermutation : ECls K mg g 1 "BadPermutation"
  e_BadDraw : ECls K mg g 2 "BadDraw"
  e_BadGraph : ECls K mg g 3 "BadGraph"
  e_BadStatement : ECls K mg g 4 "BadStatement"
  e_BadWitness : ECls K mg g 5 "BadWitness"
  xc : ∀ c, c < 6 → ExcC K (g.cl c)
  exm_BadPermutation : ∀ c b, cat_BadPermutation c = some b → PySem.W.exmOne K (.ref (g.cl c)) (.ref (g.cl 1)) = some b
  exm_BadStatement : ∀ c b, cat_BadStatement c = some b → PySem.W.exmOne K (.ref (g.cl c)) (.ref (g.cl 4)) = some b
  kit_BadDraw : ∀ c, c < 6 → PySem.W.kitOne K (.ref (g.cl c)) (.ref (g.cl 2)) = some (isv_BadDraw c)
  kit_BadGraph : ∀ c, c < 6 → PySem.W.kitOne K (.ref (g.cl c)) (.ref (g.cl 3)) = some (isv_BadGraph c)
  kit_BadPermutation : ∀ c, c < 6 → PySem.W.kitOne K (.ref (g.cl c)) (.ref (g.cl 1)) = some (isv_BadPermutation c)
  kit_BadStatement : ∀ c, c < 6 → PySem.W.kitOne K (.ref (g.cl c)) (.ref (g.cl 4)) = some (isv_BadStatement c)
  kit_BadWitness : ∀ c, c < 6 → PySem.W.kitOne K (.ref (g.cl c)) (.ref (g.cl 5)) = some (isv_BadWitness c)
  kit_UnseenError : ∀ c, c < 6 → PySem.W.kitOne K (.ref (g.cl c)) (.ref (g.cl 0)) = some (isv_UnseenError c)
  kit_ValueError : ∀ c, c < 6 → PySem.W.kitOne K (.ref (g.cl c)) (.type "ValueError") = some (isv_ValueError c)

abbrev s_is_permutation : Stmt := topS 9
theorem sc_is_permutation : FnScope ["row"] ["row"] (defScope s_is_permutation) := ⟨rfl, rfl, rfl, by decide +kernel, rfl, by decide +kernel, by decide +kernel⟩
def m_is_permutation : MS := (sRet (mAnd (mB (mBin fLe (mB (mCall fLen (bCons (mBV 0) bNil))) (mB (mC (.int 6))))) (mB (mBin fEq (mB (mCall fSorted (bCons (mBV 0) bNil))) (mB (mListR1 (mB (mCall fLen (bCons (mBV 0) bNil)))))))))
def f_is_permutation : Fn := runF 1 1 m_is_permutation

abbrev s_require_permutation : Stmt := topS 10
theorem sc_require_permutation : FnScope ["row"] ["row"] (defScope s_require_permutation) := ⟨rfl, rfl, rfl, by decide +kernel, rfl, by decide +kernel, by decide +kernel⟩
def m_require_permutation : MS := (sIf (tNotM (mTest (mB (mCall f_is_permutation (mCons (mVar 0) mNil))))) (sRaise 1) sNop)
def f_require_permutation : Fn := runF 1 1 m_require_permutation

abbrev s_inverse : Stmt := topS 11
theorem sc_inverse : FnScope ["row", "a"] ["row"] (defScope s_inverse) := ⟨rfl, rfl, rfl, by decide +kernel, rfl, by decide +kernel, by decide +kernel⟩
def m_inverse : MS := (sSeq (sDrop (mCall f_require_permutation (mCons (mVar 0) mNil)))
    (sRet (mCall fTuple (bCons (mB (mComp (mRng1 (mB (mCall fLen (bCons (mBV 0) bNil)))) (.nm 1) tYesM (mIdx (mBV 0) (mBV 1)) [1])) bNil))))
def f_inverse : Fn := runF 1 2 m_inverse

abbrev s_compose : Stmt := topS 12
theorem sc_compose : FnScope ["first", "second", "a"] ["first", "second"] (defScope s_compose) := ⟨rfl, rfl, rfl, by decide +kernel, rfl, by decide +kernel, by decide +kernel⟩
def m_compose : MS := (sSeq (sDrop (mCall f_require_permutation (mCons (mVar 0) mNil)))
    (sSeq (sDrop (mCall f_require_permutation (mCons (mVar 1) mNil)))
    (sSeq (sIf (mTest (mB (mBin fNe (mB (mCall fLen (bCons (mBV 0) bNil))) (mB (mCall fLen (bCons (mBV 1) bNil)))))) (sRaise 1) sNop)
    (sRet (mCall fTuple (bCons (mB (mComp (mIter (mVar 0)) (.nm 2) tYesM (mBin fIx (mBV 1) (mBV 2)) [2])) bNil))))))
def f_compose : Fn := runF 2 3 m_compose

abbrev s_make_graph : Stmt := topS 16
theorem sc_make_graph : FnScope ["nodes", "edges", "joined", "a", "b", "edge"] ["nodes", "edges"] (defScope s_make_graph) := ⟨rfl, rfl, rfl, by decide +kernel, rfl, by decide +kernel, by decide +kernel⟩
def m_make_graph : MS := (sSeq (sIf (tOrM (mTest (mB (mBin fLt (mBV 0) (mB (mC (.int 1)))))) (mTest (mB (mBin fGt (mBV 0) (mB (mC (.int 6))))))) (sRaise1 3 (mJoin [(mB (mC (.str (Str.ofString "a graph has 1 to ")))), (mB (mUn fFmt (mB (mC (.int 6))))), (mB (mC (.str (Str.ofString " nodes"))))])) sNop)
    (sSeq (sSet 2 (mCall fLst mNil))
    (sSeq (sFor (mIter (mVar 1)) (.tp [3, 4]) (sSeq (sSet 5 (mCall fTup (mCons (mCall fMin (bCons (mBV 3) (bCons (mBV 4) bNil))) (mCons (mCall fMax (bCons (mBV 3) (bCons (mBV 4) bNil))) mNil))))
    (sSeq (sIf (tOrM (mTest (mB (mBin fLt (mB (mBin fIx (mBV 5) (mB (mC (.int 0))))) (mB (mC (.int 0)))))) (mTest (mB (mBin fGe (mB (mBin fIx (mBV 5) (mB (mC (.int 1))))) (mBV 0))))) (sRaise 3) sNop)
    (sSeq (sIf (mTest (mB (mBin fEq (mBV 3) (mBV 4)))) (sRaise 3) sNop)
    (sSeq (sIf (mTest (mB (mBin fIn (mBV 5) (mBV 2)))) (sRaise 3) sNop)
    (sApp 2 (mVar 5)))))))
    (sRet (mCall fTup (mCons (mVar 0) (mCons (mCall fTuple (bCons (mB (mCall fSorted (bCons (mBV 2) bNil))) bNil)) mNil)))))))
def f_make_graph : Fn := runF 2 6 m_make_graph

abbrev s_has_edge : Stmt := topS 17
theorem sc_has_edge : FnScope ["graph", "a", "b"] ["graph", "a", "b"] (defScope s_has_edge) := ⟨rfl, rfl, rfl, by decide +kernel, rfl, by decide +kernel, by decide +kernel⟩
def m_has_edge : MS := (sRet (mBin fIn (mB (mCall fTup (mCons (mCall fMin (bCons (mBV 1) (bCons (mBV 2) bNil))) (mCons (mCall fMax (bCons (mBV 1) (bCons (mBV 2) bNil))) mNil)))) (mB (mBin fIx (mBV 0) (mB (mC (.int 1)))))))
def f_has_edge : Fn := runF 3 3 m_has_edge

abbrev s_is_ring : Stmt := topS 18
theorem sc_is_ring : FnScope ["row"] ["row"] (defScope s_is_ring) := ⟨rfl, rfl, rfl, by decide +kernel, rfl, by decide +kernel, by decide +kernel⟩
def m_is_ring : MS := (sRet (mAnd (mB (mBin fGe (mB (mCall fLen (bCons (mBV 0) bNil))) (mB (mC (.int 3))))) (mB (mCall f_is_permutation (mCons (mVar 0) mNil)))))
def f_is_ring : Fn := runF 1 1 m_is_ring

abbrev s_require_ring : Stmt := topS 19
theorem sc_require_ring : FnScope ["row"] ["row"] (defScope s_require_ring) := ⟨rfl, rfl, rfl, by decide +kernel, rfl, by decide +kernel, by decide +kernel⟩
def m_require_ring : MS := (sIf (tNotM (mTest (mB (mCall f_is_ring (mCons (mVar 0) mNil))))) (sRaise1 1 (mJoin [(mB (mC (.str (Str.ofString "a ring is a permutation of a size from ")))), (mB (mUn fFmt (mB (mC (.int 3))))), (mB (mC (.str (Str.ofString " to ")))), (mB (mUn fFmt (mB (mC (.int 6)))))])) sNop)
def f_require_ring : Fn := runF 1 1 m_require_ring

abbrev s_ring_form : Stmt := topS 20
theorem sc_ring_form : FnScope ["row", "start", "form"] ["row"] (defScope s_ring_form) := ⟨rfl, rfl, rfl, by decide +kernel, rfl, by decide +kernel, by decide +kernel⟩
def m_ring_form : MS := (sSeq (sDrop (mCall f_require_ring (mCons (mVar 0) mNil)))
    (sSeq (sSet 1 (mIdx (mBV 0) (mB (mC (.int 0)))))
    (sSeq (sSet 2 (mBin fAddL (mB (mSl (mBV 0) (oSome (mBV 1)) oNone)) (mB (mSl (mBV 0) oNone (oSome (mBV 1))))))
    (sSeq (sIf (mTest (mB (mBin fGt (mB (mBin fIx (mBV 2) (mB (mC (.int 1))))) (mB (mBin fIx (mBV 2) (mB (mUn fNeg (mB (mC (.int 1)))))))))) (sSet 2 (mBin fAddL (mB (mSl (mBV 2) oNone (oSome (mB (mC (.int 1)))))) (mB (mSlB (mBV 2) oNone (oSome (mB (mC (.int 0)))) (oSome (mB (mUn fNeg (mB (mC (.int 1)))))))))) sNop)
    (sRetV 2)))))
def f_ring_form : Fn := runF 1 3 m_ring_form

abbrev s_ring_edges : Stmt := topS 21
theorem sc_ring_edges : FnScope ["row", "a", "b"] ["row"] (defScope s_ring_edges) := ⟨rfl, rfl, rfl, by decide +kernel, rfl, by decide +kernel, by decide +kernel⟩
def m_ring_edges : MS := (sSeq (sDrop (mCall f_require_ring (mCons (mVar 0) mNil)))
    (sRet (mCall fTuple (bCons (mB (mCall fSorted (bCons (mB (mComp (mZip (mCons (mVar 0) (mCons (mBin fAddL (mB (mSl (mBV 0) (oSome (mB (mC (.int 1)))) oNone)) (mB (mSl (mBV 0) oNone (oSome (mB (mC (.int 1))))))) mNil))) (.tp [1, 2]) tYesM (mCall fTup (mCons (mCall fMin (bCons (mBV 1) (bCons (mBV 2) bNil))) (mCons (mCall fMax (bCons (mBV 1) (bCons (mBV 2) bNil))) mNil))) [1, 2])) bNil))) bNil))))
def f_ring_edges : Fn := runF 1 3 m_ring_edges

abbrev s_is_ring_form : Stmt := topS 22
theorem sc_is_ring_form : FnScope ["row", "size"] ["row", "size"] (defScope s_is_ring_form) := ⟨rfl, rfl, rfl, by decide +kernel, rfl, by decide +kernel, by decide +kernel⟩
def m_is_ring_form : MS := (sRet (mAnd (mB (mBin fEq (mB (mCall fLen (bCons (mBV 0) bNil))) (mBV 1))) (mB (mAnd (mB (mCall f_is_ring (mCons (mVar 0) mNil))) (mB (mBin fEq (mB (mCall f_ring_form (mCons (mVar 0) mNil))) (mBV 0)))))))
def f_is_ring_form : Fn := runF 2 2 m_is_ring_form

abbrev s_ring : Stmt := topS 28
theorem sc_ring : FnScope ["graph"] ["graph"] (defScope s_ring) := ⟨rfl, rfl, rfl, by decide +kernel, rfl, by decide +kernel, by decide +kernel⟩
def m_ring : MS := (sSeq (sIf (mTest (mB (mBin fLt (mB (mBin fIx (mBV 0) (mB (mC (.int 0))))) (mB (mC (.int 3)))))) (sRaise1 4 (mJoin [(mB (mC (.str (Str.ofString "a ring needs a graph of at least ")))), (mB (mUn fFmt (mB (mC (.int 3))))), (mB (mC (.str (Str.ofString " nodes"))))])) sNop)
    (sRet (mCall fTup (mCons (mC (.str (Str.ofString "ring"))) (mCons (mVar 0) mNil)))))
def f_ring : Fn := runF 1 1 m_ring

abbrev s_alike : Stmt := topS 29
theorem sc_alike : FnScope ["first", "second"] ["first", "second"] (defScope s_alike) := ⟨rfl, rfl, rfl, by decide +kernel, rfl, by decide +kernel, by decide +kernel⟩
def m_alike : MS := (sSeq (sIf (mTest (mB (mBin fNe (mB (mBin fIx (mBV 0) (mB (mC (.int 0))))) (mB (mBin fIx (mBV 1) (mB (mC (.int 0)))))))) (sRaise 4) sNop)
    (sRet (mCall fTup (mCons (mC (.str (Str.ofString "alike"))) (mCons (mVar 0) (mCons (mVar 1) mNil))))))
def f_alike : Fn := runF 2 2 m_alike

abbrev s_is_gate : Stmt := topS 31
theorem sc_is_gate : FnScope ["gate", "own", "wires", "wire"] ["gate", "own"] (defScope s_is_gate) := ⟨rfl, rfl, rfl, by decide +kernel, rfl, by decide +kernel, by decide +kernel⟩
def m_is_gate : MS := (sSeq (sIf (tOrM (tNotM (mTest (mB (mUn (fIs .tuple) (mBV 0))))) (mTest (mB (mBin fEq (mB (mCall fLen (bCons (mBV 0) bNil))) (mB (mC (.int 0))))))) (sRet (mC (.bl false))) sNop)
    (sSeq (sIf (mTest (mB (mBin fNotIn (mB (mBin fIx (mBV 0) (mB (mC (.int 0))))) (mB (mCall fTup (mCons (mC (.str (Str.ofString "not"))) (mCons (mC (.str (Str.ofString "and"))) (mCons (mC (.str (Str.ofString "or"))) (mCons (mC (.str (Str.ofString "xor"))) mNil))))))))) (sRet (mC (.bl false))) sNop)
    (sSeq (sSet 2 (mSl (mBV 0) (oSome (mB (mC (.int 1)))) oNone))
    (sSeq (sIf (mTest (mB (mBin fNe (mB (mCall fLen (bCons (mBV 2) bNil))) (mB (mIf (mTest (mB (mBin fEq (mB (mBin fIx (mBV 0) (mB (mC (.int 0))))) (mB (mC (.str (Str.ofString "not"))))))) (mC (.int 1)) (mC (.int 2))))))) (sRet (mC (.bl false))) sNop)
    (sFrz [2] (sRet (mCall fAll (bCons (mB (mComp (mIter (mVar 2)) (.nm 3) tYesM (mAnd (mB (mUn (fTyIs .int) (mBV 3))) (mB (mChain fLe fLt (mB (mC (.int 0))) (mBV 3) (mBV 1)))) [3])) bNil))))))))
def f_is_gate : Fn := runF 2 4 m_is_gate

abbrev s_circuit : Stmt := topS 30
theorem sc_circuit : FnScope ["inputs", "gates", "place", "gate"] ["inputs", "gates"] (defScope s_circuit) := ⟨rfl, rfl, rfl, by decide +kernel, rfl, by decide +kernel, by decide +kernel⟩
def m_circuit : MS := (sSeq (sIf (tOrM (mTest (mB (mBin fLt (mBV 0) (mB (mC (.int 1)))))) (mTest (mB (mBin fGt (mBV 0) (mB (mC (.int 4))))))) (sRaise1 4 (mJoin [(mB (mC (.str (Str.ofString "a circuit has 1 to ")))), (mB (mUn fFmt (mB (mC (.int 4))))), (mB (mC (.str (Str.ofString " inputs"))))])) sNop)
    (sSeq (sIf (tOrM (mTest (mB (mBin fLt (mB (mCall fLen (bCons (mBV 1) bNil))) (mB (mC (.int 1)))))) (mTest (mB (mBin fGt (mB (mCall fLen (bCons (mBV 1) bNil))) (mB (mC (.int 6))))))) (sRaise1 4 (mJoin [(mB (mC (.str (Str.ofString "a circuit has 1 to ")))), (mB (mUn fFmt (mB (mC (.int 6))))), (mB (mC (.str (Str.ofString " gates"))))])) sNop)
    (sSeq (sFor (mEnum (mVar 1)) (.tp [2, 3]) (sIf (tNotM (mTest (mB (mCall f_is_gate (mCons (mVar 3) (mCons (mBin fAddL (mBV 0) (mBV 2)) mNil)))))) (sRaise1 4 (mJoin [(mB (mC (.str (Str.ofString "the gate ")))), (mB (mUn fFmt (mBV 2))), (mB (mC (.str (Str.ofString " is not one of this circuit"))))])) sNop))
    (sRet (mCall fTup (mCons (mC (.str (Str.ofString "circuit"))) (mCons (mVar 0) (mCons (mCall fTuple (bCons (mBV 1) bNil)) mNil))))))))
def f_circuit : Fn := runF 2 4 m_circuit

abbrev s_atom_count : Stmt := topS 34
theorem sc_atom_count : FnScope ["statement"] ["statement"] (defScope s_atom_count) := ⟨rfl, rfl, rfl, by decide +kernel, rfl, by decide +kernel, by decide +kernel⟩
def m_atom_count (self : Fn) : MS := (sSeq (sIf (mTest (mB (mBin fIn (mB (mBin fIx (mBV 0) (mB (mC (.int 0))))) (mB (mCall fTup (mCons (mC (.str (Str.ofString "both"))) (mCons (mC (.str (Str.ofString "either"))) mNil))))))) (sRet (mBin fAddL (mB (mCall self (mCons (mBin fIx (mBV 0) (mB (mC (.int 1)))) mNil))) (mB (mCall self (mCons (mBin fIx (mBV 0) (mB (mC (.int 2)))) mNil))))) sNop)
    (sRet (mC (.int 1))))
def f_atom_count : Fn := recF 1 1 m_atom_count 8

abbrev s_require_parts : Stmt := topS 33
theorem sc_require_parts : FnScope ["first", "second"] ["first", "second"] (defScope s_require_parts) := ⟨rfl, rfl, rfl, by decide +kernel, rfl, by decide +kernel, by decide +kernel⟩
def m_require_parts : MS := (sSeq (sIf (tOrM (mTest (mB (mBin fEq (mB (mBin fIx (mBV 0) (mB (mC (.int 0))))) (mB (mC (.str (Str.ofString "colors"))))))) (mTest (mB (mBin fEq (mB (mBin fIx (mBV 1) (mB (mC (.int 0))))) (mB (mC (.str (Str.ofString "colors")))))))) (sRaise 4) sNop)
    (sIf (mTest (mB (mBin fGt (mB (mBin fAddL (mB (mCall f_atom_count (mCons (mVar 0) mNil))) (mB (mCall f_atom_count (mCons (mVar 1) mNil))))) (mB (mC (.int 4)))))) (sRaise1 4 (mJoin [(mB (mC (.str (Str.ofString "a statement has at most ")))), (mB (mUn fFmt (mB (mC (.int 4))))), (mB (mC (.str (Str.ofString " atoms"))))])) sNop))
def f_require_parts : Fn := runF 2 2 m_require_parts

abbrev s_both : Stmt := topS 32
theorem sc_both : FnScope ["first", "second"] ["first", "second"] (defScope s_both) := ⟨rfl, rfl, rfl, by decide +kernel, rfl, by decide +kernel, by decide +kernel⟩
def m_both : MS := (sSeq (sDrop (mCall f_require_parts (mCons (mVar 0) (mCons (mVar 1) mNil))))
    (sRet (mCall fTup (mCons (mC (.str (Str.ofString "both"))) (mCons (mVar 0) (mCons (mVar 1) mNil))))))
def f_both : Fn := runF 2 2 m_both

abbrev s_require_kind : Stmt := topS 35
theorem sc_require_kind : FnScope ["statement", "kind"] ["statement", "kind"] (defScope s_require_kind) := ⟨rfl, rfl, rfl, by decide +kernel, rfl, by decide +kernel, by decide +kernel⟩
def m_require_kind : MS := (sIf (mTest (mB (mBin fNe (mB (mBin fIx (mBV 0) (mB (mC (.int 0))))) (mBV 1)))) (sRaise1 4 (mJoin [(mB (mC (.str (Str.ofString "this is no statement of the kind ")))), (mB (mUn fFmt (mBV 1)))])) sNop)
def f_require_kind : Fn := runF 2 2 m_require_kind

abbrev s_gate_value : Stmt := topS 37
theorem sc_gate_value : FnScope ["name", "first", "second"] ["name", "first", "second"] (defScope s_gate_value) := ⟨rfl, rfl, rfl, by decide +kernel, rfl, by decide +kernel, by decide +kernel⟩
def m_gate_value : MS := (sSeq (sIf (mTest (mB (mBin fEq (mBV 0) (mB (mC (.str (Str.ofString "not"))))))) (sRet (mBin fSub (mB (mC (.int 1))) (mBV 1))) sNop)
    (sSeq (sIf (mTest (mB (mBin fEq (mBV 0) (mB (mC (.str (Str.ofString "and"))))))) (sRet (mBin fBitAnd (mBV 1) (mBV 2))) sNop)
    (sSeq (sIf (mTest (mB (mBin fEq (mBV 0) (mB (mC (.str (Str.ofString "or"))))))) (sRet (mBin fBitOr (mBV 1) (mBV 2))) sNop)
    (sRet (mBin fBitXor (mBV 1) (mBV 2))))))
def f_gate_value : Fn := runF 3 3 m_gate_value

abbrev s_is_row : Stmt := topS 39
theorem sc_is_row : FnScope ["value", "size", "entry"] ["value", "size"] (defScope s_is_row) := ⟨rfl, rfl, rfl, by decide +kernel, rfl, by decide +kernel, by decide +kernel⟩
def m_is_row : MS := (sRet (mAnd (mB (mUn (fIs .tuple) (mBV 0))) (mB (mAnd (mB (mBin fEq (mB (mCall fLen (bCons (mBV 0) bNil))) (mBV 1))) (mB (mCall fAll (bCons (mB (mComp (mIter (mVar 0)) (.nm 2) tYesM (mUn (fTyIs .int) (mBV 2)) [2])) bNil)))))))
def f_is_row : Fn := runF 2 3 m_is_row

abbrev s_is_bits : Stmt := topS 40
theorem sc_is_bits : FnScope ["value", "size", "bit"] ["value", "size"] (defScope s_is_bits) := ⟨rfl, rfl, rfl, by decide +kernel, rfl, by decide +kernel, by decide +kernel⟩
def m_is_bits : MS := (sRet (mAnd (mB (mCall f_is_row (mCons (mVar 0) (mCons (mVar 1) mNil)))) (mB (mCall fAll (bCons (mB (mComp (mIter (mVar 0)) (.nm 2) tYesM (mBin fIn (mBV 2) (mB (mCall fTup (mCons (mC (.int 0)) (mCons (mC (.int 1)) mNil))))) [2])) bNil)))))
def f_is_bits : Fn := runF 2 3 m_is_bits

abbrev s_wire_values : Stmt := topS 38
theorem sc_wire_values : FnScope ["statement", "bits", "_", "inputs", "gates", "values", "gate"] ["statement", "bits"] (defScope s_wire_values) := ⟨rfl, rfl, rfl, by decide +kernel, rfl, by decide +kernel, by decide +kernel⟩
def m_wire_values : MS := (sSeq (sDrop (mCall f_require_kind (mCons (mVar 0) (mCons (mC (.str (Str.ofString "circuit"))) mNil))))
    (sSeq (sUnp (.tp [2, 3, 4]) (mVar 0))
    (sSeq (sIf (tNotM (mTest (mB (mCall f_is_bits (mCons (mVar 1) (mCons (mVar 3) mNil)))))) (sRaise 5) sNop)
    (sSeq (sSet 5 (mCall fList (bCons (mBV 1) bNil)))
    (sSeq (sFor (mIter (mVar 4)) (.nm 6) (sApp 5 (mCall f_gate_value (mCons (mBin fIx (mBV 6) (mB (mC (.int 0)))) (mCons (mBin fIx (mBV 5) (mB (mBin fIx (mBV 6) (mB (mC (.int 1)))))) (mCons (mBin fIx (mBV 5) (mB (mBin fIx (mBV 6) (mB (mUn fNeg (mB (mC (.int 1)))))))) mNil))))))
    (sRet (mCall fTuple (bCons (mBV 5) bNil))))))))
def f_wire_values : Fn := runF 2 7 m_wire_values

abbrev s_turns_into : Stmt := topS 46
theorem sc_turns_into : FnScope ["first", "second", "row", "a", "b"] ["first", "second", "row"] (defScope s_turns_into) := ⟨rfl, rfl, rfl, by decide +kernel, rfl, by decide +kernel, by decide +kernel⟩
def m_turns_into : MS := (sSeq (sIf (mTest (mB (mBin fNe (mB (mCall fLen (bCons (mB (mBin fIx (mBV 0) (mB (mC (.int 1))))) bNil))) (mB (mCall fLen (bCons (mB (mBin fIx (mBV 1) (mB (mC (.int 1))))) bNil)))))) (sRet (mC (.bl false))) sNop)
    (sRet (mCall fAll (bCons (mB (mComp (mIter (mBin fIx (mBV 0) (mB (mC (.int 1))))) (.tp [3, 4]) tYesM (mCall f_has_edge (mCons (mVar 1) (mCons (mBin fIx (mBV 2) (mBV 3)) (mCons (mBin fIx (mBV 2) (mBV 4)) mNil)))) [3, 4])) bNil))))
def f_turns_into : Fn := runF 3 5 m_turns_into

abbrev s_fits : Stmt := topS 45
theorem sc_fits : FnScope ["statement", "row", "kind", "edge", "a", "b"] ["statement", "row"] (defScope s_fits) := ⟨rfl, rfl, rfl, by decide +kernel, rfl, by decide +kernel, by decide +kernel⟩
def m_fits : MS := (sSeq (sSet 2 (mBin fIx (mBV 0) (mB (mC (.int 0)))))
    (sSeq (sIf (mTest (mB (mBin fEq (mBV 2) (mB (mC (.str (Str.ofString "ring"))))))) (sRet (mCall fAll (bCons (mB (mComp (mIter (mCall f_ring_edges (mCons (mVar 1) mNil))) (.nm 3) tYesM (mBin fIn (mBV 3) (mB (mBin fIx (mB (mBin fIx (mBV 0) (mB (mC (.int 1))))) (mB (mC (.int 1)))))) [3])) bNil))) sNop)
    (sSeq (sIf (mTest (mB (mBin fEq (mBV 2) (mB (mC (.str (Str.ofString "alike"))))))) (sRet (mCall f_turns_into (mCons (mBin fIx (mBV 0) (mB (mC (.int 1)))) (mCons (mBin fIx (mBV 0) (mB (mC (.int 2)))) (mCons (mVar 1) mNil))))) sNop)
    (sSeq (sIf (mTest (mB (mBin fEq (mBV 2) (mB (mC (.str (Str.ofString "circuit"))))))) (sRet (mBin fEq (mB (mBin fIx (mB (mCall f_wire_values (mCons (mVar 0) (mCons (mVar 1) mNil)))) (mB (mUn fNeg (mB (mC (.int 1))))))) (mB (mC (.int 1))))) sNop)
    (sRet (mCall fAll (bCons (mB (mComp (mIter (mBin fIx (mB (mBin fIx (mBV 0) (mB (mC (.int 1))))) (mB (mC (.int 1))))) (.tp [4, 5]) tYesM (mBin fNe (mB (mBin fIx (mBV 1) (mBV 4))) (mB (mBin fIx (mBV 1) (mBV 5)))) [4, 5])) bNil)))))))
def f_fits : Fn := runF 2 6 m_fits

abbrev s_has_form : Stmt := topS 44
theorem sc_has_form : FnScope ["statement", "value", "kind", "nodes", "color"] ["statement", "value"] (defScope s_has_form) := ⟨rfl, rfl, rfl, by decide +kernel, rfl, by decide +kernel, by decide +kernel⟩
def m_has_form : MS := (sSeq (sSet 2 (mBin fIx (mBV 0) (mB (mC (.int 0)))))
    (sSeq (sIf (mTest (mB (mBin fEq (mBV 2) (mB (mC (.str (Str.ofString "circuit"))))))) (sRet (mCall f_is_bits (mCons (mVar 1) (mCons (mBin fIx (mBV 0) (mB (mC (.int 1)))) mNil)))) sNop)
    (sSeq (sSet 3 (mBin fIx (mB (mBin fIx (mBV 0) (mB (mC (.int 1))))) (mB (mC (.int 0)))))
    (sSeq (sIf (tNotM (mTest (mB (mCall f_is_row (mCons (mVar 1) (mCons (mVar 3) mNil)))))) (sRet (mC (.bl false))) sNop)
    (sSeq (sIf (mTest (mB (mBin fEq (mBV 2) (mB (mC (.str (Str.ofString "ring"))))))) (sRet (mCall f_is_ring_form (mCons (mVar 1) (mCons (mVar 3) mNil)))) sNop)
    (sSeq (sIf (mTest (mB (mBin fEq (mBV 2) (mB (mC (.str (Str.ofString "alike"))))))) (sRet (mCall f_is_permutation (mCons (mVar 1) mNil))) sNop)
    (sRet (mCall fAll (bCons (mB (mComp (mIter (mVar 1)) (.nm 4) tYesM (mChain fLe fLt (mB (mC (.int 0))) (mBV 4) (mB (mBin fIx (mBV 0) (mB (mC (.int 2)))))) [4])) bNil)))))))))
def f_has_form : Fn := runF 2 5 m_has_form

abbrev s_holds_atom : Stmt := topS 42
theorem sc_holds_atom : FnScope ["atom", "witness"] ["atom", "witness"] (defScope s_holds_atom) := ⟨rfl, rfl, rfl, by decide +kernel, rfl, by decide +kernel, by decide +kernel⟩
def m_holds_atom : MS := (sRet (mAnd (mB (mCall f_has_form (mCons (mVar 0) (mCons (mVar 1) mNil)))) (mB (mCall f_fits (mCons (mVar 0) (mCons (mVar 1) mNil))))))
def f_holds_atom : Fn := runF 2 2 m_holds_atom

abbrev s_holds : Stmt := topS 41
theorem sc_holds : FnScope ["statement", "witness"] ["statement", "witness"] (defScope s_holds) := ⟨rfl, rfl, rfl, by decide +kernel, rfl, by decide +kernel, by decide +kernel⟩
def m_holds (self_holds self_holds_join : Fn) : MS := (sSeq (sIf (mTest (mB (mBin fIn (mB (mBin fIx (mBV 0) (mB (mC (.int 0))))) (mB (mCall fTup (mCons (mC (.str (Str.ofString "both"))) (mCons (mC (.str (Str.ofString "either"))) mNil))))))) (sRet (mAnd (mB (mUn (fIs .tuple) (mBV 1))) (mB (mAnd (mB (mBin fEq (mB (mCall fLen (bCons (mBV 1) bNil))) (mB (mC (.int 2))))) (mB (mCall self_holds_join (mCons (mVar 0) (mCons (mVar 1) mNil)))))))) sNop)
    (sRet (mCall f_holds_atom (mCons (mVar 0) (mCons (mVar 1) mNil)))))

abbrev s_holds_join : Stmt := topS 43
theorem sc_holds_join : FnScope ["statement", "witness", "kind", "first", "second", "choice", "reason"] ["statement", "witness"] (defScope s_holds_join) := ⟨rfl, rfl, rfl, by decide +kernel, rfl, by decide +kernel, by decide +kernel⟩
def m_holds_join (self_holds self_holds_join : Fn) : MS := (sSeq (sUnp (.tp [2, 3, 4]) (mVar 0))
    (sSeq (sIf (mTest (mB (mBin fEq (mBV 2) (mB (mC (.str (Str.ofString "both"))))))) (sRet (mAnd (mB (mCall self_holds (mCons (mVar 3) (mCons (mBin fIx (mBV 1) (mB (mC (.int 0)))) mNil)))) (mB (mCall self_holds (mCons (mVar 4) (mCons (mBin fIx (mBV 1) (mB (mC (.int 1)))) mNil)))))) sNop)
    (sSeq (sUnp (.tp [5, 6]) (mVar 1))
    (sRet (mAnd (mB (mUn (fTyIs .int) (mBV 5))) (mB (mAnd (mB (mBin fIn (mBV 5) (mB (mCall fTup (mCons (mC (.int 0)) (mCons (mC (.int 1)) mNil)))))) (mB (mCall self_holds (mCons (mBin fIx (mBV 0) (mB (mBin fAddL (mB (mC (.int 1))) (mBV 5)))) (mCons (mVar 6) mNil)))))))))))
def R_holds : Nat → Fn × Fn
  | 0 => (fun _ => .st, fun _ => .st)
  | k + 1 => (runF 2 2 (m_holds (R_holds k).1 (R_holds k).2), runF 2 7 (m_holds_join (R_holds k).1 (R_holds k).2))
def f_holds : Fn := (R_holds 8).1
def f_holds_join : Fn := (R_holds 8).2

abbrev s_require_witness : Stmt := topS 48
theorem sc_require_witness : FnScope ["statement", "witness"] ["statement", "witness"] (defScope s_require_witness) := ⟨rfl, rfl, rfl, by decide +kernel, rfl, by decide +kernel, by decide +kernel⟩
def m_require_witness : MS := (sIf (tNotM (mTest (mB (mCall f_holds (mCons (mVar 0) (mCons (mVar 1) mNil)))))) (sRaise 5) sNop)
def f_require_witness : Fn := runF 2 2 m_require_witness

abbrev s_swap_statement : Stmt := topS 49
theorem sc_swap_statement : FnScope ["statement", "kind"] ["statement"] (defScope s_swap_statement) := ⟨rfl, rfl, rfl, by decide +kernel, rfl, by decide +kernel, by decide +kernel⟩
def m_swap_statement : MS := (sSeq (sSet 1 (mBin fIx (mBV 0) (mB (mC (.int 0)))))
    (sSeq (sIf (mTest (mB (mBin fNotIn (mBV 1) (mB (mCall fTup (mCons (mC (.str (Str.ofString "alike"))) (mCons (mC (.str (Str.ofString "both"))) (mCons (mC (.str (Str.ofString "either"))) mNil)))))))) (sRaise 4) sNop)
    (sRet (mCall fTup (mCons (mVar 1) (mCons (mBin fIx (mBV 0) (mB (mC (.int 2)))) (mCons (mBin fIx (mBV 0) (mB (mC (.int 1)))) mNil)))))))
def f_swap_statement : Fn := runF 1 2 m_swap_statement

abbrev s_swap_witness : Stmt := topS 50
theorem sc_swap_witness : FnScope ["statement", "witness", "kind", "first", "second"] ["statement", "witness"] (defScope s_swap_witness) := ⟨rfl, rfl, rfl, by decide +kernel, rfl, by decide +kernel, by decide +kernel⟩
def m_swap_witness : MS := (sSeq (sSet 2 (mBin fIx (mB (mCall f_swap_statement (mCons (mVar 0) mNil))) (mB (mC (.int 0)))))
    (sSeq (sDrop (mCall f_require_witness (mCons (mVar 0) (mCons (mVar 1) mNil))))
    (sSeq (sIf (mTest (mB (mBin fEq (mBV 2) (mB (mC (.str (Str.ofString "alike"))))))) (sRet (mCall f_inverse (mCons (mVar 1) mNil))) sNop)
    (sSeq (sUnp (.tp [3, 4]) (mVar 1))
    (sSeq (sIf (mTest (mB (mBin fEq (mBV 2) (mB (mC (.str (Str.ofString "both"))))))) (sRet (mCall fTup (mCons (mVar 4) (mCons (mVar 3) mNil)))) sNop)
    (sRet (mCall fTup (mCons (mBin fSub (mB (mC (.int 1))) (mBV 3)) (mCons (mVar 4) mNil)))))))))
def f_swap_witness : Fn := runF 2 5 m_swap_witness

abbrev s_joined_alike : Stmt := topS 51
theorem sc_joined_alike : FnScope ["first", "others", "statements", "statement", "before", "after"] ["first", "others"] (defScope s_joined_alike) := ⟨rfl, rfl, rfl, by decide +kernel, rfl, by decide +kernel, by decide +kernel⟩
def m_joined_alike : MS := (sSeq (sSet 2 (mCall fLst (mCons (mVar 0) (mStar (mVar 1) mNil))))
    (sSeq (sFrz [2] (sFor (mIter (mVar 2)) (.nm 3) (sIf (mTest (mB (mBin fNe (mB (mBin fIx (mBV 3) (mB (mC (.int 0))))) (mB (mC (.str (Str.ofString "alike"))))))) (sRaise 4) sNop)))
    (sSeq (sFrz [2] (sFor (mZipM (mCons (mVar 2) (mCons (mVar 1) mNil))) (.tp [4, 5]) (sIf (mTest (mB (mBin fNe (mB (mBin fIx (mBV 5) (mB (mC (.int 1))))) (mB (mBin fIx (mBV 4) (mB (mC (.int 2)))))))) (sRaise 4) sNop)))
    (sRet (mCall fTup (mCons (mC (.str (Str.ofString "alike"))) (mCons (mBin fIx (mBV 0) (mB (mC (.int 1)))) (mCons (mBin fIx (mB (mBin fIx (mBV 2) (mB (mUn fNeg (mB (mC (.int 1))))))) (mB (mC (.int 2)))) mNil))))))))
def f_joined_alike : Fn := starF 1 (runF 2 6 m_joined_alike)

abbrev s_joined_witness : Stmt := topS 52
theorem sc_joined_witness : FnScope ["first", "others", "joined", "other"] ["first", "others"] (defScope s_joined_witness) := ⟨rfl, rfl, rfl, by decide +kernel, rfl, by decide +kernel, by decide +kernel⟩
def m_joined_witness : MS := (sSeq (sDrop (mCall f_require_permutation (mCons (mVar 0) mNil)))
    (sSeq (sSet 2 (mVar 0))
    (sSeq (sFor (mIter (mVar 1)) (.nm 3) (sFrz [2] (sSet 2 (mCall f_compose (mCons (mVar 2) (mCons (mVar 3) mNil))))))
    (sRetV 2))))
def f_joined_witness : Fn := starF 1 (runF 2 4 m_joined_witness)

abbrev s_L_cell : Stmt := topS 54
theorem sc_L_cell : FnScope ["script", "k"] ["script", "k"] (defScope s_L_cell) := ⟨rfl, rfl, rfl, by decide +kernel, rfl, by decide +kernel, by decide +kernel⟩
def m_L_cell : MS := (sSeq (sIf (mTest (mB (mBin fLt (mBV 1) (mB (mCall fLen (bCons (mBV 0) bNil)))))) (sRet (mCall fInt (bCons (mB (mBin fIx (mBV 0) (mBV 1))) bNil))) sNop)
    (sSeq (sIf (mTest (mB (mBin fGt (mB (mCall fLen (bCons (mBV 0) bNil))) (mB (mC (.int 0)))))) (sRet (mBin fAddL (mB (mBin fMul (mB (mCall fInt (bCons (mB (mBin fIx (mBV 0) (mB (mC (.int 0))))) bNil))) (mB (mBin fAddL (mB (mBin fMul (mB (mC (.int 2))) (mBV 1))) (mB (mC (.int 3))))))) (mB (mBin fMul (mB (mC (.int 977))) (mBV 1))))) sNop)
    (sRet (mBin fMul (mB (mC (.int 977))) (mBV 1)))))
def f_L_cell : Fn := runF 2 2 m_L_cell

abbrev s_L_numbers : Stmt := topS 55
theorem sc_L_numbers : FnScope ["cell", "many", "number", "mixed", "row", "k"] ["cell", "many"] (defScope s_L_numbers) := ⟨rfl, rfl, rfl, by decide +kernel, rfl, by decide +kernel, by decide +kernel⟩
def m_L_numbers : MS := (sSeq (sSet 2 (mCall fAbs (bCons (mB (mCall fInt (bCons (mBV 0) bNil))) bNil)))
    (sSeq (sSet 3 (mBin fAddL (mB (mBin fMod (mB (mCall fInt (bCons (mBV 2) bNil))) (mB (mC (.int 2147483629))))) (mB (mC (.int 1)))))
    (sSeq (sSet 4 (mCall fLst mNil))
    (sSeq (sFor (mRng1 (mBV 1)) (.nm 5) (sIf (mTest (mB (mBin fGe (mBV 2) (mB (mC (.int 5040)))))) (sSeq (sApp 4 (mBin fMod (mB (mCall fInt (bCons (mBV 2) bNil))) (mB (mC (.int 5040)))))
    (sSet 2 (mBin fDiv (mBV 2) (mB (mC (.int 5040)))))) (sSeq (sSet 3 (mBin fMod (mB (mCall fInt (bCons (mB (mBin fAddL (mB (mBin fMul (mBV 3) (mB (mC (.int 48271))))) (mB (mBin fMul (mB (mC (.int 69621))) (mB (mBin fAddL (mBV 5) (mB (mC (.int 1))))))))) bNil))) (mB (mC (.int 2147483647)))))
    (sApp 4 (mBin fMod (mB (mBin fDiv (mB (mBin fMod (mB (mCall fInt (bCons (mB (mBin fAddL (mB (mBin fDiv (mB (mBin fMul (mBV 3) (mBV 3))) (mB (mC (.int 7))))) (mB (mBin fMul (mB (mC (.int 3))) (mBV 3))))) bNil))) (mB (mC (.int 2147483629))))) (mB (mC (.int 11))))) (mB (mC (.int 5040))))))))
    (sRetV 4)))))
def f_L_numbers : Fn := runF 2 6 m_L_numbers

abbrev s_L_same : Stmt := topS 56
theorem sc_L_same : FnScope ["value", "due", "k"] ["value", "due"] (defScope s_L_same) := ⟨rfl, rfl, rfl, by decide +kernel, rfl, by decide +kernel, by decide +kernel⟩
def m_L_same (self : Fn) : MS := (sSeq (sIf (tOrM (mTest (mB (mUn (fIs .tuple) (mBV 1)))) (mTest (mB (mUn (fIs .list) (mBV 1))))) (sSeq (sIf (tOrM (mTest (mB (mBin fNe (mB (mUn (fIs .tuple) (mBV 1))) (mB (mUn (fIs .tuple) (mBV 0)))))) (mTest (mB (mBin fNe (mB (mUn (fIs .list) (mBV 1))) (mB (mUn (fIs .list) (mBV 0))))))) (sRet (mC (.bl false))) sNop)
    (sSeq (sIf (mTest (mB (mBin fNe (mB (mCall fLen (bCons (mBV 0) bNil))) (mB (mCall fLen (bCons (mBV 1) bNil)))))) (sRet (mC (.bl false))) sNop)
    (sSeq (sFor (mRng1 (mB (mCall fLen (bCons (mBV 1) bNil)))) (.nm 2) (sIf (tNotM (mTest (mB (mCall self (mCons (mBin fIx (mBV 0) (mBV 2)) (mCons (mBin fIx (mBV 1) (mBV 2)) mNil)))))) (sRet (mC (.bl false))) sNop))
    (sRet (mC (.bl true)))))) sNop)
    (sSeq (sIf (mTest (mB (mBin fIsN (mBV 1) (mB (mC .non))))) (sRet (mBin fIsN (mBV 0) (mB (mC .non)))) sNop)
    (sSeq (sIf (mTest (mB (mUn (fIs .bool) (mBV 1)))) (sRet (mAnd (mB (mUn (fIs .bool) (mBV 0))) (mB (mBin fEq (mBV 0) (mBV 1))))) sNop)
    (sSeq (sIf (mTest (mB (mUn (fIs .str) (mBV 1)))) (sRet (mAnd (mB (mUn (fIs .str) (mBV 0))) (mB (mBin fEq (mBV 0) (mBV 1))))) sNop)
    (sRet (mAnd (mB (mUn (fIs .int) (mBV 0))) (mB (mAnd (mB (mNot (mB (mUn (fIs .bool) (mBV 0))))) (mB (mBin fEq (mBV 0) (mBV 1)))))))))))
def f_L_same : Fn := recF 2 3 m_L_same 8

abbrev s_L_factorial : Stmt := topS 57
theorem sc_L_factorial : FnScope ["size", "product", "k"] ["size"] (defScope s_L_factorial) := ⟨rfl, rfl, rfl, by decide +kernel, rfl, by decide +kernel, by decide +kernel⟩
def m_L_factorial : MS := (sSeq (sSet 1 (mC (.int 1)))
    (sSeq (sFor (mRng1 (mBV 0)) (.nm 2) (sSet 1 (mBin fMul (mBV 1) (mB (mBin fAddL (mBV 2) (mB (mC (.int 1))))))))
    (sRetV 1)))
def f_L_factorial : Fn := runF 1 3 m_L_factorial

abbrev s_L_permutation : Stmt := topS 58
theorem sc_L_permutation : FnScope ["size", "number", "left", "k", "row", "block"] ["size", "number"] (defScope s_L_permutation) := ⟨rfl, rfl, rfl, by decide +kernel, rfl, by decide +kernel, by decide +kernel⟩
def m_L_permutation : MS := (sSeq (sSet 2 (mComp (mRng1 (mBV 0)) (.nm 3) tYesM (mVar 3) [3]))
    (sSeq (sSet 4 (mCall fLst mNil))
    (sSeq (sFor (mRng1 (mBV 0)) (.nm 3) (sSeq (sSet 5 (mCall f_L_factorial (mCons (mBin fSub (mB (mBin fSub (mBV 0) (mB (mC (.int 1))))) (mBV 3)) mNil)))
    (sSeq (sAppPop 4 2 (mB (mBin fDiv (mBV 1) (mBV 5))))
    (sSet 1 (mBin fMod (mB (mCall fInt (bCons (mBV 1) bNil))) (mBV 5))))))
    (sRetV 4))))
def f_L_permutation : Fn := runF 2 6 m_L_permutation

abbrev s_L_after : Stmt := topS 59
theorem sc_L_after : FnScope ["first", "second", "entry"] ["first", "second"] (defScope s_L_after) := ⟨rfl, rfl, rfl, by decide +kernel, rfl, by decide +kernel, by decide +kernel⟩
def m_L_after : MS := (sRet (mComp (mIter (mVar 0)) (.nm 2) tYesM (mBin fIx (mBV 1) (mBV 2)) [2]))
def f_L_after : Fn := runF 2 3 m_L_after

abbrev s_L_undone : Stmt := topS 60
theorem sc_L_undone : FnScope ["row", "undone", "entry", "k"] ["row"] (defScope s_L_undone) := ⟨rfl, rfl, rfl, by decide +kernel, rfl, by decide +kernel, by decide +kernel⟩
def m_L_undone : MS := (sSeq (sSet 1 (mComp (mIter (mVar 0)) (.nm 2) tYesM (mC (.int 0)) [2]))
    (sSeq (sFor (mRng1 (mB (mCall fLen (bCons (mBV 0) bNil)))) (.nm 3) (sPut 1 (mB (mBin fIx (mBV 0) (mBV 3))) (mVar 3)))
    (sRetV 1)))
def f_L_undone : Fn := runF 1 4 m_L_undone

abbrev s_L_pairs : Stmt := topS 61
theorem sc_L_pairs : FnScope ["nodes", "pairs", "a", "b"] ["nodes"] (defScope s_L_pairs) := ⟨rfl, rfl, rfl, by decide +kernel, rfl, by decide +kernel, by decide +kernel⟩
def m_L_pairs : MS := (sSeq (sSet 1 (mCall fLst mNil))
    (sSeq (sFor (mRng1 (mBV 0)) (.nm 2) (sFor (mRng2 (mB (mBin fAddL (mBV 2) (mB (mC (.int 1))))) (mBV 0)) (.nm 3) (sApp 1 (mCall fTup (mCons (mVar 2) (mCons (mVar 3) mNil))))))
    (sRetV 1)))
def f_L_pairs : Fn := runF 1 4 m_L_pairs

abbrev s_L_edge : Stmt := topS 62
theorem sc_L_edge : FnScope ["a", "b"] ["a", "b"] (defScope s_L_edge) := ⟨rfl, rfl, rfl, by decide +kernel, rfl, by decide +kernel, by decide +kernel⟩
def m_L_edge : MS := (sRet (mCall fTup (mCons (mCall fMin (bCons (mBV 0) (bCons (mBV 1) bNil))) (mCons (mCall fMax (bCons (mBV 0) (bCons (mBV 1) bNil))) mNil))))
def f_L_edge : Fn := runF 2 2 m_L_edge

abbrev s_L_moved : Stmt := topS 63
theorem sc_L_moved : FnScope ["edges", "row", "edge"] ["edges", "row"] (defScope s_L_moved) := ⟨rfl, rfl, rfl, by decide +kernel, rfl, by decide +kernel, by decide +kernel⟩
def m_L_moved : MS := (sRet (mCall fTuple (bCons (mB (mCall fSorted (bCons (mB (mComp (mIter (mVar 0)) (.nm 2) tYesM (mCall f_L_edge (mCons (mBin fIx (mBV 1) (mB (mBin fIx (mBV 2) (mB (mC (.int 0)))))) (mCons (mBin fIx (mBV 1) (mB (mBin fIx (mBV 2) (mB (mC (.int 1)))))) mNil))) [2])) bNil))) bNil)))
def f_L_moved : Fn := runF 2 3 m_L_moved

abbrev s_L_made : Stmt := topS 64
theorem sc_L_made : FnScope ["first", "last", "turned", "edge"] ["first", "last"] (defScope s_L_made) := ⟨rfl, rfl, rfl, by decide +kernel, rfl, by decide +kernel, by decide +kernel⟩
def m_L_made : MS := (sSeq (sSet 2 (mComp (mIter (mBin fIx (mBV 1) (mB (mC (.int 1))))) (.nm 3) tYesM (mCall fTup (mCons (mBin fIx (mBV 3) (mB (mC (.int 1)))) (mCons (mBin fIx (mBV 3) (mB (mC (.int 0)))) mNil))) [3]))
    (sFrz [2] (sRet (mCall f_alike (mCons (mCall f_make_graph (mCons (mBin fIx (mBV 0) (mB (mC (.int 0)))) (mCons (mComp (mIter (mBin fIx (mBV 0) (mB (mC (.int 1))))) (.nm 3) tYesM (mVar 3) [3]) mNil))) (mCons (mCall f_make_graph (mCons (mBin fIx (mBV 1) (mB (mC (.int 0)))) (mCons (mVar 2) mNil))) mNil))))))
def f_L_made : Fn := runF 2 4 m_L_made

abbrev s_L_join : Stmt := topS 65
theorem sc_L_join : FnScope ["rows"] ["rows"] (defScope s_L_join) := ⟨rfl, rfl, rfl, by decide +kernel, rfl, by decide +kernel, by decide +kernel⟩
def m_L_join : MS := (sSeq (sIf (mTest (mB (mBin fEq (mB (mCall fLen (bCons (mBV 0) bNil))) (mB (mC (.int 1)))))) (sRet (mCall f_joined_alike (mCons (mBin fIx (mBV 0) (mB (mC (.int 0)))) mNil))) sNop)
    (sSeq (sIf (mTest (mB (mBin fEq (mB (mCall fLen (bCons (mBV 0) bNil))) (mB (mC (.int 2)))))) (sRet (mCall f_joined_alike (mCons (mBin fIx (mBV 0) (mB (mC (.int 0)))) (mCons (mBin fIx (mBV 0) (mB (mC (.int 1)))) mNil)))) sNop)
    (sSeq (sIf (mTest (mB (mBin fEq (mB (mCall fLen (bCons (mBV 0) bNil))) (mB (mC (.int 3)))))) (sRet (mCall f_joined_alike (mCons (mBin fIx (mBV 0) (mB (mC (.int 0)))) (mCons (mBin fIx (mBV 0) (mB (mC (.int 1)))) (mCons (mBin fIx (mBV 0) (mB (mC (.int 2)))) mNil))))) sNop)
    (sSeq (sIf (mTest (mB (mBin fEq (mB (mCall fLen (bCons (mBV 0) bNil))) (mB (mC (.int 4)))))) (sRet (mCall f_joined_alike (mCons (mBin fIx (mBV 0) (mB (mC (.int 0)))) (mCons (mBin fIx (mBV 0) (mB (mC (.int 1)))) (mCons (mBin fIx (mBV 0) (mB (mC (.int 2)))) (mCons (mBin fIx (mBV 0) (mB (mC (.int 3)))) mNil)))))) sNop)
    (sRet (mCall f_joined_alike (mCons (mBin fIx (mBV 0) (mB (mC (.int 0)))) (mCons (mBin fIx (mBV 0) (mB (mC (.int 1)))) (mCons (mBin fIx (mBV 0) (mB (mC (.int 2)))) (mCons (mBin fIx (mBV 0) (mB (mC (.int 3)))) (mCons (mBin fIx (mBV 0) (mB (mC (.int 4)))) mNil)))))))))))
def f_L_join : Fn := runF 1 1 m_L_join

abbrev s_L_chain : Stmt := topS 66
theorem sc_L_chain : FnScope ["rows"] ["rows"] (defScope s_L_chain) := ⟨rfl, rfl, rfl, by decide +kernel, rfl, by decide +kernel, by decide +kernel⟩
def m_L_chain : MS := (sSeq (sIf (mTest (mB (mBin fEq (mB (mCall fLen (bCons (mBV 0) bNil))) (mB (mC (.int 1)))))) (sRet (mCall f_joined_witness (mCons (mBin fIx (mBV 0) (mB (mC (.int 0)))) mNil))) sNop)
    (sSeq (sIf (mTest (mB (mBin fEq (mB (mCall fLen (bCons (mBV 0) bNil))) (mB (mC (.int 2)))))) (sRet (mCall f_joined_witness (mCons (mBin fIx (mBV 0) (mB (mC (.int 0)))) (mCons (mBin fIx (mBV 0) (mB (mC (.int 1)))) mNil)))) sNop)
    (sSeq (sIf (mTest (mB (mBin fEq (mB (mCall fLen (bCons (mBV 0) bNil))) (mB (mC (.int 3)))))) (sRet (mCall f_joined_witness (mCons (mBin fIx (mBV 0) (mB (mC (.int 0)))) (mCons (mBin fIx (mBV 0) (mB (mC (.int 1)))) (mCons (mBin fIx (mBV 0) (mB (mC (.int 2)))) mNil))))) sNop)
    (sSeq (sIf (mTest (mB (mBin fEq (mB (mCall fLen (bCons (mBV 0) bNil))) (mB (mC (.int 4)))))) (sRet (mCall f_joined_witness (mCons (mBin fIx (mBV 0) (mB (mC (.int 0)))) (mCons (mBin fIx (mBV 0) (mB (mC (.int 1)))) (mCons (mBin fIx (mBV 0) (mB (mC (.int 2)))) (mCons (mBin fIx (mBV 0) (mB (mC (.int 3)))) mNil)))))) sNop)
    (sRet (mCall f_joined_witness (mCons (mBin fIx (mBV 0) (mB (mC (.int 0)))) (mCons (mBin fIx (mBV 0) (mB (mC (.int 1)))) (mCons (mBin fIx (mBV 0) (mB (mC (.int 2)))) (mCons (mBin fIx (mBV 0) (mB (mC (.int 3)))) (mCons (mBin fIx (mBV 0) (mB (mC (.int 4)))) mNil)))))))))))
def f_L_chain : Fn := runF 1 1 m_L_chain

abbrev s_L_product : Stmt := topS 67
theorem sc_L_product : FnScope ["rows", "product", "row"] ["rows"] (defScope s_L_product) := ⟨rfl, rfl, rfl, by decide +kernel, rfl, by decide +kernel, by decide +kernel⟩
def m_L_product : MS := (sSeq (sSet 1 (mBin fIx (mBV 0) (mB (mC (.int 0)))))
    (sSeq (sFor (mIter (mSl (mBV 0) (oSome (mB (mC (.int 1)))) oNone)) (.nm 2) (sSet 1 (mCall fTuple (bCons (mB (mCall f_L_after (mCons (mVar 1) (mCons (mVar 2) mNil)))) bNil))))
    (sRetV 1)))
def f_L_product : Fn := runF 1 3 m_L_product

abbrev s_L_no_join : Stmt := topS 68
theorem sc_L_no_join : FnScope ["rows", "e"] ["rows"] (defScope s_L_no_join) := ⟨rfl, rfl, rfl, by decide +kernel, rfl, by decide +kernel, by decide +kernel⟩
def m_L_no_join : MS := (sSeq (sTryAs 1 cat_BadStatement (sDrop (mCall f_L_join (mCons (mVar 0) mNil))) (fun c p => sup p (sSeq (sIf (tOrM (mTest (mB (mC (.bl (isv_BadGraph c))))) (tOrM (mTest (mB (mC (.bl (isv_BadWitness c))))) (mTest (mB (mC (.bl (isv_BadPermutation c))))))) (sRet (mC (.bl false))) sNop)
    (sRet (mAnd (mB (mC (.bl (isv_UnseenError c)))) (mB (mC (.bl (isv_ValueError c)))))))))
    (sRet (mC (.bl false))))
def f_L_no_join : Fn := runF 1 2 m_L_no_join

abbrev s_L_no_chain : Stmt := topS 69
theorem sc_L_no_chain : FnScope ["rows", "e"] ["rows"] (defScope s_L_no_chain) := ⟨rfl, rfl, rfl, by decide +kernel, rfl, by decide +kernel, by decide +kernel⟩
def m_L_no_chain : MS := (sSeq (sTryAs 1 cat_BadPermutation (sDrop (mCall f_L_chain (mCons (mVar 0) mNil))) (fun c p => sup p (sSeq (sIf (tOrM (mTest (mB (mC (.bl (isv_BadGraph c))))) (tOrM (mTest (mB (mC (.bl (isv_BadWitness c))))) (tOrM (mTest (mB (mC (.bl (isv_BadDraw c))))) (mTest (mB (mC (.bl (isv_BadStatement c)))))))) (sRet (mC (.bl false))) sNop)
    (sRet (mAnd (mB (mC (.bl (isv_UnseenError c)))) (mB (mC (.bl (isv_ValueError c)))))))))
    (sRet (mC (.bl false))))
def f_L_no_chain : Fn := runF 1 2 m_L_no_chain

abbrev s_L_stretch : Stmt := topS 70
theorem sc_L_stretch : FnScope ["told", "graphs", "rows", "a", "b", "due", "row", "joined", "whole", "turned", "k", "undone"] ["told", "graphs", "rows", "a", "b"] (defScope s_L_stretch) := ⟨rfl, rfl, rfl, by decide +kernel, rfl, by decide +kernel, by decide +kernel⟩
def m_L_stretch : MS := (sSeq (sSet 5 (mCall fTup (mCons (mC (.str (Str.ofString "alike"))) (mCons (mBin fIx (mBV 1) (mBV 3)) (mCons (mBin fIx (mBV 1) (mBV 4)) mNil)))))
    (sSeq (sSet 6 (mCall f_L_product (mCons (mSl (mBV 2) (oSome (mBV 3)) (oSome (mBV 4))) mNil)))
    (sSeq (sSet 7 (mCall f_L_join (mCons (mSl (mBV 0) (oSome (mBV 3)) (oSome (mBV 4))) mNil)))
    (sSeq (sSet 8 (mCall f_L_chain (mCons (mSl (mBV 2) (oSome (mBV 3)) (oSome (mBV 4))) mNil)))
    (sSeq (sIf (tOrM (tNotM (mTest (mB (mCall (lent f_L_same) (bCons (mBV 7) (bCons (mBV 5) bNil)))))) (tNotM (mTest (mB (mCall (lent f_L_same) (bCons (mBV 8) (bCons (mBV 6) bNil))))))) (sRet (mC (.bl false))) sNop)
    (sSeq (sFrz [6] (sIf (tOrM (mTest (mB (mBin fNe (mB (mCall f_L_moved (mCons (mBin fIx (mB (mBin fIx (mBV 1) (mBV 3))) (mB (mC (.int 1)))) (mCons (mVar 6) mNil)))) (mB (mBin fIx (mB (mBin fIx (mBV 1) (mBV 4))) (mB (mC (.int 1)))))))) (tNotM (mTest (mB (mCall f_L_same (mCons (mCall (lent f_holds) (bCons (mBV 7) (bCons (mBV 8) bNil))) (mCons (mC (.bl true)) mNil))))))) (sRet (mC (.bl false))) sNop))
    (sSeq (sSet 9 (mComp (mRng1 (mB (mBin fSub (mBV 4) (mBV 3)))) (.nm 10) tYesM (mCall f_swap_statement (mCons (mBin fIx (mBV 0) (mB (mBin fSub (mB (mBin fSub (mBV 4) (mB (mC (.int 1))))) (mBV 10)))) mNil)) [10]))
    (sSeq (sSet 11 (mComp (mRng1 (mB (mBin fSub (mBV 4) (mBV 3)))) (.nm 10) tYesM (mCall f_swap_witness (mCons (mBin fIx (mBV 0) (mB (mBin fSub (mB (mBin fSub (mBV 4) (mB (mC (.int 1))))) (mBV 10)))) (mCons (mBin fIx (mBV 2) (mB (mBin fSub (mB (mBin fSub (mBV 4) (mB (mC (.int 1))))) (mBV 10)))) mNil))) [10]))
    (sSeq (sFrz [9] (sIf (tNotM (mTest (mB (mCall f_L_same (mCons (mCall f_L_join (mCons (mVar 9) mNil)) (mCons (mCall fTup (mCons (mC (.str (Str.ofString "alike"))) (mCons (mBin fIx (mBV 1) (mBV 4)) (mCons (mBin fIx (mBV 1) (mBV 3)) mNil)))) mNil)))))) (sRet (mC (.bl false))) sNop))
    (sFrz [6, 11] (sRet (mCall f_L_same (mCons (mCall f_L_chain (mCons (mVar 11) mNil)) (mCons (mCall fTuple (bCons (mB (mCall f_L_undone (mCons (mVar 6) mNil))) bNil)) mNil))))))))))))))
def f_L_stretch : Fn := runF 5 12 m_L_stretch

abbrev s_L_other_graph : Stmt := topS 71
theorem sc_L_other_graph : FnScope ["graph", "row", "pairs", "odd", "edges", "edge"] ["graph", "row"] (defScope s_L_other_graph) := ⟨rfl, rfl, rfl, by decide +kernel, rfl, by decide +kernel, by decide +kernel⟩
def m_L_other_graph : MS := (sSeq (sSet 2 (mCall f_L_pairs (mCons (mBin fIx (mBV 0) (mB (mC (.int 0)))) mNil)))
    (sSeq (sIf (tOrM (mTest (mB (mBin fEq (mB (mCall fLen (bCons (mBV 2) bNil))) (mB (mC (.int 0)))))) (mTest (mB (mBin fEq (mB (mBin fMod (mB (mCall fInt (bCons (mB (mBin fIx (mBV 1) (mB (mC (.int 0))))) bNil))) (mB (mC (.int 5))))) (mB (mC (.int 0))))))) (sRet (mCall fTup (mCons (mBin fAddL (mB (mC (.int 1))) (mB (mBin fMod (mB (mCall fInt (bCons (mB (mBin fIx (mBV 0) (mB (mC (.int 0))))) bNil))) (mB (mC (.int 6)))))) (mCons (mCall fTup mNil) mNil)))) sNop)
    (sSeq (sSet 3 (mBin fIx (mBV 2) (mB (mBin fMod (mB (mCall fInt (bCons (mB (mBin fIx (mBV 1) (mB (mC (.int 1))))) bNil))) (mB (mCall fLen (bCons (mBV 2) bNil)))))))
    (sSeq (sSet 4 (mComp (mIter (mBin fIx (mBV 0) (mB (mC (.int 1))))) (.nm 5) (mTest (mB (mBin fNe (mBV 5) (mBV 3)))) (mVar 5) [5]))
    (sSeq (sIf (mTest (mB (mBin fNotIn (mBV 3) (mB (mBin fIx (mBV 0) (mB (mC (.int 1)))))))) (sApp 4 (mVar 3)) sNop)
    (sRet (mCall fTup (mCons (mBin fIx (mBV 0) (mB (mC (.int 0)))) (mCons (mCall fTuple (bCons (mB (mCall fSorted (bCons (mBV 4) bNil))) bNil)) mNil)))))))))
def f_L_other_graph : Fn := runF 2 6 m_L_other_graph

abbrev s_L_wrong_joins : Stmt := topS 72
theorem sc_L_wrong_joins : FnScope ["told", "graphs", "row", "count", "place", "ring_graph", "others", "other", "last"] ["told", "graphs", "row"] (defScope s_L_wrong_joins) := ⟨rfl, rfl, rfl, by decide +kernel, rfl, by decide +kernel, by decide +kernel⟩
def m_L_wrong_joins : MS := (sSeq (sSet 3 (mCall fLen (bCons (mBV 0) bNil)))
    (sSeq (sSet 4 (mBin fMod (mB (mCall fInt (bCons (mB (mBin fIx (mBV 2) (mB (mC (.int 0))))) bNil))) (mBV 3)))
    (sSeq (sSet 5 (mCall f_make_graph (mCons (mC (.int 3)) (mCons (mCall fLst (mCons (mCall fTup (mCons (mC (.int 0)) (mCons (mC (.int 1)) mNil))) (mCons (mCall fTup (mCons (mC (.int 1)) (mCons (mC (.int 2)) mNil))) (mCons (mCall fTup (mCons (mC (.int 0)) (mCons (mC (.int 2)) mNil))) mNil)))) mNil))))
    (sSeq (sFrz [5] (sSet 6 (mCall fLst (mCons (mCall f_ring (mCons (mVar 5) mNil)) (mCons (mCall f_circuit (mCons (mC (.int 1)) (mCons (mCall fLst (mCons (mCall fTup (mCons (mC (.str (Str.ofString "not"))) (mCons (mC (.int 0)) mNil))) mNil)) mNil))) (mCons (mCall f_both (mCons (mBin fIx (mBV 0) (mBV 4)) (mCons (mBin fIx (mBV 0) (mBV 4)) mNil))) mNil))))))
    (sSeq (sIf (tNotM (mTest (mB (mCall f_L_no_join (mCons (mBin fAddL (mB (mBin fAddL (mB (mSl (mBV 0) oNone (oSome (mBV 4)))) (mB (mCall fLst (mCons (mBin fIx (mBV 6) (mB (mBin fMod (mB (mCall fInt (bCons (mB (mBin fIx (mBV 2) (mB (mC (.int 1))))) bNil))) (mB (mC (.int 3)))))) mNil))))) (mB (mSl (mBV 0) (oSome (mB (mBin fAddL (mBV 4) (mB (mC (.int 1)))))) oNone))) mNil))))) (sRet (mC (.bl false))) sNop)
    (sSeq (sIf (mTest (mB (mBin fEq (mBV 3) (mB (mC (.int 1)))))) (sRet (mC (.bl true))) sNop)
    (sSeq (sSet 4 (mBin fAddL (mB (mC (.int 1))) (mB (mBin fMod (mB (mCall fInt (bCons (mB (mBin fIx (mBV 2) (mB (mC (.int 2))))) bNil))) (mB (mBin fSub (mBV 3) (mB (mC (.int 1)))))))))
    (sSeq (sSet 7 (mCall f_L_other_graph (mCons (mBin fIx (mBV 1) (mBV 4)) (mCons (mSl (mBV 2) (oSome (mB (mC (.int 3)))) oNone) mNil))))
    (sSeq (sSet 8 (mBin fIx (mBV 1) (mB (mBin fAddL (mBV 4) (mB (mC (.int 1)))))))
    (sSeq (sIf (mTest (mB (mBin fNe (mB (mBin fIx (mBV 7) (mB (mC (.int 0))))) (mB (mBin fIx (mB (mBin fIx (mBV 1) (mBV 4))) (mB (mC (.int 0)))))))) (sFrz [7] (sSet 8 (mVar 7))) sNop)
    (sFrz [7] (sRet (mCall f_L_no_join (mCons (mBin fAddL (mB (mBin fAddL (mB (mSl (mBV 0) oNone (oSome (mBV 4)))) (mB (mCall fLst (mCons (mCall f_L_made (mCons (mVar 7) (mCons (mVar 8) mNil))) mNil))))) (mB (mSl (mBV 0) (oSome (mB (mBin fAddL (mBV 4) (mB (mC (.int 1)))))) oNone))) mNil))))))))))))))
def f_L_wrong_joins : Fn := runF 3 9 m_L_wrong_joins

abbrev s_L_wrong_chains : Stmt := topS 73
theorem sc_L_wrong_chains : FnScope ["rows", "row", "place", "good", "at", "near", "low", "twice", "bad", "longer"] ["rows", "row"] (defScope s_L_wrong_chains) := ⟨rfl, rfl, rfl, by decide +kernel, rfl, by decide +kernel, by decide +kernel⟩
def m_L_wrong_chains : MS := (sSeq (sSet 2 (mBin fMod (mB (mCall fInt (bCons (mB (mBin fIx (mBV 1) (mB (mC (.int 0))))) bNil))) (mB (mCall fLen (bCons (mBV 0) bNil)))))
    (sSeq (sSet 3 (mBin fIx (mBV 0) (mBV 2)))
    (sSeq (sSet 4 (mBin fMod (mB (mCall fInt (bCons (mB (mBin fIx (mBV 1) (mB (mC (.int 1))))) bNil))) (mB (mCall fLen (bCons (mBV 3) bNil)))))
    (sSeq (sSet 5 (mBin fAddL (mB (mBin fAddL (mB (mSl (mBV 3) oNone (oSome (mBV 4)))) (mB (mCall fTup (mCons (mCall fLen (bCons (mBV 3) bNil)) mNil))))) (mB (mSl (mBV 3) (oSome (mB (mBin fAddL (mBV 4) (mB (mC (.int 1)))))) oNone))))
    (sSeq (sSet 6 (mBin fAddL (mB (mBin fAddL (mB (mSl (mBV 3) oNone (oSome (mBV 4)))) (mB (mCall fTup (mCons (mBin fSub (mB (mBin fSub (mB (mC (.int 0))) (mB (mC (.int 1))))) (mB (mBin fMod (mB (mCall fInt (bCons (mB (mBin fIx (mBV 1) (mB (mC (.int 3))))) bNil))) (mB (mC (.int 3)))))) mNil))))) (mB (mSl (mBV 3) (oSome (mB (mBin fAddL (mBV 4) (mB (mC (.int 1)))))) oNone))))
    (sSeq (sSet 7 (mBin fAddL (mB (mBin fAddL (mB (mSl (mBV 3) oNone (oSome (mBV 4)))) (mB (mCall fTup (mCons (mBin fIx (mBV 3) (mB (mBin fSub (mBV 4) (mB (mC (.int 1)))))) mNil))))) (mB (mSl (mBV 3) (oSome (mB (mBin fAddL (mBV 4) (mB (mC (.int 1)))))) oNone))))
    (sSeq (sSet 8 (mBin fIx (mB (mCall fLst (mCons (mVar 5) (mCons (mVar 6) (mCons (mVar 7) (mCons (mBin fAddL (mBV 3) (mB (mCall fTup (mCons (mC (.int 99)) mNil)))) (mCons (mCall fTup (mCons (mC (.int 0)) (mCons (mC (.int 1)) (mCons (mC (.int 2)) (mCons (mC (.int 3)) (mCons (mC (.int 4)) (mCons (mC (.int 5)) (mCons (mC (.int 6)) mNil)))))))) (mCons (mCall fTup (mCons (mC (.int 1)) (mCons (mC (.int 1)) mNil))) mNil)))))))) (mB (mBin fMod (mB (mCall fInt (bCons (mB (mBin fIx (mBV 1) (mB (mC (.int 2))))) bNil))) (mB (mC (.int 6)))))))
    (sSeq (sIf (tAndM (mTest (mB (mBin fEq (mB (mCall fLen (bCons (mBV 3) bNil))) (mB (mC (.int 1)))))) (mTest (mB (mBin fEq (mBV 8) (mBV 3))))) (sSet 8 (mVar 5)) sNop)
    (sSeq (sIf (tOrM (tNotM (mTest (mB (mCall f_L_no_chain (mCons (mBin fAddL (mB (mBin fAddL (mB (mSl (mBV 0) oNone (oSome (mBV 2)))) (mB (mCall fLst (mCons (mVar 8) mNil))))) (mB (mSl (mBV 0) (oSome (mB (mBin fAddL (mBV 2) (mB (mC (.int 1)))))) oNone))) mNil))))) (tNotM (mTest (mB (mCall f_L_no_chain (mCons (mCall fLst (mCons (mVar 8) mNil)) mNil)))))) (sRet (mC (.bl false))) sNop)
    (sSeq (sIf (mTest (mB (mBin fEq (mB (mCall fLen (bCons (mBV 0) bNil))) (mB (mC (.int 1)))))) (sRet (mC (.bl true))) sNop)
    (sSeq (sSet 9 (mBin fAddL (mBV 3) (mB (mCall fTup (mCons (mCall fLen (bCons (mBV 3) bNil)) mNil)))))
    (sSeq (sIf (tNotM (mTest (mB (mCall f_L_no_chain (mCons (mBin fAddL (mB (mBin fAddL (mB (mSl (mBV 0) oNone (oSome (mBV 2)))) (mB (mCall fLst (mCons (mVar 9) mNil))))) (mB (mSl (mBV 0) (oSome (mB (mBin fAddL (mBV 2) (mB (mC (.int 1)))))) oNone))) mNil))))) (sRet (mC (.bl false))) sNop)
    (sRet (mCall f_L_no_chain (mCons (mBin fAddL (mB (mBin fAddL (mB (mSl (mBV 0) oNone (oSome (mBV 2)))) (mB (mCall fLst (mCons (mCall fTup mNil) mNil))))) (mB (mSl (mBV 0) (oSome (mB (mBin fAddL (mBV 2) (mB (mC (.int 1)))))) oNone))) mNil)))))))))))))))
def f_L_wrong_chains : Fn := runF 2 10 m_L_wrong_chains

abbrev s_law : Stmt := topS 74
theorem sc_law : FnScope ["script", "row", "size", "count", "pairs", "drawn", "limit", "graphs", "k", "rows", "told", "number", "due", "whole", "cut"] ["script"] (defScope s_law) := ⟨rfl, rfl, rfl, by decide +kernel, rfl, by decide +kernel, by decide +kernel⟩
def m_law : MS := (sSeq (sSet 1 (mCall f_L_numbers (mCons (mCall f_L_cell (mCons (mVar 0) (mCons (mC (.int 0)) mNil))) (mCons (mC (.int 16)) mNil))))
    (sSeq (sSet 2 (mBin fAddL (mB (mC (.int 1))) (mB (mBin fMod (mB (mCall fInt (bCons (mB (mBin fIx (mBV 1) (mB (mC (.int 0))))) bNil))) (mB (mC (.int 6)))))))
    (sSeq (sSet 3 (mBin fAddL (mB (mC (.int 1))) (mB (mBin fMod (mB (mCall fInt (bCons (mB (mBin fIx (mBV 1) (mB (mC (.int 1))))) bNil))) (mB (mC (.int 5)))))))
    (sSeq (sSet 4 (mCall f_L_pairs (mCons (mVar 2) mNil)))
    (sSeq (sSet 5 (mCall f_L_numbers (mCons (mCall f_L_cell (mCons (mVar 0) (mCons (mC (.int 1)) mNil))) (mCons (mCall fLen (bCons (mBV 4) bNil)) mNil))))
    (sSeq (sSet 6 (mBin fIx (mB (mCall fLst (mCons (mC (.int 1)) (mCons (mC (.int 2)) (mCons (mC (.int 2)) (mCons (mC (.int 3)) (mCons (mC (.int 0)) mNil))))))) (mB (mBin fMod (mB (mCall fInt (bCons (mB (mBin fIx (mBV 1) (mB (mC (.int 2))))) bNil))) (mB (mC (.int 5)))))))
    (sSeq (sSet 7 (mCall fLst (mCons (mCall fTup (mCons (mVar 2) (mCons (mCall fTuple (bCons (mB (mComp (mRng1 (mB (mCall fLen (bCons (mBV 4) bNil)))) (.nm 8) (mTest (mB (mBin fLt (mB (mBin fMod (mB (mCall fInt (bCons (mB (mBin fIx (mBV 5) (mBV 8))) bNil))) (mB (mC (.int 3))))) (mBV 6)))) (mBin fIx (mBV 4) (mBV 8)) [8])) bNil)) mNil))) mNil)))
    (sSeq (sSet 9 (mCall fLst mNil))
    (sSeq (sSet 10 (mCall fLst mNil))
    (sSeq (sFor (mRng1 (mBV 3)) (.nm 8) (sSeq (sSet 11 (mBin fIx (mB (mCall f_L_numbers (mCons (mCall f_L_cell (mCons (mVar 0) (mCons (mBin fAddL (mB (mC (.int 2))) (mBV 8)) mNil))) (mCons (mC (.int 1)) mNil)))) (mB (mC (.int 0)))))
    (sSeq (sApp 9 (mCall fTuple (bCons (mB (mCall f_L_permutation (mCons (mVar 2) (mCons (mBin fMod (mB (mCall fInt (bCons (mBV 11) bNil))) (mB (mCall f_L_factorial (mCons (mVar 2) mNil)))) mNil)))) bNil)))
    (sSeq (sApp 7 (mCall fTup (mCons (mVar 2) (mCons (mCall f_L_moved (mCons (mBin fIx (mB (mBin fIx (mBV 7) (mBV 8))) (mB (mC (.int 1)))) (mCons (mBin fIx (mBV 9) (mBV 8)) mNil))) mNil))))
    (sApp 10 (mCall f_L_made (mCons (mBin fIx (mBV 7) (mBV 8)) (mCons (mBin fIx (mBV 7) (mB (mBin fAddL (mBV 8) (mB (mC (.int 1)))))) mNil))))))))
    (sSeq (sFor (mRng1 (mBV 3)) (.nm 8) (sIf (tOrM (tNotM (mTest (mB (mCall (lent f_L_stretch) (bCons (mBV 10) (bCons (mBV 7) (bCons (mBV 9) (bCons (mB (mC (.int 0))) (bCons (mB (mBin fAddL (mBV 8) (mB (mC (.int 1))))) bNil))))))))) (tNotM (mTest (mB (mCall (lent f_L_stretch) (bCons (mBV 10) (bCons (mBV 7) (bCons (mBV 9) (bCons (mBV 8) (bCons (mBV 3) bNil)))))))))) (sRet (mC (.bl false))) sNop))
    (sSeq (sSet 12 (mCall fTup (mCons (mC (.str (Str.ofString "alike"))) (mCons (mBin fIx (mBV 7) (mB (mC (.int 0)))) (mCons (mBin fIx (mBV 7) (mBV 3)) mNil)))))
    (sSeq (sFrz [9] (sSet 13 (mCall f_L_product (mCons (mVar 9) mNil))))
    (sSeq (sFor (mRng2 (mB (mC (.int 1))) (mBV 3)) (.nm 14) (sSeq (sIf (tNotM (mTest (mB (mCall f_L_same (mCons (mCall f_joined_alike (mCons (mCall f_L_join (mCons (mSl (mBV 10) oNone (oSome (mBV 14))) mNil)) (mCons (mCall f_L_join (mCons (mSl (mBV 10) (oSome (mBV 14)) oNone) mNil)) mNil))) (mCons (mVar 12) mNil)))))) (sRet (mC (.bl false))) sNop)
    (sIf (tNotM (mTest (mB (mCall (lent f_L_same) (bCons (mB (mCall f_joined_witness (mCons (mCall f_L_chain (mCons (mSl (mBV 9) oNone (oSome (mBV 14))) mNil)) (mCons (mCall f_L_chain (mCons (mSl (mBV 9) (oSome (mBV 14)) oNone) mNil)) mNil)))) (bCons (mBV 13) bNil)))))) (sRet (mC (.bl false))) sNop)))
    (sSeq (sIf (tOrM (tNotM (mTest (mB (mCall (lent f_L_wrong_joins) (bCons (mBV 10) (bCons (mBV 7) (bCons (mB (mSl (mBV 1) (oSome (mB (mC (.int 3)))) oNone)) bNil))))))) (tNotM (mTest (mB (mCall (lent f_L_wrong_chains) (bCons (mBV 9) (bCons (mB (mSl (mBV 1) (oSome (mB (mC (.int 10)))) oNone)) bNil))))))) (sRet (mC (.bl false))) sNop)
    (sSeq (sIf (tOrM (tNotM (mTest (mB (mCall f_L_same (mCons (mCall f_joined_witness (mCons (mCall fTup mNil) mNil)) (mCons (mCall fTup mNil) mNil)))))) (tNotM (mTest (mB (mCall f_L_same (mCons (mCall f_joined_witness (mCons (mCall fTup mNil) (mCons (mCall fTup mNil) (mCons (mCall fTup mNil) mNil)))) (mCons (mCall fTup mNil) mNil))))))) (sRet (mC (.bl false))) sNop)
    (sSeq (sFor (mRng1 (mBV 3)) (.nm 8) (sIf (tNotM (mTest (mB (mCall f_L_same (mCons (mBin fIx (mBV 10) (mBV 8)) (mCons (mCall fTup (mCons (mC (.str (Str.ofString "alike"))) (mCons (mBin fIx (mBV 7) (mBV 8)) (mCons (mBin fIx (mBV 7) (mB (mBin fAddL (mBV 8) (mB (mC (.int 1)))))) mNil)))) mNil)))))) (sRet (mC (.bl false))) sNop))
    (sFrz [9, 10] (sRet (mAnd (mB (mCall f_L_same (mCons (mCall f_L_join (mCons (mVar 10) mNil)) (mCons (mVar 12) mNil)))) (mB (mCall (lent f_L_same) (bCons (mB (mCall f_L_chain (mCons (mVar 9) mNil))) (bCons (mBV 13) bNil))))))))))))))))))))))))
def f_law : Fn := runF 1 15 m_law

section
variable {P : Program} {w : World} {K : PySem.W.Frag} {mg : Str → Option Value} {base : Heap} {g : G0}
theorem hu64 {k : Nat} {A : Around} (hr : Room k A) : A.units + 64 < cLine := hr.units
theorem hu65 {k : Nat} {A : Around} (hr : Room k A) : A.units + 65 < cLine := by have := hr.un; omega
theorem hcat_BadPermutation (T : Tx K mg g) : ∀ c b, cat_BadPermutation c = some b → PySem.W.exmOne K (.ref (g.cl c)) (.ref (g.cl 1)) = some b := T.exm_BadPermutation
theorem hcat_BadStatement (T : Tx K mg g) : ∀ c b, cat_BadStatement c = some b → PySem.W.exmOne K (.ref (g.cl c)) (.ref (g.cl 4)) = some b := T.exm_BadStatement
theorem ok_is_permutation {a : Addr} {fd : FuncData} (F : Fun K "is_permutation" "is_permutation" s_is_permutation a fd) (hm : mg "is_permutation" = some (.ref a)) (hb : Binds K fd ["row"] []) (T : Tx K mg g) : FD P w K mg base g 1 "is_permutation" ["row"] f_is_permutation :=
  okF F sc_is_permutation hm hb m_is_permutation fun cdv A outer s H E hr =>
    (dss_one (ds_ret (de_and (de_b (de_le (de_b (de_len rfl T.n_len (db_cons (de_v 0) db_nil))) (de_b (de_globI rfl T.c_LARGEST_SIZE.choose_spec)))) (de_one (de_b (de_eq (hu64 hr) (de_b (de_sorted (hu65 hr) rfl T.n_sorted (db_cons (de_v 0) db_nil))) (de_b (de_listR1 rfl rfl T.n_list rfl T.n_range (de_b (de_len rfl T.n_len (db_cons (de_v 0) db_nil)))))))))))
theorem ok_require_permutation {a : Addr} {fd : FuncData} (F : Fun K "require_permutation" "require_permutation" s_require_permutation a fd) (hm : mg "require_permutation" = some (.ref a)) (hb : Binds K fd ["row"] []) (T : Tx K mg g) (G_is_permutation : FD P w K mg base g 1 "is_permutation" ["row"] f_is_permutation) : FD P w K mg base g 2 "require_permutation" ["row"] f_require_permutation :=
  okF F sc_require_permutation hm hb m_require_permutation fun cdv A outer s H E hr =>
    (dss_one (ds_if (dt_not (dt_val (de_b (de_fn (G_is_permutation.mono (by omega)) hr (takes_of rfl rfl rfl rfl) rfl (da_cons (de_var 0) da_nil))))) (dss_one (ds_raise rfl (takes_of rfl rfl rfl rfl) T.e_BadPermutation rfl)) dss_nil))
theorem ok_inverse {a : Addr} {fd : FuncData} (F : Fun K "inverse" "inverse" s_inverse a fd) (hm : mg "inverse" = some (.ref a)) (hb : Binds K fd ["row"] []) (T : Tx K mg g) (G_require_permutation : FD P w K mg base g 2 "require_permutation" ["row"] f_require_permutation) : FD P w K mg base g 3 "inverse" ["row"] f_inverse :=
  okF F sc_inverse hm hb m_inverse fun cdv A outer s H E hr =>
    (dss_cons (ds_expr (de_fn (G_require_permutation.mono (by omega)) hr (takes_of rfl rfl rfl rfl) rfl (da_cons (de_var 0) da_nil)))
      (dss_one (ds_ret (de_tuple rfl T.n_tuple (db_cons (de_b (de_lc (own := [("a", 1)]) (pt := (.nm 1)) rfl sc_inverse.nd (di_rng1 rfl T.n_range (de_b (de_len rfl T.n_len (db_cons (de_v 0) db_nil)))) (blkOk_by (N := ["row", "a"]) (sc := defScope s_inverse) (by decide +kernel)) (by decide) (fun _ _ _ _ _ => (pg_name (i := 1) sc_inverse.nd rfl (.inl rfl))) (fun _ _ _ _ _ => dts_nil) (fun _ _ _ _ _ => (de_idx (hu65 hr) (de_v 0) (de_v 1))))) db_nil)))))
theorem ok_compose {a : Addr} {fd : FuncData} (F : Fun K "compose" "compose" s_compose a fd) (hm : mg "compose" = some (.ref a)) (hb : Binds K fd ["first", "second"] []) (T : Tx K mg g) (G_require_permutation : FD P w K mg base g 2 "require_permutation" ["row"] f_require_permutation) : FD P w K mg base g 3 "compose" ["first", "second"] f_compose :=
  okF F sc_compose hm hb m_compose fun cdv A outer s H E hr =>
    (dss_cons (ds_expr (de_fn (G_require_permutation.mono (by omega)) hr (takes_of rfl rfl rfl rfl) rfl (da_cons (de_var 0) da_nil)))
      (dss_cons (ds_expr (de_fn (G_require_permutation.mono (by omega)) hr (takes_of rfl rfl rfl rfl) rfl (da_cons (de_var 1) da_nil)))
      (dss_cons (ds_if (dt_ne (hu64 hr) (de_b (de_len rfl T.n_len (db_cons (de_v 0) db_nil))) (de_b (de_len rfl T.n_len (db_cons (de_v 1) db_nil)))) (dss_one (ds_raise rfl (takes_of rfl rfl rfl rfl) T.e_BadPermutation rfl)) dss_nil)
      (dss_one (ds_ret (de_tuple rfl T.n_tuple (db_cons (de_b (de_lc (own := [("a", 2)]) (pt := (.nm 2)) rfl sc_compose.nd (di_seq (de_var 0)) (blkOk_by (N := ["first", "second", "a"]) (sc := defScope s_compose) (by decide +kernel)) (by decide) (fun _ _ _ _ _ => (pg_name (i := 2) sc_compose.nd rfl (.inl rfl))) (fun _ _ _ _ _ => dts_nil) (fun _ _ _ _ _ => (de_ix (de_v 1) (de_v 2) (fun _ _ => rfl))))) db_nil)))))))
theorem ok_make_graph {a : Addr} {fd : FuncData} (F : Fun K "make_graph" "make_graph" s_make_graph a fd) (hm : mg "make_graph" = some (.ref a)) (hb : Binds K fd ["nodes", "edges"] []) (T : Tx K mg g) : FD P w K mg base g 1 "make_graph" ["nodes", "edges"] f_make_graph :=
  okF F sc_make_graph hm hb m_make_graph fun cdv A outer s H E hr =>
    (dss_cons (ds_if (dt_w (dw_or (dt_lt (de_v 0) (de_b de_int)) (dw_or1 (dt_gt (de_v 0) (de_b (de_globI rfl T.c_MOST_NODES.choose_spec)))))) (dss_one (ds_raise1 rfl (takes_of rfl rfl rfl rfl) T.e_BadGraph rfl (de_joined (.cons (de_b de_str) (.cons (de_b (de_fmt (de_b (de_globI rfl T.c_MOST_NODES.choose_spec)))) (.cons (de_b de_str) .nil)))))) dss_nil)
      (dss_cons (ds_set (i := 2) hT sc_make_graph.nd rfl (.inl rfl) (de_lst da_nil))
      (dss_cons (ds_for (pt := (.tp [3, 4])) hT (passes_of rfl) rfl (di_seq (de_var 1)) (pg_tup rfl (pgs_cons (pg_name (i := 3) sc_make_graph.nd rfl (.inl rfl)) (pgs_cons (pg_name (i := 4) sc_make_graph.nd rfl (.inl rfl)) pgs_nil))) (dss_cons (ds_set (i := 5) hT sc_make_graph.nd rfl (.inl rfl) (de_tup (da_cons (de_min rfl rfl T.n_min (db_cons (de_v 3) (db_cons (de_v 4) db_nil))) (da_cons (de_max rfl rfl T.n_max (db_cons (de_v 3) (db_cons (de_v 4) db_nil))) da_nil))))
      (dss_cons (ds_if (dt_w (dw_or (dt_lt (de_b (de_ix (de_v 5) (de_b de_int) (fun _ _ => rfl))) (de_b de_int)) (dw_or1 (dt_ge (de_b (de_ix (de_v 5) (de_b de_int) (fun _ _ => rfl))) (de_v 0))))) (dss_one (ds_raise rfl (takes_of rfl rfl rfl rfl) T.e_BadGraph rfl)) dss_nil)
      (dss_cons (ds_if (dt_eq (hu64 hr) (de_v 3) (de_v 4)) (dss_one (ds_raise rfl (takes_of rfl rfl rfl rfl) T.e_BadGraph rfl)) dss_nil)
      (dss_cons (ds_if (dt_in (hu65 hr) (de_v 5) (de_v 2)) (dss_one (ds_raise rfl (takes_of rfl rfl rfl rfl) T.e_BadGraph rfl)) dss_nil)
      (dss_one (ds_app 2 (he := (de_var 5)) (hx := hT))))))))
      (dss_one (ds_ret (de_tup (da_cons (de_var 0) (da_cons (de_tuple rfl T.n_tuple (db_cons (de_b (de_sorted (hu65 hr) rfl T.n_sorted (db_cons (de_v 2) db_nil))) db_nil)) da_nil))))))))
theorem ok_has_edge {a : Addr} {fd : FuncData} (F : Fun K "has_edge" "has_edge" s_has_edge a fd) (hm : mg "has_edge" = some (.ref a)) (hb : Binds K fd ["graph", "a", "b"] []) (T : Tx K mg g) : FD P w K mg base g 1 "has_edge" ["graph", "a", "b"] f_has_edge :=
  okF F sc_has_edge hm hb m_has_edge fun cdv A outer s H E hr =>
    (dss_one (ds_ret (de_in (hu65 hr) (de_b (de_tup (da_cons (de_min rfl rfl T.n_min (db_cons (de_v 1) (db_cons (de_v 2) db_nil))) (da_cons (de_max rfl rfl T.n_max (db_cons (de_v 1) (db_cons (de_v 2) db_nil))) da_nil)))) (de_b (de_ix (de_v 0) (de_b de_int) (fun _ _ => rfl))))))
theorem ok_is_ring {a : Addr} {fd : FuncData} (F : Fun K "is_ring" "is_ring" s_is_ring a fd) (hm : mg "is_ring" = some (.ref a)) (hb : Binds K fd ["row"] []) (T : Tx K mg g) (G_is_permutation : FD P w K mg base g 1 "is_permutation" ["row"] f_is_permutation) : FD P w K mg base g 2 "is_ring" ["row"] f_is_ring :=
  okF F sc_is_ring hm hb m_is_ring fun cdv A outer s H E hr =>
    (dss_one (ds_ret (de_and (de_b (de_ge (de_b (de_len rfl T.n_len (db_cons (de_v 0) db_nil))) (de_b (de_globI rfl T.c_LEAST_RING.choose_spec)))) (de_one (de_b (de_fn (G_is_permutation.mono (by omega)) hr (takes_of rfl rfl rfl rfl) rfl (da_cons (de_var 0) da_nil)))))))
theorem ok_require_ring {a : Addr} {fd : FuncData} (F : Fun K "require_ring" "require_ring" s_require_ring a fd) (hm : mg "require_ring" = some (.ref a)) (hb : Binds K fd ["row"] []) (T : Tx K mg g) (G_is_ring : FD P w K mg base g 2 "is_ring" ["row"] f_is_ring) : FD P w K mg base g 3 "require_ring" ["row"] f_require_ring :=
  okF F sc_require_ring hm hb m_require_ring fun cdv A outer s H E hr =>
    (dss_one (ds_if (dt_not (dt_val (de_b (de_fn (G_is_ring.mono (by omega)) hr (takes_of rfl rfl rfl rfl) rfl (da_cons (de_var 0) da_nil))))) (dss_one (ds_raise1 rfl (takes_of rfl rfl rfl rfl) T.e_BadPermutation rfl (de_joined (.cons (de_b de_str) (.cons (de_b (de_fmt (de_b (de_globI rfl T.c_LEAST_RING.choose_spec)))) (.cons (de_b de_str) (.cons (de_b (de_fmt (de_b (de_globI rfl T.c_MOST_NODES.choose_spec)))) .nil))))))) dss_nil))
theorem ok_ring_form {a : Addr} {fd : FuncData} (F : Fun K "ring_form" "ring_form" s_ring_form a fd) (hm : mg "ring_form" = some (.ref a)) (hb : Binds K fd ["row"] []) (T : Tx K mg g) (G_require_ring : FD P w K mg base g 3 "require_ring" ["row"] f_require_ring) : FD P w K mg base g 4 "ring_form" ["row"] f_ring_form :=
  okF F sc_ring_form hm hb m_ring_form fun cdv A outer s H E hr =>
    (dss_cons (ds_expr (de_fn (G_require_ring.mono (by omega)) hr (takes_of rfl rfl rfl rfl) rfl (da_cons (de_var 0) da_nil)))
      (dss_cons (ds_set (i := 1) hT sc_ring_form.nd rfl (.inl rfl) (de_idx (hu65 hr) (de_v 0) (de_b de_int)))
      (dss_cons (ds_set (i := 2) hT sc_ring_form.nd rfl (.inl rfl) (de_addL (de_b (de_sl (de_v 0) (do_some (de_v 1)) do_none)) (de_b (de_sl (de_v 0) do_none (do_some (de_v 1))))))
      (dss_cons (ds_if (dt_gt (de_b (de_ix (de_v 2) (de_b de_int) (fun _ _ => rfl))) (de_b (de_ix (de_v 2) (de_b (de_neg (de_b de_int))) (fun _ _ => rfl)))) (dss_one (ds_set (i := 2) hT sc_ring_form.nd rfl (.inl rfl) (de_addL (de_b (de_sl (de_v 2) do_none (do_some (de_b de_int)))) (de_b (de_slB (de_v 2) do_none (do_some (de_b de_int)) (do_some (de_b (de_neg (de_b de_int))))))))) dss_nil)
      (dss_one (ds_retV 2))))))
theorem ok_ring_edges {a : Addr} {fd : FuncData} (F : Fun K "ring_edges" "ring_edges" s_ring_edges a fd) (hm : mg "ring_edges" = some (.ref a)) (hb : Binds K fd ["row"] []) (T : Tx K mg g) (G_require_ring : FD P w K mg base g 3 "require_ring" ["row"] f_require_ring) : FD P w K mg base g 4 "ring_edges" ["row"] f_ring_edges :=
  okF F sc_ring_edges hm hb m_ring_edges fun cdv A outer s H E hr =>
    (dss_cons (ds_expr (de_fn (G_require_ring.mono (by omega)) hr (takes_of rfl rfl rfl rfl) rfl (da_cons (de_var 0) da_nil)))
      (dss_one (ds_ret (de_tuple rfl T.n_tuple (db_cons (de_b (de_sorted (hu65 hr) rfl T.n_sorted (db_cons (de_b (de_lc (own := [("a", 1), ("b", 2)]) (pt := (.tp [1, 2])) rfl sc_ring_edges.nd (di_zip rfl T.n_zip (da_cons (de_var 0) (da_cons (de_addL (de_b (de_sl (de_v 0) (do_some (de_b de_int)) do_none)) (de_b (de_sl (de_v 0) do_none (do_some (de_b de_int))))) da_nil))) (blkOk_by (N := ["row", "a", "b"]) (sc := defScope s_ring_edges) (by decide +kernel)) (by decide) (fun _ _ _ _ _ => (pg_tup rfl (pgs_cons (pg_name (i := 1) sc_ring_edges.nd rfl (.inl rfl)) (pgs_cons (pg_name (i := 2) sc_ring_edges.nd rfl (.inl rfl)) pgs_nil)))) (fun _ _ _ _ _ => dts_nil) (fun _ _ _ _ _ => (de_tup (da_cons (de_min rfl rfl T.n_min (db_cons (de_v 1) (db_cons (de_v 2) db_nil))) (da_cons (de_max rfl rfl T.n_max (db_cons (de_v 1) (db_cons (de_v 2) db_nil))) da_nil)))))) db_nil))) db_nil)))))
theorem ok_is_ring_form {a : Addr} {fd : FuncData} (F : Fun K "is_ring_form" "is_ring_form" s_is_ring_form a fd) (hm : mg "is_ring_form" = some (.ref a)) (hb : Binds K fd ["row", "size"] []) (T : Tx K mg g) (G_is_ring : FD P w K mg base g 2 "is_ring" ["row"] f_is_ring) (G_ring_form : FD P w K mg base g 4 "ring_form" ["row"] f_ring_form) : FD P w K mg base g 5 "is_ring_form" ["row", "size"] f_is_ring_form :=
  okF F sc_is_ring_form hm hb m_is_ring_form fun cdv A outer s H E hr =>
    (dss_one (ds_ret (de_and (de_b (de_eq (hu64 hr) (de_b (de_len rfl T.n_len (db_cons (de_v 0) db_nil))) (de_v 1))) (de_b (de_and (de_b (de_fn (G_is_ring.mono (by omega)) hr (takes_of rfl rfl rfl rfl) rfl (da_cons (de_var 0) da_nil))) (de_one (de_b (de_eq (hu64 hr) (de_b (de_fn (G_ring_form.mono (by omega)) hr (takes_of rfl rfl rfl rfl) rfl (da_cons (de_var 0) da_nil))) (de_v 0)))))))))
theorem ok_ring {a : Addr} {fd : FuncData} (F : Fun K "ring" "ring" s_ring a fd) (hm : mg "ring" = some (.ref a)) (hb : Binds K fd ["graph"] []) (T : Tx K mg g) : FD P w K mg base g 1 "ring" ["graph"] f_ring :=
  okF F sc_ring hm hb m_ring fun cdv A outer s H E hr =>
    (dss_cons (ds_if (dt_lt (de_b (de_ix (de_v 0) (de_b de_int) (fun _ _ => rfl))) (de_b (de_globI rfl T.c_LEAST_RING_NODES.choose_spec))) (dss_one (ds_raise1 rfl (takes_of rfl rfl rfl rfl) T.e_BadStatement rfl (de_joined (.cons (de_b de_str) (.cons (de_b (de_fmt (de_b (de_globI rfl T.c_LEAST_RING_NODES.choose_spec)))) (.cons (de_b de_str) .nil)))))) dss_nil)
      (dss_one (ds_ret (de_tup (da_cons de_str (da_cons (de_var 0) da_nil))))))
theorem ok_alike {a : Addr} {fd : FuncData} (F : Fun K "alike" "alike" s_alike a fd) (hm : mg "alike" = some (.ref a)) (hb : Binds K fd ["first", "second"] []) (T : Tx K mg g) : FD P w K mg base g 1 "alike" ["first", "second"] f_alike :=
  okF F sc_alike hm hb m_alike fun cdv A outer s H E hr =>
    (dss_cons (ds_if (dt_ne (hu64 hr) (de_b (de_ix (de_v 0) (de_b de_int) (fun _ _ => rfl))) (de_b (de_ix (de_v 1) (de_b de_int) (fun _ _ => rfl)))) (dss_one (ds_raise rfl (takes_of rfl rfl rfl rfl) T.e_BadStatement rfl)) dss_nil)
      (dss_one (ds_ret (de_tup (da_cons de_str (da_cons (de_var 0) (da_cons (de_var 1) da_nil)))))))
theorem ok_is_gate {a : Addr} {fd : FuncData} (F : Fun K "is_gate" "is_gate" s_is_gate a fd) (hm : mg "is_gate" = some (.ref a)) (hb : Binds K fd ["gate", "own"] []) (T : Tx K mg g) : FD P w K mg base g 1 "is_gate" ["gate", "own"] f_is_gate :=
  okF F sc_is_gate hm hb m_is_gate fun cdv A outer s H E hr =>
    (dss_cons (ds_if (dt_w (dw_or (dt_not (dt_val (de_b (de_isi .tuple rfl T.n_isinstance rfl T.n_tuple (de_v 0))))) (dw_or1 (dt_eq (hu64 hr) (de_b (de_len rfl T.n_len (db_cons (de_v 0) db_nil))) (de_b de_int))))) (dss_one (ds_ret de_bl)) dss_nil)
      (dss_cons (ds_if (dt_nin (hu65 hr) (de_b (de_ix (de_v 0) (de_b de_int) (fun _ _ => rfl))) (de_b (de_tup (da_cons de_str (da_cons de_str (da_cons de_str (da_cons de_str da_nil))))))) (dss_one (ds_ret de_bl)) dss_nil)
      (dss_cons (ds_set (i := 2) hT sc_is_gate.nd rfl (.inl rfl) (de_sl (de_v 0) (do_some (de_b de_int)) do_none))
      (dss_cons (ds_if (dt_ne (hu64 hr) (de_b (de_len rfl T.n_len (db_cons (de_v 2) db_nil))) (de_b (de_if (dt_eq (hu64 hr) (de_b (de_ix (de_v 0) (de_b de_int) (fun _ _ => rfl))) (de_b de_str)) de_int de_int))) (dss_one (ds_ret de_bl)) dss_nil)
      (dss_one (ds_frz [2] (ds_ret (de_all rfl rfl T.n_all (db_cons (de_b (de_lc (own := [("wire", 3)]) (pt := (.nm 3)) rfl sc_is_gate.nd (di_seq (de_var 2)) (blkOk_by (N := ["gate", "own", "wires", "wire"]) (sc := defScope s_is_gate) (by decide +kernel)) (by decide) (fun _ _ _ _ _ => (pg_name (i := 3) sc_is_gate.nd rfl (.inl rfl))) (fun _ _ _ _ _ => dts_nil) (fun _ _ _ _ _ => (de_and (de_b (de_tyIs .int rfl T.n_type rfl T.n_int (de_v 3))) (de_one (de_b (de_chain op_le of_le op_lt of_lt (de_b de_int) (de_v 3) (de_v 1)))))))) db_nil)))))))))
theorem ok_circuit {a : Addr} {fd : FuncData} (F : Fun K "circuit" "circuit" s_circuit a fd) (hm : mg "circuit" = some (.ref a)) (hb : Binds K fd ["inputs", "gates"] []) (T : Tx K mg g) (G_is_gate : FD P w K mg base g 1 "is_gate" ["gate", "own"] f_is_gate) : FD P w K mg base g 2 "circuit" ["inputs", "gates"] f_circuit :=
  okF F sc_circuit hm hb m_circuit fun cdv A outer s H E hr =>
    (dss_cons (ds_if (dt_w (dw_or (dt_lt (de_v 0) (de_b de_int)) (dw_or1 (dt_gt (de_v 0) (de_b (de_globI rfl T.c_MOST_INPUTS.choose_spec)))))) (dss_one (ds_raise1 rfl (takes_of rfl rfl rfl rfl) T.e_BadStatement rfl (de_joined (.cons (de_b de_str) (.cons (de_b (de_fmt (de_b (de_globI rfl T.c_MOST_INPUTS.choose_spec)))) (.cons (de_b de_str) .nil)))))) dss_nil)
      (dss_cons (ds_if (dt_w (dw_or (dt_lt (de_b (de_len rfl T.n_len (db_cons (de_v 1) db_nil))) (de_b de_int)) (dw_or1 (dt_gt (de_b (de_len rfl T.n_len (db_cons (de_v 1) db_nil))) (de_b (de_globI rfl T.c_MOST_GATES.choose_spec)))))) (dss_one (ds_raise1 rfl (takes_of rfl rfl rfl rfl) T.e_BadStatement rfl (de_joined (.cons (de_b de_str) (.cons (de_b (de_fmt (de_b (de_globI rfl T.c_MOST_GATES.choose_spec)))) (.cons (de_b de_str) .nil)))))) dss_nil)
      (dss_cons (ds_for (pt := (.tp [2, 3])) hT (passes_of rfl) rfl (di_enum rfl T.n_enumerate (de_var 1)) (pg_tup rfl (pgs_cons (pg_name (i := 2) sc_circuit.nd rfl (.inl rfl)) (pgs_cons (pg_name (i := 3) sc_circuit.nd rfl (.inl rfl)) pgs_nil))) (dss_one (ds_if (dt_not (dt_val (de_b (de_fn (G_is_gate.mono (by omega)) hr (takes_of rfl rfl rfl rfl) rfl (da_cons (de_var 3) (da_cons (de_addL (de_v 0) (de_v 2)) da_nil)))))) (dss_one (ds_raise1 rfl (takes_of rfl rfl rfl rfl) T.e_BadStatement rfl (de_joined (.cons (de_b de_str) (.cons (de_b (de_fmt (de_v 2))) (.cons (de_b de_str) .nil)))))) dss_nil)))
      (dss_one (ds_ret (de_tup (da_cons de_str (da_cons (de_var 0) (da_cons (de_tuple rfl T.n_tuple (db_cons (de_v 1) db_nil)) da_nil)))))))))
theorem ok_atom_count {a : Addr} {fd : FuncData} (F : Fun K "atom_count" "atom_count" s_atom_count a fd) (hm : mg "atom_count" = some (.ref a)) (hb : Binds K fd ["statement"] []) (T : Tx K mg g) : FD P w K mg base g 8 "atom_count" ["statement"] f_atom_count := by
  have all : ∀ n : Nat, FD P w K mg base g (0 + n) "atom_count" ["statement"] (recF 1 1 m_atom_count n) := fun n => by
    induction n with
    | zero => exact FD.none _ F hm hb
    | succ n ih => exact okF (k := 0 + n) F sc_atom_count hm hb (m_atom_count (recF 1 1 m_atom_count n)) fun cdv A outer s H E hr =>
        (dss_cons (ds_if (dt_in (hu65 hr) (de_b (de_ix (de_v 0) (de_b de_int) (fun _ _ => rfl))) (de_b (de_tup (da_cons de_str (da_cons de_str da_nil))))) (dss_one (ds_ret (de_addL (de_b (de_fn (ih.mono (by omega)) hr (takes_of rfl rfl rfl rfl) rfl (da_cons (de_ix (de_v 0) (de_b de_int) (fun _ _ => rfl)) da_nil))) (de_b (de_fn (ih.mono (by omega)) hr (takes_of rfl rfl rfl rfl) rfl (da_cons (de_ix (de_v 0) (de_b de_int) (fun _ _ => rfl)) da_nil)))))) dss_nil)
      (dss_one (ds_ret de_int)))
  exact all 8
theorem ok_require_parts {a : Addr} {fd : FuncData} (F : Fun K "require_parts" "require_parts" s_require_parts a fd) (hm : mg "require_parts" = some (.ref a)) (hb : Binds K fd ["first", "second"] []) (T : Tx K mg g) (G_atom_count : FD P w K mg base g 8 "atom_count" ["statement"] f_atom_count) : FD P w K mg base g 9 "require_parts" ["first", "second"] f_require_parts :=
  okF F sc_require_parts hm hb m_require_parts fun cdv A outer s H E hr =>
    (dss_cons (ds_if (dt_w (dw_or (dt_eq (hu64 hr) (de_b (de_ix (de_v 0) (de_b de_int) (fun _ _ => rfl))) (de_b de_str)) (dw_or1 (dt_eq (hu64 hr) (de_b (de_ix (de_v 1) (de_b de_int) (fun _ _ => rfl))) (de_b de_str))))) (dss_one (ds_raise rfl (takes_of rfl rfl rfl rfl) T.e_BadStatement rfl)) dss_nil)
      (dss_one (ds_if (dt_gt (de_b (de_addL (de_b (de_fn (G_atom_count.mono (by omega)) hr (takes_of rfl rfl rfl rfl) rfl (da_cons (de_var 0) da_nil))) (de_b (de_fn (G_atom_count.mono (by omega)) hr (takes_of rfl rfl rfl rfl) rfl (da_cons (de_var 1) da_nil))))) (de_b (de_globI rfl T.c_MOST_ATOMS.choose_spec))) (dss_one (ds_raise1 rfl (takes_of rfl rfl rfl rfl) T.e_BadStatement rfl (de_joined (.cons (de_b de_str) (.cons (de_b (de_fmt (de_b (de_globI rfl T.c_MOST_ATOMS.choose_spec)))) (.cons (de_b de_str) .nil)))))) dss_nil)))
theorem ok_both {a : Addr} {fd : FuncData} (F : Fun K "both" "both" s_both a fd) (hm : mg "both" = some (.ref a)) (hb : Binds K fd ["first", "second"] []) (T : Tx K mg g) (G_require_parts : FD P w K mg base g 9 "require_parts" ["first", "second"] f_require_parts) : FD P w K mg base g 10 "both" ["first", "second"] f_both :=
  okF F sc_both hm hb m_both fun cdv A outer s H E hr =>
    (dss_cons (ds_expr (de_fn (G_require_parts.mono (by omega)) hr (takes_of rfl rfl rfl rfl) rfl (da_cons (de_var 0) (da_cons (de_var 1) da_nil))))
      (dss_one (ds_ret (de_tup (da_cons de_str (da_cons (de_var 0) (da_cons (de_var 1) da_nil)))))))
theorem ok_require_kind {a : Addr} {fd : FuncData} (F : Fun K "require_kind" "require_kind" s_require_kind a fd) (hm : mg "require_kind" = some (.ref a)) (hb : Binds K fd ["statement", "kind"] []) (T : Tx K mg g) : FD P w K mg base g 1 "require_kind" ["statement", "kind"] f_require_kind :=
  okF F sc_require_kind hm hb m_require_kind fun cdv A outer s H E hr =>
    (dss_one (ds_if (dt_ne (hu64 hr) (de_b (de_ix (de_v 0) (de_b de_int) (fun _ _ => rfl))) (de_v 1)) (dss_one (ds_raise1 rfl (takes_of rfl rfl rfl rfl) T.e_BadStatement rfl (de_joined (.cons (de_b de_str) (.cons (de_b (de_fmt (de_v 1))) .nil))))) dss_nil))
theorem ok_gate_value {a : Addr} {fd : FuncData} (F : FunD K "gate_value" "gate_value" (defArgs s_gate_value) (defBody s_gate_value) (defScope s_gate_value) [.int 0] [] a fd) (hm : mg "gate_value" = some (.ref a)) (hb : Binds K fd ["name", "first", "second"] []) (hb2 : ∃ ds, Vals [.int 0] ds ∧ Binds K fd ["name", "first", "second"] ds) (T : Tx K mg g) : FD P w K mg base g 1 "gate_value" ["name", "first", "second"] f_gate_value ∧ FDd P w K mg base g 1 "gate_value" ["name", "first", "second"] [.int 0] f_gate_value :=
  okD F sc_gate_value hm hb hb2 (fun _ _ => repl_ints [0]) m_gate_value fun cdv A outer s H E hr =>
    (dss_cons (ds_if (dt_eq (hu64 hr) (de_v 0) (de_b de_str)) (dss_one (ds_ret (de_sub (de_b de_int) (de_v 1)))) dss_nil)
      (dss_cons (ds_if (dt_eq (hu64 hr) (de_v 0) (de_b de_str)) (dss_one (ds_ret (de_band (de_v 1) (de_v 2)))) dss_nil)
      (dss_cons (ds_if (dt_eq (hu64 hr) (de_v 0) (de_b de_str)) (dss_one (ds_ret (de_bor (de_v 1) (de_v 2)))) dss_nil)
      (dss_one (ds_ret (de_bxor (de_v 1) (de_v 2)))))))
theorem ok_is_row {a : Addr} {fd : FuncData} (F : Fun K "is_row" "is_row" s_is_row a fd) (hm : mg "is_row" = some (.ref a)) (hb : Binds K fd ["value", "size"] []) (T : Tx K mg g) : FD P w K mg base g 1 "is_row" ["value", "size"] f_is_row :=
  okF F sc_is_row hm hb m_is_row fun cdv A outer s H E hr =>
    (dss_one (ds_ret (de_and (de_b (de_isi .tuple rfl T.n_isinstance rfl T.n_tuple (de_v 0))) (de_b (de_and (de_b (de_eq (hu64 hr) (de_b (de_len rfl T.n_len (db_cons (de_v 0) db_nil))) (de_v 1))) (de_one (de_b (de_all rfl rfl T.n_all (db_cons (de_b (de_lc (own := [("entry", 2)]) (pt := (.nm 2)) rfl sc_is_row.nd (di_seq (de_var 0)) (blkOk_by (N := ["value", "size", "entry"]) (sc := defScope s_is_row) (by decide +kernel)) (by decide) (fun _ _ _ _ _ => (pg_name (i := 2) sc_is_row.nd rfl (.inl rfl))) (fun _ _ _ _ _ => dts_nil) (fun _ _ _ _ _ => (de_tyIs .int rfl T.n_type rfl T.n_int (de_v 2))))) db_nil)))))))))
theorem ok_is_bits {a : Addr} {fd : FuncData} (F : Fun K "is_bits" "is_bits" s_is_bits a fd) (hm : mg "is_bits" = some (.ref a)) (hb : Binds K fd ["value", "size"] []) (T : Tx K mg g) (G_is_row : FD P w K mg base g 1 "is_row" ["value", "size"] f_is_row) : FD P w K mg base g 2 "is_bits" ["value", "size"] f_is_bits :=
  okF F sc_is_bits hm hb m_is_bits fun cdv A outer s H E hr =>
    (dss_one (ds_ret (de_and (de_b (de_fn (G_is_row.mono (by omega)) hr (takes_of rfl rfl rfl rfl) rfl (da_cons (de_var 0) (da_cons (de_var 1) da_nil)))) (de_one (de_b (de_all rfl rfl T.n_all (db_cons (de_b (de_lc (own := [("bit", 2)]) (pt := (.nm 2)) rfl sc_is_bits.nd (di_seq (de_var 0)) (blkOk_by (N := ["value", "size", "bit"]) (sc := defScope s_is_bits) (by decide +kernel)) (by decide) (fun _ _ _ _ _ => (pg_name (i := 2) sc_is_bits.nd rfl (.inl rfl))) (fun _ _ _ _ _ => dts_nil) (fun _ _ _ _ _ => (de_in (hu65 hr) (de_v 2) (de_b (de_tup (da_cons de_int (da_cons de_int da_nil)))))))) db_nil)))))))
theorem ok_wire_values {a : Addr} {fd : FuncData} (F : Fun K "wire_values" "wire_values" s_wire_values a fd) (hm : mg "wire_values" = some (.ref a)) (hb : Binds K fd ["statement", "bits"] []) (T : Tx K mg g) (G_require_kind : FD P w K mg base g 1 "require_kind" ["statement", "kind"] f_require_kind) (G_gate_value : FD P w K mg base g 1 "gate_value" ["name", "first", "second"] f_gate_value) (G_is_bits : FD P w K mg base g 2 "is_bits" ["value", "size"] f_is_bits) : FD P w K mg base g 3 "wire_values" ["statement", "bits"] f_wire_values :=
  okF F sc_wire_values hm hb m_wire_values fun cdv A outer s H E hr =>
    (dss_cons (ds_expr (de_fn (G_require_kind.mono (by omega)) hr (takes_of rfl rfl rfl rfl) rfl (da_cons (de_var 0) (da_cons de_str da_nil))))
      (dss_cons (ds_unp (.tp [2, 3, 4]) hT (de_var 0) (pg_tup rfl (pgs_cons (pg_name (i := 2) sc_wire_values.nd rfl (.inl rfl)) (pgs_cons (pg_name (i := 3) sc_wire_values.nd rfl (.inl rfl)) (pgs_cons (pg_name (i := 4) sc_wire_values.nd rfl (.inl rfl)) pgs_nil)))))
      (dss_cons (ds_if (dt_not (dt_val (de_b (de_fn (G_is_bits.mono (by omega)) hr (takes_of rfl rfl rfl rfl) rfl (da_cons (de_var 1) (da_cons (de_var 3) da_nil)))))) (dss_one (ds_raise rfl (takes_of rfl rfl rfl rfl) T.e_BadWitness rfl)) dss_nil)
      (dss_cons (ds_set (i := 5) hT sc_wire_values.nd rfl (.inl rfl) (de_list rfl T.n_list (db_cons (de_v 1) db_nil)))
      (dss_cons (ds_for (pt := (.nm 6)) hT (passes_of rfl) rfl (di_seq (de_var 4)) (pg_name (i := 6) sc_wire_values.nd rfl (.inl rfl)) (dss_one (ds_app 5 (he := (de_fn (G_gate_value.mono (by omega)) hr (takes_of rfl rfl rfl rfl) rfl (da_cons (de_ix (de_v 6) (de_b de_int) (fun _ _ => rfl)) (da_cons (de_ix (de_v 5) (de_b (de_ix (de_v 6) (de_b de_int) (fun _ _ => rfl))) (fun _ _ => rfl)) (da_cons (de_ix (de_v 5) (de_b (de_ix (de_v 6) (de_b (de_neg (de_b de_int))) (fun _ _ => rfl))) (fun _ _ => rfl)) da_nil))))) (hx := hT))))
      (dss_one (ds_ret (de_tuple rfl T.n_tuple (db_cons (de_v 5) db_nil)))))))))
theorem ok_turns_into {a : Addr} {fd : FuncData} (F : Fun K "turns_into" "turns_into" s_turns_into a fd) (hm : mg "turns_into" = some (.ref a)) (hb : Binds K fd ["first", "second", "row"] []) (T : Tx K mg g) (G_has_edge : FD P w K mg base g 1 "has_edge" ["graph", "a", "b"] f_has_edge) : FD P w K mg base g 2 "turns_into" ["first", "second", "row"] f_turns_into :=
  okF F sc_turns_into hm hb m_turns_into fun cdv A outer s H E hr =>
    (dss_cons (ds_if (dt_ne (hu64 hr) (de_b (de_len rfl T.n_len (db_cons (de_b (de_ix (de_v 0) (de_b de_int) (fun _ _ => rfl))) db_nil))) (de_b (de_len rfl T.n_len (db_cons (de_b (de_ix (de_v 1) (de_b de_int) (fun _ _ => rfl))) db_nil)))) (dss_one (ds_ret de_bl)) dss_nil)
      (dss_one (ds_ret (de_all rfl rfl T.n_all (db_cons (de_b (de_lc (own := [("a", 3), ("b", 4)]) (pt := (.tp [3, 4])) rfl sc_turns_into.nd (di_seq (de_ix (de_v 0) (de_b de_int) (fun _ _ => rfl))) (blkOk_by (N := ["first", "second", "row", "a", "b"]) (sc := defScope s_turns_into) (by decide +kernel)) (by decide) (fun _ _ _ _ _ => (pg_tup rfl (pgs_cons (pg_name (i := 3) sc_turns_into.nd rfl (.inl rfl)) (pgs_cons (pg_name (i := 4) sc_turns_into.nd rfl (.inl rfl)) pgs_nil)))) (fun _ _ _ _ _ => dts_nil) (fun _ _ _ _ _ => (de_fn (G_has_edge.mono (by omega)) hr takes0 rfl (da_cons (de_var 1) (da_cons (de_ix (de_v 2) (de_v 3) (fun _ _ => rfl)) (da_cons (de_ix (de_v 2) (de_v 4) (fun _ _ => rfl)) da_nil))))))) db_nil)))))
theorem ok_fits {a : Addr} {fd : FuncData} (F : Fun K "fits" "fits" s_fits a fd) (hm : mg "fits" = some (.ref a)) (hb : Binds K fd ["statement", "row"] []) (T : Tx K mg g) (G_ring_edges : FD P w K mg base g 4 "ring_edges" ["row"] f_ring_edges) (G_wire_values : FD P w K mg base g 3 "wire_values" ["statement", "bits"] f_wire_values) (G_turns_into : FD P w K mg base g 2 "turns_into" ["first", "second", "row"] f_turns_into) : FD P w K mg base g 5 "fits" ["statement", "row"] f_fits :=
  okF F sc_fits hm hb m_fits fun cdv A outer s H E hr =>
    (dss_cons (ds_set (i := 2) hT sc_fits.nd rfl (.inl rfl) (de_ix (de_v 0) (de_b de_int) (fun _ _ => rfl)))
      (dss_cons (ds_if (dt_eq (hu64 hr) (de_v 2) (de_b de_str)) (dss_one (ds_ret (de_all rfl rfl T.n_all (db_cons (de_b (de_lc (own := [("edge", 3)]) (pt := (.nm 3)) rfl sc_fits.nd (di_seq (de_fn (G_ring_edges.mono (by omega)) hr (takes_of rfl rfl rfl rfl) rfl (da_cons (de_var 1) da_nil))) (blkOk_by (N := ["statement", "row", "kind", "edge", "a", "b"]) (sc := defScope s_fits) (by decide +kernel)) (by decide) (fun _ _ _ _ _ => (pg_name (i := 3) sc_fits.nd rfl (.inl rfl))) (fun _ _ _ _ _ => dts_nil) (fun _ _ _ _ _ => (de_in (hu65 hr) (de_v 3) (de_b (de_ix (de_b (de_ix (de_v 0) (de_b de_int) (fun _ _ => rfl))) (de_b de_int) (fun _ _ => rfl))))))) db_nil)))) dss_nil)
      (dss_cons (ds_if (dt_eq (hu64 hr) (de_v 2) (de_b de_str)) (dss_one (ds_ret (de_fn (G_turns_into.mono (by omega)) hr (takes_of rfl rfl rfl rfl) rfl (da_cons (de_ix (de_v 0) (de_b de_int) (fun _ _ => rfl)) (da_cons (de_ix (de_v 0) (de_b de_int) (fun _ _ => rfl)) (da_cons (de_var 1) da_nil)))))) dss_nil)
      (dss_cons (ds_if (dt_eq (hu64 hr) (de_v 2) (de_b de_str)) (dss_one (ds_ret (de_eq (hu64 hr) (de_b (de_ix (de_b (de_fn (G_wire_values.mono (by omega)) hr (takes_of rfl rfl rfl rfl) rfl (da_cons (de_var 0) (da_cons (de_var 1) da_nil)))) (de_b (de_neg (de_b de_int))) (fun _ _ => rfl))) (de_b de_int)))) dss_nil)
      (dss_one (ds_ret (de_all rfl rfl T.n_all (db_cons (de_b (de_lc (own := [("a", 4), ("b", 5)]) (pt := (.tp [4, 5])) rfl sc_fits.nd (di_seq (de_ix (de_b (de_ix (de_v 0) (de_b de_int) (fun _ _ => rfl))) (de_b de_int) (fun _ _ => rfl))) (blkOk_by (N := ["statement", "row", "kind", "edge", "a", "b"]) (sc := defScope s_fits) (by decide +kernel)) (by decide) (fun _ _ _ _ _ => (pg_tup rfl (pgs_cons (pg_name (i := 4) sc_fits.nd rfl (.inl rfl)) (pgs_cons (pg_name (i := 5) sc_fits.nd rfl (.inl rfl)) pgs_nil)))) (fun _ _ _ _ _ => dts_nil) (fun _ _ _ _ _ => (de_ne (hu64 hr) (de_b (de_ix (de_v 1) (de_v 4) (fun _ _ => rfl))) (de_b (de_ix (de_v 1) (de_v 5) (fun _ _ => rfl))))))) db_nil))))))))
theorem ok_has_form {a : Addr} {fd : FuncData} (F : Fun K "has_form" "has_form" s_has_form a fd) (hm : mg "has_form" = some (.ref a)) (hb : Binds K fd ["statement", "value"] []) (T : Tx K mg g) (G_is_permutation : FD P w K mg base g 1 "is_permutation" ["row"] f_is_permutation) (G_is_ring_form : FD P w K mg base g 5 "is_ring_form" ["row", "size"] f_is_ring_form) (G_is_row : FD P w K mg base g 1 "is_row" ["value", "size"] f_is_row) (G_is_bits : FD P w K mg base g 2 "is_bits" ["value", "size"] f_is_bits) : FD P w K mg base g 6 "has_form" ["statement", "value"] f_has_form :=
  okF F sc_has_form hm hb m_has_form fun cdv A outer s H E hr =>
    (dss_cons (ds_set (i := 2) hT sc_has_form.nd rfl (.inl rfl) (de_ix (de_v 0) (de_b de_int) (fun _ _ => rfl)))
      (dss_cons (ds_if (dt_eq (hu64 hr) (de_v 2) (de_b de_str)) (dss_one (ds_ret (de_fn (G_is_bits.mono (by omega)) hr (takes_of rfl rfl rfl rfl) rfl (da_cons (de_var 1) (da_cons (de_ix (de_v 0) (de_b de_int) (fun _ _ => rfl)) da_nil))))) dss_nil)
      (dss_cons (ds_set (i := 3) hT sc_has_form.nd rfl (.inl rfl) (de_ix (de_b (de_ix (de_v 0) (de_b de_int) (fun _ _ => rfl))) (de_b de_int) (fun _ _ => rfl)))
      (dss_cons (ds_if (dt_not (dt_val (de_b (de_fn (G_is_row.mono (by omega)) hr (takes_of rfl rfl rfl rfl) rfl (da_cons (de_var 1) (da_cons (de_var 3) da_nil)))))) (dss_one (ds_ret de_bl)) dss_nil)
      (dss_cons (ds_if (dt_eq (hu64 hr) (de_v 2) (de_b de_str)) (dss_one (ds_ret (de_fn (G_is_ring_form.mono (by omega)) hr (takes_of rfl rfl rfl rfl) rfl (da_cons (de_var 1) (da_cons (de_var 3) da_nil))))) dss_nil)
      (dss_cons (ds_if (dt_eq (hu64 hr) (de_v 2) (de_b de_str)) (dss_one (ds_ret (de_fn (G_is_permutation.mono (by omega)) hr (takes_of rfl rfl rfl rfl) rfl (da_cons (de_var 1) da_nil)))) dss_nil)
      (dss_one (ds_ret (de_all rfl rfl T.n_all (db_cons (de_b (de_lc (own := [("color", 4)]) (pt := (.nm 4)) rfl sc_has_form.nd (di_seq (de_var 1)) (blkOk_by (N := ["statement", "value", "kind", "nodes", "color"]) (sc := defScope s_has_form) (by decide +kernel)) (by decide) (fun _ _ _ _ _ => (pg_name (i := 4) sc_has_form.nd rfl (.inl rfl))) (fun _ _ _ _ _ => dts_nil) (fun _ _ _ _ _ => (de_chain op_le of_le op_lt of_lt (de_b de_int) (de_v 4) (de_b (de_ix (de_v 0) (de_b de_int) (fun _ _ => rfl))))))) db_nil))))))))))
theorem ok_holds_atom {a : Addr} {fd : FuncData} (F : Fun K "holds_atom" "holds_atom" s_holds_atom a fd) (hm : mg "holds_atom" = some (.ref a)) (hb : Binds K fd ["atom", "witness"] []) (T : Tx K mg g) (G_fits : FD P w K mg base g 5 "fits" ["statement", "row"] f_fits) (G_has_form : FD P w K mg base g 6 "has_form" ["statement", "value"] f_has_form) : FD P w K mg base g 7 "holds_atom" ["atom", "witness"] f_holds_atom :=
  okF F sc_holds_atom hm hb m_holds_atom fun cdv A outer s H E hr =>
    (dss_one (ds_ret (de_and (de_b (de_fn (G_has_form.mono (by omega)) hr (takes_of rfl rfl rfl rfl) rfl (da_cons (de_var 0) (da_cons (de_var 1) da_nil)))) (de_one (de_b (de_fn (G_fits.mono (by omega)) hr (takes_of rfl rfl rfl rfl) rfl (da_cons (de_var 0) (da_cons (de_var 1) da_nil))))))))
theorem ok_R_holds {a0 a1 : Addr} {fd0 fd1 : FuncData} (F0 : Fun K "holds" "holds" s_holds a0 fd0) (hm0 : mg "holds" = some (.ref a0)) (hb0 : Binds K fd0 ["statement", "witness"] []) (F1 : Fun K "holds_join" "holds_join" s_holds_join a1 fd1) (hm1 : mg "holds_join" = some (.ref a1)) (hb1 : Binds K fd1 ["statement", "witness"] []) (T : Tx K mg g) (G_holds_atom : FD P w K mg base g 7 "holds_atom" ["atom", "witness"] f_holds_atom) : FD P w K mg base g 15 "holds" ["statement", "witness"] f_holds ∧ FD P w K mg base g 15 "holds_join" ["statement", "witness"] f_holds_join := by
  have all : ∀ n : Nat, FD P w K mg base g (7 + n) "holds" ["statement", "witness"] (R_holds n).1 ∧ FD P w K mg base g (7 + n) "holds_join" ["statement", "witness"] (R_holds n).2 := fun n => by
    induction n with
    | zero => exact ⟨FD.none _ F0 hm0 hb0, FD.none _ F1 hm1 hb1⟩
    | succ n ih =>
      obtain ⟨ih_holds, ih_holds_join⟩ := ih
      exact ⟨okF (k := 7 + n) F0 sc_holds hm0 hb0 (m_holds (R_holds n).1 (R_holds n).2) fun cdv A outer s H E hr =>
        (dss_cons (ds_if (dt_in (hu65 hr) (de_b (de_ix (de_v 0) (de_b de_int) (fun _ _ => rfl))) (de_b (de_tup (da_cons de_str (da_cons de_str da_nil))))) (dss_one (ds_ret (de_and (de_b (de_isi .tuple rfl T.n_isinstance rfl T.n_tuple (de_v 1))) (de_b (de_and (de_b (de_eq (hu64 hr) (de_b (de_len rfl T.n_len (db_cons (de_v 1) db_nil))) (de_b de_int))) (de_one (de_b (de_fn (ih_holds_join.mono (by omega)) hr (takes_of rfl rfl rfl rfl) rfl (da_cons (de_var 0) (da_cons (de_var 1) da_nil)))))))))) dss_nil)
      (dss_one (ds_ret (de_fn (G_holds_atom.mono (by omega)) hr (takes_of rfl rfl rfl rfl) rfl (da_cons (de_var 0) (da_cons (de_var 1) da_nil)))))),
        okF (k := 7 + n) F1 sc_holds_join hm1 hb1 (m_holds_join (R_holds n).1 (R_holds n).2) fun cdv A outer s H E hr =>
        (dss_cons (ds_unp (.tp [2, 3, 4]) hT (de_var 0) (pg_tup rfl (pgs_cons (pg_name (i := 2) sc_holds_join.nd rfl (.inl rfl)) (pgs_cons (pg_name (i := 3) sc_holds_join.nd rfl (.inl rfl)) (pgs_cons (pg_name (i := 4) sc_holds_join.nd rfl (.inl rfl)) pgs_nil)))))
      (dss_cons (ds_if (dt_eq (hu64 hr) (de_v 2) (de_b de_str)) (dss_one (ds_ret (de_and (de_b (de_fn (ih_holds.mono (by omega)) hr (takes_of rfl rfl rfl rfl) rfl (da_cons (de_var 3) (da_cons (de_ix (de_v 1) (de_b de_int) (fun _ _ => rfl)) da_nil)))) (de_one (de_b (de_fn (ih_holds.mono (by omega)) hr (takes_of rfl rfl rfl rfl) rfl (da_cons (de_var 4) (da_cons (de_ix (de_v 1) (de_b de_int) (fun _ _ => rfl)) da_nil)))))))) dss_nil)
      (dss_cons (ds_unp (.tp [5, 6]) hT (de_var 1) (pg_tup rfl (pgs_cons (pg_name (i := 5) sc_holds_join.nd rfl (.inl rfl)) (pgs_cons (pg_name (i := 6) sc_holds_join.nd rfl (.inl rfl)) pgs_nil))))
      (dss_one (ds_ret (de_and (de_b (de_tyIs .int rfl T.n_type rfl T.n_int (de_v 5))) (de_b (de_and (de_b (de_in (hu65 hr) (de_v 5) (de_b (de_tup (da_cons de_int (da_cons de_int da_nil)))))) (de_one (de_b (de_fn (ih_holds.mono (by omega)) hr (takes_of rfl rfl rfl rfl) rfl (da_cons (de_ix (de_v 0) (de_b (de_addL (de_b de_int) (de_v 5))) (fun _ _ => rfl)) (da_cons (de_var 6) da_nil)))))))))))))⟩
  exact all 8
theorem ok_require_witness {a : Addr} {fd : FuncData} (F : Fun K "require_witness" "require_witness" s_require_witness a fd) (hm : mg "require_witness" = some (.ref a)) (hb : Binds K fd ["statement", "witness"] []) (T : Tx K mg g) (G_holds : FD P w K mg base g 15 "holds" ["statement", "witness"] f_holds) : FD P w K mg base g 16 "require_witness" ["statement", "witness"] f_require_witness :=
  okF F sc_require_witness hm hb m_require_witness fun cdv A outer s H E hr =>
    (dss_one (ds_if (dt_not (dt_val (de_b (de_fn (G_holds.mono (by omega)) hr (takes_of rfl rfl rfl rfl) rfl (da_cons (de_var 0) (da_cons (de_var 1) da_nil)))))) (dss_one (ds_raise rfl (takes_of rfl rfl rfl rfl) T.e_BadWitness rfl)) dss_nil))
theorem ok_swap_statement {a : Addr} {fd : FuncData} (F : Fun K "swap_statement" "swap_statement" s_swap_statement a fd) (hm : mg "swap_statement" = some (.ref a)) (hb : Binds K fd ["statement"] []) (T : Tx K mg g) : FD P w K mg base g 1 "swap_statement" ["statement"] f_swap_statement :=
  okF F sc_swap_statement hm hb m_swap_statement fun cdv A outer s H E hr =>
    (dss_cons (ds_set (i := 1) hT sc_swap_statement.nd rfl (.inl rfl) (de_ix (de_v 0) (de_b de_int) (fun _ _ => rfl)))
      (dss_cons (ds_if (dt_nin (hu65 hr) (de_v 1) (de_b (de_tup (da_cons de_str (da_cons de_str (da_cons de_str da_nil)))))) (dss_one (ds_raise rfl (takes_of rfl rfl rfl rfl) T.e_BadStatement rfl)) dss_nil)
      (dss_one (ds_ret (de_tup (da_cons (de_var 1) (da_cons (de_ix (de_v 0) (de_b de_int) (fun _ _ => rfl)) (da_cons (de_ix (de_v 0) (de_b de_int) (fun _ _ => rfl)) da_nil))))))))
theorem ok_swap_witness {a : Addr} {fd : FuncData} (F : Fun K "swap_witness" "swap_witness" s_swap_witness a fd) (hm : mg "swap_witness" = some (.ref a)) (hb : Binds K fd ["statement", "witness"] []) (T : Tx K mg g) (G_inverse : FD P w K mg base g 3 "inverse" ["row"] f_inverse) (G_require_witness : FD P w K mg base g 16 "require_witness" ["statement", "witness"] f_require_witness) (G_swap_statement : FD P w K mg base g 1 "swap_statement" ["statement"] f_swap_statement) : FD P w K mg base g 17 "swap_witness" ["statement", "witness"] f_swap_witness :=
  okF F sc_swap_witness hm hb m_swap_witness fun cdv A outer s H E hr =>
    (dss_cons (ds_set (i := 2) hT sc_swap_witness.nd rfl (.inl rfl) (de_ix (de_b (de_fn (G_swap_statement.mono (by omega)) hr (takes_of rfl rfl rfl rfl) rfl (da_cons (de_var 0) da_nil))) (de_b de_int) (fun _ _ => rfl)))
      (dss_cons (ds_expr (de_fn (G_require_witness.mono (by omega)) hr (takes_of rfl rfl rfl rfl) rfl (da_cons (de_var 0) (da_cons (de_var 1) da_nil))))
      (dss_cons (ds_if (dt_eq (hu64 hr) (de_v 2) (de_b de_str)) (dss_one (ds_ret (de_fn (G_inverse.mono (by omega)) hr (takes_of rfl rfl rfl rfl) rfl (da_cons (de_var 1) da_nil)))) dss_nil)
      (dss_cons (ds_unp (.tp [3, 4]) hT (de_var 1) (pg_tup rfl (pgs_cons (pg_name (i := 3) sc_swap_witness.nd rfl (.inl rfl)) (pgs_cons (pg_name (i := 4) sc_swap_witness.nd rfl (.inl rfl)) pgs_nil))))
      (dss_cons (ds_if (dt_eq (hu64 hr) (de_v 2) (de_b de_str)) (dss_one (ds_ret (de_tup (da_cons (de_var 4) (da_cons (de_var 3) da_nil))))) dss_nil)
      (dss_one (ds_ret (de_tup (da_cons (de_sub (de_b de_int) (de_v 3)) (da_cons (de_var 4) da_nil))))))))))
theorem ok_joined_alike {dV kV doc pm cdv ct oc : Value} {an od : Option Addr} {osl : Array (Option Value)} {a : Addr} (lk : K.lookup a = some ⟨oc, od, .func (PySem.W.fnOf "joined_alike" "joined_alike" (defArgs s_joined_alike) (defBody s_joined_alike) (defScope s_joined_alike) dV kV doc pm an cdv ct), osl⟩) (hcd : PySem.W.codeIn K cdv "joined_alike" = true) (kp : PySem.W.keepIn K (.ref a) = true) (hm : mg "joined_alike" = some (.ref a))
    (hb : ∀ us rest : List Value, us.length = ["first"].length → bindArgs (PySem.W.fnOf "joined_alike" "joined_alike" (defArgs s_joined_alike) (defBody s_joined_alike) (defScope s_joined_alike) dV kV doc pm an cdv ct) ⟨us ++ rest, []⟩ = (newTuple rest >>= fun t => pure ((["first"] : List Str).zip us ++ [(("others" : Str), t)]))) (T : Tx K mg g) : FDs P w K mg base g 1 "joined_alike" f_joined_alike :=
  okS (ps := ["first"]) (pv := "others") (N := ["first", "others", "statements", "statement", "before", "after"]) lk hcd kp sc_joined_alike hm hb m_joined_alike fun cdv A outer s H E hr =>
    (dss_cons (ds_set (i := 2) hT sc_joined_alike.nd rfl (.inl rfl) (de_lst (da_cons (de_var 0) (da_star (de_var 1) da_nil))))
      (dss_cons (ds_frz [2] (ds_for (pt := (.nm 3)) hT (passes_of rfl) rfl (di_seq (de_var 2)) (pg_name (i := 3) sc_joined_alike.nd rfl (.inl rfl)) (dss_one (ds_if (dt_ne (hu64 hr) (de_b (de_ix (de_v 3) (de_b de_int) (fun _ _ => rfl))) (de_b de_str)) (dss_one (ds_raise rfl (takes_of rfl rfl rfl rfl) T.e_BadStatement rfl)) dss_nil))))
      (dss_cons (ds_frz [2] (ds_for (pt := (.tp [4, 5])) hT (passes_of rfl) rfl (di_zipM rfl T.n_zip (da_cons (de_var 2) (da_cons (de_var 1) da_nil))) (pg_tup rfl (pgs_cons (pg_name (i := 4) sc_joined_alike.nd rfl (.inl rfl)) (pgs_cons (pg_name (i := 5) sc_joined_alike.nd rfl (.inl rfl)) pgs_nil))) (dss_one (ds_if (dt_ne (hu64 hr) (de_b (de_ix (de_v 5) (de_b de_int) (fun _ _ => rfl))) (de_b (de_ix (de_v 4) (de_b de_int) (fun _ _ => rfl)))) (dss_one (ds_raise rfl (takes_of rfl rfl rfl rfl) T.e_BadStatement rfl)) dss_nil))))
      (dss_one (ds_ret (de_tup (da_cons de_str (da_cons (de_ix (de_v 0) (de_b de_int) (fun _ _ => rfl)) (da_cons (de_ix (de_b (de_ix (de_v 2) (de_b (de_neg (de_b de_int))) (fun _ _ => rfl))) (de_b de_int) (fun _ _ => rfl)) da_nil)))))))))
theorem ok_joined_witness {dV kV doc pm cdv ct oc : Value} {an od : Option Addr} {osl : Array (Option Value)} {a : Addr} (lk : K.lookup a = some ⟨oc, od, .func (PySem.W.fnOf "joined_witness" "joined_witness" (defArgs s_joined_witness) (defBody s_joined_witness) (defScope s_joined_witness) dV kV doc pm an cdv ct), osl⟩) (hcd : PySem.W.codeIn K cdv "joined_witness" = true) (kp : PySem.W.keepIn K (.ref a) = true) (hm : mg "joined_witness" = some (.ref a))
    (hb : ∀ us rest : List Value, us.length = ["first"].length → bindArgs (PySem.W.fnOf "joined_witness" "joined_witness" (defArgs s_joined_witness) (defBody s_joined_witness) (defScope s_joined_witness) dV kV doc pm an cdv ct) ⟨us ++ rest, []⟩ = (newTuple rest >>= fun t => pure ((["first"] : List Str).zip us ++ [(("others" : Str), t)]))) (T : Tx K mg g) (G_require_permutation : FD P w K mg base g 2 "require_permutation" ["row"] f_require_permutation) (G_compose : FD P w K mg base g 3 "compose" ["first", "second"] f_compose) : FDs P w K mg base g 4 "joined_witness" f_joined_witness :=
  okS (ps := ["first"]) (pv := "others") (N := ["first", "others", "joined", "other"]) lk hcd kp sc_joined_witness hm hb m_joined_witness fun cdv A outer s H E hr =>
    (dss_cons (ds_expr (de_fn (G_require_permutation.mono (by omega)) hr (takes_of rfl rfl rfl rfl) rfl (da_cons (de_var 0) da_nil)))
      (dss_cons (ds_set (i := 2) hT sc_joined_witness.nd rfl (.inl rfl) (de_var 0))
      (dss_cons (ds_for (pt := (.nm 3)) hT (passes_of rfl) rfl (di_seq (de_var 1)) (pg_name (i := 3) sc_joined_witness.nd rfl (.inl rfl)) (dss_one (ds_frz [2] (ds_set (i := 2) hT sc_joined_witness.nd rfl (.inl rfl) (de_fn (G_compose.mono (by omega)) hr (takes_of rfl rfl rfl rfl) rfl (da_cons (de_var 2) (da_cons (de_var 3) da_nil)))))))
      (dss_one (ds_retV 2)))))
theorem ok_L_cell {a : Addr} {fd : FuncData} (F : Fun K "_law_cell" "_law_cell" s_L_cell a fd) (hm : mg "_law_cell" = some (.ref a)) (hb : Binds K fd ["script", "k"] []) (T : Tx K mg g) : FD P w K mg base g 1 "_law_cell" ["script", "k"] f_L_cell :=
  okF F sc_L_cell hm hb m_L_cell fun cdv A outer s H E hr =>
    (dss_cons (ds_if (dt_lt (de_v 1) (de_b (de_len rfl T.n_len (db_cons (de_v 0) db_nil)))) (dss_one (ds_ret (de_int1 rfl T.n_int (db_cons (de_b (de_ix (de_v 0) (de_v 1) (fun _ _ => rfl))) db_nil)))) dss_nil)
      (dss_cons (ds_if (dt_gt (de_b (de_len rfl T.n_len (db_cons (de_v 0) db_nil))) (de_b de_int)) (dss_one (ds_ret (de_addL (de_b (de_mul (de_b (de_int1 rfl T.n_int (db_cons (de_b (de_ix (de_v 0) (de_b de_int) (fun _ _ => rfl))) db_nil))) (de_b (de_addL (de_b (de_mul (de_b de_int) (de_v 1))) (de_b de_int))))) (de_b (de_mul (de_b de_int) (de_v 1)))))) dss_nil)
      (dss_one (ds_ret (de_mul (de_b de_int) (de_v 1))))))
theorem ok_L_numbers {a : Addr} {fd : FuncData} (F : Fun K "_law_numbers" "_law_numbers" s_L_numbers a fd) (hm : mg "_law_numbers" = some (.ref a)) (hb : Binds K fd ["cell", "many"] []) (T : Tx K mg g) : FD P w K mg base g 1 "_law_numbers" ["cell", "many"] f_L_numbers :=
  okF F sc_L_numbers hm hb m_L_numbers fun cdv A outer s H E hr =>
    (dss_cons (ds_set (i := 2) hT sc_L_numbers.nd rfl (.inl rfl) (de_abs rfl T.n_abs (db_cons (de_b (de_int1 rfl T.n_int (db_cons (de_v 0) db_nil))) db_nil)))
      (dss_cons (ds_set (i := 3) hT sc_L_numbers.nd rfl (.inl rfl) (de_addL (de_b (de_mod (de_b (de_int1 rfl T.n_int (db_cons (de_v 2) db_nil))) (de_b de_int))) (de_b de_int)))
      (dss_cons (ds_set (i := 4) hT sc_L_numbers.nd rfl (.inl rfl) (de_lst da_nil))
      (dss_cons (ds_for (pt := (.nm 5)) hT (passes_of rfl) rfl (di_rng1 rfl T.n_range (de_v 1)) (pg_name (i := 5) sc_L_numbers.nd rfl (.inl rfl)) (dss_one (ds_if (dt_ge (de_v 2) (de_b de_int)) (dss_cons (ds_app 4 (he := (de_mod (de_b (de_int1 rfl T.n_int (db_cons (de_v 2) db_nil))) (de_b de_int))) (hx := hT))
      (dss_one (ds_set (i := 2) hT sc_L_numbers.nd rfl (.inl rfl) (de_div (de_v 2) (de_b de_int))))) (dss_cons (ds_set (i := 3) hT sc_L_numbers.nd rfl (.inl rfl) (de_mod (de_b (de_int1 rfl T.n_int (db_cons (de_b (de_addL (de_b (de_mul (de_v 3) (de_b de_int))) (de_b (de_mul (de_b de_int) (de_b (de_addL (de_v 5) (de_b de_int))))))) db_nil))) (de_b de_int)))
      (dss_one (ds_app 4 (he := (de_mod (de_b (de_div (de_b (de_mod (de_b (de_int1 rfl T.n_int (db_cons (de_b (de_addL (de_b (de_div (de_b (de_mul (de_v 3) (de_v 3))) (de_b de_int))) (de_b (de_mul (de_b de_int) (de_v 3))))) db_nil))) (de_b de_int))) (de_b de_int))) (de_b de_int))) (hx := hT)))))))
      (dss_one (ds_retV 4))))))
theorem ok_L_same {a : Addr} {fd : FuncData} (F : Fun K "_law_same" "_law_same" s_L_same a fd) (hm : mg "_law_same" = some (.ref a)) (hb : Binds K fd ["value", "due"] []) (T : Tx K mg g) : FD P w K mg base g 8 "_law_same" ["value", "due"] f_L_same := by
  have all : ∀ n : Nat, FD P w K mg base g (0 + n) "_law_same" ["value", "due"] (recF 2 3 m_L_same n) := fun n => by
    induction n with
    | zero => exact FD.none _ F hm hb
    | succ n ih => exact okF (k := 0 + n) F sc_L_same hm hb (m_L_same (recF 2 3 m_L_same n)) fun cdv A outer s H E hr =>
        (dss_cons (ds_if (dt_w (dw_or (dt_val (de_b (de_isi .tuple rfl T.n_isinstance rfl T.n_tuple (de_v 1)))) (dw_or1 (dt_val (de_b (de_isi .list rfl T.n_isinstance rfl T.n_list (de_v 1))))))) (dss_cons (ds_if (dt_w (dw_or (dt_ne (hu64 hr) (de_b (de_isi .tuple rfl T.n_isinstance rfl T.n_tuple (de_v 1))) (de_b (de_isi .tuple rfl T.n_isinstance rfl T.n_tuple (de_v 0)))) (dw_or1 (dt_ne (hu64 hr) (de_b (de_isi .list rfl T.n_isinstance rfl T.n_list (de_v 1))) (de_b (de_isi .list rfl T.n_isinstance rfl T.n_list (de_v 0))))))) (dss_one (ds_ret de_bl)) dss_nil)
      (dss_cons (ds_if (dt_ne (hu64 hr) (de_b (de_len rfl T.n_len (db_cons (de_v 0) db_nil))) (de_b (de_len rfl T.n_len (db_cons (de_v 1) db_nil)))) (dss_one (ds_ret de_bl)) dss_nil)
      (dss_cons (ds_for (pt := (.nm 2)) hT (passes_of rfl) rfl (di_rng1 rfl T.n_range (de_b (de_len rfl T.n_len (db_cons (de_v 1) db_nil)))) (pg_name (i := 2) sc_L_same.nd rfl (.inl rfl)) (dss_one (ds_if (dt_not (dt_val (de_b (de_fn (ih.mono (by omega)) hr (takes_of rfl rfl rfl rfl) rfl (da_cons (de_ix (de_v 0) (de_v 2) (fun _ _ => rfl)) (da_cons (de_ix (de_v 1) (de_v 2) (fun _ _ => rfl)) da_nil)))))) (dss_one (ds_ret de_bl)) dss_nil)))
      (dss_one (ds_ret de_bl))))) dss_nil)
      (dss_cons (ds_if (dt_isN (de_v 1) (de_b de_non)) (dss_one (ds_ret (de_isN (de_v 0) (de_b de_non)))) dss_nil)
      (dss_cons (ds_if (dt_val (de_b (de_isi .bool rfl T.n_isinstance rfl T.n_bool (de_v 1)))) (dss_one (ds_ret (de_and (de_b (de_isi .bool rfl T.n_isinstance rfl T.n_bool (de_v 0))) (de_one (de_b (de_eq (hu64 hr) (de_v 0) (de_v 1))))))) dss_nil)
      (dss_cons (ds_if (dt_val (de_b (de_isi .str rfl T.n_isinstance rfl T.n_str (de_v 1)))) (dss_one (ds_ret (de_and (de_b (de_isi .str rfl T.n_isinstance rfl T.n_str (de_v 0))) (de_one (de_b (de_eq (hu64 hr) (de_v 0) (de_v 1))))))) dss_nil)
      (dss_one (ds_ret (de_and (de_b (de_isi .int rfl T.n_isinstance rfl T.n_int (de_v 0))) (de_b (de_and (de_b (de_not (de_b (de_isi .bool rfl T.n_isinstance rfl T.n_bool (de_v 0))))) (de_one (de_b (de_eq (hu64 hr) (de_v 0) (de_v 1)))))))))))))
  exact all 8
theorem ok_L_factorial {a : Addr} {fd : FuncData} (F : Fun K "_law_factorial" "_law_factorial" s_L_factorial a fd) (hm : mg "_law_factorial" = some (.ref a)) (hb : Binds K fd ["size"] []) (T : Tx K mg g) : FD P w K mg base g 1 "_law_factorial" ["size"] f_L_factorial :=
  okF F sc_L_factorial hm hb m_L_factorial fun cdv A outer s H E hr =>
    (dss_cons (ds_set (i := 1) hT sc_L_factorial.nd rfl (.inl rfl) de_int)
      (dss_cons (ds_for (pt := (.nm 2)) hT (passes_of rfl) rfl (di_rng1 rfl T.n_range (de_v 0)) (pg_name (i := 2) sc_L_factorial.nd rfl (.inl rfl)) (dss_one (ds_set (i := 1) hT sc_L_factorial.nd rfl (.inl rfl) (de_mul (de_v 1) (de_b (de_addL (de_v 2) (de_b de_int)))))))
      (dss_one (ds_retV 1))))
theorem ok_L_permutation {a : Addr} {fd : FuncData} (F : Fun K "_law_permutation" "_law_permutation" s_L_permutation a fd) (hm : mg "_law_permutation" = some (.ref a)) (hb : Binds K fd ["size", "number"] []) (T : Tx K mg g) (G_L_factorial : FD P w K mg base g 1 "_law_factorial" ["size"] f_L_factorial) : FD P w K mg base g 2 "_law_permutation" ["size", "number"] f_L_permutation :=
  okF F sc_L_permutation hm hb m_L_permutation fun cdv A outer s H E hr =>
    (dss_cons (ds_setLc (i := 2) (own := [("k", 3)]) (pt := (.nm 3)) hT rfl sc_L_permutation.nd rfl rfl (sw_true rfl rfl rfl (by decide +kernel)) (di_rng1 rfl T.n_range (de_v 0)) (blkOk_by (N := ["size", "number", "left", "k", "row", "block"]) (sc := defScope s_L_permutation) (by decide +kernel)) (by decide) (fun _ _ _ _ _ => (pg_name (i := 3) sc_L_permutation.nd rfl (.inl rfl))) (fun _ _ _ _ _ => dts_nil) (fun _ _ _ _ _ => (de_var 3)))
      (dss_cons (ds_set (i := 4) hT sc_L_permutation.nd rfl (.inl rfl) (de_lst da_nil))
      (dss_cons (ds_for (pt := (.nm 3)) hT (passes_of rfl) rfl (di_rng1 rfl T.n_range (de_v 0)) (pg_name (i := 3) sc_L_permutation.nd rfl (.inl rfl)) (dss_cons (ds_set (i := 5) hT sc_L_permutation.nd rfl (.inl rfl) (de_fn (G_L_factorial.mono (by omega)) hr (takes_of rfl rfl rfl rfl) rfl (da_cons (de_sub (de_b (de_sub (de_v 0) (de_b de_int))) (de_v 3)) da_nil)))
      (dss_cons (ds_appPop 4 2 rfl (.inl rfl) (by decide) (by decide) rfl (.inl rfl) (by decide) (by decide) (de_b (de_div (de_v 1) (de_v 5))) rfl rfl rfl rfl rfl rfl rfl)
      (dss_one (ds_set (i := 1) hT sc_L_permutation.nd rfl (.inl rfl) (de_mod (de_b (de_int1 rfl T.n_int (db_cons (de_v 1) db_nil))) (de_v 5)))))))
      (dss_one (ds_retV 4)))))
theorem ok_L_after {a : Addr} {fd : FuncData} (F : Fun K "_law_after" "_law_after" s_L_after a fd) (hm : mg "_law_after" = some (.ref a)) (hb : Binds K fd ["first", "second"] []) (T : Tx K mg g) : FD P w K mg base g 1 "_law_after" ["first", "second"] f_L_after :=
  okF F sc_L_after hm hb m_L_after fun cdv A outer s H E hr =>
    (dss_one (ds_ret (de_lc (own := [("entry", 2)]) (pt := (.nm 2)) rfl sc_L_after.nd (di_seq (de_var 0)) (blkOk_by (N := ["first", "second", "entry"]) (sc := defScope s_L_after) (by decide +kernel)) (by decide) (fun _ _ _ _ _ => (pg_name (i := 2) sc_L_after.nd rfl (.inl rfl))) (fun _ _ _ _ _ => dts_nil) (fun _ _ _ _ _ => (de_ix (de_v 1) (de_v 2) (fun _ _ => rfl))))))
theorem ok_L_undone {a : Addr} {fd : FuncData} (F : Fun K "_law_undone" "_law_undone" s_L_undone a fd) (hm : mg "_law_undone" = some (.ref a)) (hb : Binds K fd ["row"] []) (T : Tx K mg g) : FD P w K mg base g 1 "_law_undone" ["row"] f_L_undone :=
  okF F sc_L_undone hm hb m_L_undone fun cdv A outer s H E hr =>
    (dss_cons (ds_setLc (i := 1) (own := [("entry", 2)]) (pt := (.nm 2)) hT rfl sc_L_undone.nd rfl rfl (sw_true rfl rfl rfl (by decide +kernel)) (di_seq (de_var 0)) (blkOk_by (N := ["row", "undone", "entry", "k"]) (sc := defScope s_L_undone) (by decide +kernel)) (by decide) (fun _ _ _ _ _ => (pg_name (i := 2) sc_L_undone.nd rfl (.inl rfl))) (fun _ _ _ _ _ => dts_nil) (fun _ _ _ _ _ => de_int))
      (dss_cons (ds_for (pt := (.nm 3)) hT (passes_of rfl) rfl (di_rng1 rfl T.n_range (de_b (de_len rfl T.n_len (db_cons (de_v 0) db_nil)))) (pg_name (i := 3) sc_L_undone.nd rfl (.inl rfl)) (dss_one (ds_put 1 (de_var 3) (de_b (de_ix (de_v 0) (de_v 3) (fun _ _ => rfl))) (hg := pg_sub (pv 1) (de_b (de_ix (de_v 0) (de_v 3) (fun _ _ => rfl))) set_list))))
      (dss_one (ds_retV 1))))
theorem ok_L_pairs {a : Addr} {fd : FuncData} (F : Fun K "_law_pairs" "_law_pairs" s_L_pairs a fd) (hm : mg "_law_pairs" = some (.ref a)) (hb : Binds K fd ["nodes"] []) (T : Tx K mg g) : FD P w K mg base g 1 "_law_pairs" ["nodes"] f_L_pairs :=
  okF F sc_L_pairs hm hb m_L_pairs fun cdv A outer s H E hr =>
    (dss_cons (ds_set (i := 1) hT sc_L_pairs.nd rfl (.inl rfl) (de_lst da_nil))
      (dss_cons (ds_for (pt := (.nm 2)) hT (passes_of rfl) rfl (di_rng1 rfl T.n_range (de_v 0)) (pg_name (i := 2) sc_L_pairs.nd rfl (.inl rfl)) (dss_one (ds_for (pt := (.nm 3)) hT (passes_of rfl) rfl (di_rng2 rfl T.n_range (de_b (de_addL (de_v 2) (de_b de_int))) (de_v 0)) (pg_name (i := 3) sc_L_pairs.nd rfl (.inl rfl)) (dss_one (ds_app 1 (he := (de_tup (da_cons (de_var 2) (da_cons (de_var 3) da_nil)))) (hx := hT))))))
      (dss_one (ds_retV 1))))
theorem ok_L_edge {a : Addr} {fd : FuncData} (F : Fun K "_law_edge" "_law_edge" s_L_edge a fd) (hm : mg "_law_edge" = some (.ref a)) (hb : Binds K fd ["a", "b"] []) (T : Tx K mg g) : FD P w K mg base g 1 "_law_edge" ["a", "b"] f_L_edge :=
  okF F sc_L_edge hm hb m_L_edge fun cdv A outer s H E hr =>
    (dss_one (ds_ret (de_tup (da_cons (de_min rfl rfl T.n_min (db_cons (de_v 0) (db_cons (de_v 1) db_nil))) (da_cons (de_max rfl rfl T.n_max (db_cons (de_v 0) (db_cons (de_v 1) db_nil))) da_nil)))))
theorem ok_L_moved {a : Addr} {fd : FuncData} (F : Fun K "_law_moved" "_law_moved" s_L_moved a fd) (hm : mg "_law_moved" = some (.ref a)) (hb : Binds K fd ["edges", "row"] []) (T : Tx K mg g) (G_L_edge : FD P w K mg base g 1 "_law_edge" ["a", "b"] f_L_edge) : FD P w K mg base g 2 "_law_moved" ["edges", "row"] f_L_moved :=
  okF F sc_L_moved hm hb m_L_moved fun cdv A outer s H E hr =>
    (dss_one (ds_ret (de_tuple rfl T.n_tuple (db_cons (de_b (de_sorted (hu65 hr) rfl T.n_sorted (db_cons (de_b (de_lc (own := [("edge", 2)]) (pt := (.nm 2)) rfl sc_L_moved.nd (di_seq (de_var 0)) (blkOk_by (N := ["edges", "row", "edge"]) (sc := defScope s_L_moved) (by decide +kernel)) (by decide) (fun _ _ _ _ _ => (pg_name (i := 2) sc_L_moved.nd rfl (.inl rfl))) (fun _ _ _ _ _ => dts_nil) (fun _ _ _ _ _ => (de_fn (G_L_edge.mono (by omega)) hr takes0 rfl (da_cons (de_ix (de_v 1) (de_b (de_ix (de_v 2) (de_b de_int) (fun _ _ => rfl))) (fun _ _ => rfl)) (da_cons (de_ix (de_v 1) (de_b (de_ix (de_v 2) (de_b de_int) (fun _ _ => rfl))) (fun _ _ => rfl)) da_nil)))))) db_nil))) db_nil))))
theorem ok_L_made {a : Addr} {fd : FuncData} (F : Fun K "_law_made" "_law_made" s_L_made a fd) (hm : mg "_law_made" = some (.ref a)) (hb : Binds K fd ["first", "last"] []) (T : Tx K mg g) (G_make_graph : FD P w K mg base g 1 "make_graph" ["nodes", "edges"] f_make_graph) (G_alike : FD P w K mg base g 1 "alike" ["first", "second"] f_alike) : FD P w K mg base g 2 "_law_made" ["first", "last"] f_L_made :=
  okF F sc_L_made hm hb m_L_made fun cdv A outer s H E hr =>
    (dss_cons (ds_setLc (i := 2) (own := [("edge", 3)]) (pt := (.nm 3)) hT rfl sc_L_made.nd rfl rfl (sw_true rfl rfl rfl (by decide +kernel)) (di_seq (de_ix (de_v 1) (de_b de_int) (fun _ _ => rfl))) (blkOk_by (N := ["first", "last", "turned", "edge"]) (sc := defScope s_L_made) (by decide +kernel)) (by decide) (fun _ _ _ _ _ => (pg_name (i := 3) sc_L_made.nd rfl (.inl rfl))) (fun _ _ _ _ _ => dts_nil) (fun _ _ _ _ _ => (de_tup (da_cons (de_ix (de_v 3) (de_b de_int) (fun _ _ => rfl)) (da_cons (de_ix (de_v 3) (de_b de_int) (fun _ _ => rfl)) da_nil)))))
      (dss_one (ds_frz [2] (ds_ret (de_fn (G_alike.mono (by omega)) hr (takes_of rfl rfl rfl rfl) rfl (da_cons (de_fn (G_make_graph.mono (by omega)) hr (takes_of rfl rfl rfl rfl) rfl (da_cons (de_ix (de_v 0) (de_b de_int) (fun _ _ => rfl)) (da_cons (de_lc (own := [("edge", 3)]) (pt := (.nm 3)) rfl sc_L_made.nd (di_seq (de_ix (de_v 0) (de_b de_int) (fun _ _ => rfl))) (blkOk_by (N := ["first", "last", "turned", "edge"]) (sc := defScope s_L_made) (by decide +kernel)) (by decide) (fun _ _ _ _ _ => (pg_name (i := 3) sc_L_made.nd rfl (.inl rfl))) (fun _ _ _ _ _ => dts_nil) (fun _ _ _ _ _ => (de_var 3))) da_nil))) (da_cons (de_fn (G_make_graph.mono (by omega)) hr (takes_of rfl rfl rfl rfl) rfl (da_cons (de_ix (de_v 1) (de_b de_int) (fun _ _ => rfl)) (da_cons (de_var 2) da_nil))) da_nil)))))))
theorem ok_L_join {a : Addr} {fd : FuncData} (F : Fun K "_law_join" "_law_join" s_L_join a fd) (hm : mg "_law_join" = some (.ref a)) (hb : Binds K fd ["rows"] []) (T : Tx K mg g) (G_joined_alike : FDs P w K mg base g 1 "joined_alike" f_joined_alike) : FD P w K mg base g 2 "_law_join" ["rows"] f_L_join :=
  okF F sc_L_join hm hb m_L_join fun cdv A outer s H E hr =>
    (dss_cons (ds_if (dt_eq (hu64 hr) (de_b (de_len rfl T.n_len (db_cons (de_v 0) db_nil))) (de_b de_int)) (dss_one (ds_ret (de_fnS (G_joined_alike.mono (by omega)) hr (takes_of rfl rfl rfl rfl) rfl (da_cons (de_ix (de_v 0) (de_b de_int) (fun _ _ => rfl)) da_nil)))) dss_nil)
      (dss_cons (ds_if (dt_eq (hu64 hr) (de_b (de_len rfl T.n_len (db_cons (de_v 0) db_nil))) (de_b de_int)) (dss_one (ds_ret (de_fnS (G_joined_alike.mono (by omega)) hr (takes_of rfl rfl rfl rfl) rfl (da_cons (de_ix (de_v 0) (de_b de_int) (fun _ _ => rfl)) (da_cons (de_ix (de_v 0) (de_b de_int) (fun _ _ => rfl)) da_nil))))) dss_nil)
      (dss_cons (ds_if (dt_eq (hu64 hr) (de_b (de_len rfl T.n_len (db_cons (de_v 0) db_nil))) (de_b de_int)) (dss_one (ds_ret (de_fnS (G_joined_alike.mono (by omega)) hr (takes_of rfl rfl rfl rfl) rfl (da_cons (de_ix (de_v 0) (de_b de_int) (fun _ _ => rfl)) (da_cons (de_ix (de_v 0) (de_b de_int) (fun _ _ => rfl)) (da_cons (de_ix (de_v 0) (de_b de_int) (fun _ _ => rfl)) da_nil)))))) dss_nil)
      (dss_cons (ds_if (dt_eq (hu64 hr) (de_b (de_len rfl T.n_len (db_cons (de_v 0) db_nil))) (de_b de_int)) (dss_one (ds_ret (de_fnS (G_joined_alike.mono (by omega)) hr (takes_of rfl rfl rfl rfl) rfl (da_cons (de_ix (de_v 0) (de_b de_int) (fun _ _ => rfl)) (da_cons (de_ix (de_v 0) (de_b de_int) (fun _ _ => rfl)) (da_cons (de_ix (de_v 0) (de_b de_int) (fun _ _ => rfl)) (da_cons (de_ix (de_v 0) (de_b de_int) (fun _ _ => rfl)) da_nil))))))) dss_nil)
      (dss_one (ds_ret (de_fnS (G_joined_alike.mono (by omega)) hr (takes_of rfl rfl rfl rfl) rfl (da_cons (de_ix (de_v 0) (de_b de_int) (fun _ _ => rfl)) (da_cons (de_ix (de_v 0) (de_b de_int) (fun _ _ => rfl)) (da_cons (de_ix (de_v 0) (de_b de_int) (fun _ _ => rfl)) (da_cons (de_ix (de_v 0) (de_b de_int) (fun _ _ => rfl)) (da_cons (de_ix (de_v 0) (de_b de_int) (fun _ _ => rfl)) da_nil))))))))))))
theorem ok_L_chain {a : Addr} {fd : FuncData} (F : Fun K "_law_chain" "_law_chain" s_L_chain a fd) (hm : mg "_law_chain" = some (.ref a)) (hb : Binds K fd ["rows"] []) (T : Tx K mg g) (G_joined_witness : FDs P w K mg base g 4 "joined_witness" f_joined_witness) : FD P w K mg base g 5 "_law_chain" ["rows"] f_L_chain :=
  okF F sc_L_chain hm hb m_L_chain fun cdv A outer s H E hr =>
    (dss_cons (ds_if (dt_eq (hu64 hr) (de_b (de_len rfl T.n_len (db_cons (de_v 0) db_nil))) (de_b de_int)) (dss_one (ds_ret (de_fnS (G_joined_witness.mono (by omega)) hr (takes_of rfl rfl rfl rfl) rfl (da_cons (de_ix (de_v 0) (de_b de_int) (fun _ _ => rfl)) da_nil)))) dss_nil)
      (dss_cons (ds_if (dt_eq (hu64 hr) (de_b (de_len rfl T.n_len (db_cons (de_v 0) db_nil))) (de_b de_int)) (dss_one (ds_ret (de_fnS (G_joined_witness.mono (by omega)) hr (takes_of rfl rfl rfl rfl) rfl (da_cons (de_ix (de_v 0) (de_b de_int) (fun _ _ => rfl)) (da_cons (de_ix (de_v 0) (de_b de_int) (fun _ _ => rfl)) da_nil))))) dss_nil)
      (dss_cons (ds_if (dt_eq (hu64 hr) (de_b (de_len rfl T.n_len (db_cons (de_v 0) db_nil))) (de_b de_int)) (dss_one (ds_ret (de_fnS (G_joined_witness.mono (by omega)) hr (takes_of rfl rfl rfl rfl) rfl (da_cons (de_ix (de_v 0) (de_b de_int) (fun _ _ => rfl)) (da_cons (de_ix (de_v 0) (de_b de_int) (fun _ _ => rfl)) (da_cons (de_ix (de_v 0) (de_b de_int) (fun _ _ => rfl)) da_nil)))))) dss_nil)
      (dss_cons (ds_if (dt_eq (hu64 hr) (de_b (de_len rfl T.n_len (db_cons (de_v 0) db_nil))) (de_b de_int)) (dss_one (ds_ret (de_fnS (G_joined_witness.mono (by omega)) hr (takes_of rfl rfl rfl rfl) rfl (da_cons (de_ix (de_v 0) (de_b de_int) (fun _ _ => rfl)) (da_cons (de_ix (de_v 0) (de_b de_int) (fun _ _ => rfl)) (da_cons (de_ix (de_v 0) (de_b de_int) (fun _ _ => rfl)) (da_cons (de_ix (de_v 0) (de_b de_int) (fun _ _ => rfl)) da_nil))))))) dss_nil)
      (dss_one (ds_ret (de_fnS (G_joined_witness.mono (by omega)) hr (takes_of rfl rfl rfl rfl) rfl (da_cons (de_ix (de_v 0) (de_b de_int) (fun _ _ => rfl)) (da_cons (de_ix (de_v 0) (de_b de_int) (fun _ _ => rfl)) (da_cons (de_ix (de_v 0) (de_b de_int) (fun _ _ => rfl)) (da_cons (de_ix (de_v 0) (de_b de_int) (fun _ _ => rfl)) (da_cons (de_ix (de_v 0) (de_b de_int) (fun _ _ => rfl)) da_nil))))))))))))
theorem ok_L_product {a : Addr} {fd : FuncData} (F : Fun K "_law_product" "_law_product" s_L_product a fd) (hm : mg "_law_product" = some (.ref a)) (hb : Binds K fd ["rows"] []) (T : Tx K mg g) (G_L_after : FD P w K mg base g 1 "_law_after" ["first", "second"] f_L_after) : FD P w K mg base g 2 "_law_product" ["rows"] f_L_product :=
  okF F sc_L_product hm hb m_L_product fun cdv A outer s H E hr =>
    (dss_cons (ds_set (i := 1) hT sc_L_product.nd rfl (.inl rfl) (de_ix (de_v 0) (de_b de_int) (fun _ _ => rfl)))
      (dss_cons (ds_for (pt := (.nm 2)) hT (passes_of rfl) rfl (di_seq (de_sl (de_v 0) (do_some (de_b de_int)) do_none)) (pg_name (i := 2) sc_L_product.nd rfl (.inl rfl)) (dss_one (ds_set (i := 1) hT sc_L_product.nd rfl (.inl rfl) (de_tuple rfl T.n_tuple (db_cons (de_b (de_fn (G_L_after.mono (by omega)) hr (takes_of rfl rfl rfl rfl) rfl (da_cons (de_var 1) (da_cons (de_var 2) da_nil)))) db_nil)))))
      (dss_one (ds_retV 1))))
theorem ok_L_no_join {a : Addr} {fd : FuncData} (F : Fun K "_law_no_join" "_law_no_join" s_L_no_join a fd) (hm : mg "_law_no_join" = some (.ref a)) (hb : Binds K fd ["rows"] []) (T : Tx K mg g) (G_L_join : FD P w K mg base g 2 "_law_join" ["rows"] f_L_join) : FD P w K mg base g 3 "_law_no_join" ["rows"] f_L_no_join :=
  okF F sc_L_no_join hm hb m_L_no_join fun cdv A outer s H E hr =>
    (dss_cons (ds_tryAs (i := 1) (su := fun c p => sup p (sSeq (sIf (tOrM (mTest (mB (mC (.bl (isv_BadGraph c))))) (tOrM (mTest (mB (mC (.bl (isv_BadWitness c))))) (mTest (mB (mC (.bl (isv_BadPermutation c))))))) (sRet (mC (.bl false))) sNop)
    (sRet (mAnd (mB (mC (.bl (isv_UnseenError c)))) (mB (mC (.bl (isv_ValueError c)))))))) rfl rfl sc_L_no_join.nd rfl rfl ⟨rfl, by decide, (.inl T.e_BadStatement.mg)⟩ (takes_of rfl rfl rfl rfl) (hcat_BadStatement T) (fun W pn xe tk hp => (dss_one (ds_expr (de_fn (G_L_join.mono (by omega)) hr tk rfl (da_cons (de_var 0) da_nil))))) (fun c p a oe d pn hct hpd hz hf => sup_case hpd hz fun hz => have hc3 := cat_BadStatement_lt hct; (dss_cons (ds_if (dt_w (dw_or (dt_val (de_b (de_isEc (T.xc c hc3) hz hf (T.kit_BadGraph c hc3) rfl T.n_isinstance rfl T.e_BadGraph.mg rfl (.inl rfl) (by decide) (by decide) (by decide) rfl rfl))) (dw_or (dt_val (de_b (de_isEc (T.xc c hc3) hz hf (T.kit_BadWitness c hc3) rfl T.n_isinstance rfl T.e_BadWitness.mg rfl (.inl rfl) (by decide) (by decide) (by decide) rfl rfl))) (dw_or1 (dt_val (de_b (de_isEc (T.xc c hc3) hz hf (T.kit_BadPermutation c hc3) rfl T.n_isinstance rfl T.e_BadPermutation.mg rfl (.inl rfl) (by decide) (by decide) (by decide) rfl rfl))))))) (dss_one (ds_ret de_bl)) dss_nil)
      (dss_one (ds_ret (de_and (de_b (de_isEc (T.xc c hc3) hz hf (T.kit_UnseenError c hc3) rfl T.n_isinstance rfl T.e_UnseenError.mg rfl (.inl rfl) (by decide) (by decide) (by decide) rfl rfl)) (de_one (de_b (de_isEb (T.xc c hc3) hz hf (T.kit_ValueError c hc3) rfl T.n_isinstance rfl T.n_ValueError (by decide +kernel) rfl (.inl rfl) (by decide) (by decide) (by decide) (by decide) rfl rfl)))))))))
      (dss_one (ds_ret de_bl)))
theorem ok_L_no_chain {a : Addr} {fd : FuncData} (F : Fun K "_law_no_chain" "_law_no_chain" s_L_no_chain a fd) (hm : mg "_law_no_chain" = some (.ref a)) (hb : Binds K fd ["rows"] []) (T : Tx K mg g) (G_L_chain : FD P w K mg base g 5 "_law_chain" ["rows"] f_L_chain) : FD P w K mg base g 6 "_law_no_chain" ["rows"] f_L_no_chain :=
  okF F sc_L_no_chain hm hb m_L_no_chain fun cdv A outer s H E hr =>
    (dss_cons (ds_tryAs (i := 1) (su := fun c p => sup p (sSeq (sIf (tOrM (mTest (mB (mC (.bl (isv_BadGraph c))))) (tOrM (mTest (mB (mC (.bl (isv_BadWitness c))))) (tOrM (mTest (mB (mC (.bl (isv_BadDraw c))))) (mTest (mB (mC (.bl (isv_BadStatement c)))))))) (sRet (mC (.bl false))) sNop)
    (sRet (mAnd (mB (mC (.bl (isv_UnseenError c)))) (mB (mC (.bl (isv_ValueError c)))))))) rfl rfl sc_L_no_chain.nd rfl rfl ⟨rfl, by decide, (.inl T.e_BadPermutation.mg)⟩ (takes_of rfl rfl rfl rfl) (hcat_BadPermutation T) (fun W pn xe tk hp => (dss_one (ds_expr (de_fn (G_L_chain.mono (by omega)) hr tk rfl (da_cons (de_var 0) da_nil))))) (fun c p a oe d pn hct hpd hz hf => sup_case hpd hz fun hz => have hc3 := cat_BadPermutation_lt hct; (dss_cons (ds_if (dt_w (dw_or (dt_val (de_b (de_isEc (T.xc c hc3) hz hf (T.kit_BadGraph c hc3) rfl T.n_isinstance rfl T.e_BadGraph.mg rfl (.inl rfl) (by decide) (by decide) (by decide) rfl rfl))) (dw_or (dt_val (de_b (de_isEc (T.xc c hc3) hz hf (T.kit_BadWitness c hc3) rfl T.n_isinstance rfl T.e_BadWitness.mg rfl (.inl rfl) (by decide) (by decide) (by decide) rfl rfl))) (dw_or (dt_val (de_b (de_isEc (T.xc c hc3) hz hf (T.kit_BadDraw c hc3) rfl T.n_isinstance rfl T.e_BadDraw.mg rfl (.inl rfl) (by decide) (by decide) (by decide) rfl rfl))) (dw_or1 (dt_val (de_b (de_isEc (T.xc c hc3) hz hf (T.kit_BadStatement c hc3) rfl T.n_isinstance rfl T.e_BadStatement.mg rfl (.inl rfl) (by decide) (by decide) (by decide) rfl rfl)))))))) (dss_one (ds_ret de_bl)) dss_nil)
      (dss_one (ds_ret (de_and (de_b (de_isEc (T.xc c hc3) hz hf (T.kit_UnseenError c hc3) rfl T.n_isinstance rfl T.e_UnseenError.mg rfl (.inl rfl) (by decide) (by decide) (by decide) rfl rfl)) (de_one (de_b (de_isEb (T.xc c hc3) hz hf (T.kit_ValueError c hc3) rfl T.n_isinstance rfl T.n_ValueError (by decide +kernel) rfl (.inl rfl) (by decide) (by decide) (by decide) (by decide) rfl rfl)))))))))
      (dss_one (ds_ret de_bl)))
theorem ok_L_stretch {a : Addr} {fd : FuncData} (F : Fun K "_law_stretch" "_law_stretch" s_L_stretch a fd) (hm : mg "_law_stretch" = some (.ref a)) (hb : Binds K fd ["told", "graphs", "rows", "a", "b"] []) (T : Tx K mg g) (G_holds : FD P w K mg base g 15 "holds" ["statement", "witness"] f_holds) (G_swap_statement : FD P w K mg base g 1 "swap_statement" ["statement"] f_swap_statement) (G_swap_witness : FD P w K mg base g 17 "swap_witness" ["statement", "witness"] f_swap_witness) (G_L_same : FD P w K mg base g 8 "_law_same" ["value", "due"] f_L_same) (G_L_undone : FD P w K mg base g 1 "_law_undone" ["row"] f_L_undone) (G_L_moved : FD P w K mg base g 2 "_law_moved" ["edges", "row"] f_L_moved) (G_L_join : FD P w K mg base g 2 "_law_join" ["rows"] f_L_join) (G_L_chain : FD P w K mg base g 5 "_law_chain" ["rows"] f_L_chain) (G_L_product : FD P w K mg base g 2 "_law_product" ["rows"] f_L_product) : FD P w K mg base g 18 "_law_stretch" ["told", "graphs", "rows", "a", "b"] f_L_stretch :=
  okF F sc_L_stretch hm hb m_L_stretch fun cdv A outer s H E hr =>
    (dss_cons (ds_set (i := 5) hT sc_L_stretch.nd rfl (.inl rfl) (de_tup (da_cons de_str (da_cons (de_ix (de_v 1) (de_v 3) (fun _ _ => rfl)) (da_cons (de_ix (de_v 1) (de_v 4) (fun _ _ => rfl)) da_nil)))))
      (dss_cons (ds_set (i := 6) hT sc_L_stretch.nd rfl (.inl rfl) (de_fn (G_L_product.mono (by omega)) hr (takes_of rfl rfl rfl rfl) rfl (da_cons (de_sl (de_v 2) (do_some (de_v 3)) (do_some (de_v 4))) da_nil)))
      (dss_cons (ds_set (i := 7) hT sc_L_stretch.nd rfl (.inl rfl) (de_fn (G_L_join.mono (by omega)) hr (takes_of rfl rfl rfl rfl) rfl (da_cons (de_sl (de_v 0) (do_some (de_v 3)) (do_some (de_v 4))) da_nil)))
      (dss_cons (ds_set (i := 8) hT sc_L_stretch.nd rfl (.inl rfl) (de_fn (G_L_chain.mono (by omega)) hr (takes_of rfl rfl rfl rfl) rfl (da_cons (de_sl (de_v 2) (do_some (de_v 3)) (do_some (de_v 4))) da_nil)))
      (dss_cons (ds_if (dt_w (dw_or (dt_not (dt_val (de_b (de_fnB (G_L_same.mono (by omega)) hr (takes_of rfl rfl rfl rfl) rfl (db_cons (de_v 7) (db_cons (de_v 5) db_nil)))))) (dw_or1 (dt_not (dt_val (de_b (de_fnB (G_L_same.mono (by omega)) hr (takes_of rfl rfl rfl rfl) rfl (db_cons (de_v 8) (db_cons (de_v 6) db_nil))))))))) (dss_one (ds_ret de_bl)) dss_nil)
      (dss_cons (ds_frz [6] (ds_if (dt_w (dw_or (dt_ne (hu64 hr) (de_b (de_fn (G_L_moved.mono (by omega)) hr (takes_of rfl rfl rfl rfl) rfl (da_cons (de_ix (de_b (de_ix (de_v 1) (de_v 3) (fun _ _ => rfl))) (de_b de_int) (fun _ _ => rfl)) (da_cons (de_var 6) da_nil)))) (de_b (de_ix (de_b (de_ix (de_v 1) (de_v 4) (fun _ _ => rfl))) (de_b de_int) (fun _ _ => rfl)))) (dw_or1 (dt_not (dt_val (de_b (de_fn (G_L_same.mono (by omega)) hr (takes_of rfl rfl rfl rfl) rfl (da_cons (de_fnB (G_holds.mono (by omega)) hr (takes_of rfl rfl rfl rfl) rfl (db_cons (de_v 7) (db_cons (de_v 8) db_nil))) (da_cons de_bl da_nil))))))))) (dss_one (ds_ret de_bl)) dss_nil))
      (dss_cons (ds_setLc (i := 9) (own := [("k", 10)]) (pt := (.nm 10)) hT rfl sc_L_stretch.nd rfl rfl (sw_true rfl rfl rfl (by decide +kernel)) (di_rng1 rfl T.n_range (de_b (de_sub (de_v 4) (de_v 3)))) (blkOk_by (N := ["told", "graphs", "rows", "a", "b", "due", "row", "joined", "whole", "turned", "k", "undone"]) (sc := defScope s_L_stretch) (by decide +kernel)) (by decide) (fun _ _ _ _ _ => (pg_name (i := 10) sc_L_stretch.nd rfl (.inl rfl))) (fun _ _ _ _ _ => dts_nil) (fun _ _ _ _ _ => (de_fn (G_swap_statement.mono (by omega)) hr takes0 rfl (da_cons (de_ix (de_v 0) (de_b (de_sub (de_b (de_sub (de_v 4) (de_b de_int))) (de_v 10))) (fun _ _ => rfl)) da_nil))))
      (dss_cons (ds_setLc (i := 11) (own := [("k", 10)]) (pt := (.nm 10)) hT rfl sc_L_stretch.nd rfl rfl (sw_true rfl rfl rfl (by decide +kernel)) (di_rng1 rfl T.n_range (de_b (de_sub (de_v 4) (de_v 3)))) (blkOk_by (N := ["told", "graphs", "rows", "a", "b", "due", "row", "joined", "whole", "turned", "k", "undone"]) (sc := defScope s_L_stretch) (by decide +kernel)) (by decide) (fun _ _ _ _ _ => (pg_name (i := 10) sc_L_stretch.nd rfl (.inl rfl))) (fun _ _ _ _ _ => dts_nil) (fun _ _ _ _ _ => (de_fn (G_swap_witness.mono (by omega)) hr takes0 rfl (da_cons (de_ix (de_v 0) (de_b (de_sub (de_b (de_sub (de_v 4) (de_b de_int))) (de_v 10))) (fun _ _ => rfl)) (da_cons (de_ix (de_v 2) (de_b (de_sub (de_b (de_sub (de_v 4) (de_b de_int))) (de_v 10))) (fun _ _ => rfl)) da_nil)))))
      (dss_cons (ds_frz [9] (ds_if (dt_not (dt_val (de_b (de_fn (G_L_same.mono (by omega)) hr (takes_of rfl rfl rfl rfl) rfl (da_cons (de_fn (G_L_join.mono (by omega)) hr (takes_of rfl rfl rfl rfl) rfl (da_cons (de_var 9) da_nil)) (da_cons (de_tup (da_cons de_str (da_cons (de_ix (de_v 1) (de_v 4) (fun _ _ => rfl)) (da_cons (de_ix (de_v 1) (de_v 3) (fun _ _ => rfl)) da_nil)))) da_nil)))))) (dss_one (ds_ret de_bl)) dss_nil))
      (dss_one (ds_frz [6, 11] (ds_ret (de_fn (G_L_same.mono (by omega)) hr (takes_of rfl rfl rfl rfl) rfl (da_cons (de_fn (G_L_chain.mono (by omega)) hr (takes_of rfl rfl rfl rfl) rfl (da_cons (de_var 11) da_nil)) (da_cons (de_tuple rfl T.n_tuple (db_cons (de_b (de_fn (G_L_undone.mono (by omega)) hr (takes_of rfl rfl rfl rfl) rfl (da_cons (de_var 6) da_nil))) db_nil)) da_nil)))))))))))))))
theorem ok_L_other_graph {a : Addr} {fd : FuncData} (F : Fun K "_law_other_graph" "_law_other_graph" s_L_other_graph a fd) (hm : mg "_law_other_graph" = some (.ref a)) (hb : Binds K fd ["graph", "row"] []) (T : Tx K mg g) (G_L_pairs : FD P w K mg base g 1 "_law_pairs" ["nodes"] f_L_pairs) : FD P w K mg base g 2 "_law_other_graph" ["graph", "row"] f_L_other_graph :=
  okF F sc_L_other_graph hm hb m_L_other_graph fun cdv A outer s H E hr =>
    (dss_cons (ds_set (i := 2) hT sc_L_other_graph.nd rfl (.inl rfl) (de_fn (G_L_pairs.mono (by omega)) hr (takes_of rfl rfl rfl rfl) rfl (da_cons (de_ix (de_v 0) (de_b de_int) (fun _ _ => rfl)) da_nil)))
      (dss_cons (ds_if (dt_w (dw_or (dt_eq (hu64 hr) (de_b (de_len rfl T.n_len (db_cons (de_v 2) db_nil))) (de_b de_int)) (dw_or1 (dt_eq (hu64 hr) (de_b (de_mod (de_b (de_int1 rfl T.n_int (db_cons (de_b (de_ix (de_v 1) (de_b de_int) (fun _ _ => rfl))) db_nil))) (de_b de_int))) (de_b de_int))))) (dss_one (ds_ret (de_tup (da_cons (de_addL (de_b de_int) (de_b (de_mod (de_b (de_int1 rfl T.n_int (db_cons (de_b (de_ix (de_v 0) (de_b de_int) (fun _ _ => rfl))) db_nil))) (de_b de_int)))) (da_cons (de_tup da_nil) da_nil))))) dss_nil)
      (dss_cons (ds_set (i := 3) hT sc_L_other_graph.nd rfl (.inr rfl) (de_ix (de_v 2) (de_b (de_mod (de_b (de_int1 rfl T.n_int (db_cons (de_b (de_ix (de_v 1) (de_b de_int) (fun _ _ => rfl))) db_nil))) (de_b (de_len rfl T.n_len (db_cons (de_v 2) db_nil))))) (fun _ _ => rfl)))
      (dss_cons (ds_setLc (i := 4) (own := [("edge", 5)]) (pt := (.nm 5)) hT rfl sc_L_other_graph.nd rfl rfl (sw_true rfl rfl rfl (by decide +kernel)) (di_seq (de_ix (de_v 0) (de_b de_int) (fun _ _ => rfl))) (blkOk_by (N := ["graph", "row", "pairs", "odd", "edges", "edge"]) (sc := defScope s_L_other_graph) (by decide +kernel)) (by decide) (fun _ _ _ _ _ => (pg_name (i := 5) sc_L_other_graph.nd rfl (.inl rfl))) (fun _ _ _ _ _ => (dts_one (dt_ne (hu64 hr) (de_v 5) (de_v 3)))) (fun _ _ _ _ _ => (de_var 5)))
      (dss_cons (ds_if (dt_nin (hu65 hr) (de_v 3) (de_b (de_ix (de_v 0) (de_b de_int) (fun _ _ => rfl)))) (dss_one (ds_app 4 (he := (de_var 3)) (hx := hT))) dss_nil)
      (dss_one (ds_ret (de_tup (da_cons (de_ix (de_v 0) (de_b de_int) (fun _ _ => rfl)) (da_cons (de_tuple rfl T.n_tuple (db_cons (de_b (de_sorted (hu65 hr) rfl T.n_sorted (db_cons (de_v 4) db_nil))) db_nil)) da_nil))))))))))
theorem ok_L_wrong_joins {a : Addr} {fd : FuncData} (F : Fun K "_law_wrong_joins" "_law_wrong_joins" s_L_wrong_joins a fd) (hm : mg "_law_wrong_joins" = some (.ref a)) (hb : Binds K fd ["told", "graphs", "row"] []) (T : Tx K mg g) (G_make_graph : FD P w K mg base g 1 "make_graph" ["nodes", "edges"] f_make_graph) (G_ring : FD P w K mg base g 1 "ring" ["graph"] f_ring) (G_circuit : FD P w K mg base g 2 "circuit" ["inputs", "gates"] f_circuit) (G_both : FD P w K mg base g 10 "both" ["first", "second"] f_both) (G_L_made : FD P w K mg base g 2 "_law_made" ["first", "last"] f_L_made) (G_L_no_join : FD P w K mg base g 3 "_law_no_join" ["rows"] f_L_no_join) (G_L_other_graph : FD P w K mg base g 2 "_law_other_graph" ["graph", "row"] f_L_other_graph) : FD P w K mg base g 11 "_law_wrong_joins" ["told", "graphs", "row"] f_L_wrong_joins :=
  okF F sc_L_wrong_joins hm hb m_L_wrong_joins fun cdv A outer s H E hr =>
    (dss_cons (ds_set (i := 3) hT sc_L_wrong_joins.nd rfl (.inl rfl) (de_len rfl T.n_len (db_cons (de_v 0) db_nil)))
      (dss_cons (ds_set (i := 4) hT sc_L_wrong_joins.nd rfl (.inl rfl) (de_mod (de_b (de_int1 rfl T.n_int (db_cons (de_b (de_ix (de_v 2) (de_b de_int) (fun _ _ => rfl))) db_nil))) (de_v 3)))
      (dss_cons (ds_set (i := 5) hT sc_L_wrong_joins.nd rfl (.inl rfl) (de_fn (G_make_graph.mono (by omega)) hr (takes_of rfl rfl rfl rfl) rfl (da_cons de_int (da_cons (de_lst (da_cons (de_tup (da_cons de_int (da_cons de_int da_nil))) (da_cons (de_tup (da_cons de_int (da_cons de_int da_nil))) (da_cons (de_tup (da_cons de_int (da_cons de_int da_nil))) da_nil)))) da_nil))))
      (dss_cons (ds_frz [5] (ds_set (i := 6) hT sc_L_wrong_joins.nd rfl (.inl rfl) (de_lst (da_cons (de_fn (G_ring.mono (by omega)) hr (takes_of rfl rfl rfl rfl) rfl (da_cons (de_var 5) da_nil)) (da_cons (de_fn (G_circuit.mono (by omega)) hr (takes_of rfl rfl rfl rfl) rfl (da_cons de_int (da_cons (de_lst (da_cons (de_tup (da_cons de_str (da_cons de_int da_nil))) da_nil)) da_nil))) (da_cons (de_fn (G_both.mono (by omega)) hr (takes_of rfl rfl rfl rfl) rfl (da_cons (de_ix (de_v 0) (de_v 4) (fun _ _ => rfl)) (da_cons (de_ix (de_v 0) (de_v 4) (fun _ _ => rfl)) da_nil))) da_nil))))))
      (dss_cons (ds_if (dt_not (dt_val (de_b (de_fn (G_L_no_join.mono (by omega)) hr (takes_of rfl rfl rfl rfl) rfl (da_cons (de_addL (de_b (de_addL (de_b (de_sl (de_v 0) do_none (do_some (de_v 4)))) (de_b (de_lst (da_cons (de_ix (de_v 6) (de_b (de_mod (de_b (de_int1 rfl T.n_int (db_cons (de_b (de_ix (de_v 2) (de_b de_int) (fun _ _ => rfl))) db_nil))) (de_b de_int))) (fun _ _ => rfl)) da_nil))))) (de_b (de_sl (de_v 0) (do_some (de_b (de_addL (de_v 4) (de_b de_int)))) do_none))) da_nil))))) (dss_one (ds_ret de_bl)) dss_nil)
      (dss_cons (ds_if (dt_eq (hu64 hr) (de_v 3) (de_b de_int)) (dss_one (ds_ret de_bl)) dss_nil)
      (dss_cons (ds_set (i := 4) hT sc_L_wrong_joins.nd rfl (.inl rfl) (de_addL (de_b de_int) (de_b (de_mod (de_b (de_int1 rfl T.n_int (db_cons (de_b (de_ix (de_v 2) (de_b de_int) (fun _ _ => rfl))) db_nil))) (de_b (de_sub (de_v 3) (de_b de_int)))))))
      (dss_cons (ds_set (i := 7) hT sc_L_wrong_joins.nd rfl (.inl rfl) (de_fn (G_L_other_graph.mono (by omega)) hr (takes_of rfl rfl rfl rfl) rfl (da_cons (de_ix (de_v 1) (de_v 4) (fun _ _ => rfl)) (da_cons (de_sl (de_v 2) (do_some (de_b de_int)) do_none) da_nil))))
      (dss_cons (ds_set (i := 8) hT sc_L_wrong_joins.nd rfl (.inl rfl) (de_ix (de_v 1) (de_b (de_addL (de_v 4) (de_b de_int))) (fun _ _ => rfl)))
      (dss_cons (ds_if (dt_ne (hu64 hr) (de_b (de_ix (de_v 7) (de_b de_int) (fun _ _ => rfl))) (de_b (de_ix (de_b (de_ix (de_v 1) (de_v 4) (fun _ _ => rfl))) (de_b de_int) (fun _ _ => rfl)))) (dss_one (ds_frz [7] (ds_set (i := 8) hT sc_L_wrong_joins.nd rfl (.inl rfl) (de_var 7)))) dss_nil)
      (dss_one (ds_frz [7] (ds_ret (de_fn (G_L_no_join.mono (by omega)) hr (takes_of rfl rfl rfl rfl) rfl (da_cons (de_addL (de_b (de_addL (de_b (de_sl (de_v 0) do_none (do_some (de_v 4)))) (de_b (de_lst (da_cons (de_fn (G_L_made.mono (by omega)) hr (takes_of rfl rfl rfl rfl) rfl (da_cons (de_var 7) (da_cons (de_var 8) da_nil))) da_nil))))) (de_b (de_sl (de_v 0) (do_some (de_b (de_addL (de_v 4) (de_b de_int)))) do_none))) da_nil)))))))))))))))
theorem ok_L_wrong_chains {a : Addr} {fd : FuncData} (F : Fun K "_law_wrong_chains" "_law_wrong_chains" s_L_wrong_chains a fd) (hm : mg "_law_wrong_chains" = some (.ref a)) (hb : Binds K fd ["rows", "row"] []) (T : Tx K mg g) (G_L_no_chain : FD P w K mg base g 6 "_law_no_chain" ["rows"] f_L_no_chain) : FD P w K mg base g 7 "_law_wrong_chains" ["rows", "row"] f_L_wrong_chains :=
  okF F sc_L_wrong_chains hm hb m_L_wrong_chains fun cdv A outer s H E hr =>
    (dss_cons (ds_set (i := 2) hT sc_L_wrong_chains.nd rfl (.inl rfl) (de_mod (de_b (de_int1 rfl T.n_int (db_cons (de_b (de_ix (de_v 1) (de_b de_int) (fun _ _ => rfl))) db_nil))) (de_b (de_len rfl T.n_len (db_cons (de_v 0) db_nil)))))
      (dss_cons (ds_set (i := 3) hT sc_L_wrong_chains.nd rfl (.inl rfl) (de_ix (de_v 0) (de_v 2) (fun _ _ => rfl)))
      (dss_cons (ds_set (i := 4) hT sc_L_wrong_chains.nd rfl (.inl rfl) (de_mod (de_b (de_int1 rfl T.n_int (db_cons (de_b (de_ix (de_v 1) (de_b de_int) (fun _ _ => rfl))) db_nil))) (de_b (de_len rfl T.n_len (db_cons (de_v 3) db_nil)))))
      (dss_cons (ds_set (i := 5) hT sc_L_wrong_chains.nd rfl (.inl rfl) (de_addL (de_b (de_addL (de_b (de_sl (de_v 3) do_none (do_some (de_v 4)))) (de_b (de_tup (da_cons (de_len rfl T.n_len (db_cons (de_v 3) db_nil)) da_nil))))) (de_b (de_sl (de_v 3) (do_some (de_b (de_addL (de_v 4) (de_b de_int)))) do_none))))
      (dss_cons (ds_set (i := 6) hT sc_L_wrong_chains.nd rfl (.inl rfl) (de_addL (de_b (de_addL (de_b (de_sl (de_v 3) do_none (do_some (de_v 4)))) (de_b (de_tup (da_cons (de_sub (de_b (de_sub (de_b de_int) (de_b de_int))) (de_b (de_mod (de_b (de_int1 rfl T.n_int (db_cons (de_b (de_ix (de_v 1) (de_b de_int) (fun _ _ => rfl))) db_nil))) (de_b de_int)))) da_nil))))) (de_b (de_sl (de_v 3) (do_some (de_b (de_addL (de_v 4) (de_b de_int)))) do_none))))
      (dss_cons (ds_set (i := 7) hT sc_L_wrong_chains.nd rfl (.inl rfl) (de_addL (de_b (de_addL (de_b (de_sl (de_v 3) do_none (do_some (de_v 4)))) (de_b (de_tup (da_cons (de_ix (de_v 3) (de_b (de_sub (de_v 4) (de_b de_int))) (fun _ _ => rfl)) da_nil))))) (de_b (de_sl (de_v 3) (do_some (de_b (de_addL (de_v 4) (de_b de_int)))) do_none))))
      (dss_cons (ds_set (i := 8) hT sc_L_wrong_chains.nd rfl (.inl rfl) (de_ix (de_b (de_lst (da_cons (de_var 5) (da_cons (de_var 6) (da_cons (de_var 7) (da_cons (de_addL (de_v 3) (de_b (de_tup (da_cons de_int da_nil)))) (da_cons (de_tup (da_cons de_int (da_cons de_int (da_cons de_int (da_cons de_int (da_cons de_int (da_cons de_int (da_cons de_int da_nil)))))))) (da_cons (de_tup (da_cons de_int (da_cons de_int da_nil))) da_nil)))))))) (de_b (de_mod (de_b (de_int1 rfl T.n_int (db_cons (de_b (de_ix (de_v 1) (de_b de_int) (fun _ _ => rfl))) db_nil))) (de_b de_int))) (fun _ _ => rfl)))
      (dss_cons (ds_if (dt_w (dw_and (dt_eq (hu64 hr) (de_b (de_len rfl T.n_len (db_cons (de_v 3) db_nil))) (de_b de_int)) (dw_and1 (dt_eq (hu64 hr) (de_v 8) (de_v 3))))) (dss_one (ds_set (i := 8) hT sc_L_wrong_chains.nd rfl (.inl rfl) (de_var 5))) dss_nil)
      (dss_cons (ds_if (dt_w (dw_or (dt_not (dt_val (de_b (de_fn (G_L_no_chain.mono (by omega)) hr (takes_of rfl rfl rfl rfl) rfl (da_cons (de_addL (de_b (de_addL (de_b (de_sl (de_v 0) do_none (do_some (de_v 2)))) (de_b (de_lst (da_cons (de_var 8) da_nil))))) (de_b (de_sl (de_v 0) (do_some (de_b (de_addL (de_v 2) (de_b de_int)))) do_none))) da_nil))))) (dw_or1 (dt_not (dt_val (de_b (de_fn (G_L_no_chain.mono (by omega)) hr (takes_of rfl rfl rfl rfl) rfl (da_cons (de_lst (da_cons (de_var 8) da_nil)) da_nil)))))))) (dss_one (ds_ret de_bl)) dss_nil)
      (dss_cons (ds_if (dt_eq (hu64 hr) (de_b (de_len rfl T.n_len (db_cons (de_v 0) db_nil))) (de_b de_int)) (dss_one (ds_ret de_bl)) dss_nil)
      (dss_cons (ds_set (i := 9) hT sc_L_wrong_chains.nd rfl (.inl rfl) (de_addL (de_v 3) (de_b (de_tup (da_cons (de_len rfl T.n_len (db_cons (de_v 3) db_nil)) da_nil)))))
      (dss_cons (ds_if (dt_not (dt_val (de_b (de_fn (G_L_no_chain.mono (by omega)) hr (takes_of rfl rfl rfl rfl) rfl (da_cons (de_addL (de_b (de_addL (de_b (de_sl (de_v 0) do_none (do_some (de_v 2)))) (de_b (de_lst (da_cons (de_var 9) da_nil))))) (de_b (de_sl (de_v 0) (do_some (de_b (de_addL (de_v 2) (de_b de_int)))) do_none))) da_nil))))) (dss_one (ds_ret de_bl)) dss_nil)
      (dss_one (ds_ret (de_fn (G_L_no_chain.mono (by omega)) hr (takes_of rfl rfl rfl rfl) rfl (da_cons (de_addL (de_b (de_addL (de_b (de_sl (de_v 0) do_none (do_some (de_v 2)))) (de_b (de_lst (da_cons (de_tup da_nil) da_nil))))) (de_b (de_sl (de_v 0) (do_some (de_b (de_addL (de_v 2) (de_b de_int)))) do_none))) da_nil))))))))))))))))
theorem ok_law {a : Addr} {fd : FuncData} (F : Fun K "law" "law" s_law a fd) (T : Tx K mg g) (G_joined_alike : FDs P w K mg base g 1 "joined_alike" f_joined_alike) (G_joined_witness : FDs P w K mg base g 4 "joined_witness" f_joined_witness) (G_L_cell : FD P w K mg base g 1 "_law_cell" ["script", "k"] f_L_cell) (G_L_numbers : FD P w K mg base g 1 "_law_numbers" ["cell", "many"] f_L_numbers) (G_L_same : FD P w K mg base g 8 "_law_same" ["value", "due"] f_L_same) (G_L_factorial : FD P w K mg base g 1 "_law_factorial" ["size"] f_L_factorial) (G_L_permutation : FD P w K mg base g 2 "_law_permutation" ["size", "number"] f_L_permutation) (G_L_pairs : FD P w K mg base g 1 "_law_pairs" ["nodes"] f_L_pairs) (G_L_moved : FD P w K mg base g 2 "_law_moved" ["edges", "row"] f_L_moved) (G_L_made : FD P w K mg base g 2 "_law_made" ["first", "last"] f_L_made) (G_L_join : FD P w K mg base g 2 "_law_join" ["rows"] f_L_join) (G_L_chain : FD P w K mg base g 5 "_law_chain" ["rows"] f_L_chain) (G_L_product : FD P w K mg base g 2 "_law_product" ["rows"] f_L_product) (G_L_stretch : FD P w K mg base g 18 "_law_stretch" ["told", "graphs", "rows", "a", "b"] f_L_stretch) (G_L_wrong_joins : FD P w K mg base g 11 "_law_wrong_joins" ["told", "graphs", "row"] f_L_wrong_joins) (G_L_wrong_chains : FD P w K mg base g 7 "_law_wrong_chains" ["rows", "row"] f_L_wrong_chains) : FnOk P w K mg base (L2.CX P w) 19 a fd ["script"] (Prom K g f_law) :=
  okF0 F sc_law m_law fun cdv A outer s H E hr =>
    (dss_cons (ds_set (i := 1) hT sc_law.nd rfl (.inl rfl) (de_fn (G_L_numbers.mono (by omega)) hr (takes_of rfl rfl rfl rfl) rfl (da_cons (de_fn (G_L_cell.mono (by omega)) hr (takes_of rfl rfl rfl rfl) rfl (da_cons (de_var 0) (da_cons de_int da_nil))) (da_cons de_int da_nil))))
      (dss_cons (ds_set (i := 2) hT sc_law.nd rfl (.inl rfl) (de_addL (de_b de_int) (de_b (de_mod (de_b (de_int1 rfl T.n_int (db_cons (de_b (de_ix (de_v 1) (de_b de_int) (fun _ _ => rfl))) db_nil))) (de_b de_int)))))
      (dss_cons (ds_set (i := 3) hT sc_law.nd rfl (.inl rfl) (de_addL (de_b de_int) (de_b (de_mod (de_b (de_int1 rfl T.n_int (db_cons (de_b (de_ix (de_v 1) (de_b de_int) (fun _ _ => rfl))) db_nil))) (de_b de_int)))))
      (dss_cons (ds_set (i := 4) hT sc_law.nd rfl (.inr rfl) (de_fn (G_L_pairs.mono (by omega)) hr (takes_of rfl rfl rfl rfl) rfl (da_cons (de_var 2) da_nil)))
      (dss_cons (ds_set (i := 5) hT sc_law.nd rfl (.inr rfl) (de_fn (G_L_numbers.mono (by omega)) hr (takes_of rfl rfl rfl rfl) rfl (da_cons (de_fn (G_L_cell.mono (by omega)) hr (takes_of rfl rfl rfl rfl) rfl (da_cons (de_var 0) (da_cons de_int da_nil))) (da_cons (de_len rfl T.n_len (db_cons (de_v 4) db_nil)) da_nil))))
      (dss_cons (ds_set (i := 6) hT sc_law.nd rfl (.inr rfl) (de_ix (de_b (de_lst (da_cons de_int (da_cons de_int (da_cons de_int (da_cons de_int (da_cons de_int da_nil))))))) (de_b (de_mod (de_b (de_int1 rfl T.n_int (db_cons (de_b (de_ix (de_v 1) (de_b de_int) (fun _ _ => rfl))) db_nil))) (de_b de_int))) (fun _ _ => rfl)))
      (dss_cons (ds_set (i := 7) hT sc_law.nd rfl (.inl rfl) (de_lst (da_cons (de_tup (da_cons (de_var 2) (da_cons (de_tuple rfl T.n_tuple (db_cons (de_b (de_lc (own := [("k", 8)]) (pt := (.nm 8)) rfl sc_law.nd (di_rng1 rfl T.n_range (de_b (de_len rfl T.n_len (db_cons (de_v 4) db_nil)))) (blkOk_by (N := ["script", "row", "size", "count", "pairs", "drawn", "limit", "graphs", "k", "rows", "told", "number", "due", "whole", "cut"]) (sc := defScope s_law) (by decide +kernel)) (by decide) (fun _ _ _ _ _ => (pg_name (i := 8) sc_law.nd rfl (.inl rfl))) (fun _ _ _ _ _ => (dts_one (dt_lt (de_b (de_mod (de_b (de_int1 rfl T.n_int (db_cons (de_b (de_ix (de_v 5) (de_v 8) (fun _ _ => rfl))) db_nil))) (de_b de_int))) (de_v 6)))) (fun _ _ _ _ _ => (de_ix (de_v 4) (de_v 8) (fun _ _ => rfl))))) db_nil)) da_nil))) da_nil)))
      (dss_cons (ds_set (i := 9) hT sc_law.nd rfl (.inl rfl) (de_lst da_nil))
      (dss_cons (ds_set (i := 10) hT sc_law.nd rfl (.inl rfl) (de_lst da_nil))
      (dss_cons (ds_for (pt := (.nm 8)) hT (passes_of rfl) rfl (di_rng1 rfl T.n_range (de_v 3)) (pg_name (i := 8) sc_law.nd rfl (.inl rfl)) (dss_cons (ds_set (i := 11) hT sc_law.nd rfl (.inl rfl) (de_ix (de_b (de_fn (G_L_numbers.mono (by omega)) hr (takes_of rfl rfl rfl rfl) rfl (da_cons (de_fn (G_L_cell.mono (by omega)) hr (takes_of rfl rfl rfl rfl) rfl (da_cons (de_var 0) (da_cons (de_addL (de_b de_int) (de_v 8)) da_nil))) (da_cons de_int da_nil)))) (de_b de_int) (fun _ _ => rfl)))
      (dss_cons (ds_app 9 (he := (de_tuple rfl T.n_tuple (db_cons (de_b (de_fn (G_L_permutation.mono (by omega)) hr (takes_of rfl rfl rfl rfl) rfl (da_cons (de_var 2) (da_cons (de_mod (de_b (de_int1 rfl T.n_int (db_cons (de_v 11) db_nil))) (de_b (de_fn (G_L_factorial.mono (by omega)) hr (takes_of rfl rfl rfl rfl) rfl (da_cons (de_var 2) da_nil)))) da_nil)))) db_nil))) (hx := hT))
      (dss_cons (ds_app 7 (he := (de_tup (da_cons (de_var 2) (da_cons (de_fn (G_L_moved.mono (by omega)) hr (takes_of rfl rfl rfl rfl) rfl (da_cons (de_ix (de_b (de_ix (de_v 7) (de_v 8) (fun _ _ => rfl))) (de_b de_int) (fun _ _ => rfl)) (da_cons (de_ix (de_v 9) (de_v 8) (fun _ _ => rfl)) da_nil))) da_nil)))) (hx := hT))
      (dss_one (ds_app 10 (he := (de_fn (G_L_made.mono (by omega)) hr (takes_of rfl rfl rfl rfl) rfl (da_cons (de_ix (de_v 7) (de_v 8) (fun _ _ => rfl)) (da_cons (de_ix (de_v 7) (de_b (de_addL (de_v 8) (de_b de_int))) (fun _ _ => rfl)) da_nil)))) (hx := hT)))))))
      (dss_cons (ds_for (pt := (.nm 8)) hT (passes_of rfl) rfl (di_rng1 rfl T.n_range (de_v 3)) (pg_name (i := 8) sc_law.nd rfl (.inl rfl)) (dss_one (ds_if (dt_w (dw_or (dt_not (dt_val (de_b (de_fnB (G_L_stretch.mono (by omega)) hr (takes_of rfl rfl rfl rfl) rfl (db_cons (de_v 10) (db_cons (de_v 7) (db_cons (de_v 9) (db_cons (de_b de_int) (db_cons (de_b (de_addL (de_v 8) (de_b de_int))) db_nil))))))))) (dw_or1 (dt_not (dt_val (de_b (de_fnB (G_L_stretch.mono (by omega)) hr (takes_of rfl rfl rfl rfl) rfl (db_cons (de_v 10) (db_cons (de_v 7) (db_cons (de_v 9) (db_cons (de_v 8) (db_cons (de_v 3) db_nil)))))))))))) (dss_one (ds_ret de_bl)) dss_nil)))
      (dss_cons (ds_set (i := 12) hT sc_law.nd rfl (.inl rfl) (de_tup (da_cons de_str (da_cons (de_ix (de_v 7) (de_b de_int) (fun _ _ => rfl)) (da_cons (de_ix (de_v 7) (de_v 3) (fun _ _ => rfl)) da_nil)))))
      (dss_cons (ds_frz [9] (ds_set (i := 13) hT sc_law.nd rfl (.inl rfl) (de_fn (G_L_product.mono (by omega)) hr (takes_of rfl rfl rfl rfl) rfl (da_cons (de_var 9) da_nil))))
      (dss_cons (ds_for (pt := (.nm 14)) hT (passes_of rfl) rfl (di_rng2 rfl T.n_range (de_b de_int) (de_v 3)) (pg_name (i := 14) sc_law.nd rfl (.inl rfl)) (dss_cons (ds_if (dt_not (dt_val (de_b (de_fn (G_L_same.mono (by omega)) hr (takes_of rfl rfl rfl rfl) rfl (da_cons (de_fnS (G_joined_alike.mono (by omega)) hr (takes_of rfl rfl rfl rfl) rfl (da_cons (de_fn (G_L_join.mono (by omega)) hr (takes_of rfl rfl rfl rfl) rfl (da_cons (de_sl (de_v 10) do_none (do_some (de_v 14))) da_nil)) (da_cons (de_fn (G_L_join.mono (by omega)) hr (takes_of rfl rfl rfl rfl) rfl (da_cons (de_sl (de_v 10) (do_some (de_v 14)) do_none) da_nil)) da_nil))) (da_cons (de_var 12) da_nil)))))) (dss_one (ds_ret de_bl)) dss_nil)
      (dss_one (ds_if (dt_not (dt_val (de_b (de_fnB (G_L_same.mono (by omega)) hr (takes_of rfl rfl rfl rfl) rfl (db_cons (de_b (de_fnS (G_joined_witness.mono (by omega)) hr (takes_of rfl rfl rfl rfl) rfl (da_cons (de_fn (G_L_chain.mono (by omega)) hr (takes_of rfl rfl rfl rfl) rfl (da_cons (de_sl (de_v 9) do_none (do_some (de_v 14))) da_nil)) (da_cons (de_fn (G_L_chain.mono (by omega)) hr (takes_of rfl rfl rfl rfl) rfl (da_cons (de_sl (de_v 9) (do_some (de_v 14)) do_none) da_nil)) da_nil)))) (db_cons (de_v 13) db_nil)))))) (dss_one (ds_ret de_bl)) dss_nil))))
      (dss_cons (ds_if (dt_w (dw_or (dt_not (dt_val (de_b (de_fnB (G_L_wrong_joins.mono (by omega)) hr (takes_of rfl rfl rfl rfl) rfl (db_cons (de_v 10) (db_cons (de_v 7) (db_cons (de_b (de_sl (de_v 1) (do_some (de_b de_int)) do_none)) db_nil))))))) (dw_or1 (dt_not (dt_val (de_b (de_fnB (G_L_wrong_chains.mono (by omega)) hr (takes_of rfl rfl rfl rfl) rfl (db_cons (de_v 9) (db_cons (de_b (de_sl (de_v 1) (do_some (de_b de_int)) do_none)) db_nil))))))))) (dss_one (ds_ret de_bl)) dss_nil)
      (dss_cons (ds_if (dt_w (dw_or (dt_not (dt_val (de_b (de_fn (G_L_same.mono (by omega)) hr (takes_of rfl rfl rfl rfl) rfl (da_cons (de_fnS (G_joined_witness.mono (by omega)) hr (takes_of rfl rfl rfl rfl) rfl (da_cons (de_tup da_nil) da_nil)) (da_cons (de_tup da_nil) da_nil)))))) (dw_or1 (dt_not (dt_val (de_b (de_fn (G_L_same.mono (by omega)) hr (takes_of rfl rfl rfl rfl) rfl (da_cons (de_fnS (G_joined_witness.mono (by omega)) hr (takes_of rfl rfl rfl rfl) rfl (da_cons (de_tup da_nil) (da_cons (de_tup da_nil) (da_cons (de_tup da_nil) da_nil)))) (da_cons (de_tup da_nil) da_nil))))))))) (dss_one (ds_ret de_bl)) dss_nil)
      (dss_cons (ds_for (pt := (.nm 8)) hT (passes_of rfl) rfl (di_rng1 rfl T.n_range (de_v 3)) (pg_name (i := 8) sc_law.nd rfl (.inl rfl)) (dss_one (ds_if (dt_not (dt_val (de_b (de_fn (G_L_same.mono (by omega)) hr (takes_of rfl rfl rfl rfl) rfl (da_cons (de_ix (de_v 10) (de_v 8) (fun _ _ => rfl)) (da_cons (de_tup (da_cons de_str (da_cons (de_ix (de_v 7) (de_v 8) (fun _ _ => rfl)) (da_cons (de_ix (de_v 7) (de_b (de_addL (de_v 8) (de_b de_int))) (fun _ _ => rfl)) da_nil)))) da_nil)))))) (dss_one (ds_ret de_bl)) dss_nil)))
      (dss_one (ds_frz [9, 10] (ds_ret (de_and (de_b (de_fn (G_L_same.mono (by omega)) hr (takes_of rfl rfl rfl rfl) rfl (da_cons (de_fn (G_L_join.mono (by omega)) hr (takes_of rfl rfl rfl rfl) rfl (da_cons (de_var 10) da_nil)) (da_cons (de_var 12) da_nil)))) (de_one (de_b (de_fnB (G_L_same.mono (by omega)) hr (takes_of rfl rfl rfl rfl) rfl (db_cons (de_b (de_fn (G_L_chain.mono (by omega)) hr (takes_of rfl rfl rfl rfl) rfl (da_cons (de_var 9) da_nil))) (db_cons (de_v 13) db_nil))))))))))))))))))))))))))
end
end K15
set_option Elab.async false
set_option linter.all false
set_option maxRecDepth 100000
set_option maxHeartbeats 4000000
namespace K15
open PySem PySem.Spec L2 DL DM
open PyProof.Rows hiding St
theorem edge_is (a b : Int) : f_L_edge [.int a, .int b] = .ok (.fr (pr (ped (a, b)))) := by
  unfold f_L_edge m_L_edge
  simp [runF, env0, fin, sSeq, sSet, sIf, sRet, sRetN, sRetV, sDrop, sFrz, frz, frz1, sNop, sTry, sTryAs, mAnd, mOr, mNot, mB, mBin, mUn, mCall, mCons, mNil, bCons, bNil, mBV, mVar, mC, mTest, tNotM, tAndM, tOrM, tYesM, DL.R.bind, DL.R.quiet, Sl.d, asB, mIf, fMin_is, fMax_is, fTup, lim]
theorem pix0 (p : Int × Int) : fIx (pr p) (.int 0) = .ok (.fr (.int p.1)) := rfl
theorem pix1 (p : Int × Int) : fIx (pr p) (.int 1) = .ok (.fr (.int p.2)) := rfl
/-! ### make_graph -/
abbrev mbody : MS := (sSeq (sSet 5 (mCall fTup (mCons (mCall fMin (bCons (mBV 3) (bCons (mBV 4) bNil))) (mCons (mCall fMax (bCons (mBV 3) (bCons (mBV 4) bNil))) mNil))))
    (sSeq (sIf (tOrM (mTest (mB (mBin fLt (mB (mBin fIx (mBV 5) (mB (mC (.int 0))))) (mB (mC (.int 0)))))) (mTest (mB (mBin fGe (mB (mBin fIx (mBV 5) (mB (mC (.int 1))))) (mBV 0))))) (sRaise 3) sNop)
    (sSeq (sIf (mTest (mB (mBin fEq (mBV 3) (mBV 4)))) (sRaise 3) sNop)
    (sSeq (sIf (mTest (mB (mBin fIn (mBV 5) (mBV 2)))) (sRaise 3) sNop)
    (sApp 2 (mVar 5))))))
theorem ped_ne (p : Int × Int) : (ped p).1 = (ped p).2 ↔ p.1 = p.2 := by
  rcases ped_cases p with c | c <;> rw [c]
  exact ⟨fun h => h.symm, fun h => h.symm⟩
theorem mstep {n : Nat} {L : Option Sl} {o5 : Option Sl} (p : Int × Int) {found : List (Int × Int)} (hf : found.length < 1000) :
    mbody [some (.fr (.int n)), L, some (.ow (found.map pr)), some (.fr (.int p.1)), some (.fr (.int p.2)), o5] =
      if okEdge n (ped p) found = true then .nx [some (.fr (.int n)), L, some (.ow ((found ++ [ped p]).map pr)), some (.fr (.int p.1)), some (.fr (.int p.2)), some (.fr (pr (ped p)))]
      else .ex 3 none [some (.fr (.int n)), L, some (.ow (found.map pr)), some (.fr (.int p.1)), some (.fr (.int p.2)), some (.fr (pr (ped p)))] := by
  have e1 : fMin [.int p.1, .int p.2] = .ok (.fr (.int (ped p).1)) := rfl
  have e2 : fMax [.int p.1, .int p.2] = .ok (.fr (.int (ped p).2)) := rfl
  have e3 : fTup [.int (ped p).1, .int (ped p).2] = .ok (.fr (pr (ped p))) := rfl
  have i0 := pix0 (ped p)
  have i1 := pix1 (ped p)
  have ei := fIn_lst (ped p) found
  have hn := ped_ne p
  have hl : (found.map pr).length < lim := by rw [List.length_map]; unfold lim; omega
  unfold okEdge
  obtain ⟨q, hq⟩ : ∃ q, ped p = q := ⟨_, rfl⟩
  rw [hq] at e1 e2 e3 i0 i1 ei hn ⊢
  obtain ⟨P, hP⟩ : ∃ P, pr q = P := ⟨_, rfl⟩
  have hP2 : (found ++ [q]).map pr = found.map pr ++ [P] := by simp [hP]
  rw [hP] at e3 i0 i1 ei
  rw [hP2, hP]
  generalize found.map pr = F at ei hl ⊢
  have ee := fEq_int p.1 p.2
  unfold mbody
  by_cases c1 : q.1 < 0
  · have c1' : ¬ 0 ≤ q.1 := by omega
    simp [runF, env0, fin, sSeq, sSet, sIf, sRet, sRetN, sRetV, sDrop, sFrz, frz, frz1, sNop, sTry, sTryAs, mAnd, mOr, mNot, mB, mBin, mUn, mCall, mCons, mNil, bCons, bNil, mBV, mVar, mC, mTest, tNotM, tAndM, tOrM, tYesM, DL.R.bind, DL.R.quiet, Sl.d, asB, mIf, e1, e2, e3, i0, i1, fLt, c1, c1', sRaise]
  · have c1' : 0 ≤ q.1 := by omega
    by_cases c2 : (n : Int) ≤ q.2
    · have c2' : ¬ q.2 < (n : Int) := by omega
      simp [runF, env0, fin, sSeq, sSet, sIf, sRet, sRetN, sRetV, sDrop, sFrz, frz, frz1, sNop, sTry, sTryAs, mAnd, mOr, mNot, mB, mBin, mUn, mCall, mCons, mNil, bCons, bNil, mBV, mVar, mC, mTest, tNotM, tAndM, tOrM, tYesM, DL.R.bind, DL.R.quiet, Sl.d, asB, mIf, e1, e2, e3, i0, i1, fLt, fGe, c1, c1', c2, c2', sRaise]
    · have c2' : q.2 < (n : Int) := by omega
      by_cases c3 : p.1 = p.2
      · have c3' := hn.mpr c3
        have ee : fEq (.int p.1) (.int p.2) = .ok (.fr (.bl true)) := by rw [ee, decide_eq_true c3]
        rw [if_neg (by simp [c3'])]
        simp [runF, env0, fin, sSeq, sSet, sIf, sRet, sRetN, sRetV, sDrop, sFrz, frz, frz1, sNop, sTry, sTryAs, mAnd, mOr, mNot, mB, mBin, mUn, mCall, mCons, mNil, bCons, bNil, mBV, mVar, mC, mTest, tNotM, tAndM, tOrM, tYesM, DL.R.bind, DL.R.quiet, Sl.d, asB, mIf, e1, e2, e3, i0, i1, fLt, fGe, c1, c2, sRaise, ee]
      · have c3' : ¬ q.1 = q.2 := fun h => c3 (hn.mp h)
        by_cases c4 : q ∈ found
        · simp [runF, env0, fin, sSeq, sSet, sIf, sRet, sRetN, sRetV, sDrop, sFrz, frz, frz1, sNop, sTry, sTryAs, mAnd, mOr, mNot, mB, mBin, mUn, mCall, mCons, mNil, bCons, bNil, mBV, mVar, mC, mTest, tNotM, tAndM, tOrM, tYesM, DL.R.bind, DL.R.quiet, Sl.d, asB, mIf, e1, e2, e3, i0, i1, fLt, fGe, c1, c1', c2, c2', sRaise, ee, c3, c3', ei, c4]
        · simp [runF, env0, fin, sSeq, sSet, sIf, sRet, sRetN, sRetV, sDrop, sFrz, frz, frz1, sNop, sTry, sTryAs, mAnd, mOr, mNot, mB, mBin, mUn, mCall, mCons, mNil, bCons, bNil, mBV, mVar, mC, mTest, tNotM, tAndM, tOrM, tYesM, DL.R.bind, DL.R.quiet, Sl.d, asB, mIf, e1, e2, e3, i0, i1, fLt, fGe, c1, c1', c2, c2', sRaise, ee, c3, c3', ei, c4, sApp, hl]
theorem mloop {n : Nat} {L : Option Sl} : ∀ (ps found : List (Int × Int)) (o3 o4 o5 : Option Sl), found.length + ps.length < 1000 →
    match pfound n ps found with
    | some g => ∃ q3 q4 q5, DL.forM (Pt.tp [3, 4]).go mbody (ps.map pr) [some (.fr (.int n)), L, some (.ow (found.map pr)), o3, o4, o5] = .nx [some (.fr (.int n)), L, some (.ow (g.map pr)), q3, q4, q5]
    | none => ∃ env, DL.forM (Pt.tp [3, 4]).go mbody (ps.map pr) [some (.fr (.int n)), L, some (.ow (found.map pr)), o3, o4, o5] = .ex 3 none env
  | [], found, o3, o4, o5, _ => ⟨o3, o4, o5, rfl⟩
  | p :: ps, found, o3, o4, o5, h => by
    have hl : found.length + (ps.length + 1) < 1000 := by simpa using h
    have st := mstep (n := n) (L := L) (o5 := o5) p (found := found) (by omega)
    have un : DL.forM (Pt.tp [3, 4]).go mbody ((p :: ps).map pr) [some (.fr (.int n)), L, some (.ow (found.map pr)), o3, o4, o5] = match mbody [some (.fr (.int n)), L, some (.ow (found.map pr)), some (.fr (.int p.1)), some (.fr (.int p.2)), o5] with
      | .nx e => DL.forM (Pt.tp [3, 4]).go mbody (ps.map pr) e
      | .ct e => DL.forM (Pt.tp [3, 4]).go mbody (ps.map pr) e
      | .bk e => .nx e
      | .rt s => .rt s
      | .ex c p e => .ex c p e
      | .st => .st := rfl
    rw [un, st]
    unfold pfound
    by_cases c : okEdge n (ped p) found = true
    · rw [if_pos c, if_pos c]
      exact mloop ps (found ++ [ped p]) _ _ _ (by simp; omega)
    · rw [if_neg c, if_neg c]
      exact ⟨_, rfl⟩
theorem join_mg (env : En) : ∃ s, mJoin [(mB (mC (.str (Str.ofString "a graph has 1 to ")))), (mB (mUn fFmt (mB (mC (.int 6))))), (mB (mC (.str (Str.ofString " nodes"))))] env = .ok s := ⟨_, rfl⟩
abbrev grD (n : Nat) (g : List (Int × Int)) : D := .tup [.int n, .tup (g.map pr)]
theorem make_out {n : Int} {d : D} (h : n < 1 ∨ 6 < n) : f_make_graph [.int n, d] = .ex 3 none := by
  unfold f_make_graph m_make_graph
  generalize hj : mJoin _ = J
  have hs : ∃ s, J [some (.fr (.int n)), some (.fr d), none, none, none, none] = .ok s := hj ▸ join_mg _
  obtain ⟨s, hs⟩ := hs
  by_cases c : n < 1
  · simp [runF, env0, fin, sSeq, sSet, sIf, sRet, sRetN, sRetV, sDrop, sFrz, frz, frz1, sNop, sTry, sTryAs, mAnd, mOr, mNot, mB, mBin, mUn, mCall, mCons, mNil, bCons, bNil, mBV, mVar, mC, mTest, tNotM, tAndM, tOrM, tYesM, DL.R.bind, DL.R.quiet, Sl.d, asB, mIf, fLt, fGt, c, sRaise1, hs]
  · have c2 : 6 < n := by omega
    simp [runF, env0, fin, sSeq, sSet, sIf, sRet, sRetN, sRetV, sDrop, sFrz, frz, frz1, sNop, sTry, sTryAs, mAnd, mOr, mNot, mB, mBin, mUn, mCall, mCons, mNil, bCons, bNil, mBV, mVar, mC, mTest, tNotM, tAndM, tOrM, tYesM, DL.R.bind, DL.R.quiet, Sl.d, asB, mIf, fLt, fGt, c, c2, sRaise1, hs]
theorem make_is {n : Nat} (h : 1 ≤ n ∧ n ≤ 6) {ps : List (Int × Int)} (hl : ps.length < 1000) : f_make_graph [.int n, .lst (ps.map pr)] = match pgraph n ps with
    | some g => .ok (.fr (grD n g))
    | none => .ex 3 none := by
  have lp := mloop (n := n) (L := some (.fr (.lst (ps.map pr)))) ps [] none none none (by simpa using hl)
  have c1 : ¬ ((n : Int) < 1) := by omega
  have c2 : ¬ (6 < (n : Int)) := by omega
  have e1 : fLt (.int n) (.int 1) = .ok (.fr (.bl false)) := by show R.ok (Sl.fr (.bl (decide ((n : Int) < 1)))) = _; rw [decide_eq_false c1]
  have e2 : fGt (.int n) (.int 6) = .ok (.fr (.bl false)) := by show R.ok (Sl.fr (.bl (decide (6 < (n : Int))))) = _; rw [decide_eq_false c2]
  unfold pgraph
  unfold f_make_graph m_make_graph
  obtain ⟨B, hB⟩ : ∃ m, mbody = m := ⟨_, rfl⟩
  have hB' := hB
  unfold mbody at hB'
  rw [hB']
  rw [hB] at lp
  generalize ps.map pr = PS at lp ⊢
  cases hp : pfound n ps [] with
  | none =>
    rw [hp] at lp
    obtain ⟨env, lp⟩ := lp
    have lp : DL.forM (Pt.tp [3, 4]).go B PS [some (.fr (.int n)), some (.fr (.lst PS)), some (.ow []), none, none, none] = .ex 3 none env := lp
    simp [runF, env0, fin, sSeq, sSet, sIf, sRet, sRetN, sRetV, sDrop, sFrz, frz, frz1, sNop, sTry, sTryAs, mAnd, mOr, mNot, mB, mBin, mUn, mCall, mCons, mNil, bCons, bNil, mBV, mVar, mC, mTest, tNotM, tAndM, tOrM, tYesM, DL.R.bind, DL.R.quiet, Sl.d, asB, mIf, e1, e2, fLst, sFor, mIter, asSeq, lp]
  | some f =>
    rw [hp] at lp
    obtain ⟨q3, q4, q5, lp⟩ := lp
    have lp : DL.forM (Pt.tp [3, 4]).go B PS [some (.fr (.int n)), some (.fr (.lst PS)), some (.ow []), none, none, none] = .nx [some (.fr (.int n)), some (.fr (.lst PS)), some (.ow (f.map pr)), q3, q4, q5] := lp
    have fl : f.length ≤ lim := by
      have := (pfound_ge (n := n) ⟨by simp, by simp⟩ hp).2
      rw [this]
      unfold lim
      simp
      omega
    have s1 := fSorted_prs f fl
    generalize f.map pr = F at lp s1
    simp [runF, env0, fin, sSeq, sSet, sIf, sRet, sRetN, sRetV, sDrop, sFrz, frz, frz1, sNop, sTry, sTryAs, mAnd, mOr, mNot, mB, mBin, mUn, mCall, mCons, mNil, bCons, bNil, mBV, mVar, mC, mTest, tNotM, tAndM, tOrM, tYesM, DL.R.bind, DL.R.quiet, Sl.d, asB, mIf, e1, e2, fLst, sFor, mIter, asSeq, lp, s1, fTuple, fTup, lim]
theorem same_is {d : D} (h : goodD 7 d = true) : f_L_same [d, d] = .ok (.fr (.bl true)) := same_ok 7 d h
theorem lsame_is {d : D} (h : goodD 7 d = true) : lent f_L_same [d, d] = .ok (.fr (.bl true)) := by unfold lent; rw [same_is h]; rfl
theorem goodL_map {α : Type} {f : α → D} {k : Nat} (h : ∀ a, goodD k (f a) = true) : ∀ xs : List α, goodL k (xs.map f) = true
  | [] => by cases k <;> rfl
  | x :: xs => by
    show goodL k (f x :: xs.map f) = true
    unfold goodL
    rw [h x, goodL_map h xs]; rfl
theorem good_int (k : Nat) (a : Int) : goodD k (.int a) = true := by cases k <;> rfl
theorem good_pr (k : Nat) (p : Int × Int) : goodD (k + 1) (pr p) = true := by
  show (decide (([p.1, p.2].map D.int).length ≤ 1000000) && goodL k ([p.1, p.2].map D.int)) = true
  rw [goodL_map (good_int k)]; rfl
theorem good_prs {k : Nat} {xs : List (Int × Int)} (h : xs.length ≤ 1000000) : goodD (k + 2) (.lst (xs.map pr)) = true := by
  show (decide ((xs.map pr).length ≤ 1000000) && goodL (k + 1) (xs.map pr)) = true
  rw [goodL_map (good_pr k), List.length_map, decide_eq_true h]; rfl
theorem good_tprs {k : Nat} {xs : List (Int × Int)} (h : xs.length ≤ 1000000) : goodD (k + 2) (.tup (xs.map pr)) = true := by
  show (decide ((xs.map pr).length ≤ 1000000) && goodL (k + 1) (xs.map pr)) = true
  rw [goodL_map (good_pr k), List.length_map, decide_eq_true h]; rfl
theorem good_ints {k : Nat} {xs : List Int} (h : xs.length ≤ 1000000) : goodD (k + 1) (tupI xs) = true := by
  show (decide ((xs.map D.int).length ≤ 1000000) && goodL k (xs.map D.int)) = true
  rw [goodL_map (good_int k), List.length_map, decide_eq_true h]; rfl
theorem good_gr {n : Nat} {g : List (Int × Int)} (h : g.length ≤ 1000000) : goodD 7 (grD n g) = true := by
  show (decide (2 ≤ 1000000) && (goodD 6 (.int n) && (goodD 6 (.tup (g.map pr)) && goodL 6 []))) = true
  rw [good_tprs h]
  rfl
/-! ### the pairs of the nodes: tables -/
def pairsL (n : Nat) : List (Int × Int) := (List.range n).flatMap fun (a : Nat) => ((List.range n).filter fun (b : Nat) => a < b).map fun (b : Nat) => ((a : Int), (b : Int))
def isPrs (ps : List (Int × Int)) : List D → Bool
  | [] => ps.isEmpty
  | d :: ds => match ps with
    | [] => false
    | p :: ps => (match d with
      | .tup [.int a, .int b] => decide (a = p.1) && decide (b = p.2)
      | _ => false) && isPrs ps ds
theorem isPrs_eq : ∀ {ds : List D} {ps : List (Int × Int)}, isPrs ps ds = true → ds = ps.map pr
  | [], ps, h => by
    unfold isPrs at h
    rw [List.isEmpty_iff.mp h]; rfl
  | d :: ds, [], h => by simp [isPrs] at h
  | d :: ds, p :: ps, h => by
    unfold isPrs at h
    rw [Bool.and_eq_true] at h
    obtain ⟨h1, h2⟩ := h
    rw [isPrs_eq h2]
    split at h1
    · rw [Bool.and_eq_true, decide_eq_true_iff, decide_eq_true_iff] at h1
      rw [h1.1, h1.2]; rfl
    · cases h1
def isOw (ps : List (Int × Int)) : R Sl → Bool
  | .ok (.ow ds) => isPrs ps ds
  | _ => false
theorem isOw_eq {ps : List (Int × Int)} {r : R Sl} (h : isOw ps r = true) : r = .ok (.ow (ps.map pr)) := by
  unfold isOw at h
  split at h
  · rw [isPrs_eq h]
  · cases h
theorem np_tab : (List.range 7).all (fun n => isOw (pairsL n) (f_L_pairs [.int n])) = true := by decide +kernel
theorem np_is {n : Nat} (h : n ≤ 6) : f_L_pairs [.int n] = .ok (.ow ((pairsL n).map pr)) := isOw_eq (List.all_eq_true.mp np_tab n (List.mem_range.mpr (by omega)))
theorem pl_tab : (List.range 7).all (fun n => decide ((pairsL n).length ≤ 15) && (pairsL n).all fun p => decide (0 ≤ p.1) && decide (p.1 < p.2) && decide (p.2 < (n : Int))) = true := by decide +kernel
theorem pl_len {n : Nat} (h : n ≤ 6) : (pairsL n).length ≤ 15 := by
  have t := List.all_eq_true.mp pl_tab n (List.mem_range.mpr (by omega))
  rw [Bool.and_eq_true] at t
  exact of_decide_eq_true t.1
theorem pl_nd : (List.range 7).all (fun n => decide ((pairsL n).Nodup)) = true := by decide +kernel
theorem pl_ge {n : Nat} (h : n ≤ 6) : GE n (pairsL n) := by
  have t := List.all_eq_true.mp pl_tab n (List.mem_range.mpr (by omega))
  rw [Bool.and_eq_true] at t
  refine ⟨fun e m => ?_, of_decide_eq_true (List.all_eq_true.mp pl_nd n (List.mem_range.mpr (by omega)))⟩
  have := List.all_eq_true.mp t.2 e m
  simp only [Bool.and_eq_true, decide_eq_true_iff] at this
  omega
theorem has_is {n : Nat} {g : List (Int × Int)} (a b : Int) : f_has_edge [grD n g, .int a, .int b] = .ok (.fr (.bl (decide (ped (a, b) ∈ g)))) := by
  have e1 : fMin [.int a, .int b] = .ok (.fr (.int (ped (a, b)).1)) := rfl
  have e2 : fMax [.int a, .int b] = .ok (.fr (.int (ped (a, b)).2)) := rfl
  have e3 : fTup [.int (ped (a, b)).1, .int (ped (a, b)).2] = .ok (.fr (pr (ped (a, b)))) := rfl
  have e4 : fIx (grD n g) (.int 1) = .ok (.fr (.tup (g.map pr))) := rfl
  have e5 := fIn_tup (ped (a, b)) g
  generalize grD n g = G at e4 ⊢
  generalize D.tup (g.map pr) = T at e4 e5
  generalize hq : ped (a, b) = q at e1 e2 e3 e5 ⊢
  generalize pr q = P at e3 e5
  unfold f_has_edge m_has_edge
  simp [runF, env0, fin, sSeq, sSet, sIf, sRet, sRetN, sRetV, sDrop, sFrz, frz, frz1, sNop, sTry, sTryAs, mAnd, mOr, mNot, mB, mBin, mUn, mCall, mCons, mNil, bCons, bNil, mBV, mVar, mC, mTest, tNotM, tAndM, tOrM, tYesM, DL.R.bind, DL.R.quiet, Sl.d, asB, mIf, e1, e2, e3, e4, e5]
theorem pgraph_len {n : Nat} {ps g : List (Int × Int)} (h : pgraph n ps = some g) : g.length = ps.length := by
  rw [(pgraph_ge h).2, (isort_permI _ _).length_eq, List.length_map]
def isP (xs : List Int) : Bool := decide (xs.length ≤ 6) && decide (isort leI xs = rng xs.length)
theorem isP_is (xs : List Int) (h : xs.length ≤ 7) : f_is_permutation [tupI xs] = .ok (.fr (.bl (isP xs))) := by
  have e2 := fSorted_ints xs (Nat.le_trans h (by decide))
  have l1 : (isort leI xs).length ≤ 7 := by rw [(isort_permI leI xs).length_eq]; exact h
  have l2 : (rng xs.length).length ≤ 7 := by simp [rng]; exact h
  have l3 : (xs.length : Int) ≤ 1000000 ∧ -1000000 ≤ (xs.length : Int) := by omega
  have e3 := fEq_lst l1 l2
  unfold f_is_permutation m_is_permutation isP
  by_cases c : xs.length ≤ 6
  · have c' : (xs.length : Int) ≤ 6 := by omega
    simp [runF, env0, fin, sSeq, sSet, sIf, sRet, sRetN, sRetV, sDrop, sFrz, frz, frz1, sNop, sTry, sTryAs, mAnd, mOr, mNot, mB, mBin, mUn, mCall, mCons, mNil, bCons, bNil, mBV, mVar, mC, mTest, tNotM, tAndM, tOrM, tYesM, DL.R.bind, DL.R.quiet, Sl.d, asB, mIf, fLen_tupI, fLe, e2, mListR1, l3, rangeD_rng, e3, c, c']
  · have c' : ¬ (xs.length : Int) ≤ 6 := by omega
    simp [runF, env0, fin, sSeq, sSet, sIf, sRet, sRetN, sRetV, sDrop, sFrz, frz, frz1, sNop, sTry, sTryAs, mAnd, mOr, mNot, mB, mBin, mUn, mCall, mCons, mNil, bCons, bNil, mBV, mVar, mC, mTest, tNotM, tAndM, tOrM, tYesM, DL.R.bind, DL.R.quiet, Sl.d, asB, mIf, fLen_tupI, fLe, e2, mListR1, l3, rangeD_rng, e3, c, c']
theorem isP_perm {xs : List Int} {n : Nat} (h : xs.Perm (rng n)) (hn : n ≤ 6) : isP xs = true := by
  have l : xs.length = n := by rw [h.length_eq, rng_len]
  unfold isP
  rw [l, decide_eq_true hn, decide_eq_true ((isort_rng xs n).mpr h)]
  rfl
theorem isP_of {xs : List Int} (h : isP xs = true) : xs.Perm (rng xs.length) := by
  unfold isP at h
  rw [Bool.and_eq_true, decide_eq_true_iff, decide_eq_true_iff] at h
  exact (isort_rng _ _).mp h.2
theorem at0_ix {row : List Int} {i : Int} (h : 0 ≤ i ∧ i < row.length) : fIx (tupI row) (.int i) = .ok (.fr (.int (at0 row i))) := by
  obtain ⟨k, rfl⟩ := Int.eq_ofNat_of_zero_le h.1
  rw [at0_nat]
  exact fIx_tupI (getD_some (by omega))
/-! ### compose, inverse, after, moved -/
theorem req_ok {xs : List Int} {n : Nat} (hp : xs.Perm (rng n)) (hn : n ≤ 6) : f_require_permutation [tupI xs] = .ok (.fr .non) := by
  have l : xs.length = n := by rw [hp.length_eq, rng_len]
  have e := isP_is xs (by omega)
  rw [isP_perm hp hn] at e
  generalize tupI xs = X at e ⊢
  unfold f_require_permutation m_require_permutation
  simp [runF, env0, fin, sSeq, sSet, sIf, sRet, sRetN, sRetV, sDrop, sFrz, frz, frz1, sNop, sTry, sTryAs, mAnd, mOr, mNot, mB, mBin, mUn, mCall, mCons, mNil, bCons, bNil, mBV, mVar, mC, mTest, tNotM, tAndM, tOrM, tYesM, DL.R.bind, DL.R.quiet, Sl.d, asB, mIf, e]
theorem after_comp {n : Nat} {p q : List Int} (hp : p.Perm (rng n)) (hq : q.length = n) (o0 : Option Sl) : compL (Pt.nm 2).go tYesM (mBin fIx (mBV 1) (mBV 2)) [o0, some (.fr (tupI q)), none] (p.map .int) = .ok ((pafter p q).map .int) := by
  unfold pafter
  rw [List.map_map]
  refine compL_map fun i m => ⟨_, .fr (.int (at0 q i)), rfl, rfl, ?_, rfl⟩
  obtain ⟨k, hk, rfl⟩ := mem_rng.mp (hp.mem_iff.mp m)
  have e := at0_ix (row := q) (i := (k : Int)) (by omega)
  generalize tupI q = Q at e
  simp [runF, env0, fin, sSeq, sSet, sIf, sRet, sRetN, sRetV, sDrop, sFrz, frz, frz1, sNop, sTry, sTryAs, mAnd, mOr, mNot, mB, mBin, mUn, mCall, mCons, mNil, bCons, bNil, mBV, mVar, mC, mTest, tNotM, tAndM, tOrM, tYesM, DL.R.bind, DL.R.quiet, Sl.d, asB, mIf, e]
theorem compose_is {n : Nat} (hn : n ≤ 6) {p q : List Int} (hp : p.Perm (rng n)) (hq : q.Perm (rng n)) : f_compose [tupI p, tupI q] = .ok (.fr (tupI (pafter p q))) ∧ f_L_after [tupI p, tupI q] = .ok (.ow ((pafter p q).map .int)) := by
  have pl : p.length = n := by rw [hp.length_eq, rng_len]
  have ql : q.length = n := by rw [hq.length_eq, rng_len]
  have r1 := req_ok hp hn
  have r2 := req_ok hq hn
  have e1 := fLen_tupI p
  have e2 := fLen_tupI q
  rw [pl] at e1
  rw [ql] at e2
  have e3 : fNe (.int n) (.int n) = .ok (.fr (.bl false)) := by rw [fNe_int]; simp
  have e4 := after_comp hp ql (some (.fr (tupI p)))
  have l1 : (p.map D.int).length ≤ lim := by rw [List.length_map]; unfold lim; omega
  have e5 : fTuple [.lst ((pafter p q).map .int)] = .ok (.fr (tupI (pafter p q))) := rfl
  have e6 : tupI p = .tup (p.map .int) := rfl
  have e7 : asSeq (tupI p) = .ok (p.map .int) := rfl
  generalize (pafter p q).map D.int = A at e4 e5 ⊢
  generalize tupI (pafter p q) = AT at e5 ⊢
  clear e6
  generalize p.map D.int = P at e4 l1 e7
  generalize tupI p = PT at *
  generalize tupI q = QT at *
  constructor
  · unfold f_compose m_compose
    simp [runF, env0, fin, sSeq, sSet, sIf, sRet, sRetN, sRetV, sDrop, sFrz, frz, frz1, sNop, sTry, sTryAs, mAnd, mOr, mNot, mB, mBin, mUn, mCall, mCons, mNil, bCons, bNil, mBV, mVar, mC, mTest, tNotM, tAndM, tOrM, tYesM, DL.R.bind, DL.R.quiet, Sl.d, asB, mIf, r1, r2, e1, e2, e3, mComp, mIter, e7, wipeE, l1, e4, e5]
  · unfold f_L_after m_L_after
    simp [runF, env0, fin, sSeq, sSet, sIf, sRet, sRetN, sRetV, sDrop, sFrz, frz, frz1, sNop, sTry, sTryAs, mAnd, mOr, mNot, mB, mBin, mUn, mCall, mCons, mNil, bCons, bNil, mBV, mVar, mC, mTest, tNotM, tAndM, tOrM, tYesM, DL.R.bind, DL.R.quiet, Sl.d, asB, mIf, mComp, mIter, e7, wipeE, l1, e4]
theorem inverse_is {n : Nat} (hn : n ≤ 6) {p : List Int} (hp : p.Perm (rng n)) : f_inverse [tupI p] = .ok (.fr (tupI (pinv p))) := by
  have pl : p.length = n := by rw [hp.length_eq, rng_len]
  have r1 := req_ok hp hn
  have e1 := fLen_tupI p
  have e4 : compL (Pt.nm 1).go tYesM (mIdx (mBV 0) (mBV 1)) [some (.fr (tupI p)), none] (rangeD 0 p.length) = .ok ((pinv p).map .int) := by
    unfold pinv
    rw [rangeD_nat, List.map_map]
    refine compL_map fun k m => ⟨_, .fr (.int (((idxA (k : Int) p 0).getD 0 : Nat) : Int)), rfl, rfl, ?_, rfl⟩
    have mk : (k : Int) ∈ p := hp.mem_iff.mpr (mem_rng.mpr ⟨k, by have := List.mem_range.mp m; omega, rfl⟩)
    obtain ⟨j, hj, _⟩ := idxA_mem 0 mk
    rw [Nat.zero_add] at hj
    have e := fTupIdx_int hj
    rw [hj]
    simp [runF, env0, fin, sSeq, sSet, sIf, sRet, sRetN, sRetV, sDrop, sFrz, frz, frz1, sNop, sTry, sTryAs, mAnd, mOr, mNot, mB, mBin, mUn, mCall, mCons, mNil, bCons, bNil, mBV, mVar, mC, mTest, tNotM, tAndM, tOrM, tYesM, DL.R.bind, DL.R.quiet, Sl.d, asB, mIf, mIdx, e]
  have e5 : fTuple [.lst ((pinv p).map .int)] = .ok (.fr (tupI (pinv p))) := rfl
  have l4 : (p.length : Int) ≤ big ∧ -big ≤ (p.length : Int) := by unfold big; omega
  have l1 : (rangeD 0 p.length).length ≤ lim := by rw [rangeD_nat]; simp; unfold lim; omega
  generalize (pinv p).map D.int = A at e4 e5
  generalize tupI (pinv p) = AT at e5 ⊢
  generalize tupI p = PT at *
  unfold f_inverse m_inverse
  simp [runF, env0, fin, sSeq, sSet, sIf, sRet, sRetN, sRetV, sDrop, sFrz, frz, frz1, sNop, sTry, sTryAs, mAnd, mOr, mNot, mB, mBin, mUn, mCall, mCons, mNil, bCons, bNil, mBV, mVar, mC, mTest, tNotM, tAndM, tOrM, tYesM, DL.R.bind, DL.R.quiet, Sl.d, asB, mIf, r1, e1, mComp, mRng1, l4, wipeE, l1, e4, e5]
abbrev mvM : M := (mCall f_L_edge (mCons (mBin fIx (mBV 1) (mB (mBin fIx (mBV 2) (mB (mC (.int 0)))))) (mCons (mBin fIx (mBV 1) (mB (mBin fIx (mBV 2) (mB (mC (.int 1)))))) mNil)))
theorem moved_is {n : Nat} {g : List (Int × Int)} {row : List Int} {d : D} (hd : d = tupI row ∨ d = .lst (row.map .int)) (hr : row.length = n) (hg : GE n g) (hl : g.length < 1000) : f_L_moved [.tup (g.map pr), d] = .ok (.fr (.tup ((pmoved row g).map pr))) := by
  have ix : ∀ i : Int, 0 ≤ i → i < n → fIx d (.int i) = .ok (.fr (.int (at0 row i))) := by
    intro i h1 h2
    rcases hd with rfl | rfl
    · exact at0_ix (by omega)
    · exact at0_ix (row := row) (by omega)
  have e4 : compL (Pt.nm 2).go tYesM mvM [some (.fr (.tup (g.map pr))), some (.fr d), none] (g.map pr) = .ok (((g.map (mov row)).map ped).map pr) := by
    rw [List.map_map, List.map_map]
    refine compL_map fun p m => ⟨_, .fr (pr (ped (mov row p))), rfl, rfl, ?_, rfl⟩
    have b := hg.1 p m
    have i1 := ix p.1 (by omega) (by omega)
    have i2 := ix p.2 (by omega) (by omega)
    have e3 := edge_is (at0 row p.1) (at0 row p.2)
    have e3 : f_L_edge [.int (at0 row p.1), .int (at0 row p.2)] = .ok (.fr (pr (ped (mov row p)))) := e3
    have j0 := pix0 p
    have j1 := pix1 p
    generalize pr (ped (mov row p)) = Q at e3 ⊢
    generalize pr p = P at j0 j1 ⊢
    unfold mvM
    simp [runF, env0, fin, sSeq, sSet, sIf, sRet, sRetN, sRetV, sDrop, sFrz, frz, frz1, sNop, sTry, sTryAs, mAnd, mOr, mNot, mB, mBin, mUn, mCall, mCons, mNil, bCons, bNil, mBV, mVar, mC, mTest, tNotM, tAndM, tOrM, tYesM, DL.R.bind, DL.R.quiet, Sl.d, asB, mIf, j0, j1, i1, i2, e3]
  have l1 : (g.map pr).length ≤ lim := by rw [List.length_map]; unfold lim; omega
  have s1 := fSorted_prs ((g.map (mov row)).map ped) (by simp; unfold lim; omega)
  have s1 : fSorted [.lst (((g.map (mov row)).map ped).map pr)] = .ok (.ow ((pmoved row g).map pr)) := s1
  have e5 : fTuple [.lst ((pmoved row g).map pr)] = .ok (.fr (.tup ((pmoved row g).map pr))) := rfl
  unfold f_L_moved m_L_moved
  obtain ⟨MV, hM⟩ : ∃ m, mvM = m := ⟨_, rfl⟩
  have hM' := hM
  unfold mvM at hM'
  rw [hM']
  rw [hM] at e4
  generalize ((g.map (mov row)).map ped).map pr = A at e4 s1
  generalize (pmoved row g).map pr = B at s1 e5 ⊢
  generalize g.map pr = GG at *
  simp [runF, env0, fin, sSeq, sSet, sIf, sRet, sRetN, sRetV, sDrop, sFrz, frz, frz1, sNop, sTry, sTryAs, mAnd, mOr, mNot, mB, mBin, mUn, mCall, mCons, mNil, bCons, bNil, mBV, mVar, mC, mTest, tNotM, tAndM, tOrM, tYesM, DL.R.bind, DL.R.quiet, Sl.d, asB, mIf, mComp, mIter, asSeq, wipeE, l1, e4, s1, e5]
theorem isP_spoilt {row : List Int} {n : Nat} (hp : row.Perm (rng n)) {a : Nat} (ha : a < row.length) {y : Int} (hy : y ≠ row.getD a 0) : isP (row.take a ++ [y] ++ row.drop (a + 1)) = false := by
  cases c : isP (row.take a ++ [y] ++ row.drop (a + 1)) with
  | false => rfl
  | true =>
    have q := isP_of c
    have l : (row.take a ++ [y] ++ row.drop (a + 1)).length = n := by
      have := hp.length_eq
      rw [rng_len] at this
      simp
      omega
    rw [l, List.append_assoc] at q
    have e : row = row.take a ++ row.getD a 0 :: row.drop (a + 1) := by
      have h2 := List.drop_eq_getElem_cons ha
      rw [getD_get ha, ← h2, List.take_append_drop]
    rw [e] at hp
    exact absurd q (not_perm hp hy)
end K15
set_option Elab.async false
set_option linter.all false
set_option maxRecDepth 100000
set_option maxHeartbeats 4000000
namespace K15
open PySem PySem.Spec L2 DL DM
open PyProof.Rows hiding St
/-! ### graphs and statements as data -/
abbrev Gr := Nat × List (Int × Int)
def gD (G : Gr) : D := grD G.1 G.2
def stD (p : Gr × Gr) : D := .tup [.str (Str.ofString "alike"), gD p.1, gD p.2]
theorem eqDL_prs : ∀ xs ys : List (Int × Int), eqDL (xs.map pr) (ys.map pr) = decide (xs = ys)
  | [], [] => by simp [eqDL]
  | [], y :: ys => by simp [eqDL]
  | x :: xs, [] => by simp [eqDL]
  | x :: xs, y :: ys => by
    show eqDL (pr x :: xs.map pr) (pr y :: ys.map pr) = _
    unfold eqDL
    rw [eqDL_prs xs ys, eqD_pr]
    by_cases h : x = y
    · subst h; simp
    · simp [h]
theorem eqD_gr (A B : Gr) : eqD (gD A) (gD B) = decide (A = B) := by
  have e : eqD (gD A) (gD B) = (eqD (.int A.1) (.int B.1) && (eqDL (A.2.map pr) (B.2.map pr) && true)) := by
    unfold gD grD
    unfold eqD
    simp only [eqDL, eqD]
  rw [e, eqD_int, eqDL_prs]
  obtain ⟨n, g⟩ := A
  obtain ⟨m, h⟩ := B
  by_cases c1 : n = m
  · subst c1
    by_cases c2 : g = h <;> simp [c2]
  · have : ¬ (n : Int) = (m : Int) := by omega
    simp [c1, this]
theorem okE_tprs (xs : List (Int × Int)) : okE (.tup (xs.map pr)) = true := okE_of (cmp_tup cmp_pr xs) (by decide)
theorem okE_gr (A : Gr) : okE (gD A) = true := by
  obtain ⟨h1, h2, h3⟩ := cmp_tup cmp_pr A.2
  refine okE_of (k := 3) ⟨?_, ?_, ?_⟩ (by decide)
  · unfold gD grD
    simp only [noObj, noObjL, Bool.and_true, Bool.true_and] at h1 ⊢
    exact h1
  · unfold gD grD
    simp only [toPy, toPyL, PyData.canLay0, PyData.canLayAll0, Bool.and_true, Bool.true_and] at h2 ⊢
    exact h2
  · unfold gD grD
    simp only [toPy, toPyL, PyData.depth, PyData.depthAll] at h3 ⊢
    omega
theorem fNe_gr (A B : Gr) : fNe (gD A) (gD B) = .ok (.fr (.bl (decide (A ≠ B)))) := by
  unfold fNe
  rw [okE_gr, okE_gr, eqD_gr]
  simp
theorem fNe_tprs (xs ys : List (Int × Int)) : fNe (.tup (xs.map pr)) (.tup (ys.map pr)) = .ok (.fr (.bl (decide (xs ≠ ys)))) := by
  unfold fNe
  rw [okE_tprs, okE_tprs]
  have : eqD (.tup (xs.map pr)) (.tup (ys.map pr)) = eqDL (xs.map pr) (ys.map pr) := by unfold eqD; rfl
  rw [this, eqDL_prs]
  simp
theorem good_st {p : Gr × Gr} (h1 : p.1.2.length ≤ 1000) (h2 : p.2.2.length ≤ 1000) : goodD 7 (stD p) = true := by
  have a1 : goodD 6 (gD p.1) = true := by
    show (decide (2 ≤ 1000000) && (goodD 5 (.int p.1.1) && (goodD 5 (.tup (p.1.2.map pr)) && goodL 5 []))) = true
    rw [good_tprs (by omega)]; rfl
  have a2 : goodD 6 (gD p.2) = true := by
    show (decide (2 ≤ 1000000) && (goodD 5 (.int p.2.1) && (goodD 5 (.tup (p.2.2.map pr)) && goodL 5 []))) = true
    rw [good_tprs (by omega)]; rfl
  show (decide (3 ≤ 1000000) && (goodD 6 (.str (Str.ofString "alike")) && (goodD 6 (gD p.1) && (goodD 6 (gD p.2) && goodL 6 [])))) = true
  have a3 : goodD 6 (.str (Str.ofString "alike")) = true := by decide +kernel
  rw [a1, a2, a3]; rfl
/-! ### rows one behind another -/
def compO (a b : List Int) : Option (List Int) := if isP a = true ∧ isP b = true ∧ a.length = b.length then some (pafter a b) else none
theorem pafter_len (a b : List Int) : (pafter a b).length = a.length := by unfold pafter; simp
theorem compO_perm {n : Nat} (hn : n ≤ 6) {a b : List Int} (ha : a.Perm (rng n)) (hb : b.Perm (rng n)) : compO a b = some (pafter a b) := by
  have la : a.length = n := by rw [ha.length_eq, rng_len]
  have lb : b.length = n := by rw [hb.length_eq, rng_len]
  unfold compO
  rw [if_pos ⟨isP_perm ha hn, isP_perm hb hn, by omega⟩]
theorem isP_len {a : List Int} (h : isP a = true) : a.length ≤ 6 := by
  unfold isP at h
  rw [Bool.and_eq_true, decide_eq_true_iff] at h
  exact h.1
theorem req_bad {a : List Int} (h : a.length ≤ 7) (hp : isP a = false) : f_require_permutation [tupI a] = .ex 1 none := by
  have e := isP_is a h
  rw [hp] at e
  generalize tupI a = X at e ⊢
  unfold f_require_permutation m_require_permutation
  simp [runF, env0, fin, sSeq, sSet, sIf, sRet, sRetN, sRetV, sDrop, sFrz, frz, frz1, sNop, sTry, sTryAs, mAnd, mOr, mNot, mB, mBin, mUn, mCall, mCons, mNil, bCons, bNil, mBV, mVar, mC, mTest, tNotM, tAndM, tOrM, tYesM, DL.R.bind, DL.R.quiet, Sl.d, asB, mIf, e, sRaise]
theorem req_good {a : List Int} (hp : isP a = true) : f_require_permutation [tupI a] = .ok (.fr .non) := req_ok (isP_of hp) (isP_len hp)
theorem comp_gen {a b : List Int} (ha : a.length ≤ 7) (hb : b.length ≤ 7) : f_compose [tupI a, tupI b] = match compO a b with
    | some r => .ok (.fr (tupI r))
    | none => .ex 1 none := by
  cases pa : isP a with
  | false =>
    have e := req_bad ha pa
    unfold compO
    rw [if_neg (by simp [pa])]
    generalize tupI a = A at *
    unfold f_compose m_compose
    simp [runF, env0, fin, sSeq, sSet, sIf, sRet, sRetN, sRetV, sDrop, sFrz, frz, frz1, sNop, sTry, sTryAs, mAnd, mOr, mNot, mB, mBin, mUn, mCall, mCons, mNil, bCons, bNil, mBV, mVar, mC, mTest, tNotM, tAndM, tOrM, tYesM, DL.R.bind, DL.R.quiet, Sl.d, asB, mIf, e]
  | true =>
    have e1 := req_good pa
    cases pb : isP b with
    | false =>
      have e := req_bad hb pb
      unfold compO
      rw [if_neg (by simp [pb])]
      generalize tupI a = A at *
      generalize tupI b = B at *
      unfold f_compose m_compose
      simp [runF, env0, fin, sSeq, sSet, sIf, sRet, sRetN, sRetV, sDrop, sFrz, frz, frz1, sNop, sTry, sTryAs, mAnd, mOr, mNot, mB, mBin, mUn, mCall, mCons, mNil, bCons, bNil, mBV, mVar, mC, mTest, tNotM, tAndM, tOrM, tYesM, DL.R.bind, DL.R.quiet, Sl.d, asB, mIf, e1, e]
    | true =>
      have e2 := req_good pb
      by_cases c : a.length = b.length
      · have pb' := isP_of pb
        rw [← c] at pb'
        rw [compO_perm (isP_len pa) (isP_of pa) pb']
        exact (compose_is (isP_len pa) (isP_of pa) pb').1
      · have l1 := fLen_tupI a
        have l2 := fLen_tupI b
        have e3 : fNe (.int a.length) (.int b.length) = .ok (.fr (.bl true)) := by
          have := fNe_int (a.length : Int) (b.length : Int)
          rw [this, decide_eq_false (by omega)]; rfl
        unfold compO
        rw [if_neg (fun q => c q.2.2)]
        generalize tupI a = A at *
        generalize tupI b = B at *
        unfold f_compose m_compose
        simp [runF, env0, fin, sSeq, sSet, sIf, sRet, sRetN, sRetV, sDrop, sFrz, frz, frz1, sNop, sTry, sTryAs, mAnd, mOr, mNot, mB, mBin, mUn, mCall, mCons, mNil, bCons, bNil, mBV, mVar, mC, mTest, tNotM, tAndM, tOrM, tYesM, DL.R.bind, DL.R.quiet, Sl.d, asB, mIf, e1, e2, l1, l2, e3, sRaise]
def chainO : List Int → List (List Int) → Option (List Int)
  | a, [] => some a
  | a, b :: bs => match compO a b with
    | some r => chainO r bs
    | none => none
abbrev cbody : MS := (sFrz [2] (sSet 2 (mCall f_compose (mCons (mVar 2) (mCons (mVar 3) mNil)))))
theorem compO_len {a b r : List Int} (h : compO a b = some r) : r.length = a.length ∧ isP b = true ∧ b.length = a.length ∧ isP a = true := by
  unfold compO at h
  split at h
  · rename_i q
    cases h
    exact ⟨pafter_len a b, q.2.1, q.2.2.symm, q.1⟩
  · cases h
theorem cloop {o0 o1 : Option Sl} : ∀ (bs : List (List Int)) (a : List Int) (o3 : Option Sl), a.length ≤ 7 → (∀ b ∈ bs, b.length ≤ 7) →
    match chainO a bs with
    | some r => ∃ q3, DL.forM (Pt.nm 3).go cbody (bs.map tupI) [o0, o1, some (.fr (tupI a)), o3] = .nx [o0, o1, some (.fr (tupI r)), q3]
    | none => ∃ env, DL.forM (Pt.nm 3).go cbody (bs.map tupI) [o0, o1, some (.fr (tupI a)), o3] = .ex 1 none env
  | [], a, o3, _, _ => ⟨o3, rfl⟩
  | b :: bs, a, o3, ha, hb => by
    have e := comp_gen ha (hb b List.mem_cons_self)
    have un : DL.forM (Pt.nm 3).go cbody ((b :: bs).map tupI) [o0, o1, some (.fr (tupI a)), o3] = match cbody [o0, o1, some (.fr (tupI a)), some (.fr (tupI b))] with
      | .nx e => DL.forM (Pt.nm 3).go cbody (bs.map tupI) e
      | .ct e => DL.forM (Pt.nm 3).go cbody (bs.map tupI) e
      | .bk e => .nx e
      | .rt s => .rt s
      | .ex c p e => .ex c p e
      | .st => .st := rfl
    rw [un]
    unfold chainO
    cases h : compO a b with
    | none =>
      rw [h] at e
      have st : cbody [o0, o1, some (.fr (tupI a)), some (.fr (tupI b))] = .ex 1 none [o0, o1, some (.fr (tupI a)), some (.fr (tupI b))] := by
        have e : f_compose [tupI a, tupI b] = .ex 1 none := e
        clear un
        generalize tupI a = A at *
        generalize tupI b = B at *
        unfold cbody
        simp [runF, env0, fin, sSeq, sSet, sIf, sRet, sRetN, sRetV, sDrop, sFrz, frz, frz1, sNop, sTry, sTryAs, mAnd, mOr, mNot, mB, mBin, mUn, mCall, mCons, mNil, bCons, bNil, mBV, mVar, mC, mTest, tNotM, tAndM, tOrM, tYesM, DL.R.bind, DL.R.quiet, Sl.d, asB, mIf, e]
      rw [st]
      exact ⟨_, rfl⟩
    | some r =>
      rw [h] at e
      have st : cbody [o0, o1, some (.fr (tupI a)), some (.fr (tupI b))] = .nx [o0, o1, some (.fr (tupI r)), some (.fr (tupI b))] := by
        have e : f_compose [tupI a, tupI b] = .ok (.fr (tupI r)) := e
        clear un
        generalize tupI r = T at *
        generalize tupI a = A at *
        generalize tupI b = B at *
        unfold cbody
        simp [runF, env0, fin, sSeq, sSet, sIf, sRet, sRetN, sRetV, sDrop, sFrz, frz, frz1, sNop, sTry, sTryAs, mAnd, mOr, mNot, mB, mBin, mUn, mCall, mCons, mNil, bCons, bNil, mBV, mVar, mC, mTest, tNotM, tAndM, tOrM, tYesM, DL.R.bind, DL.R.quiet, Sl.d, asB, mIf, e]
      rw [st]
      exact cloop bs r _ (by rw [(compO_len h).1]; exact ha) (fun c m => hb c (List.mem_cons_of_mem _ m))
def witO : List (List Int) → Option (List Int)
  | [] => none
  | a :: bs => if isP a = true then chainO a bs else none
theorem witO_cons (a : List Int) (bs : List (List Int)) : witO (a :: bs) = if isP a = true then chainO a bs else none := rfl
theorem wit_is {l : List (List Int)} (hl : l ≠ []) (hk : l.length ≤ 5) (h : ∀ b ∈ l, b.length ≤ 7) : f_joined_witness (l.map tupI) = match witO l with
    | some r => .ok (.fr (tupI r))
    | none => .ex 1 none := by
  cases l with
  | nil => exact absurd rfl hl
  | cons a bs =>
    have sf : f_joined_witness ((a :: bs).map tupI) = (runF 2 4 m_joined_witness) [tupI a, .tup (bs.map tupI)] := by
      unfold f_joined_witness starF
      rw [if_pos ⟨by simp, by simp at hk ⊢; unfold lim; omega⟩]
      rfl
    rw [sf]
    have ha := h a List.mem_cons_self
    rw [witO_cons]
    cases pa : isP a with
    | false =>
      have e := req_bad ha pa
      rw [if_neg (by simp)]
      generalize tupI a = A at *
      unfold m_joined_witness
      simp [runF, env0, fin, sSeq, sSet, sIf, sRet, sRetN, sRetV, sDrop, sFrz, frz, frz1, sNop, sTry, sTryAs, mAnd, mOr, mNot, mB, mBin, mUn, mCall, mCons, mNil, bCons, bNil, mBV, mVar, mC, mTest, tNotM, tAndM, tOrM, tYesM, DL.R.bind, DL.R.quiet, Sl.d, asB, mIf, e]
    | true =>
      have e := req_good pa
      rw [if_pos rfl]
      have lp := cloop (o0 := some (.fr (tupI a))) (o1 := some (.fr (.tup (bs.map tupI)))) bs a none ha (fun c m => h c (List.mem_cons_of_mem _ m))
      unfold m_joined_witness
      obtain ⟨CB, hC⟩ : ∃ m, cbody = m := ⟨_, rfl⟩
      have hC' := hC
      unfold cbody at hC'
      rw [hC']
      rw [hC] at lp
      cases c : chainO a bs with
      | none =>
        rw [c] at lp
        obtain ⟨env, lp⟩ := lp
        generalize tupI a = A at *
        generalize bs.map tupI = BS at *
        simp [runF, env0, fin, sSeq, sSet, sIf, sRet, sRetN, sRetV, sDrop, sFrz, frz, frz1, sNop, sTry, sTryAs, mAnd, mOr, mNot, mB, mBin, mUn, mCall, mCons, mNil, bCons, bNil, mBV, mVar, mC, mTest, tNotM, tAndM, tOrM, tYesM, DL.R.bind, DL.R.quiet, Sl.d, asB, mIf, e, sFor, mIter, asSeq, lp]
      | some r =>
        rw [c] at lp
        obtain ⟨q3, lp⟩ := lp
        show _ = R.ok (Sl.fr (tupI r))
        generalize tupI a = A at *
        generalize tupI r = T at *
        generalize bs.map tupI = BS at *
        simp [runF, env0, fin, sSeq, sSet, sIf, sRet, sRetN, sRetV, sDrop, sFrz, frz, frz1, sNop, sTry, sTryAs, mAnd, mOr, mNot, mB, mBin, mUn, mCall, mCons, mNil, bCons, bNil, mBV, mVar, mC, mTest, tNotM, tAndM, tOrM, tYesM, DL.R.bind, DL.R.quiet, Sl.d, asB, mIf, e, sFor, mIter, asSeq, lp]
/-- a chain that is told has rows of one size alone -/
theorem chainO_all : ∀ {bs : List (List Int)} {a r : List Int}, chainO a bs = some r → ∀ b ∈ bs, isP b = true ∧ b.length = a.length
  | [], _, _, _, b, m => by cases m
  | c :: bs, a, r, h, b, m => by
    unfold chainO at h
    cases q : compO a c with
    | none => rw [q] at h; cases h
    | some t =>
      rw [q] at h
      have k := compO_len q
      rcases List.mem_cons.mp m with rfl | m
      · exact ⟨k.2.1, k.2.2.1⟩
      · have ih := chainO_all h b m
        exact ⟨ih.1, by rw [ih.2, k.1]⟩
theorem witO_bad {l : List (List Int)} {x y : List Int} (hx : x ∈ l) (hy : y ∈ l) (h : isP x = false ∨ x.length ≠ y.length) : witO l = none := by
  cases l with
  | nil => rfl
  | cons a bs =>
    rw [witO_cons]
    cases pa : isP a with
    | false => rw [if_neg (by simp)]
    | true =>
      rw [if_pos rfl]
      cases c : chainO a bs with
      | none => rfl
      | some r =>
        exfalso
        have all : ∀ b ∈ a :: bs, isP b = true ∧ b.length = a.length := by
          intro b m
          rcases List.mem_cons.mp m with rfl | m
          · exact ⟨pa, rfl⟩
          · exact chainO_all c b m
        rcases h with h | h
        · rw [(all x hx).1] at h; cases h
        · exact h (by rw [(all x hx).2, (all y hy).2])
theorem chainO_good {n : Nat} (hn : n ≤ 6) : ∀ {bs : List (List Int)} {a : List Int}, a.Perm (rng n) → (∀ b ∈ bs, b.Perm (rng n)) → chainO a bs = some (bs.foldl pafter a) ∧ (bs.foldl pafter a).Perm (rng n)
  | [], a, ha, _ => ⟨rfl, ha⟩
  | b :: bs, a, ha, hb => by
    unfold chainO
    rw [compO_perm hn ha (hb b List.mem_cons_self)]
    exact chainO_good hn (pafter_perm ha (hb b List.mem_cons_self)) fun c m => hb c (List.mem_cons_of_mem _ m)
/-- the product of rows -/
def prod : List (List Int) → List Int
  | [] => []
  | a :: bs => bs.foldl pafter a
theorem witO_good {n : Nat} (hn : n ≤ 6) {l : List (List Int)} (hl : l ≠ []) (h : ∀ b ∈ l, b.Perm (rng n)) : witO l = some (prod l) ∧ (prod l).Perm (rng n) := by
  cases l with
  | nil => exact absurd rfl hl
  | cons a bs =>
    have k := chainO_good hn (h a List.mem_cons_self) fun c m => h c (List.mem_cons_of_mem _ m)
    rw [witO_cons]
    rw [if_pos (isP_perm (h a List.mem_cons_self) hn)]
    exact k
/-! ### _law_chain, _law_join: by their number of entries -/
theorem chain_fn {l : List D} (h1 : l ≠ []) (h2 : l.length ≤ 5) : f_L_chain [.lst l] = f_joined_witness l := by
  have el : ∀ l : List D, fLen [.lst l] = .ok (.fr (.int l.length)) := fun _ => rfl
  have un : ∀ r : R Sl, (match r with | .ok s => R.ok s | .ex c p => .ex c p | .st => .st) = r := fun r => by cases r <;> rfl
  generalize hF : f_joined_witness = F
  unfold f_L_chain m_L_chain
  rw [hF]
  match l, h1, h2 with
  | [a], _, _ =>
    have i0 : fIx (.lst [a]) (.int 0) = .ok (.fr a) := rfl
    simp [runF, env0, fin, sSeq, sSet, sIf, sRet, sRetN, sRetV, sDrop, sFrz, frz, frz1, sNop, sTry, sTryAs, mAnd, mOr, mNot, mB, mBin, mUn, mCall, mCons, mNil, bCons, bNil, mBV, mVar, mC, mTest, tNotM, tAndM, tOrM, tYesM, DL.R.bind, DL.R.quiet, Sl.d, asB, mIf, el, fEq_int, i0]
    cases F [a] <;> rfl
  | [a, b], _, _ =>
    have i0 : fIx (.lst [a, b]) (.int 0) = .ok (.fr a) := rfl
    have i1 : fIx (.lst [a, b]) (.int 1) = .ok (.fr b) := rfl
    simp [runF, env0, fin, sSeq, sSet, sIf, sRet, sRetN, sRetV, sDrop, sFrz, frz, frz1, sNop, sTry, sTryAs, mAnd, mOr, mNot, mB, mBin, mUn, mCall, mCons, mNil, bCons, bNil, mBV, mVar, mC, mTest, tNotM, tAndM, tOrM, tYesM, DL.R.bind, DL.R.quiet, Sl.d, asB, mIf, el, fEq_int, i0, i1]
    cases F [a, b] <;> rfl
  | [a, b, c], _, _ =>
    have i0 : fIx (.lst [a, b, c]) (.int 0) = .ok (.fr a) := rfl
    have i1 : fIx (.lst [a, b, c]) (.int 1) = .ok (.fr b) := rfl
    have i2 : fIx (.lst [a, b, c]) (.int 2) = .ok (.fr c) := rfl
    simp [runF, env0, fin, sSeq, sSet, sIf, sRet, sRetN, sRetV, sDrop, sFrz, frz, frz1, sNop, sTry, sTryAs, mAnd, mOr, mNot, mB, mBin, mUn, mCall, mCons, mNil, bCons, bNil, mBV, mVar, mC, mTest, tNotM, tAndM, tOrM, tYesM, DL.R.bind, DL.R.quiet, Sl.d, asB, mIf, el, fEq_int, i0, i1, i2]
    cases F [a, b, c] <;> rfl
  | [a, b, c, d], _, _ =>
    have i0 : fIx (.lst [a, b, c, d]) (.int 0) = .ok (.fr a) := rfl
    have i1 : fIx (.lst [a, b, c, d]) (.int 1) = .ok (.fr b) := rfl
    have i2 : fIx (.lst [a, b, c, d]) (.int 2) = .ok (.fr c) := rfl
    have i3 : fIx (.lst [a, b, c, d]) (.int 3) = .ok (.fr d) := rfl
    simp [runF, env0, fin, sSeq, sSet, sIf, sRet, sRetN, sRetV, sDrop, sFrz, frz, frz1, sNop, sTry, sTryAs, mAnd, mOr, mNot, mB, mBin, mUn, mCall, mCons, mNil, bCons, bNil, mBV, mVar, mC, mTest, tNotM, tAndM, tOrM, tYesM, DL.R.bind, DL.R.quiet, Sl.d, asB, mIf, el, fEq_int, i0, i1, i2, i3]
    cases F [a, b, c, d] <;> rfl
  | [a, b, c, d, e], _, _ =>
    have i0 : fIx (.lst [a, b, c, d, e]) (.int 0) = .ok (.fr a) := rfl
    have i1 : fIx (.lst [a, b, c, d, e]) (.int 1) = .ok (.fr b) := rfl
    have i2 : fIx (.lst [a, b, c, d, e]) (.int 2) = .ok (.fr c) := rfl
    have i3 : fIx (.lst [a, b, c, d, e]) (.int 3) = .ok (.fr d) := rfl
    have i4 : fIx (.lst [a, b, c, d, e]) (.int 4) = .ok (.fr e) := rfl
    simp [runF, env0, fin, sSeq, sSet, sIf, sRet, sRetN, sRetV, sDrop, sFrz, frz, frz1, sNop, sTry, sTryAs, mAnd, mOr, mNot, mB, mBin, mUn, mCall, mCons, mNil, bCons, bNil, mBV, mVar, mC, mTest, tNotM, tAndM, tOrM, tYesM, DL.R.bind, DL.R.quiet, Sl.d, asB, mIf, el, fEq_int, i0, i1, i2, i3, i4]
    cases F [a, b, c, d, e] <;> rfl
  | [], h1, _ => exact absurd rfl h1
  | _ :: _ :: _ :: _ :: _ :: _ :: _, _, h2 => simp at h2
theorem join_fn {l : List D} (h1 : l ≠ []) (h2 : l.length ≤ 5) : f_L_join [.lst l] = f_joined_alike l := by
  have el : ∀ l : List D, fLen [.lst l] = .ok (.fr (.int l.length)) := fun _ => rfl
  have un : ∀ r : R Sl, (match r with | .ok s => R.ok s | .ex c p => .ex c p | .st => .st) = r := fun r => by cases r <;> rfl
  generalize hF : f_joined_alike = F
  unfold f_L_join m_L_join
  rw [hF]
  match l, h1, h2 with
  | [a], _, _ =>
    have i0 : fIx (.lst [a]) (.int 0) = .ok (.fr a) := rfl
    simp [runF, env0, fin, sSeq, sSet, sIf, sRet, sRetN, sRetV, sDrop, sFrz, frz, frz1, sNop, sTry, sTryAs, mAnd, mOr, mNot, mB, mBin, mUn, mCall, mCons, mNil, bCons, bNil, mBV, mVar, mC, mTest, tNotM, tAndM, tOrM, tYesM, DL.R.bind, DL.R.quiet, Sl.d, asB, mIf, el, fEq_int, i0]
    cases F [a] <;> rfl
  | [a, b], _, _ =>
    have i0 : fIx (.lst [a, b]) (.int 0) = .ok (.fr a) := rfl
    have i1 : fIx (.lst [a, b]) (.int 1) = .ok (.fr b) := rfl
    simp [runF, env0, fin, sSeq, sSet, sIf, sRet, sRetN, sRetV, sDrop, sFrz, frz, frz1, sNop, sTry, sTryAs, mAnd, mOr, mNot, mB, mBin, mUn, mCall, mCons, mNil, bCons, bNil, mBV, mVar, mC, mTest, tNotM, tAndM, tOrM, tYesM, DL.R.bind, DL.R.quiet, Sl.d, asB, mIf, el, fEq_int, i0, i1]
    cases F [a, b] <;> rfl
  | [a, b, c], _, _ =>
    have i0 : fIx (.lst [a, b, c]) (.int 0) = .ok (.fr a) := rfl
    have i1 : fIx (.lst [a, b, c]) (.int 1) = .ok (.fr b) := rfl
    have i2 : fIx (.lst [a, b, c]) (.int 2) = .ok (.fr c) := rfl
    simp [runF, env0, fin, sSeq, sSet, sIf, sRet, sRetN, sRetV, sDrop, sFrz, frz, frz1, sNop, sTry, sTryAs, mAnd, mOr, mNot, mB, mBin, mUn, mCall, mCons, mNil, bCons, bNil, mBV, mVar, mC, mTest, tNotM, tAndM, tOrM, tYesM, DL.R.bind, DL.R.quiet, Sl.d, asB, mIf, el, fEq_int, i0, i1, i2]
    cases F [a, b, c] <;> rfl
  | [a, b, c, d], _, _ =>
    have i0 : fIx (.lst [a, b, c, d]) (.int 0) = .ok (.fr a) := rfl
    have i1 : fIx (.lst [a, b, c, d]) (.int 1) = .ok (.fr b) := rfl
    have i2 : fIx (.lst [a, b, c, d]) (.int 2) = .ok (.fr c) := rfl
    have i3 : fIx (.lst [a, b, c, d]) (.int 3) = .ok (.fr d) := rfl
    simp [runF, env0, fin, sSeq, sSet, sIf, sRet, sRetN, sRetV, sDrop, sFrz, frz, frz1, sNop, sTry, sTryAs, mAnd, mOr, mNot, mB, mBin, mUn, mCall, mCons, mNil, bCons, bNil, mBV, mVar, mC, mTest, tNotM, tAndM, tOrM, tYesM, DL.R.bind, DL.R.quiet, Sl.d, asB, mIf, el, fEq_int, i0, i1, i2, i3]
    cases F [a, b, c, d] <;> rfl
  | [a, b, c, d, e], _, _ =>
    have i0 : fIx (.lst [a, b, c, d, e]) (.int 0) = .ok (.fr a) := rfl
    have i1 : fIx (.lst [a, b, c, d, e]) (.int 1) = .ok (.fr b) := rfl
    have i2 : fIx (.lst [a, b, c, d, e]) (.int 2) = .ok (.fr c) := rfl
    have i3 : fIx (.lst [a, b, c, d, e]) (.int 3) = .ok (.fr d) := rfl
    have i4 : fIx (.lst [a, b, c, d, e]) (.int 4) = .ok (.fr e) := rfl
    simp [runF, env0, fin, sSeq, sSet, sIf, sRet, sRetN, sRetV, sDrop, sFrz, frz, frz1, sNop, sTry, sTryAs, mAnd, mOr, mNot, mB, mBin, mUn, mCall, mCons, mNil, bCons, bNil, mBV, mVar, mC, mTest, tNotM, tAndM, tOrM, tYesM, DL.R.bind, DL.R.quiet, Sl.d, asB, mIf, el, fEq_int, i0, i1, i2, i3, i4]
    cases F [a, b, c, d, e] <;> rfl
  | [], h1, _ => exact absurd rfl h1
  | _ :: _ :: _ :: _ :: _ :: _ :: _, _, h2 => simp at h2
end K15
set_option Elab.async false
set_option linter.all false
set_option maxRecDepth 100000
set_option maxHeartbeats 4000000
namespace K15
open PySem PySem.Spec L2 DL DM
open PyProof.Rows hiding St
def isBl (b : Bool) : R Sl → Bool
  | .ok (.fr (.bl c)) => b == c
  | _ => false
theorem isBl_eq {b : Bool} {r : R Sl} (h : isBl b r = true) : r = .ok (.fr (.bl b)) := by
  unfold isBl at h
  split at h
  · rw [eq_of_beq h]
  · cases h
abbrev sA : D := .str (Str.ofString "alike")
theorem w_in : fIn sA (.tup [.str (Str.ofString "both"), .str (Str.ofString "either")]) = .ok (.fr (.bl false)) := isBl_eq (by decide +kernel)
theorem w_circ : fEq sA (.str (Str.ofString "circuit")) = .ok (.fr (.bl false)) := isBl_eq (by decide +kernel)
theorem w_ring : fEq sA (.str (Str.ofString "ring")) = .ok (.fr (.bl false)) := isBl_eq (by decide +kernel)
theorem w_eq : fEq sA sA = .ok (.fr (.bl true)) := isBl_eq (by decide +kernel)
theorem w_ne : fNe sA sA = .ok (.fr (.bl false)) := isBl_eq (by decide +kernel)
theorem w_not : fNotIn sA (.tup [sA, .str (Str.ofString "both"), .str (Str.ofString "either")]) = .ok (.fr (.bl false)) := isBl_eq (by decide +kernel)
theorem w_n1 : fNe (.str (Str.ofString "ring")) sA = .ok (.fr (.bl true)) := isBl_eq (by decide +kernel)
theorem w_n2 : fNe (.str (Str.ofString "circuit")) sA = .ok (.fr (.bl true)) := isBl_eq (by decide +kernel)
theorem w_n3 : fNe (.str (Str.ofString "both")) sA = .ok (.fr (.bl true)) := isBl_eq (by decide +kernel)
theorem st0 (p : Gr × Gr) : fIx (stD p) (.int 0) = .ok (.fr sA) := rfl
theorem st1 (p : Gr × Gr) : fIx (stD p) (.int 1) = .ok (.fr (gD p.1)) := rfl
theorem st2 (p : Gr × Gr) : fIx (stD p) (.int 2) = .ok (.fr (gD p.2)) := rfl
theorem gr0 (A : Gr) : fIx (gD A) (.int 0) = .ok (.fr (.int A.1)) := rfl
theorem gr1 (A : Gr) : fIx (gD A) (.int 1) = .ok (.fr (.tup (A.2.map pr))) := rfl
/-! ### joined_alike -/
abbrev jb1 : MS := (sIf (mTest (mB (mBin fNe (mB (mBin fIx (mBV 3) (mB (mC (.int 0))))) (mB (mC (.str (Str.ofString "alike"))))))) (sRaise 4) sNop)
abbrev jb2 : MS := (sIf (mTest (mB (mBin fNe (mB (mBin fIx (mBV 5) (mB (mC (.int 1))))) (mB (mBin fIx (mBV 4) (mB (mC (.int 2)))))))) (sRaise 4) sNop)
theorem forM_cons {as : D → En → Option En} {b : MS} {d : D} {ds : List D} {env e : En} (h : as d env = some e) : DL.forM as b (d :: ds) env = match b e with
      | .nx e => DL.forM as b ds e
      | .ct e => DL.forM as b ds e
      | .bk e => .nx e
      | .rt s => .rt s
      | .ex c p e => .ex c p e
      | .st => .st := by
  conv => lhs; unfold DL.forM
  rw [h]
  all_goals
    show (match b e with | .nx e => DL.forM as b ds e | .ct e => DL.forM as b ds e | .bk e => .nx e | .rt s => .rt s | .ex c p e => .ex c p e | .st => .st) = _
    generalize b e = r
    cases r <;> rfl
theorem j1_good {o0 o1 o2 o4 o5 : Option Sl} : ∀ (ps : List (Gr × Gr)) (o3 : Option Sl), ∃ q3, DL.forM (Pt.nm 3).go jb1 (ps.map stD) [o0, o1, o2, o3, o4, o5] = .nx [o0, o1, o2, q3, o4, o5]
  | [], o3 => ⟨o3, rfl⟩
  | p :: ps, o3 => by
    obtain ⟨q3, ih⟩ := j1_good (o0 := o0) (o1 := o1) (o2 := o2) (o4 := o4) (o5 := o5) ps (some (.fr (stD p)))
    refine ⟨q3, ?_⟩
    have st : jb1 [o0, o1, o2, some (.fr (stD p)), o4, o5] = .nx [o0, o1, o2, some (.fr (stD p)), o4, o5] := by
      have e0 := st0 p
      have e1 := w_ne
      generalize stD p = S at *
      unfold jb1
      simp [runF, env0, fin, sSeq, sSet, sIf, sRet, sRetN, sRetV, sDrop, sFrz, frz, frz1, sNop, sTry, sTryAs, mAnd, mOr, mNot, mB, mBin, mUn, mCall, mCons, mNil, bCons, bNil, mBV, mVar, mC, mTest, tNotM, tAndM, tOrM, tYesM, DL.R.bind, DL.R.quiet, Sl.d, asB, mIf, e0, e1]
    rw [List.map_cons, forM_cons (e := [o0, o1, o2, some (.fr (stD p)), o4, o5]) rfl, st]
    exact ih
theorem j1_bad {o0 o1 o2 o4 o5 : Option Sl} {bad w : D} (hb : fIx bad (.int 0) = .ok (.fr w)) (hw : fNe w sA = .ok (.fr (.bl true))) (post : List D) : ∀ (ps : List (Gr × Gr)) (o3 : Option Sl), ∃ env, DL.forM (Pt.nm 3).go jb1 (ps.map stD ++ bad :: post) [o0, o1, o2, o3, o4, o5] = .ex 4 none env
  | [], o3 => by
    have st : jb1 [o0, o1, o2, some (.fr bad), o4, o5] = .ex 4 none [o0, o1, o2, some (.fr bad), o4, o5] := by
      unfold jb1
      simp [runF, env0, fin, sSeq, sSet, sIf, sRet, sRetN, sRetV, sDrop, sFrz, frz, frz1, sNop, sTry, sTryAs, mAnd, mOr, mNot, mB, mBin, mUn, mCall, mCons, mNil, bCons, bNil, mBV, mVar, mC, mTest, tNotM, tAndM, tOrM, tYesM, DL.R.bind, DL.R.quiet, Sl.d, asB, mIf, hb, hw, sRaise]
    refine ⟨[o0, o1, o2, some (.fr bad), o4, o5], ?_⟩
    rw [List.map_nil, List.nil_append, forM_cons (e := [o0, o1, o2, some (.fr bad), o4, o5]) rfl, st]
  | p :: ps, o3 => by
    obtain ⟨env, ih⟩ := j1_bad (o0 := o0) (o1 := o1) (o2 := o2) (o4 := o4) (o5 := o5) hb hw post ps (some (.fr (stD p)))
    refine ⟨env, ?_⟩
    have st : jb1 [o0, o1, o2, some (.fr (stD p)), o4, o5] = .nx [o0, o1, o2, some (.fr (stD p)), o4, o5] := by
      have e0 := st0 p
      have e1 := w_ne
      clear ih
      generalize stD p = S at *
      unfold jb1
      simp [runF, env0, fin, sSeq, sSet, sIf, sRet, sRetN, sRetV, sDrop, sFrz, frz, frz1, sNop, sTry, sTryAs, mAnd, mOr, mNot, mB, mBin, mUn, mCall, mCons, mNil, bCons, bNil, mBV, mVar, mC, mTest, tNotM, tAndM, tOrM, tYesM, DL.R.bind, DL.R.quiet, Sl.d, asB, mIf, e0, e1]
    rw [List.map_cons, List.cons_append, forM_cons (e := [o0, o1, o2, some (.fr (stD p)), o4, o5]) rfl, st]
    exact ih
def linked : Gr × Gr → List (Gr × Gr) → Bool
  | _, [] => true
  | p, q :: ps => decide (q.1 = p.2) && linked q ps
def lastS : Gr × Gr → List (Gr × Gr) → Gr × Gr
  | p, [] => p
  | _, q :: ps => lastS q ps
theorem lastS_get : ∀ (ps : List (Gr × Gr)) (p : Gr × Gr), ((p :: ps).map stD)[ps.length]? = some (stD (lastS p ps))
  | [], p => rfl
  | q :: ps, p => by
    show ((q :: ps).map stD)[ps.length]? = _
    exact lastS_get ps q
theorem j2_is {o0 o1 o2 o3 : Option Sl} : ∀ (ps : List (Gr × Gr)) (p : Gr × Gr) (o4 o5 : Option Sl),
    if linked p ps = true then ∃ q4 q5, DL.forM (Pt.tp [4, 5]).go jb2 (zipD ((p :: ps).map stD) (ps.map stD)) [o0, o1, o2, o3, o4, o5] = .nx [o0, o1, o2, o3, q4, q5]
    else ∃ env, DL.forM (Pt.tp [4, 5]).go jb2 (zipD ((p :: ps).map stD) (ps.map stD)) [o0, o1, o2, o3, o4, o5] = .ex 4 none env
  | [], p, o4, o5 => by
    rw [if_pos (show linked p [] = true from rfl)]
    exact ⟨o4, o5, rfl⟩
  | q :: ps, p, o4, o5 => by
    have ih := j2_is (o0 := o0) (o1 := o1) (o2 := o2) (o3 := o3) ps q (some (.fr (stD p))) (some (.fr (stD q)))
    have z : zipD ((p :: q :: ps).map stD) ((q :: ps).map stD) = .tup [stD p, stD q] :: zipD ((q :: ps).map stD) (ps.map stD) := rfl
    have e1 := st1 q
    have e2 := st2 p
    have e3 := fNe_gr q.1 p.2
    rw [z]
    have go : (Pt.tp [4, 5]).go (.tup [stD p, stD q]) [o0, o1, o2, o3, o4, o5] = some [o0, o1, o2, o3, some (.fr (stD p)), some (.fr (stD q))] := rfl
    rw [forM_cons go]
    have lk : linked p (q :: ps) = (decide (q.1 = p.2) && linked q ps) := rfl
    rw [lk]
    by_cases c : q.1 = p.2
    · have st : jb2 [o0, o1, o2, o3, some (.fr (stD p)), some (.fr (stD q))] = .nx [o0, o1, o2, o3, some (.fr (stD p)), some (.fr (stD q))] := by
        rw [decide_eq_false (by simp [c])] at e3
        clear ih z go
        generalize stD p = S1 at *
        generalize stD q = S2 at *
        generalize gD q.1 = G1 at *
        generalize gD p.2 = G2 at *
        unfold jb2
        simp [runF, env0, fin, sSeq, sSet, sIf, sRet, sRetN, sRetV, sDrop, sFrz, frz, frz1, sNop, sTry, sTryAs, mAnd, mOr, mNot, mB, mBin, mUn, mCall, mCons, mNil, bCons, bNil, mBV, mVar, mC, mTest, tNotM, tAndM, tOrM, tYesM, DL.R.bind, DL.R.quiet, Sl.d, asB, mIf, e1, e2, e3]
      rw [st, decide_eq_true c, Bool.true_and]
      exact ih
    · have st : jb2 [o0, o1, o2, o3, some (.fr (stD p)), some (.fr (stD q))] = .ex 4 none [o0, o1, o2, o3, some (.fr (stD p)), some (.fr (stD q))] := by
        rw [decide_eq_true c] at e3
        clear ih z go
        generalize stD p = S1 at *
        generalize stD q = S2 at *
        generalize gD q.1 = G1 at *
        generalize gD p.2 = G2 at *
        unfold jb2
        simp [runF, env0, fin, sSeq, sSet, sIf, sRet, sRetN, sRetV, sDrop, sFrz, frz, frz1, sNop, sTry, sTryAs, mAnd, mOr, mNot, mB, mBin, mUn, mCall, mCons, mNil, bCons, bNil, mBV, mVar, mC, mTest, tNotM, tAndM, tOrM, tYesM, DL.R.bind, DL.R.quiet, Sl.d, asB, mIf, e1, e2, e3, sRaise]
      rw [st, decide_eq_false c, Bool.false_and, if_neg (by decide)]
      exact ⟨_, rfl⟩
theorem sf_alike {a : D} {l : List D} (h : l.length ≤ 6) : f_joined_alike (a :: l) = (runF 2 6 m_joined_alike) [a, .tup l] := by
  unfold f_joined_alike starF
  rw [if_pos ⟨by simp, by simp; unfold lim; omega⟩]
  rfl
theorem join_is {p : Gr × Gr} {ps : List (Gr × Gr)} (h : ps.length ≤ 5) : f_joined_alike ((p :: ps).map stD) = if linked p ps = true then .ok (.fr (stD (p.1, (lastS p ps).2))) else .ex 4 none := by
  have sf := sf_alike (a := stD p) (l := ps.map stD) (by simp; omega)
  have e1 := st1 p
  have e2 := st2 (lastS p ps)
  have ix : fIx (.lst ((p :: ps).map stD)) (.int (-1)) = .ok (.fr (stD (lastS p ps))) := ix_neg (k := 1) (by decide) (by simp) (by simpa using lastS_get ps p)
  obtain ⟨q3, l1⟩ := j1_good (o0 := some (.fr (stD p))) (o1 := some (.fr (.tup (ps.map stD)))) (o2 := some (.fr (.lst ((p :: ps).map stD)))) (o4 := none) (o5 := none) (p :: ps) none
  have l2 := j2_is (o0 := some (.fr (stD p))) (o1 := some (.fr (.tup (ps.map stD)))) (o2 := some (.fr (.lst ((p :: ps).map stD)))) (o3 := q3) ps p none none
  have t : fTup [sA, gD p.1, gD (lastS p ps).2] = .ok (.fr (stD (p.1, (lastS p ps).2))) := rfl
  have zm : zipM [.lst ((p :: ps).map stD), .tup (ps.map stD)] = .ok (zipD ((p :: ps).map stD) (ps.map stD)) := rfl
  have fl : fLst ((p :: ps).map stD) = .ok (.ow ((p :: ps).map stD)) := by
    show (if ((p :: ps).map stD).length ≤ lim then R.ok (Sl.ow _) else .st) = _
    rw [if_pos (by simp; unfold lim; omega)]
  have cc : stD p :: ps.map stD = (p :: ps).map stD := rfl
  rw [← cc] at fl
  rw [show (p :: ps).map stD = stD p :: ps.map stD from rfl, sf]
  rw [← cc] at ix l1 l2 zm
  obtain ⟨B1, hB1⟩ : ∃ m, jb1 = m := ⟨_, rfl⟩
  have hB1' := hB1
  unfold jb1 at hB1'
  obtain ⟨B2, hB2⟩ : ∃ m, jb2 = m := ⟨_, rfl⟩
  have hB2' := hB2
  unfold jb2 at hB2'
  unfold m_joined_alike
  rw [hB1', hB2']
  rw [hB1] at l1
  rw [hB2] at l2
  clear hB1 hB2 hB1' hB2' sf cc
  generalize zipD (stD p :: ps.map stD) (ps.map stD) = ZZ at *
  generalize stD (p.1, (lastS p ps).2) = RES at *
  generalize stD (lastS p ps) = LA at *
  generalize stD p = S at *
  generalize ps.map stD = PS at *
  generalize gD p.1 = G1 at *
  generalize gD (lastS p ps).2 = G2 at *
  have ng : fNeg (.int 1) = .ok (.fr (.int (-1))) := rfl
  cases c : linked p ps with
  | true =>
    rw [c, if_pos rfl] at l2
    obtain ⟨q4, q5, l2⟩ := l2
    rw [if_pos rfl]
    simp [runF, env0, fin, sSeq, sSet, sIf, sRet, sRetN, sRetV, sDrop, sFrz, frz, frz1, sNop, sTry, sTryAs, mAnd, mOr, mNot, mB, mBin, mUn, mCall, mCons, mNil, bCons, bNil, mBV, mVar, mC, mTest, tNotM, tAndM, tOrM, tYesM, DL.R.bind, DL.R.quiet, Sl.d, asB, mIf, mStar, asSeq, fl, sFor, mIter, l1, mZipM, zm, l2, e1, ng, ix, e2, t]
  | false =>
    rw [c, if_neg (by decide)] at l2
    obtain ⟨env, l2⟩ := l2
    rw [if_neg (by decide)]
    simp [runF, env0, fin, sSeq, sSet, sIf, sRet, sRetN, sRetV, sDrop, sFrz, frz, frz1, sNop, sTry, sTryAs, mAnd, mOr, mNot, mB, mBin, mUn, mCall, mCons, mNil, bCons, bNil, mBV, mVar, mC, mTest, tNotM, tAndM, tOrM, tYesM, DL.R.bind, DL.R.quiet, Sl.d, asB, mIf, mStar, asSeq, fl, sFor, mIter, l1, mZipM, zm, l2]
theorem join_bad {ps : List (Gr × Gr)} {bad w : D} {post : List D} (h : ps.length + post.length ≤ 5) (hb : fIx bad (.int 0) = .ok (.fr w)) (hw : fNe w sA = .ok (.fr (.bl true))) : f_joined_alike (ps.map stD ++ bad :: post) = .ex 4 none := by
  obtain ⟨a, l, hal⟩ : ∃ a l, ps.map stD ++ bad :: post = a :: l := by
    cases ps with
    | nil => exact ⟨_, _, rfl⟩
    | cons p ps => exact ⟨_, _, rfl⟩
  have ll : l.length ≤ 6 := by
    have := congrArg List.length hal
    simp at this
    omega
  obtain ⟨env, l1⟩ := j1_bad (o0 := some (.fr a)) (o1 := some (.fr (.tup l))) (o2 := some (.fr (.lst (a :: l)))) (o4 := none) (o5 := none) hb hw post ps none
  rw [hal] at l1 ⊢
  rw [sf_alike ll]
  have fl : fLst (a :: l) = .ok (.ow (a :: l)) := by
    show (if (a :: l).length ≤ lim then R.ok (Sl.ow _) else .st) = _
    rw [if_pos (by simp; unfold lim; omega)]
  obtain ⟨B1, hB1⟩ : ∃ m, jb1 = m := ⟨_, rfl⟩
  have hB1' := hB1
  unfold jb1 at hB1'
  unfold m_joined_alike
  rw [hB1']
  rw [hB1] at l1
  simp [runF, env0, fin, sSeq, sSet, sIf, sRet, sRetN, sRetV, sDrop, sFrz, frz, frz1, sNop, sTry, sTryAs, mAnd, mOr, mNot, mB, mBin, mUn, mCall, mCons, mNil, bCons, bNil, mBV, mVar, mC, mTest, tNotM, tAndM, tOrM, tYesM, DL.R.bind, DL.R.quiet, Sl.d, asB, mIf, mStar, asSeq, fl, sFor, mIter, l1]
end K15
set_option Elab.async false
set_option linter.all false
set_option maxRecDepth 100000
set_option maxHeartbeats 4000000
namespace K15
open PySem PySem.Spec L2 DL DM
open PyProof.Rows hiding St
/-! ### holds of what is relabelled -/
theorem all_true {α : Type} (xs : List α) : fAll [.lst (xs.map fun _ => D.bl true)] = .ok (.fr (.bl true)) := by
  have e : ∀ ys : List α, asBL (ys.map fun _ => D.bl true) = some (ys.map fun _ => true) := by
    intro ys
    induction ys with
    | nil => rfl
    | cons y ys ih =>
      show asBL (D.bl true :: ys.map fun _ => D.bl true) = _
      unfold asBL
      rw [ih]
      rfl
  show (match asBL (xs.map fun _ => D.bl true) with | some bs => R.ok (Sl.fr (.bl (bs.all id))) | none => .st) = _
  rw [e]
  have : (xs.map fun _ => true).all id = true := by simp
  show R.ok (Sl.fr (.bl ((xs.map fun _ => true).all id))) = _
  rw [this]
theorem row_is {row : List Int} {n : Nat} (hl : row.length = n) (h : n ≤ 6) : f_is_row [tupI row, .int n] = .ok (.fr (.bl true)) := by
  have e1 : fIs .tuple (tupI row) = .ok (.fr (.bl true)) := rfl
  have e2 := fLen_tupI row
  rw [hl] at e2
  have e3 : fEq (.int n) (.int n) = .ok (.fr (.bl true)) := by rw [fEq_int]; simp
  have e4 : compL (Pt.nm 2).go tYesM (mUn (fTyIs .int) (mBV 2)) [some (.fr (tupI row)), some (.fr (.int n)), none] (row.map .int) = .ok (row.map fun _ => .bl true) := compL_map fun i _ => ⟨_, _, rfl, rfl, rfl, rfl⟩
  have e5 := all_true row
  have e6 : asSeq (tupI row) = .ok (row.map .int) := rfl
  have l1 : (row.map D.int).length ≤ lim := by rw [List.length_map]; unfold lim; omega
  generalize (row.map fun _ => D.bl true) = T at e4 e5
  generalize row.map D.int = L at e4 e6 l1
  generalize tupI row = P at *
  unfold f_is_row m_is_row
  simp [runF, env0, fin, sSeq, sSet, sIf, sRet, sRetN, sRetV, sDrop, sFrz, frz, frz1, sNop, sTry, sTryAs, mAnd, mOr, mNot, mB, mBin, mUn, mCall, mCons, mNil, bCons, bNil, mBV, mVar, mC, mTest, tNotM, tAndM, tOrM, tYesM, DL.R.bind, DL.R.quiet, Sl.d, asB, mIf, e1, e2, e3, mComp, mIter, e6, wipeE, l1, e4, e5]
theorem pmoved_len (r : List Int) (g : List (Int × Int)) : (pmoved r g).length = g.length := by unfold pmoved; rw [(isort_permI _ _).length_eq]; simp
abbrev tiM : M := (mCall f_has_edge (mCons (mVar 1) (mCons (mBin fIx (mBV 2) (mBV 3)) (mCons (mBin fIx (mBV 2) (mBV 4)) mNil))))
theorem turns_is {n : Nat} {g : List (Int × Int)} {row : List Int} (hr : row.length = n) (hg : GE n g) (hl : g.length < 1000) : f_turns_into [gD (n, g), gD (n, pmoved row g), tupI row] = .ok (.fr (.bl true)) := by
  have e1 := gr1 (n, g)
  have e2 := gr1 (n, pmoved row g)
  have k1 : fLen [.tup (g.map pr)] = .ok (.fr (.int g.length)) := by show R.ok (Sl.fr (.int ((g.map pr).length : Int))) = _; rw [List.length_map]
  have k2 : fLen [.tup ((pmoved row g).map pr)] = .ok (.fr (.int g.length)) := by show R.ok (Sl.fr (.int (((pmoved row g).map pr).length : Int))) = _; rw [List.length_map, pmoved_len]
  have e3 : fNe (.int g.length) (.int g.length) = .ok (.fr (.bl false)) := by rw [fNe_int]; simp
  have e4 : compL (Pt.tp [3, 4]).go tYesM tiM [some (.fr (gD (n, g))), some (.fr (gD (n, pmoved row g))), some (.fr (tupI row)), none, none] (g.map pr) = .ok (g.map fun _ => .bl true) := by
    refine compL_map fun p m => ⟨_, .fr (.bl true), rfl, rfl, ?_, rfl⟩
    have b := hg.1 p m
    have i1 := at0_ix (row := row) (i := p.1) (by omega)
    have i2 := at0_ix (row := row) (i := p.2) (by omega)
    have hh := has_is (n := n) (g := pmoved row g) (at0 row p.1) (at0 row p.2)
    have mm : ped (at0 row p.1, at0 row p.2) ∈ pmoved row g := by
      unfold pmoved
      refine (isort_permI _ _).mem_iff.mpr ?_
      exact List.mem_map.mpr ⟨mov row p, List.mem_map.mpr ⟨p, m, rfl⟩, rfl⟩
    rw [decide_eq_true mm] at hh
    have hh : f_has_edge [gD (n, pmoved row g), .int (at0 row p.1), .int (at0 row p.2)] = .ok (.fr (.bl true)) := hh
    generalize gD (n, pmoved row g) = G2 at *
    generalize gD (n, g) = G1 at *
    generalize tupI row = T at *
    unfold tiM
    simp [runF, env0, fin, sSeq, sSet, sIf, sRet, sRetN, sRetV, sDrop, sFrz, frz, frz1, sNop, sTry, sTryAs, mAnd, mOr, mNot, mB, mBin, mUn, mCall, mCons, mNil, bCons, bNil, mBV, mVar, mC, mTest, tNotM, tAndM, tOrM, tYesM, DL.R.bind, DL.R.quiet, Sl.d, asB, mIf, setAll, i1, i2, hh]
  have e5 := all_true g
  have l1 : (g.map pr).length ≤ lim := by rw [List.length_map]; unfold lim; omega
  unfold f_turns_into m_turns_into
  obtain ⟨TM, hT⟩ : ∃ m, tiM = m := ⟨_, rfl⟩
  have hT' := hT
  unfold tiM at hT'
  rw [hT']
  rw [hT] at e4
  generalize (g.map fun _ => D.bl true) = T at e4 e5
  have e1 : fIx (gD (n, g)) (.int 1) = .ok (.fr (.tup (g.map pr))) := e1
  have e2 : fIx (gD (n, pmoved row g)) (.int 1) = .ok (.fr (.tup ((pmoved row g).map pr))) := e2
  generalize (pmoved row g).map pr = H at *
  generalize g.map pr = GG at *
  generalize gD (n, pmoved row g) = G2 at *
  generalize gD (n, g) = G1 at *
  generalize tupI row = RR at *
  simp [runF, env0, fin, sSeq, sSet, sIf, sRet, sRetN, sRetV, sDrop, sFrz, frz, frz1, sNop, sTry, sTryAs, mAnd, mOr, mNot, mB, mBin, mUn, mCall, mCons, mNil, bCons, bNil, mBV, mVar, mC, mTest, tNotM, tAndM, tOrM, tYesM, DL.R.bind, DL.R.quiet, Sl.d, asB, mIf, e1, e2, k1, k2, e3, mComp, mIter, asSeq, wipeE, l1, e4, e5]
theorem holds_is {n : Nat} (hn : n ≤ 6) {g : List (Int × Int)} {row : List Int} (hp : row.Perm (rng n)) (hg : GE n g) (hl : g.length < 1000) : f_holds [stD ((n, g), (n, pmoved row g)), tupI row] = .ok (.fr (.bl true)) := by
  have rl : row.length = n := by rw [hp.length_eq, rng_len]
  have e0 := st0 ((n, g), (n, pmoved row g))
  have e1 := st1 ((n, g), (n, pmoved row g))
  have e2 := st2 ((n, g), (n, pmoved row g))
  have g0 := gr0 (n, g)
  have a1 := row_is rl hn
  have a2 := isP_is row (by omega)
  rw [isP_perm hp hn] at a2
  have a3 := turns_is rl hg hl
  have w1 := w_in
  have w2 := w_circ
  have w3 := w_ring
  have w4 := w_eq
  have tt : fTup [.str (Str.ofString "both"), .str (Str.ofString "either")] = .ok (.fr (.tup [.str (Str.ofString "both"), .str (Str.ofString "either")])) := rfl
  have e1 : fIx (stD ((n, g), (n, pmoved row g))) (.int 1) = .ok (.fr (gD (n, g))) := e1
  have e2 : fIx (stD ((n, g), (n, pmoved row g))) (.int 2) = .ok (.fr (gD (n, pmoved row g))) := e2
  have g0 : fIx (gD (n, g)) (.int 0) = .ok (.fr (.int n)) := g0
  generalize stD ((n, g), (n, pmoved row g)) = S at *
  generalize gD (n, pmoved row g) = G2 at *
  generalize gD (n, g) = G1 at *
  generalize tupI row = RR at *
  have hf : f_has_form [S, RR] = .ok (.fr (.bl true)) := by
    unfold f_has_form m_has_form
    simp [runF, env0, fin, sSeq, sSet, sIf, sRet, sRetN, sRetV, sDrop, sFrz, frz, frz1, sNop, sTry, sTryAs, mAnd, mOr, mNot, mB, mBin, mUn, mCall, mCons, mNil, bCons, bNil, mBV, mVar, mC, mTest, tNotM, tAndM, tOrM, tYesM, DL.R.bind, DL.R.quiet, Sl.d, asB, mIf, e0, w2, e1, g0, a1, w3, w4, a2]
  have ft : f_fits [S, RR] = .ok (.fr (.bl true)) := by
    unfold f_fits m_fits
    simp [runF, env0, fin, sSeq, sSet, sIf, sRet, sRetN, sRetV, sDrop, sFrz, frz, frz1, sNop, sTry, sTryAs, mAnd, mOr, mNot, mB, mBin, mUn, mCall, mCons, mNil, bCons, bNil, mBV, mVar, mC, mTest, tNotM, tAndM, tOrM, tYesM, DL.R.bind, DL.R.quiet, Sl.d, asB, mIf, e0, w3, w4, e1, e2, a3]
  have ha : f_holds_atom [S, RR] = .ok (.fr (.bl true)) := by
    unfold f_holds_atom m_holds_atom
    simp [runF, env0, fin, sSeq, sSet, sIf, sRet, sRetN, sRetV, sDrop, sFrz, frz, frz1, sNop, sTry, sTryAs, mAnd, mOr, mNot, mB, mBin, mUn, mCall, mCons, mNil, bCons, bNil, mBV, mVar, mC, mTest, tNotM, tAndM, tOrM, tYesM, DL.R.bind, DL.R.quiet, Sl.d, asB, mIf, hf, ft]
  show runF 2 2 (m_holds (R_holds 7).1 (R_holds 7).2) [S, RR] = _
  unfold m_holds
  simp [runF, env0, fin, sSeq, sSet, sIf, sRet, sRetN, sRetV, sDrop, sFrz, frz, frz1, sNop, sTry, sTryAs, mAnd, mOr, mNot, mB, mBin, mUn, mCall, mCons, mNil, bCons, bNil, mBV, mVar, mC, mTest, tNotM, tAndM, tOrM, tYesM, DL.R.bind, DL.R.quiet, Sl.d, asB, mIf, e0, tt, w1, ha]
/-! ### the statement and the row turned round -/
theorem swap_is (p : Gr × Gr) : f_swap_statement [stD p] = .ok (.fr (stD (p.2, p.1))) := by
  have e0 := st0 p
  have e1 := st1 p
  have e2 := st2 p
  have w := w_not
  have tt : fTup [sA, .str (Str.ofString "both"), .str (Str.ofString "either")] = .ok (.fr (.tup [sA, .str (Str.ofString "both"), .str (Str.ofString "either")])) := rfl
  have t : fTup [sA, gD p.2, gD p.1] = .ok (.fr (stD (p.2, p.1))) := rfl
  generalize stD (p.2, p.1) = S2 at *
  generalize stD p = S at *
  generalize gD p.1 = G1 at *
  generalize gD p.2 = G2 at *
  unfold f_swap_statement m_swap_statement
  simp [runF, env0, fin, sSeq, sSet, sIf, sRet, sRetN, sRetV, sDrop, sFrz, frz, frz1, sNop, sTry, sTryAs, mAnd, mOr, mNot, mB, mBin, mUn, mCall, mCons, mNil, bCons, bNil, mBV, mVar, mC, mTest, tNotM, tAndM, tOrM, tYesM, DL.R.bind, DL.R.quiet, Sl.d, asB, mIf, e0, tt, w, e1, e2, t]
theorem swapw_is {n : Nat} (hn : n ≤ 6) {g : List (Int × Int)} {row : List Int} (hp : row.Perm (rng n)) (hg : GE n g) (hl : g.length < 1000) : f_swap_witness [stD ((n, g), (n, pmoved row g)), tupI row] = .ok (.fr (tupI (pinv row))) := by
  have h1 := swap_is ((n, g), (n, pmoved row g))
  have h2 := holds_is hn hp hg hl
  have h3 := inverse_is hn hp
  have e0 := st0 ((n, pmoved row g), (n, g))
  have w := w_eq
  generalize stD ((n, pmoved row g), (n, g)) = S2 at *
  have h1 : f_swap_statement [stD ((n, g), (n, pmoved row g))] = .ok (.fr S2) := h1
  generalize stD ((n, g), (n, pmoved row g)) = S at *
  generalize tupI (pinv row) = T2 at *
  generalize tupI row = T at *
  have hr : f_require_witness [S, T] = .ok (.fr .non) := by
    unfold f_require_witness m_require_witness
    simp [runF, env0, fin, sSeq, sSet, sIf, sRet, sRetN, sRetV, sDrop, sFrz, frz, frz1, sNop, sTry, sTryAs, mAnd, mOr, mNot, mB, mBin, mUn, mCall, mCons, mNil, bCons, bNil, mBV, mVar, mC, mTest, tNotM, tAndM, tOrM, tYesM, DL.R.bind, DL.R.quiet, Sl.d, asB, mIf, h2]
  unfold f_swap_witness m_swap_witness
  simp [runF, env0, fin, sSeq, sSet, sIf, sRet, sRetN, sRetV, sDrop, sFrz, frz, frz1, sNop, sTry, sTryAs, mAnd, mOr, mNot, mB, mBin, mUn, mCall, mCons, mNil, bCons, bNil, mBV, mVar, mC, mTest, tNotM, tAndM, tOrM, tYesM, DL.R.bind, DL.R.quiet, Sl.d, asB, mIf, h1, e0, hr, w, h3]
/-! ### _law_made -/
theorem ped_ge {n : Nat} {g : List (Int × Int)} (hg : GE n g) : g.map ped = g := by
  conv => rhs; rw [← List.map_id g]
  exact List.map_congr_left fun p m => ped_of (by have := hg.1 p m; omega)
theorem pgraph_self {n : Nat} {g : List (Int × Int)} (hg : GE n g) (hs : isort leP g = g) : pgraph n g = some g := by
  have h := pgraph_of (n := n) (ps := g) (by rw [ped_ge hg]; exact hg)
  rw [ped_ge hg, hs] at h
  exact h
theorem pgraph_turn {n : Nat} {g : List (Int × Int)} (hg : GE n g) (hs : isort leP g = g) : pgraph n (g.map fun p => (p.2, p.1)) = some g := by
  have e : (g.map fun p => (p.2, p.1)).map ped = g := by
    rw [List.map_map]
    conv => rhs; rw [← List.map_id g]
    refine List.map_congr_left fun p m => ?_
    show ped (p.2, p.1) = p
    have b := hg.1 p m
    rw [ped_swap]
    exact ped_of (by omega)
  have h := pgraph_of (n := n) (ps := g.map fun p => (p.2, p.1)) (by rw [e]; exact hg)
  rw [e, hs] at h
  exact h
theorem alike_is {n : Nat} (g h : List (Int × Int)) : f_alike [gD (n, g), gD (n, h)] = .ok (.fr (stD ((n, g), (n, h)))) := by
  have e1 := gr0 (n, g)
  have e2 := gr0 (n, h)
  have e3 : fNe (.int n) (.int n) = .ok (.fr (.bl false)) := by rw [fNe_int]; simp
  have t : fTup [sA, gD (n, g), gD (n, h)] = .ok (.fr (stD ((n, g), (n, h)))) := rfl
  have e1 : fIx (gD (n, g)) (.int 0) = .ok (.fr (.int n)) := e1
  have e2 : fIx (gD (n, h)) (.int 0) = .ok (.fr (.int n)) := e2
  generalize stD ((n, g), (n, h)) = S at *
  generalize gD (n, h) = G2 at *
  generalize gD (n, g) = G1 at *
  unfold f_alike m_alike
  simp [runF, env0, fin, sSeq, sSet, sIf, sRet, sRetN, sRetV, sDrop, sFrz, frz, frz1, sNop, sTry, sTryAs, mAnd, mOr, mNot, mB, mBin, mUn, mCall, mCons, mNil, bCons, bNil, mBV, mVar, mC, mTest, tNotM, tAndM, tOrM, tYesM, DL.R.bind, DL.R.quiet, Sl.d, asB, mIf, e1, e2, e3, t]
abbrev tuM : M := (mCall fTup (mCons (mBin fIx (mBV 3) (mB (mC (.int 1)))) (mCons (mBin fIx (mBV 3) (mB (mC (.int 0)))) mNil)))
theorem made_is {n : Nat} (h : 1 ≤ n ∧ n ≤ 6) {g k : List (Int × Int)} (hg : GE n g) (hgs : isort leP g = g) (hgl : g.length < 1000) (hk : GE n k) (hks : isort leP k = k) (hkl : k.length < 1000) :
    f_L_made [gD (n, g), gD (n, k)] = .ok (.fr (stD ((n, g), (n, k)))) := by
  have e1 := gr1 (n, g)
  have e2 := gr1 (n, k)
  have z1 := gr0 (n, g)
  have z2 := gr0 (n, k)
  have m1 := make_is h (ps := g) hgl
  rw [pgraph_self hg hgs] at m1
  have m1 : f_make_graph [.int n, .lst (g.map pr)] = .ok (.fr (gD (n, g))) := m1
  have m2 := make_is h (ps := k.map fun p => (p.2, p.1)) (by simpa using hkl)
  rw [pgraph_turn hk hks] at m2
  have m2 : f_make_graph [.int n, .lst ((k.map fun p => (p.2, p.1)).map pr)] = .ok (.fr (gD (n, k))) := m2
  have c1 : ∀ o2 : Option Sl, compL (Pt.nm 3).go tYesM (mVar 3) [some (.fr (gD (n, g))), some (.fr (gD (n, k))), o2, none] (g.map pr) = .ok (g.map pr) := fun o2 => compL_map fun p _ => ⟨_, _, rfl, rfl, rfl, rfl⟩
  have c2 : compL (Pt.nm 3).go tYesM tuM [some (.fr (gD (n, g))), some (.fr (gD (n, k))), none, none] (k.map pr) = .ok ((k.map fun p => (p.2, p.1)).map pr) := by
    rw [List.map_map]
    refine compL_map fun p m => ⟨_, .fr (pr (p.2, p.1)), rfl, rfl, ?_, rfl⟩
    have j0 := pix0 p
    have j1 := pix1 p
    have t : fTup [.int p.2, .int p.1] = .ok (.fr (pr (p.2, p.1))) := rfl
    generalize pr (p.2, p.1) = Q at *
    generalize pr p = P at *
    unfold tuM
    simp [runF, env0, fin, sSeq, sSet, sIf, sRet, sRetN, sRetV, sDrop, sFrz, frz, frz1, sNop, sTry, sTryAs, mAnd, mOr, mNot, mB, mBin, mUn, mCall, mCons, mNil, bCons, bNil, mBV, mVar, mC, mTest, tNotM, tAndM, tOrM, tYesM, DL.R.bind, DL.R.quiet, Sl.d, asB, mIf, j0, j1, t]
  have l1 : (g.map pr).length ≤ lim := by rw [List.length_map]; unfold lim; omega
  have l2 : (k.map pr).length ≤ lim := by rw [List.length_map]; unfold lim; omega
  have al := alike_is (n := n) g k
  unfold f_L_made m_L_made
  obtain ⟨TM, hT⟩ : ∃ m, tuM = m := ⟨_, rfl⟩
  have hT' := hT
  unfold tuM at hT'
  rw [hT']
  rw [hT] at c2
  have e1 : fIx (gD (n, g)) (.int 1) = .ok (.fr (.tup (g.map pr))) := e1
  have e2 : fIx (gD (n, k)) (.int 1) = .ok (.fr (.tup (k.map pr))) := e2
  have z1 : fIx (gD (n, g)) (.int 0) = .ok (.fr (.int n)) := z1
  have z2 : fIx (gD (n, k)) (.int 0) = .ok (.fr (.int n)) := z2
  generalize (k.map fun p => (p.2, p.1)).map pr = KT at *
  generalize g.map pr = GL at *
  generalize k.map pr = KL at *
  generalize stD ((n, g), (n, k)) = S at *
  generalize gD (n, g) = G1 at *
  generalize gD (n, k) = G2 at *
  simp [runF, env0, fin, sSeq, sSet, sIf, sRet, sRetN, sRetV, sDrop, sFrz, frz, frz1, sNop, sTry, sTryAs, mAnd, mOr, mNot, mB, mBin, mUn, mCall, mCons, mNil, bCons, bNil, mBV, mVar, mC, mTest, tNotM, tAndM, tOrM, tYesM, DL.R.bind, DL.R.quiet, Sl.d, asB, mIf, e2, mComp, mIter, asSeq, wipeE, l2, c2, z1, e1, l1, c1, m1, z2, m2, al]
end K15
set_option Elab.async false
set_option linter.all false
set_option maxRecDepth 100000
set_option maxHeartbeats 4000000
namespace K15
open PySem PySem.Spec L2 DL DM
open PyProof.Rows hiding St
/-! ### what undoes a row -/
theorem eq_of_at0 {xs ys : List Int} {n : Nat} (hx : xs.length = n) (hy : ys.length = n) (h : ∀ i : Nat, i < n → at0 xs (i : Int) = at0 ys (i : Int)) : xs = ys := by
  apply List.ext_getElem (by omega)
  intro i h1 h2
  have e := h i (by omega)
  rw [at0_nat, at0_nat, getD_get h1, getD_get h2] at e
  exact e
theorem at0_hit {p : List Int} {n : Nat} (hp : p.Perm (rng n)) {j : Nat} (hj : j < n) : ∃ k : Nat, k < n ∧ at0 p (k : Int) = (j : Int) := by
  have l : p.length = n := by rw [hp.length_eq, rng_len]
  have m : (j : Int) ∈ p := hp.mem_iff.mpr (mem_rng.mpr ⟨j, hj, rfl⟩)
  obtain ⟨k, hk, e⟩ := List.getElem_of_mem m
  exact ⟨k, by omega, by rw [at0_nat, getD_get hk, e]⟩
theorem pinv_len (p : List Int) : (pinv p).length = p.length := by unfold pinv; simp
theorem pinv_uniq {p q : List Int} {n : Nat} (hp : p.Perm (rng n)) (hq : q.length = n) (h : ∀ i : Nat, i < n → at0 q (at0 p (i : Int)) = (i : Int)) : q = pinv p := by
  have l : p.length = n := by rw [hp.length_eq, rng_len]
  refine eq_of_at0 hq (by rw [pinv_len, l]) fun j hj => ?_
  obtain ⟨k, hk, e⟩ := at0_hit hp hj
  have a := pinv_at hp (i := (k : Int)) (by omega)
  rw [at0_after (by omega), e] at a
  have b := h k hk
  rw [e] at b
  rw [a, b]
theorem pinv_after {p q : List Int} {n : Nat} (hp : p.Perm (rng n)) (hq : q.Perm (rng n)) : pafter (pinv q) (pinv p) = pinv (pafter p q) := by
  have lp : p.length = n := by rw [hp.length_eq, rng_len]
  have lq : q.length = n := by rw [hq.length_eq, rng_len]
  refine pinv_uniq (pafter_perm hp hq) (by rw [pafter_len, pinv_len, lq]) fun i hi => ?_
  have b := at0_mem hp (i := (i : Int)) (by omega)
  have b2 := at0_mem hq (i := at0 p (i : Int)) b
  rw [at0_after (p := p) (by omega), at0_after (p := pinv q) (by rw [pinv_len]; omega)]
  have a1 := pinv_at hq b
  rw [at0_after (by omega)] at a1
  have a2 := pinv_at hp (i := (i : Int)) (by omega)
  rw [at0_after (by omega)] at a2
  rw [a1, a2]
theorem pafter_assoc {p q r : List Int} {n : Nat} (hp : p.Perm (rng n)) (hq : q.Perm (rng n)) : pafter (pafter p q) r = pafter p (pafter q r) := by
  have lp : p.length = n := by rw [hp.length_eq, rng_len]
  have lq : q.length = n := by rw [hq.length_eq, rng_len]
  refine eq_of_at0 (n := n) (by rw [pafter_len, pafter_len, lp]) (by rw [pafter_len, lp]) fun i hi => ?_
  have b := at0_mem hp (i := (i : Int)) (by omega)
  rw [at0_after (p := pafter p q) (by rw [pafter_len]; omega), at0_after (p := p) (by omega), at0_after (p := p) (by omega), at0_after (p := q) (by omega)]
theorem prod_cons {n : Nat} (hn : n ≤ 6) {a b : List Int} {l : List (List Int)} (ha : a.Perm (rng n)) (hb : b.Perm (rng n)) (hl : ∀ c ∈ l, c.Perm (rng n)) : prod (a :: b :: l) = pafter a (prod (b :: l)) := by
  have key : ∀ (l : List (List Int)) (b : List Int), b.Perm (rng n) → (∀ c ∈ l, c.Perm (rng n)) → l.foldl pafter (pafter a b) = pafter a (l.foldl pafter b) := by
    intro l
    induction l with
    | nil => intro b _ _; rfl
    | cons c l ih =>
      intro b hb hl
      have hc := hl c List.mem_cons_self
      rw [List.foldl_cons, List.foldl_cons, pafter_assoc ha hb]
      exact ih _ (pafter_perm hb hc) fun d m => hl d (List.mem_cons_of_mem _ m)
  exact key l b hb hl
theorem prod_perm {n : Nat} (hn : n ≤ 6) {l : List (List Int)} (hl : l ≠ []) (h : ∀ b ∈ l, b.Perm (rng n)) : (prod l).Perm (rng n) := (witO_good hn hl h).2
theorem prod_snoc {l : List (List Int)} {x : List Int} (h : l ≠ []) : prod (l ++ [x]) = pafter (prod l) x := by
  cases l with
  | nil => exact absurd rfl h
  | cons a l =>
    show (l ++ [x]).foldl pafter a = pafter (l.foldl pafter a) x
    rw [List.foldl_append]
    rfl
theorem prod_undone {n : Nat} (hn : n ≤ 6) : ∀ {l : List (List Int)}, l ≠ [] → (∀ b ∈ l, b.Perm (rng n)) → prod (l.reverse.map pinv) = pinv (prod l)
  | [], h, _ => absurd rfl h
  | [a], _, _ => rfl
  | a :: b :: l, _, h => by
    have ha := h a List.mem_cons_self
    have hb := h b (List.mem_cons_of_mem _ List.mem_cons_self)
    have hr : ∀ c ∈ b :: l, c.Perm (rng n) := fun c m => h c (List.mem_cons_of_mem _ m)
    have ih := prod_undone hn (l := b :: l) (by simp) hr
    rw [List.reverse_cons, List.map_append, List.map_cons, List.map_nil, prod_snoc (by simp), ih, prod_cons hn ha hb fun c m => hr c (List.mem_cons_of_mem _ m)]
    exact pinv_after ha (prod_perm hn (by simp) hr)
/-! ### _law_product -/
abbrev pb : MS := (sSet 1 (mCall fTuple (bCons (mB (mCall f_L_after (mCons (mVar 1) (mCons (mVar 2) mNil)))) bNil)))
theorem ploop {n : Nat} (hn : n ≤ 6) {o0 : Option Sl} : ∀ (l : List (List Int)) (a : List Int) (o2 : Option Sl), a.Perm (rng n) → (∀ b ∈ l, b.Perm (rng n)) → ∃ q2, DL.forM (Pt.nm 2).go pb (l.map tupI) [o0, some (.fr (tupI a)), o2] = .nx [o0, some (.fr (tupI (l.foldl pafter a))), q2]
  | [], a, o2, _, _ => ⟨o2, rfl⟩
  | b :: l, a, o2, ha, h => by
    have hb := h b List.mem_cons_self
    obtain ⟨q2, ih⟩ := ploop hn (o0 := o0) l (pafter a b) (some (.fr (tupI b))) (pafter_perm ha hb) fun c m => h c (List.mem_cons_of_mem _ m)
    refine ⟨q2, ?_⟩
    have e1 := (compose_is hn ha hb).2
    have t : fTuple [.lst ((pafter a b).map .int)] = .ok (.fr (tupI (pafter a b))) := rfl
    have st : pb [o0, some (.fr (tupI a)), some (.fr (tupI b))] = .nx [o0, some (.fr (tupI (pafter a b))), some (.fr (tupI b))] := by
      clear ih
      generalize tupI (pafter a b) = T at *
      generalize (pafter a b).map D.int = L at *
      generalize tupI a = A at *
      generalize tupI b = B at *
      unfold pb
      simp [runF, env0, fin, sSeq, sSet, sIf, sRet, sRetN, sRetV, sDrop, sFrz, frz, frz1, sNop, sTry, sTryAs, mAnd, mOr, mNot, mB, mBin, mUn, mCall, mCons, mNil, bCons, bNil, mBV, mVar, mC, mTest, tNotM, tAndM, tOrM, tYesM, DL.R.bind, DL.R.quiet, Sl.d, asB, mIf, e1, t]
    rw [List.map_cons, forM_cons (e := [o0, some (.fr (tupI a)), some (.fr (tupI b))]) rfl, st]
    exact ih
theorem product_is {n : Nat} (hn : n ≤ 6) {l : List (List Int)} (hl : l ≠ []) (h : ∀ b ∈ l, b.Perm (rng n)) : f_L_product [.lst (l.map tupI)] = .ok (.fr (tupI (prod l))) := by
  cases l with
  | nil => exact absurd rfl hl
  | cons a l =>
    have i0 : fIx (.lst ((a :: l).map tupI)) (.int 0) = .ok (.fr (tupI a)) := fIx_map tupI (xs := a :: l) (k := 0) rfl
    have s1 : fSl (.lst ((a :: l).map tupI)) (some 1) none = .ok (.ow (l.map tupI)) := fSl_lfrom tupI (xs := a :: l) (k := 1) (by simp)
    obtain ⟨q2, lp⟩ := ploop hn (o0 := some (.fr (.lst ((a :: l).map tupI)))) l a none (h a List.mem_cons_self) fun c m => h c (List.mem_cons_of_mem _ m)
    unfold f_L_product m_L_product
    obtain ⟨PB, hP⟩ : ∃ m, pb = m := ⟨_, rfl⟩
    have hP' := hP
    unfold pb at hP'
    rw [hP']
    rw [hP] at lp
    have e : prod (a :: l) = l.foldl pafter a := rfl
    rw [e]
    generalize l.foldl pafter a = pp at *
    generalize (a :: l).map tupI = AL at *
    generalize l.map tupI = L at *
    generalize tupI pp = T at *
    generalize tupI a = A at *
    simp [runF, env0, fin, sSeq, sSet, sIf, sRet, sRetN, sRetV, sDrop, sFrz, frz, frz1, sNop, sTry, sTryAs, mAnd, mOr, mNot, mB, mBin, mUn, mCall, mCons, mNil, bCons, bNil, mBV, mVar, mC, mTest, tNotM, tAndM, tOrM, tYesM, DL.R.bind, DL.R.quiet, Sl.d, asB, mIf, i0, mSl, oSome, oNone, asI, s1, sFor, mIter, asSeq, lp]
/-! ### _law_undone -/
theorem at0_set {u : List Int} {r : Nat} {v : Int} (hr : r < u.length) (i : Nat) : at0 (u.set r v) (i : Int) = if i = r then v else at0 u (i : Int) := by
  rw [at0_nat, at0_nat]
  show ((u.set r v)[i]?).getD 0 = _
  rw [List.getElem?_set]
  by_cases c : r = i
  · subst c
    rw [if_pos rfl, if_pos rfl, if_pos hr]
    rfl
  · rw [if_neg c, if_neg (fun q => c q.symm)]
    rfl
abbrev ub : MS := (sPut 1 (mB (mBin fIx (mBV 0) (mBV 3))) (mVar 3))
def UInv (n : Nat) (p : List Int) (ds : List D) (env : En) : Prop := ∃ (k : Nat) (u : List Int) (o3 : Option Sl),
  env = [some (.fr (tupI p)), some (.ow (u.map .int)), none, o3] ∧ u.length = n ∧ k ≤ n ∧ (∀ j : Nat, j < k → at0 u (at0 p (j : Int)) = (j : Int)) ∧ ds = (List.range' k (n - k)).map fun k : Nat => D.int k
theorem ustep {n : Nat} {p : List Int} (hp : p.Perm (rng n)) (d : D) (ds : List D) (env : En) (h : UInv n p (d :: ds) env) : ∃ e1 e2, (Pt.nm 3).go d env = some e1 ∧ (ub e1 = .nx e2 ∨ ub e1 = .ct e2) ∧ UInv n p ds e2 := by
  obtain ⟨k, u, o3, rfl, ul, hk, hu, hd⟩ := h
  have pl : p.length = n := by rw [hp.length_eq, rng_len]
  have kl : k < n := by
    rcases Nat.lt_or_ge k n with q | q
    · exact q
    · rw [show n - k = 0 by omega] at hd; simp at hd
  have hd2 : d = .int k ∧ ds = (List.range' (k + 1) (n - (k + 1))).map fun k : Nat => D.int k := by
    rw [show n - k = (n - (k + 1)) + 1 by omega, List.range'_succ, List.map_cons] at hd
    exact ⟨(List.cons.inj hd).1, (List.cons.inj hd).2⟩
  obtain ⟨rfl, rfl⟩ := hd2
  have b := at0_mem hp (i := (k : Int)) (by omega)
  obtain ⟨r, hr⟩ := Int.eq_ofNat_of_zero_le b.1
  have rl : r < u.length := by omega
  have ix := at0_ix (row := p) (i := (k : Int)) (by omega)
  rw [hr] at ix
  have xd : ixD (u.map D.int).length (r : Int) = some r := by
    unfold ixD
    rw [List.length_map, if_pos (by omega), if_pos (by omega), Int.toNat_natCast]
  have sm : (u.map D.int).set r (.int k) = (u.set r (k : Int)).map .int := by rw [List.map_set]
  refine ⟨_, [some (.fr (tupI p)), some (.ow ((u.set r (k : Int)).map .int)), none, some (.fr (.int k))], rfl, .inl ?_, k + 1, u.set r (k : Int), _, rfl, by simpa using ul, by omega, ?_, rfl⟩
  · generalize (u.set r (k : Int)).map D.int = V at *
    generalize u.map D.int = U at *
    generalize tupI p = T at *
    unfold ub sPut
    simp [runF, env0, fin, sSeq, sSet, sIf, sRet, sRetN, sRetV, sDrop, sFrz, frz, frz1, sNop, sTry, sTryAs, mAnd, mOr, mNot, mB, mBin, mUn, mCall, mCons, mNil, bCons, bNil, mBV, mVar, mC, mTest, tNotM, tAndM, tOrM, tYesM, DL.R.bind, DL.R.quiet, Sl.d, asB, mIf, ix, xd, sm]
  · intro j hj
    have bj := at0_mem hp (i := (j : Int)) (by omega)
    obtain ⟨s, hs⟩ := Int.eq_ofNat_of_zero_le bj.1
    rw [hs, at0_set rl]
    by_cases c : j = k
    · subst c
      rw [if_pos (by omega)]
    · rw [if_neg, ← hs]
      · exact hu j (by omega)
      · intro q
        have := at0_inj hp (i := (j : Int)) (j := (k : Int)) (by omega) (by omega) (by rw [hs, hr, q])
        omega
theorem undone_is {n : Nat} (hn : n ≤ 6) {p : List Int} (hp : p.Perm (rng n)) : f_L_undone [tupI p] = .ok (.ow ((pinv p).map .int)) := by
  have pl : p.length = n := by rw [hp.length_eq, rng_len]
  have e1 := fLen_tupI p
  rw [pl] at e1
  have c1 : compL (Pt.nm 2).go tYesM (mC (.int 0)) [some (.fr (tupI p)), none, none, none] (p.map .int) = .ok ((p.map fun _ => (0 : Int)).map .int) := by
    rw [List.map_map]
    exact compL_map fun i _ => ⟨_, _, rfl, rfl, rfl, rfl⟩
  obtain ⟨e2, q, w⟩ := forM_inv (as := (Pt.nm 3).go) (b := ub) (P := UInv n p) (ustep hp) (rangeD 0 n) [some (.fr (tupI p)), some (.ow ((p.map fun _ => (0 : Int)).map .int)), none, none]
    ⟨0, _, none, rfl, by simpa using pl, by omega, fun j hj => absurd hj (by omega), by rw [rangeD_nat, Nat.sub_zero, List.range_eq_range']⟩
  obtain ⟨k, u, o3, rfl, ul, hk, hu, hd⟩ := w
  have kn : k = n := by
    rcases Nat.lt_or_ge k n with c | c
    · rw [show n - k = (n - (k + 1)) + 1 by omega, List.range'_succ] at hd
      simp at hd
    · omega
  subst kn
  have ue := pinv_uniq hp ul hu
  subst ue
  have e6 : asSeq (tupI p) = .ok (p.map .int) := rfl
  have l1 : (p.map D.int).length ≤ lim := by rw [List.length_map]; unfold lim; omega
  have l4 : (k : Int) ≤ big ∧ -big ≤ (k : Int) := by unfold big; omega
  unfold f_L_undone m_L_undone
  obtain ⟨UB, hU⟩ : ∃ m, ub = m := ⟨_, rfl⟩
  have hU' := hU
  unfold ub at hU'
  rw [hU']
  rw [hU] at q
  generalize (p.map fun _ => (0 : Int)).map D.int = ZZ at *
  generalize (pinv p).map D.int = V at *
  generalize p.map D.int = L at c1 e6 l1
  generalize tupI p = T at *
  simp [runF, env0, fin, sSeq, sSet, sIf, sRet, sRetN, sRetV, sDrop, sFrz, frz, frz1, sNop, sTry, sTryAs, mAnd, mOr, mNot, mB, mBin, mUn, mCall, mCons, mNil, bCons, bNil, mBV, mVar, mC, mTest, tNotM, tAndM, tOrM, tYesM, DL.R.bind, DL.R.quiet, Sl.d, asB, mIf, mComp, mIter, e6, wipeE, l1, c1, e1, sFor, mRng1, l4, q]
/-! ### a stretch of statements -/
def seg (F : Nat → Gr) (s m : Nat) : List (Gr × Gr) := (List.range' s m).map fun k => (F k, F (k + 1))
theorem seg_cons (F : Nat → Gr) (s m : Nat) : seg F s (m + 1) = (F s, F (s + 1)) :: seg F (s + 1) m := by unfold seg; rw [List.range'_succ, List.map_cons]
theorem seg_link (F : Nat → Gr) : ∀ (m s : Nat), linked (F s, F (s + 1)) (seg F (s + 1) m) = true ∧ lastS (F s, F (s + 1)) (seg F (s + 1) m) = (F (s + m), F (s + m + 1))
  | 0, s => ⟨rfl, rfl⟩
  | m + 1, s => by
    obtain ⟨h1, h2⟩ := seg_link F m (s + 1)
    rw [seg_cons]
    refine ⟨?_, ?_⟩
    · show (decide (F (s + 1) = F (s + 1)) && linked _ _) = true
      rw [h1]
      simp
    · show lastS (F (s + 1), F (s + 1 + 1)) _ = _
      rw [h2, show s + 1 + m = s + (m + 1) by omega]
theorem seg_len (F : Nat → Gr) (s m : Nat) : (seg F s m).length = m := by unfold seg; simp
theorem join_seg (F : Nat → Gr) (s : Nat) {m : Nat} (h : 1 ≤ m ∧ m ≤ 5) : f_joined_alike ((seg F s m).map stD) = .ok (.fr (stD (F s, F (s + m)))) := by
  obtain ⟨k, rfl⟩ : ∃ k, m = k + 1 := ⟨m - 1, by omega⟩
  obtain ⟨h1, h2⟩ := seg_link F k s
  rw [seg_cons, join_is (by rw [seg_len]; omega), if_pos h1, h2]
  rfl
theorem ljoin_seg (F : Nat → Gr) (s : Nat) {m : Nat} (h : 1 ≤ m ∧ m ≤ 5) : f_L_join [.lst ((seg F s m).map stD)] = .ok (.fr (stD (F s, F (s + m)))) := by
  rw [join_fn (by intro q; have := congrArg List.length q; simp [seg_len] at this; omega) (by simp [seg_len]; omega)]
  exact join_seg F s h
theorem wit_good {n : Nat} (hn : n ≤ 6) {l : List (List Int)} (hl : l ≠ []) (hk : l.length ≤ 5) (h : ∀ b ∈ l, b.Perm (rng n)) : f_joined_witness (l.map tupI) = .ok (.fr (tupI (prod l))) := by
  have e := wit_is hl hk fun b m => by rw [(h b m).length_eq, rng_len]; omega
  rw [(witO_good hn hl h).1] at e
  exact e
theorem lchain_good {n : Nat} (hn : n ≤ 6) {l : List (List Int)} (hl : l ≠ []) (hk : l.length ≤ 5) (h : ∀ b ∈ l, b.Perm (rng n)) : f_L_chain [.lst (l.map tupI)] = .ok (.fr (tupI (prod l))) := by
  rw [chain_fn (by simpa using hl) (by simpa using hk)]
  exact wit_good hn hl hk h
end K15
set_option Elab.async false
set_option linter.all false
set_option maxRecDepth 100000
set_option maxHeartbeats 8000000
namespace K15
open PySem PySem.Spec L2 DL DM
open PyProof.Rows hiding St
/-! ### the graphs of a script -/
def gk (g0 : List (Int × Int)) (ps : List (List Int)) (k : Nat) : List (Int × Int) := (ps.take k).foldl (fun g p => pmoved p g) g0
def FF (n : Nat) (g0 : List (Int × Int)) (ps : List (List Int)) (k : Nat) : Gr := (n, gk g0 ps k)
/-- a graph that is in order -/
def GOK (n : Nat) (g : List (Int × Int)) : Prop := GE n g ∧ isort leP g = g ∧ g.length ≤ 15
theorem pmoved_ok {n : Nat} {p : List Int} (hp : p.Perm (rng n)) {g : List (Int × Int)} (h : GOK n g) : GOK n (pmoved p g) := ⟨pmoved_ge hp h.1, isortP_fix ((g.map (mov p)).map ped) rfl, by rw [pmoved_len]; exact h.2.2⟩
theorem walk_ok {n : Nat} : ∀ {l : List (List Int)} {g : List (Int × Int)}, (∀ p ∈ l, p.Perm (rng n)) → GOK n g → GOK n (l.foldl (fun g p => pmoved p g) g)
  | [], g, _, h => h
  | p :: l, g, hl, h => walk_ok (l := l) (fun q m => hl q (List.mem_cons_of_mem _ m)) (pmoved_ok (hl p List.mem_cons_self) h)
theorem gk_ok {n : Nat} {g0 : List (Int × Int)} {ps : List (List Int)} (hp : ∀ p ∈ ps, p.Perm (rng n)) (h : GOK n g0) (k : Nat) : GOK n (gk g0 ps k) := walk_ok (fun p m => hp p (List.mem_of_mem_take m)) h
theorem gk_succ {g0 : List (Int × Int)} {ps : List (List Int)} {k : Nat} (hk : k < ps.length) : gk g0 ps (k + 1) = pmoved ps[k] (gk g0 ps k) := by
  unfold gk
  rw [List.take_succ_eq_append_getElem hk, List.foldl_append]
  rfl
theorem walk_prod {n : Nat} (hn : n ≤ 6) : ∀ {l : List (List Int)} {g : List (Int × Int)}, l ≠ [] → (∀ p ∈ l, p.Perm (rng n)) → GOK n g → l.foldl (fun g p => pmoved p g) g = pmoved (prod l) g
  | [], _, h, _, _ => absurd rfl h
  | [a], g, _, _, _ => rfl
  | a :: b :: l, g, _, hl, h => by
    have ha := hl a List.mem_cons_self
    have hr : ∀ q ∈ b :: l, q.Perm (rng n) := fun q m => hl q (List.mem_cons_of_mem _ m)
    have ih := walk_prod hn (l := b :: l) (g := pmoved a g) (by simp) hr (pmoved_ok ha h)
    have la : a.length = n := by rw [ha.length_eq, rng_len]
    rw [List.foldl_cons, ih, pmoved_twice la h.1, prod_cons hn ha (hr b List.mem_cons_self) fun q m => hr q (List.mem_cons_of_mem _ m)]
theorem gk_stretch {n : Nat} (hn : n ≤ 6) {g0 : List (Int × Int)} {ps : List (List Int)} (hp : ∀ p ∈ ps, p.Perm (rng n)) (h : GOK n g0) {a m : Nat} (hm : 1 ≤ m) (hc : a + m ≤ ps.length) : pmoved (prod ((ps.drop a).take m)) (gk g0 ps a) = gk g0 ps (a + m) := by
  have ne : (ps.drop a).take m ≠ [] := by
    intro q
    have := congrArg List.length q
    simp at this
    omega
  rw [← walk_prod hn ne (fun p q => hp p (List.mem_of_mem_drop (List.mem_of_mem_take q))) (gk_ok hp h a)]
  unfold gk
  rw [← List.foldl_append, ← List.take_add]
abbrev graphsD (n : Nat) (g0 : List (Int × Int)) (ps : List (List Int)) (c : Nat) : List D := (List.range c).map fun k => gD (FF n g0 ps k)
theorem graphs_ix {n : Nat} {g0 : List (Int × Int)} {ps : List (List Int)} {c k : Nat} (h : k < c) : fIx (.lst (graphsD n g0 ps c)) (.int k) = .ok (.fr (gD (FF n g0 ps k))) :=
  fIx_map (fun k => gD (FF n g0 ps k)) (by rw [List.getElem?_range h])
theorem seg_ix {F : Nat → Gr} {c k : Nat} (h : k < c) : fIx (.lst ((seg F 0 c).map stD)) (.int k) = .ok (.fr (stD (F k, F (k + 1)))) :=
  fIx_map stD (by unfold seg; rw [List.getElem?_map, List.getElem?_range' h]; simp)
theorem seg_cut (F : Nat → Gr) {a m c : Nat} (h : a + m ≤ c) : ((seg F 0 c).drop a).take m = seg F a m := by
  unfold seg
  rw [← List.map_drop, ← List.map_take]
  congr 1
  apply List.ext_getElem
  · simp; omega
  · intro i h1 h2
    simp
theorem rows_ix {ps : List (List Int)} {k : Nat} (h : k < ps.length) : fIx (.lst (ps.map tupI)) (.int k) = .ok (.fr (tupI ps[k])) := fIx_map tupI (List.getElem?_eq_getElem h)
abbrev sM1 : M := (mCall f_swap_statement (mCons (mBin fIx (mBV 0) (mB (mBin fSub (mB (mBin fSub (mBV 4) (mB (mC (.int 1))))) (mBV 10)))) mNil))
abbrev sM2 : M := (mCall f_swap_witness (mCons (mBin fIx (mBV 0) (mB (mBin fSub (mB (mBin fSub (mBV 4) (mB (mC (.int 1))))) (mBV 10)))) (mCons (mBin fIx (mBV 2) (mB (mBin fSub (mB (mBin fSub (mBV 4) (mB (mC (.int 1))))) (mBV 10)))) mNil)))
theorem stretch_ok {n : Nat} (hn : n ≤ 6) {g0 : List (Int × Int)} {ps : List (List Int)} (hp : ∀ p ∈ ps, p.Perm (rng n)) (h : GOK n g0) {a b c : Nat} (hc : ps.length = c) (hc5 : c ≤ 5) (hab : a < b) (hb : b ≤ c) :
    f_L_stretch [.lst ((seg (FF n g0 ps) 0 c).map stD), .lst (graphsD n g0 ps (c + 1)), .lst (ps.map tupI), .int a, .int b] = .ok (.fr (.bl true)) := by
  obtain ⟨m, hm⟩ : ∃ m, a + m = b := ⟨b - a, by omega⟩
  have bm : b - a = m := by omega
  have m1 : 1 ≤ m ∧ m ≤ 5 := by omega
  obtain ⟨l, hl⟩ : ∃ l, (ps.drop a).take m = l := ⟨_, rfl⟩
  have ll : l.length = m := by rw [← hl]; simp; omega
  have lne : l ≠ [] := by intro q; rw [q] at ll; simp at ll; omega
  have lp : ∀ p ∈ l, p.Perm (rng n) := by intro p q; rw [← hl] at q; exact hp p (List.mem_of_mem_drop (List.mem_of_mem_take q))
  have Pp := prod_perm hn lne lp
  have Pl : (prod l).length = n := by rw [Pp.length_eq, rng_len]
  have ga := gk_ok hp h a
  have gb := gk_ok hp h b
  have gs := gk_stretch hn hp h m1.1 (a := a) (by omega)
  rw [hl, hm] at gs
  -- values
  have ia := graphs_ix (n := n) (g0 := g0) (ps := ps) (c := c + 1) (k := a) (by omega)
  have ib := graphs_ix (n := n) (g0 := g0) (ps := ps) (c := c + 1) (k := b) (by omega)
  have t1 : fTup [sA, gD (FF n g0 ps a), gD (FF n g0 ps b)] = .ok (.fr (stD (FF n g0 ps a, FF n g0 ps b))) := rfl
  have t2 : fTup [sA, gD (FF n g0 ps b), gD (FF n g0 ps a)] = .ok (.fr (stD (FF n g0 ps b, FF n g0 ps a))) := rfl
  have s1 : fSl (.lst (ps.map tupI)) (some (a : Int)) (some (b : Int)) = .ok (.ow (l.map tupI)) := by
    have := fSl_lmid tupI (xs := ps) (a := a) (b := b) (by omega) (by omega)
    rw [bm, hl] at this
    exact this
  have s2 : fSl (.lst ((seg (FF n g0 ps) 0 c).map stD)) (some (a : Int)) (some (b : Int)) = .ok (.ow ((seg (FF n g0 ps) a m).map stD)) := by
    have := fSl_lmid stD (xs := seg (FF n g0 ps) 0 c) (a := a) (b := b) (by rw [seg_len]; omega) (by omega)
    rw [bm, seg_cut _ (by omega)] at this
    exact this
  have v6 := product_is hn lne lp
  have v7 := ljoin_seg (FF n g0 ps) a m1
  rw [hm] at v7
  have v8 := lchain_good hn lne (by omega) lp
  have q1 := lsame_is (good_st (p := (FF n g0 ps a, FF n g0 ps b)) (by show (gk g0 ps a).length ≤ 1000; have := ga.2.2; omega) (by show (gk g0 ps b).length ≤ 1000; have := gb.2.2; omega))
  have q2 := lsame_is (good_ints (k := 6) (xs := prod l) (by omega))
  have x1 := gr1 (FF n g0 ps a)
  have x2 := gr1 (FF n g0 ps b)
  have mv := moved_is (.inl rfl) Pl ga.1 (by have := ga.2.2; omega)
  rw [gs] at mv
  have nn := fNe_tprs (gk g0 ps b) (gk g0 ps b)
  rw [decide_eq_false (by simp)] at nn
  have hh := holds_is hn Pp ga.1 (by have := ga.2.2; omega)
  rw [gs] at hh
  have hh : lent f_holds [stD (FF n g0 ps a, FF n g0 ps b), tupI (prod l)] = .ok (.fr (.bl true)) := by
    show lent f_holds [stD ((n, gk g0 ps a), (n, gk g0 ps b)), tupI (prod l)] = _
    unfold lent
    rw [hh]
    rfl
  have qt : f_L_same [.bl true, .bl true] = .ok (.fr (.bl true)) := same_is rfl
  have rr : rangeD 0 m = (List.range m).map fun k : Nat => D.int k := rangeD_nat m
  have sbm : fSub (.int b) (.int a) = .ok (.fr (.int m)) := by
    show R.ok (Sl.fr (.int ((b : Int) - (a : Int)))) = _
    rw [show (b : Int) - (a : Int) = (m : Int) by omega]
  have ixk : ∀ k : Nat, k < m → ∃ j : Nat, j < c ∧ j + 1 = b - k ∧ ((b : Int) - 1) - (k : Int) = (j : Int) := fun k hk => ⟨b - k - 1, by omega, by omega, by omega⟩
  have ixT : ∀ j, j < c → fIx (.lst ((seg (FF n g0 ps) 0 c).map stD)) (.int j) = .ok (.fr (stD (FF n g0 ps j, FF n g0 ps (j + 1)))) := fun j hj => seg_ix hj
  have ixR : ∀ j, (hj : j < ps.length) → fIx (.lst (ps.map tupI)) (.int j) = .ok (.fr (tupI ps[j])) := fun j hj => rows_ix hj
  have sw : ∀ j, (hj : j < ps.length) → f_swap_witness [stD (FF n g0 ps j, FF n g0 ps (j + 1)), tupI ps[j]] = .ok (.fr (tupI (pinv ps[j]))) := by
    intro j hj
    have gj := gk_ok hp h j
    have := swapw_is hn (hp _ (List.getElem_mem hj)) gj.1 (by have := gj.2.2; omega)
    rw [← gk_succ hj] at this
    exact this
  have jb := ljoin_seg (fun k => FF n g0 ps (b - k)) 0 m1
  rw [Nat.sub_zero, show b - (0 + m) = a by omega] at jb
  have lu : (l.reverse.map pinv) ≠ [] := by simpa using lne
  have cb := lchain_good hn lu (by simp; omega) (fun p q => by
    obtain ⟨r, hr, rfl⟩ := List.mem_map.mp q
    exact pinv_perm (lp r (List.mem_reverse.mp hr)))
  rw [prod_undone hn lne lp] at cb
  have ud := undone_is hn Pp
  have tu : fTuple [.lst ((pinv (prod l)).map .int)] = .ok (.fr (tupI (pinv (prod l)))) := rfl
  have q3 := same_is (good_st (p := (FF n g0 ps b, FF n g0 ps a)) (by show (gk g0 ps b).length ≤ 1000; have := gb.2.2; omega) (by show (gk g0 ps a).length ≤ 1000; have := ga.2.2; omega))
  have q4 := same_is (good_ints (k := 6) (xs := pinv (prod l)) (by rw [pinv_len]; omega))
  generalize hTD : (seg (FF n g0 ps) 0 c).map stD = TD at *
  generalize hPD : ps.map tupI = PD at *
  have c1 : ∀ o1 o2 o3 o5 o6 o7 o8 o9 o11 : Option Sl, compL (Pt.nm 10).go tYesM sM1 [some (.fr (.lst TD)), o1, o2, o3, some (.fr (.int b)), o5, o6, o7, o8, o9, none, o11] ((List.range m).map fun k : Nat => D.int k) = .ok ((seg (fun k => FF n g0 ps (b - k)) 0 m).map stD) := by
    intro o1 o2 o3 o5 o6 o7 o8 o9 o11
    unfold seg
    rw [List.map_map, ← List.range_eq_range']
    refine compL_map fun k q => ⟨_, .fr (stD (FF n g0 ps (b - k), FF n g0 ps (b - (k + 1)))), rfl, rfl, ?_, rfl⟩
    obtain ⟨j, j1, j2, j3⟩ := ixk k (List.mem_range.mp q)
    have e1 := ixT j j1
    have e2 := swap_is (FF n g0 ps j, FF n g0 ps (j + 1))
    have e3 : (FF n g0 ps (j + 1), FF n g0 ps j) = (FF n g0 ps (b - k), FF n g0 ps (b - (k + 1))) := by rw [j2, show j = b - (k + 1) by omega]
    have e2 : f_swap_statement [stD (FF n g0 ps j, FF n g0 ps (j + 1))] = .ok (.fr (stD (FF n g0 ps (j + 1), FF n g0 ps j))) := e2
    rw [e3] at e2
    generalize stD (FF n g0 ps (b - k), FF n g0 ps (b - (k + 1))) = S2 at *
    generalize stD (FF n g0 ps j, FF n g0 ps (j + 1)) = S1 at *
    unfold sM1
    simp [runF, env0, fin, sSeq, sSet, sIf, sRet, sRetN, sRetV, sDrop, sFrz, frz, frz1, sNop, sTry, sTryAs, mAnd, mOr, mNot, mB, mBin, mUn, mCall, mCons, mNil, bCons, bNil, mBV, mVar, mC, mTest, tNotM, tAndM, tOrM, tYesM, DL.R.bind, DL.R.quiet, Sl.d, asB, mIf, fSub, j3, e1, e2]
  have c2 : ∀ o1 o3 o5 o6 o7 o8 o9 o11 : Option Sl, compL (Pt.nm 10).go tYesM sM2 [some (.fr (.lst TD)), o1, some (.fr (.lst PD)), o3, some (.fr (.int b)), o5, o6, o7, o8, o9, none, o11] ((List.range m).map fun k : Nat => D.int k) = .ok ((l.reverse.map pinv).map tupI) := by
    intro o1 o3 o5 o6 o7 o8 o9 o11
    have el : l.reverse.map pinv = (List.range m).map fun k => pinv (ps.getD (b - k - 1) []) := by
      apply List.ext_getElem
      · simp [ll]
      · intro i h1 h2
        have hi : i < m := by simpa using h2
        rw [List.getElem_map, List.getElem_map, List.getElem_range, List.getElem_reverse]
        refine congrArg pinv ?_
        have e : ps.getD (b - i - 1) [] = ps[b - i - 1]'(by omega) := by simp [List.getD, show b - i - 1 < ps.length by omega]
        rw [e]
        subst hl
        rw [List.getElem_take, List.getElem_drop]
        have ee : a + (((ps.drop a).take m).length - 1 - i) = b - i - 1 := by rw [ll]; omega
        simp only [ee]
    rw [el, List.map_map]
    refine compL_map fun k q => ⟨_, .fr (tupI (pinv (ps.getD (b - k - 1) []))), rfl, rfl, ?_, rfl⟩
    obtain ⟨j, j1, j2, j3⟩ := ixk k (List.mem_range.mp q)
    have jl : j < ps.length := by omega
    have e1 := ixT j j1
    have e4 := ixR j jl
    have e5 := sw j jl
    have e : ps.getD (b - k - 1) [] = ps[j] := by
      rw [show b - k - 1 = j by omega]
      simp [List.getD, jl]
    rw [e]
    generalize stD (FF n g0 ps j, FF n g0 ps (j + 1)) = S1 at *
    generalize tupI (pinv ps[j]) = T2 at *
    generalize tupI ps[j] = T1 at *
    unfold sM2
    simp [runF, env0, fin, sSeq, sSet, sIf, sRet, sRetN, sRetV, sDrop, sFrz, frz, frz1, sNop, sTry, sTryAs, mAnd, mOr, mNot, mB, mBin, mUn, mCall, mCons, mNil, bCons, bNil, mBV, mVar, mC, mTest, tNotM, tAndM, tOrM, tYesM, DL.R.bind, DL.R.quiet, Sl.d, asB, mIf, fSub, j3, e1, e4, e5]
  have lr : ((List.range m).map fun k : Nat => D.int k).length ≤ lim := by simp; unfold lim; omega
  have l4 : (m : Int) ≤ big ∧ -big ≤ (m : Int) := by unfold big; omega
  have c1 := c1 (some (.fr (.lst (graphsD n g0 ps (c + 1))))) (some (.fr (.lst PD))) (some (.fr (.int a)))
  have c2 := c2 (some (.fr (.lst (graphsD n g0 ps (c + 1))))) (some (.fr (.int a)))
  clear ixT ixR sw ixk hTD hPD hl
  unfold f_L_stretch m_L_stretch
  obtain ⟨M1, hM1⟩ : ∃ m, sM1 = m := ⟨_, rfl⟩
  have hM1' := hM1
  unfold sM1 at hM1'
  obtain ⟨M2, hM2⟩ : ∃ m, sM2 = m := ⟨_, rfl⟩
  have hM2' := hM2
  unfold sM2 at hM2'
  rw [hM1', hM2']
  rw [hM1] at c1
  rw [hM2] at c2
  have x1 : fIx (gD (FF n g0 ps a)) (.int 1) = .ok (.fr (.tup ((gk g0 ps a).map pr))) := x1
  have x2 : fIx (gD (FF n g0 ps b)) (.int 1) = .ok (.fr (.tup ((gk g0 ps b).map pr))) := x2
  generalize D.tup ((gk g0 ps a).map pr) = A1 at *
  generalize D.tup ((gk g0 ps b).map pr) = A2 at *
  generalize stD (FF n g0 ps a, FF n g0 ps b) = SAB at *
  generalize stD (FF n g0 ps b, FF n g0 ps a) = SBA at *
  generalize gD (FF n g0 ps a) = GA at *
  generalize gD (FF n g0 ps b) = GB at *
  generalize (seg (fun k => FF n g0 ps (b - k)) 0 m).map stD = BACK at *
  generalize (seg (FF n g0 ps) a m).map stD = FORW at *
  generalize (l.reverse.map pinv).map tupI = LU at *
  generalize (pinv (prod l)).map D.int = PI at *
  generalize tupI (pinv (prod l)) = TPI at *
  generalize tupI (prod l) = TP at *
  generalize l.map tupI = LT at *
  generalize (List.range m).map (fun k : Nat => D.int k) = RM at *
  generalize graphsD n g0 ps (c + 1) = GS at *
  simp [runF, env0, fin, sSeq, sSet, sIf, sRet, sRetN, sRetV, sDrop, sFrz, frz, frz1, sNop, sTry, sTryAs, mAnd, mOr, mNot, mB, mBin, mUn, mCall, mCons, mNil, bCons, bNil, mBV, mVar, mC, mTest, tNotM, tAndM, tOrM, tYesM, DL.R.bind, DL.R.quiet, Sl.d, asB, mIf, ia, ib, t1, t2, mSl, oSome, oNone, asI, s1, s2, v6, v7, v8, q1, q2, x1, x2, mv, nn, hh, qt, sbm, mComp, mRng1, l4, rr, wipeE, lr, c1, c2, jb, q3, cb, ud, tu, q4]
end K15
set_option Elab.async false
set_option linter.all false
set_option maxRecDepth 100000
set_option maxHeartbeats 8000000
namespace K15
open PySem PySem.Spec L2 DL DM
open PyProof.Rows hiding St
theorem nojoin_of {d : D} (h : f_L_join [d] = .ex 4 none) : f_L_no_join [d] = .ok (.fr (.bl true)) := by
  unfold f_L_no_join m_L_no_join
  simp [runF, env0, fin, sSeq, sSet, sIf, sRet, sRetN, sRetV, sDrop, sFrz, frz, frz1, sNop, sTry, sTryAs, mAnd, mOr, mNot, mB, mBin, mUn, mCall, mCons, mNil, bCons, bNil, mBV, mVar, mC, mTest, tNotM, tAndM, tOrM, tYesM, DL.R.bind, DL.R.quiet, Sl.d, asB, mIf, h, cat_BadStatement, sup, isv_BadWitness, isv_BadGraph, isv_BadPermutation, isv_UnseenError, isv_ValueError, RS.clr]
theorem nochain_of {d : D} (h : f_L_chain [d] = .ex 1 none) : f_L_no_chain [d] = .ok (.fr (.bl true)) := by
  unfold f_L_no_chain m_L_no_chain
  simp [runF, env0, fin, sSeq, sSet, sIf, sRet, sRetN, sRetV, sDrop, sFrz, frz, frz1, sNop, sTry, sTryAs, mAnd, mOr, mNot, mB, mBin, mUn, mCall, mCons, mNil, bCons, bNil, mBV, mVar, mC, mTest, tNotM, tAndM, tOrM, tYesM, DL.R.bind, DL.R.quiet, Sl.d, asB, mIf, h, cat_BadPermutation, sup, isv_BadWitness, isv_BadGraph, isv_BadDraw, isv_BadStatement, isv_UnseenError, isv_ValueError, RS.clr]
theorem fNe_pr (p q : Int × Int) : fNe (pr p) (pr q) = .ok (.fr (.bl (decide (p ≠ q)))) := by
  unfold fNe
  rw [okE_pr, okE_pr, eqD_pr]
  simp
theorem fNotIn_prs (p : Int × Int) (xs : List (Int × Int)) : fNotIn (pr p) (.tup (xs.map pr)) = .ok (.fr (.bl (decide (p ∉ xs)))) := by
  show (if (okE (pr p) && okE (.lst (xs.map pr))) = true then R.ok (Sl.fr (.bl (if true = true then !inD (pr p) (xs.map pr) else inD (pr p) (xs.map pr)))) else .st) = _
  rw [okE_pr, okE_prs, inD_prs]
  simp
/-! ### another graph -/
abbrev otT : En → R Bool := (mTest (mB (mBin fNe (mBV 5) (mBV 3))))
theorem other_is {n : Nat} (h : 1 ≤ n ∧ n ≤ 6) {g : List (Int × Int)} (hg : GOK n g) {zs : List Int} (hz : 2 ≤ zs.length) :
    ∃ (O : Gr), f_L_other_graph [gD (n, g), .lst (zs.map .int)] = .ok (.fr (gD O)) ∧ O ≠ (n, g) ∧ (1 ≤ O.1 ∧ O.1 ≤ 6) ∧ GE O.1 O.2 ∧ isort leP O.2 = O.2 ∧ O.2.length < 1000 := by
  have z0 := gr0 (n, g)
  have z1 := gr1 (n, g)
  have z0 : fIx (gD (n, g)) (.int 0) = .ok (.fr (.int n)) := z0
  have z1 : fIx (gD (n, g)) (.int 1) = .ok (.fr (.tup (g.map pr))) := z1
  have pp := np_is h.2
  have lp : fLen [.lst ((pairsL n).map pr)] = .ok (.fr (.int (pairsL n).length)) := fLen_map pr _
  have i0 : fIx (.lst (zs.map .int)) (.int 0) = .ok (.fr (.int (zs.getD 0 0))) := fIx_lstI (xs := zs) (getD_some (k := 0) (by omega))
  have i1 : fIx (.lst (zs.map .int)) (.int 1) = .ok (.fr (.int (zs.getD 1 0))) := fIx_lstI (xs := zs) (getD_some (k := 1) (by omega))
  generalize zs.getD 0 0 = y0 at i0
  generalize zs.getD 1 0 = y1 at i1
  have m5 : fMod (.int y0) (.int 5) = .ok (.fr (.int (y0 % 5))) := rfl
  have m6 : fMod (.int n) (.int 6) = .ok (.fr (.int ((n : Int) % 6))) := rfl
  have e1 := fEq_int (pairsL n).length 0
  have e2 := fEq_int (y0 % 5) 0
  have t0 : fTup [] = .ok (.fr (.tup [])) := rfl
  by_cases c : (pairsL n).length = 0 ∨ y0 % 5 = 0
  · refine ⟨(1 + n % 6, []), ?_, ?_, ⟨by show 1 ≤ 1 + n % 6; omega, by show 1 + n % 6 ≤ 6; omega⟩, ⟨by simp, by simp⟩, rfl, by simp⟩
    · have t1 : fTup [.int (1 + (n : Int) % 6), .tup []] = .ok (.fr (gD (1 + n % 6, []))) := by
        show R.ok (Sl.fr (.tup [.int (1 + (n : Int) % 6), .tup []])) = R.ok (Sl.fr (.tup [.int ((1 + n % 6 : Nat) : Int), .tup []]))
        rw [show ((1 + n % 6 : Nat) : Int) = 1 + (n : Int) % 6 by omega]
      generalize gD (1 + n % 6, []) = G2 at *
      generalize gD (n, g) = G1 at *
      generalize zs.map D.int = ZZ at *
      generalize (pairsL n).map pr = PL at *
      unfold f_L_other_graph m_L_other_graph
      by_cases c1 : (pairsL n).length = 0
      · rw [decide_eq_true (by omega)] at e1
        simp [runF, env0, fin, sSeq, sSet, sIf, sRet, sRetN, sRetV, sDrop, sFrz, frz, frz1, sNop, sTry, sTryAs, mAnd, mOr, mNot, mB, mBin, mUn, mCall, mCons, mNil, bCons, bNil, mBV, mVar, mC, mTest, tNotM, tAndM, tOrM, tYesM, DL.R.bind, DL.R.quiet, Sl.d, asB, mIf, z0, pp, lp, e1, i0, fInt, m5, m6, fAddL_int, t0, t1]
      · rw [decide_eq_false (by omega)] at e1
        have c2 := c.resolve_left c1
        rw [decide_eq_true c2] at e2
        simp [runF, env0, fin, sSeq, sSet, sIf, sRet, sRetN, sRetV, sDrop, sFrz, frz, frz1, sNop, sTry, sTryAs, mAnd, mOr, mNot, mB, mBin, mUn, mCall, mCons, mNil, bCons, bNil, mBV, mVar, mC, mTest, tNotM, tAndM, tOrM, tYesM, DL.R.bind, DL.R.quiet, Sl.d, asB, mIf, z0, pp, lp, e1, i0, fInt, m5, e2, m6, fAddL_int, t0, t1]
    · intro q
      have := congrArg Prod.fst q
      have : 1 + n % 6 = n := this
      omega
  · have c1 : ¬ (pairsL n).length = 0 := fun q => c (.inl q)
    have c2 : ¬ y0 % 5 = 0 := fun q => c (.inr q)
    rw [decide_eq_false (by omega)] at e1
    rw [decide_eq_false c2] at e2
    obtain ⟨k, hk, mk⟩ := mod_nat y1 (n := (pairsL n).length) (by omega)
    obtain ⟨odd, ho⟩ : ∃ o, (pairsL n)[k] = o := ⟨_, rfl⟩
    have om : odd ∈ pairsL n := by rw [← ho]; exact List.getElem_mem _
    have ob := (pl_ge h.2).1 odd om
    have ik : fIx (.lst ((pairsL n).map pr)) (.int k) = .ok (.fr (pr odd)) := fIx_map pr (by rw [List.getElem?_eq_getElem hk, ho])
    have cf : ∀ o2 : Option Sl, compL (Pt.nm 5).go otT (mVar 5) [some (.fr (gD (n, g))), some (.fr (.lst (zs.map .int))), o2, some (.fr (pr odd)), none, none] (g.map pr) = .ok ((g.filter fun e => decide (e ≠ odd)).map pr) := by
      intro o2
      refine compL_filter fun e m => ⟨_, rfl, ?_, fun _ => ⟨_, rfl, rfl⟩⟩
      have e3 := fNe_pr e odd
      generalize pr e = E at *
      generalize pr odd = O at *
      simp [runF, env0, fin, sSeq, sSet, sIf, sRet, sRetN, sRetV, sDrop, sFrz, frz, frz1, sNop, sTry, sTryAs, mAnd, mOr, mNot, mB, mBin, mUn, mCall, mCons, mNil, bCons, bNil, mBV, mVar, mC, mTest, tNotM, tAndM, tOrM, tYesM, DL.R.bind, DL.R.quiet, Sl.d, asB, mIf, e3]
    have ni := fNotIn_prs odd g
    have l1 : (g.map pr).length ≤ lim := by rw [List.length_map]; have := hg.2.2; unfold lim; omega
    obtain ⟨g2, hg2⟩ : ∃ g2, (if odd ∈ g then g.filter (fun e => decide (e ≠ odd)) else (g.filter fun e => decide (e ≠ odd)) ++ [odd]) = g2 := ⟨_, rfl⟩
    have fl : (g.filter fun e => decide (e ≠ odd)).length ≤ 15 := Nat.le_trans (List.length_filter_le _ _) hg.2.2
    have g2l : g2.length ≤ 16 := by
      rw [← hg2]
      split
      · omega
      · rw [List.length_append, List.length_singleton]; omega
    have g2e : GE n g2 := by
      have fe : GE n (g.filter fun e => decide (e ≠ odd)) := ⟨fun e m => hg.1.1 e (List.mem_filter.mp m).1, hg.1.2.filter _⟩
      rw [← hg2]
      split
      · exact fe
      · refine ⟨fun e m => ?_, ?_⟩
        · rcases List.mem_append.mp m with m | m
          · exact fe.1 e m
          · rw [List.mem_singleton.mp m]; exact ob
        · rw [List.nodup_append]
          refine ⟨fe.2, by simp, fun x hx y hy => ?_⟩
          rw [List.mem_singleton.mp hy]
          exact of_decide_eq_true (List.mem_filter.mp hx).2
    have so := fSorted_prs g2 (by unfold lim; omega)
    have tu : fTuple [.lst ((isort leP g2).map pr)] = .ok (.fr (.tup ((isort leP g2).map pr))) := rfl
    have tt : fTup [.int n, .tup ((isort leP g2).map pr)] = .ok (.fr (gD (n, isort leP g2))) := rfl
    refine ⟨(n, isort leP g2), ?_, ?_, h, g2e.perm (isort_permI _ _), isortP_fix g2 rfl, by show (isort leP g2).length < 1000; rw [(isort_permI _ _).length_eq]; omega⟩
    · have lf : ((g.filter fun e => decide (e ≠ odd)).map pr).length < lim := by rw [List.length_map]; unfold lim; omega
      have ap : ((g.filter fun e => decide (e ≠ odd)) ++ [odd]).map pr = (g.filter fun e => decide (e ≠ odd)).map pr ++ [pr odd] := by simp
      unfold f_L_other_graph m_L_other_graph
      obtain ⟨OT, hO⟩ : ∃ m, otT = m := ⟨_, rfl⟩
      have hO' := hO
      unfold otT at hO'
      rw [hO']
      rw [hO] at cf
      by_cases c3 : odd ∈ g
      · rw [if_pos c3] at hg2
        rw [decide_eq_false (fun q => q c3)] at ni
        rw [hg2] at cf
        clear ap lf
        generalize D.tup ((isort leP g2).map pr) = TS at *
        generalize (isort leP g2).map pr = IS at *
        generalize gD (n, isort leP g2) = G2 at *
        generalize g2.map pr = G2M at *
        generalize pr odd = O at *
        generalize g.map pr = GM at *
        generalize gD (n, g) = G1 at *
        generalize zs.map D.int = ZZ at *
        generalize (pairsL n).map pr = PL at *
        simp [runF, env0, fin, sSeq, sSet, sIf, sRet, sRetN, sRetV, sDrop, sFrz, frz, frz1, sNop, sTry, sTryAs, mAnd, mOr, mNot, mB, mBin, mUn, mCall, mCons, mNil, bCons, bNil, mBV, mVar, mC, mTest, tNotM, tAndM, tOrM, tYesM, DL.R.bind, DL.R.quiet, Sl.d, asB, mIf, z0, pp, lp, e1, i0, fInt, m5, e2, i1, mk, ik, z1, mComp, mIter, asSeq, wipeE, l1, cf, ni, so, tu, tt]
      · rw [if_neg c3] at hg2
        rw [decide_eq_true c3] at ni
        rw [hg2] at ap
        generalize (g.filter fun e => decide (e ≠ odd)).map pr = FM at *
        generalize D.tup ((isort leP g2).map pr) = TS at *
        generalize (isort leP g2).map pr = IS at *
        generalize gD (n, isort leP g2) = G2 at *
        generalize g2.map pr = G2M at *
        generalize pr odd = O at *
        generalize g.map pr = GM at *
        generalize gD (n, g) = G1 at *
        generalize zs.map D.int = ZZ at *
        generalize (pairsL n).map pr = PL at *
        simp [runF, env0, fin, sSeq, sSet, sIf, sRet, sRetN, sRetV, sDrop, sFrz, frz, frz1, sNop, sTry, sTryAs, mAnd, mOr, mNot, mB, mBin, mUn, mCall, mCons, mNil, bCons, bNil, mBV, mVar, mC, mTest, tNotM, tAndM, tOrM, tYesM, DL.R.bind, DL.R.quiet, Sl.d, asB, mIf, z0, pp, lp, e1, i0, fInt, m5, e2, i1, mk, ik, z1, mComp, mIter, asSeq, wipeE, l1, cf, ni, sApp, lf, ← ap, so, tu, tt]
    · intro q
      have q : isort leP g2 = g := congrArg Prod.snd q
      have me : odd ∈ g2 ↔ odd ∈ g := by rw [← q]; exact ((isort_permI leP g2).mem_iff).symm
      rw [← hg2] at me
      by_cases c3 : odd ∈ g
      · rw [if_pos c3] at me
        have := (List.mem_filter.mp (me.mpr c3)).2
        simp at this
      · rw [if_neg c3] at me
        exact c3 (me.mp (by simp))
end K15
set_option Elab.async false
set_option linter.all false
set_option maxRecDepth 100000
set_option maxHeartbeats 8000000
namespace K15
open PySem PySem.Spec L2 DL DM
open PyProof.Rows hiding St
/-! ### statements that are no alike statement, and that do not fit -/
def kindIs (s : String) : R Sl → Bool
  | .ok (.fr (.tup (.str z :: _))) => decide (z = Str.ofString s)
  | _ => false
theorem kindIs_of {s : String} {r : R Sl} (h : kindIs s r = true) : ∃ d, r = .ok (.fr d) ∧ fIx d (.int 0) = .ok (.fr (.str (Str.ofString s))) := by
  unfold kindIs at h
  split at h
  · rename_i z ds
    rw [of_decide_eq_true h]
    exact ⟨_, rfl, ix_at (xs := .str (Str.ofString s) :: ds) (k := 0) rfl⟩
  · cases h
theorem circ_k : kindIs "circuit" (f_circuit [.int 1, .lst [.tup [.str (Str.ofString "not"), .int 0]]]) = true := by decide +kernel
abbrev RG : Gr := (3, [(0, 1), (0, 2), (1, 2)])
theorem ring_k : kindIs "ring" (f_ring [gD RG]) = true := by decide +kernel
theorem w_col : fEq sA (.str (Str.ofString "colors")) = .ok (.fr (.bl false)) := isBl_eq (by decide +kernel)
theorem count1 (p : Gr × Gr) : f_atom_count [stD p] = .ok (.fr (.int 1)) := by
  have e0 := st0 p
  have w1 := w_in
  have tt : fTup [.str (Str.ofString "both"), .str (Str.ofString "either")] = .ok (.fr (.tup [.str (Str.ofString "both"), .str (Str.ofString "either")])) := rfl
  generalize stD p = S at *
  show runF 1 1 (m_atom_count (recF 1 1 m_atom_count 7)) [S] = _
  unfold m_atom_count
  simp [runF, env0, fin, sSeq, sSet, sIf, sRet, sRetN, sRetV, sDrop, sFrz, frz, frz1, sNop, sTry, sTryAs, mAnd, mOr, mNot, mB, mBin, mUn, mCall, mCons, mNil, bCons, bNil, mBV, mVar, mC, mTest, tNotM, tAndM, tOrM, tYesM, DL.R.bind, DL.R.quiet, Sl.d, asB, mIf, e0, tt, w1]
theorem both_k (p : Gr × Gr) : ∃ d, f_both [stD p, stD p] = .ok (.fr d) ∧ fIx d (.int 0) = .ok (.fr (.str (Str.ofString "both"))) := by
  have e0 := st0 p
  have w := w_col
  have c := count1 p
  refine ⟨.tup [.str (Str.ofString "both"), stD p, stD p], ?_, rfl⟩
  have t : fTup [.str (Str.ofString "both"), stD p, stD p] = .ok (.fr (.tup [.str (Str.ofString "both"), stD p, stD p])) := rfl
  generalize stD p = S at *
  have hr : f_require_parts [S, S] = .ok (.fr .non) := by
    unfold f_require_parts m_require_parts
    simp [runF, env0, fin, sSeq, sSet, sIf, sRet, sRetN, sRetV, sDrop, sFrz, frz, frz1, sNop, sTry, sTryAs, mAnd, mOr, mNot, mB, mBin, mUn, mCall, mCons, mNil, bCons, bNil, mBV, mVar, mC, mTest, tNotM, tAndM, tOrM, tYesM, DL.R.bind, DL.R.quiet, Sl.d, asB, mIf, e0, w, c, fAddL_int, fGt]
  unfold f_both m_both
  simp [runF, env0, fin, sSeq, sSet, sIf, sRet, sRetN, sRetV, sDrop, sFrz, frz, frz1, sNop, sTry, sTryAs, mAnd, mOr, mNot, mB, mBin, mUn, mCall, mCons, mNil, bCons, bNil, mBV, mVar, mC, mTest, tNotM, tAndM, tOrM, tYesM, DL.R.bind, DL.R.quiet, Sl.d, asB, mIf, hr, t]
theorem ring_g : f_make_graph [.int 3, .lst [pr (0, 1), pr (1, 2), pr (0, 2)]] = .ok (.fr (gD RG)) := by
  have m := make_is (n := 3) (by omega) (ps := [(0, 1), (1, 2), (0, 2)]) (by decide)
  have p : pgraph 3 [(0, 1), (1, 2), (0, 2)] = some [(0, 1), (0, 2), (1, 2)] := by decide +kernel
  rw [p] at m
  exact m
theorem ljoin_bad {ps qs : List (Gr × Gr)} {bad w : D} (h : ps.length + qs.length ≤ 4) (hb : fIx bad (.int 0) = .ok (.fr w)) (hw : fNe w sA = .ok (.fr (.bl true))) : f_L_join [.lst (ps.map stD ++ bad :: qs.map stD)] = .ex 4 none := by
  rw [join_fn (by simp) (by simp; omega)]
  exact join_bad (by simp; omega) hb hw
theorem unlinked : ∀ (ps : List (Gr × Gr)) (p q : Gr × Gr) (qs : List (Gr × Gr)), q.1 ≠ (lastS p ps).2 → linked p (ps ++ q :: qs) = false
  | [], p, q, qs, h => by
    show (decide (q.1 = p.2) && linked q qs) = false
    rw [decide_eq_false (show ¬ q.1 = p.2 from h)]; rfl
  | r :: ps, p, q, qs, h => by
    show (decide (r.1 = p.2) && linked r (ps ++ q :: qs)) = false
    rw [unlinked ps r q qs h, Bool.and_false]
theorem seg_take (F : Nat → Gr) {k c : Nat} (h : k ≤ c) : (seg F 0 c).take k = seg F 0 k := by
  have := seg_cut F (a := 0) (m := k) (c := c) (by omega)
  rw [List.drop_zero] at this
  exact this
theorem seg_drop (F : Nat → Gr) {k c : Nat} (h : k ≤ c) : (seg F 0 c).drop k = seg F k (c - k) := by
  have := seg_cut F (a := k) (m := c - k) (c := c) (by omega)
  rw [List.take_of_length_le (by rw [List.length_drop, seg_len]; omega)] at this
  exact this
theorem ljoin_off {n : Nat} {g0 : List (Int × Int)} {ps : List (List Int)} {c j : Nat} (hj : 1 ≤ j ∧ j < c) (hc : c ≤ 5) {q : Gr × Gr} (h : q.1 ≠ FF n g0 ps j) : f_L_join [.lst ((seg (FF n g0 ps) 0 j).map stD ++ stD q :: (seg (FF n g0 ps) (j + 1) (c - (j + 1))).map stD)] = .ex 4 none := by
  obtain ⟨i, rfl⟩ : ∃ i, j = i + 1 := ⟨j - 1, by omega⟩
  rw [join_fn (by simp) (by simp [seg_len]; omega)]
  have e : (seg (FF n g0 ps) 0 (i + 1)).map stD ++ stD q :: (seg (FF n g0 ps) (i + 1 + 1) (c - (i + 1 + 1))).map stD = (((FF n g0 ps 0, FF n g0 ps 1) :: (seg (FF n g0 ps) 1 i ++ q :: seg (FF n g0 ps) (i + 1 + 1) (c - (i + 1 + 1)))).map stD) := by
    rw [seg_cons]
    simp
  have l := (seg_link (FF n g0 ps) i 0).2
  have l : lastS (FF n g0 ps 0, FF n g0 ps 1) (seg (FF n g0 ps) 1 i) = (FF n g0 ps (0 + i), FF n g0 ps (0 + i + 1)) := l
  rw [e, join_is (by simp [seg_len]; omega), unlinked _ _ _ _ (by rw [l]; show q.1 ≠ FF n g0 ps (0 + i + 1); rw [Nat.zero_add]; exact h)]
  rfl
theorem wrongj_ok {n : Nat} (hn : 1 ≤ n ∧ n ≤ 6) {g0 : List (Int × Int)} {ps : List (List Int)} (hp : ∀ p ∈ ps, p.Perm (rng n)) (h : GOK n g0) {c : Nat} (hc : ps.length = c) (hc5 : 1 ≤ c ∧ c ≤ 5) {zs : List Int} (hz : 5 ≤ zs.length) :
    f_L_wrong_joins [.lst ((seg (FF n g0 ps) 0 c).map stD), .lst (graphsD n g0 ps (c + 1)), .lst (zs.map .int)] = .ok (.fr (.bl true)) := by
  have i0 : fIx (.lst (zs.map .int)) (.int 0) = .ok (.fr (.int (zs.getD 0 0))) := fIx_lstI (xs := zs) (getD_some (k := 0) (by omega))
  have i1 : fIx (.lst (zs.map .int)) (.int 1) = .ok (.fr (.int (zs.getD 1 0))) := fIx_lstI (xs := zs) (getD_some (k := 1) (by omega))
  have i2 : fIx (.lst (zs.map .int)) (.int 2) = .ok (.fr (.int (zs.getD 2 0))) := fIx_lstI (xs := zs) (getD_some (k := 2) (by omega))
  have s3 : fSl (.lst (zs.map .int)) (some 3) none = .ok (.ow ((zs.drop 3).map .int)) := fSl_lfrom D.int (xs := zs) (k := 3) (by omega)
  generalize zs.getD 0 0 = y0 at i0
  generalize zs.getD 1 0 = y1 at i1
  generalize zs.getD 2 0 = y2 at i2
  have cl : fLen [.lst ((seg (FF n g0 ps) 0 c).map stD)] = .ok (.fr (.int c)) := by rw [fLen_map, seg_len]
  obtain ⟨k, hk, mk⟩ := mod_nat y0 (n := c) (by omega)
  obtain ⟨r, hr, mr⟩ := mod_nat y1 (n := 3) (by omega)
  have mr : fMod (.int y1) (.int 3) = .ok (.fr (.int r)) := mr
  have rg := ring_g
  have rt1 : fTup [.int 0, .int 1] = .ok (.fr (pr (0, 1))) := rfl
  have rt2 : fTup [.int 1, .int 2] = .ok (.fr (pr (1, 2))) := rfl
  have rt3 : fTup [.int 0, .int 2] = .ok (.fr (pr (0, 2))) := rfl
  have rl : fLst [pr (0, 1), pr (1, 2), pr (0, 2)] = .ok (.ow [pr (0, 1), pr (1, 2), pr (0, 2)]) := rfl
  obtain ⟨d1, hd1, k1⟩ := kindIs_of ring_k
  obtain ⟨d2, hd2, k2⟩ := kindIs_of circ_k
  have ct : fTup [.str (Str.ofString "not"), .int 0] = .ok (.fr (.tup [.str (Str.ofString "not"), .int 0])) := rfl
  have cq : fLst [.tup [.str (Str.ofString "not"), .int 0]] = .ok (.ow [.tup [.str (Str.ofString "not"), .int 0]]) := rfl
  have ik := seg_ix (F := FF n g0 ps) hk
  obtain ⟨d3, hd3, k3⟩ := both_k (FF n g0 ps k, FF n g0 ps (k + 1))
  have ol : fLst [d1, d2, d3] = .ok (.ow [d1, d2, d3]) := rfl
  obtain ⟨bad, w, ix, kb, hw⟩ : ∃ bad w, fIx (.lst [d1, d2, d3]) (.int r) = .ok (.fr bad) ∧ fIx bad (.int 0) = .ok (.fr w) ∧ fNe w sA = .ok (.fr (.bl true)) := by
    match r, hr with
    | 0, _ => exact ⟨d1, _, rfl, k1, w_n1⟩
    | 1, _ => exact ⟨d2, _, rfl, k2, w_n2⟩
    | 2, _ => exact ⟨d3, _, rfl, k3, w_n3⟩
  have t1 : fSl (.lst ((seg (FF n g0 ps) 0 c).map stD)) none (some (k : Int)) = .ok (.ow ((seg (FF n g0 ps) 0 k).map stD)) := by
    rw [fSl_lto stD (by rw [seg_len]; omega), seg_take _ (by omega)]
  have t2 : fSl (.lst ((seg (FF n g0 ps) 0 c).map stD)) (some ((k : Int) + 1)) none = .ok (.ow ((seg (FF n g0 ps) (k + 1) (c - (k + 1))).map stD)) := by
    have := fSl_lfrom stD (xs := seg (FF n g0 ps) 0 c) (k := k + 1) (by rw [seg_len]; omega)
    rw [seg_drop _ (by omega)] at this
    exact this
  have bl : fLst [bad] = .ok (.ow [bad]) := rfl
  have a1 : fAddL (.lst ((seg (FF n g0 ps) 0 k).map stD)) (.lst [bad]) = .ok (.ow ((seg (FF n g0 ps) 0 k).map stD ++ [bad])) := fAddL_lst (by simp [seg_len]; omega)
  have a2 : fAddL (.lst ((seg (FF n g0 ps) 0 k).map stD ++ [bad])) (.lst ((seg (FF n g0 ps) (k + 1) (c - (k + 1))).map stD)) = .ok (.ow ((seg (FF n g0 ps) 0 k).map stD ++ bad :: (seg (FF n g0 ps) (k + 1) (c - (k + 1))).map stD)) := by
    rw [fAddL_lst (by simp [seg_len]; omega)]
    simp
  have nj := nojoin_of (ljoin_bad (ps := seg (FF n g0 ps) 0 k) (qs := seg (FF n g0 ps) (k + 1) (c - (k + 1))) (by simp [seg_len]; omega) kb hw)
  have e1 := fEq_int c 1
  by_cases c1 : c = 1
  · rw [decide_eq_true (by omega)] at e1
    generalize (seg (FF n g0 ps) 0 k).map stD ++ bad :: (seg (FF n g0 ps) (k + 1) (c - (k + 1))).map stD = X3 at *
    generalize (seg (FF n g0 ps) 0 k).map stD ++ [bad] = X2 at *
    generalize (seg (FF n g0 ps) (k + 1) (c - (k + 1))).map stD = X4 at *
    generalize (seg (FF n g0 ps) 0 k).map stD = X1 at *
    generalize (seg (FF n g0 ps) 0 c).map stD = TD at *
    generalize graphsD n g0 ps (c + 1) = GS at *
    generalize zs.map D.int = ZZ at *
    generalize stD (FF n g0 ps k, FF n g0 ps (k + 1)) = S at *
    generalize gD RG = GG at *
    generalize pr (0, 1) = P1 at *
    generalize pr (1, 2) = P2 at *
    generalize pr (0, 2) = P3 at *
    unfold f_L_wrong_joins m_L_wrong_joins
    simp [runF, env0, fin, sSeq, sSet, sIf, sRet, sRetN, sRetV, sDrop, sFrz, frz, frz1, sNop, sTry, sTryAs, mAnd, mOr, mNot, mB, mBin, mUn, mCall, mCons, mNil, bCons, bNil, mBV, mVar, mC, mTest, tNotM, tAndM, tOrM, tYesM, DL.R.bind, DL.R.quiet, Sl.d, asB, mIf, cl, i0, fInt, mk, rt1, rt2, rt3, rl, rg, hd1, ct, cq, hd2, ik, hd3, ol, mSl, oSome, oNone, asI, t1, i1, mr, ix, bl, a1, fAddL_int, t2, a2, nj, e1]
  · rw [decide_eq_false (by omega)] at e1
    obtain ⟨j0, hj0, mj⟩ := mod_nat y2 (n := c - 1) (by omega)
    obtain ⟨j, hj⟩ : ∃ j, 1 + j0 = j := ⟨_, rfl⟩
    have jb : 1 ≤ j ∧ j < c := by omega
    have sb : fSub (.int c) (.int 1) = .ok (.fr (.int ((c - 1 : Nat) : Int))) := by
      show R.ok (Sl.fr (.int ((c : Int) - 1))) = _
      rw [show (c : Int) - 1 = ((c - 1 : Nat) : Int) by omega]
    have aj : fAddL (.int 1) (.int j0) = .ok (.fr (.int j)) := by rw [fAddL_int, show (1 : Int) + (j0 : Int) = (j : Int) by omega]
    have aj1 : fAddL (.int j) (.int 1) = .ok (.fr (.int ((j : Int) + 1))) := rfl
    have gj := gk_ok hp h j
    have gj1 := gk_ok hp h (j + 1)
    have gi := graphs_ix (n := n) (g0 := g0) (ps := ps) (c := c + 1) (k := j) (by omega)
    have gi1 := graphs_ix (n := n) (g0 := g0) (ps := ps) (c := c + 1) (k := j + 1) (by omega)
    have gi1 : fIx (.lst (graphsD n g0 ps (c + 1))) (.int ((j : Int) + 1)) = .ok (.fr (gD (FF n g0 ps (j + 1)))) := gi1
    obtain ⟨O, ho, one, ob, og, os, oll⟩ := other_is hn gj (zs := zs.drop 3) (by simp; omega)
    have ho : f_L_other_graph [gD (FF n g0 ps j), .lst ((zs.drop 3).map .int)] = .ok (.fr (gD O)) := ho
    have z1 := gr0 O
    have z2 : fIx (gD (FF n g0 ps j)) (.int 0) = .ok (.fr (.int n)) := rfl
    have ne := fNe_int O.1 n
    have u1 : fSl (.lst ((seg (FF n g0 ps) 0 c).map stD)) none (some (j : Int)) = .ok (.ow ((seg (FF n g0 ps) 0 j).map stD)) := by
      rw [fSl_lto stD (by rw [seg_len]; omega), seg_take _ (by omega)]
    have u2 : fSl (.lst ((seg (FF n g0 ps) 0 c).map stD)) (some ((j : Int) + 1)) none = .ok (.ow ((seg (FF n g0 ps) (j + 1) (c - (j + 1))).map stD)) := by
      have := fSl_lfrom stD (xs := seg (FF n g0 ps) 0 c) (k := j + 1) (by rw [seg_len]; omega)
      rw [seg_drop _ (by omega)] at this
      exact this
    obtain ⟨L, hL, mL⟩ : ∃ L : Gr, (if O.1 = n then FF n g0 ps (j + 1) else O) = L ∧ f_L_made [gD O, gD L] = .ok (.fr (stD (O, L))) := by
      obtain ⟨o1, o2⟩ := O
      by_cases q : o1 = n
      · refine ⟨FF n g0 ps (j + 1), by rw [if_pos q], ?_⟩
        subst q
        exact made_is hn og os oll gj1.1 gj1.2.1 (by have := gj1.2.2; omega)
      · exact ⟨(o1, o2), by rw [if_neg q], made_is ob og os oll og os oll⟩
    have nj2 := nojoin_of (ljoin_off (n := n) (g0 := g0) (ps := ps) jb hc5.2 (q := (O, L)) one)
    have bl2 : fLst [stD (O, L)] = .ok (.ow [stD (O, L)]) := rfl
    have b1 : fAddL (.lst ((seg (FF n g0 ps) 0 j).map stD)) (.lst [stD (O, L)]) = .ok (.ow ((seg (FF n g0 ps) 0 j).map stD ++ [stD (O, L)])) := fAddL_lst (by simp [seg_len]; omega)
    have b2 : fAddL (.lst ((seg (FF n g0 ps) 0 j).map stD ++ [stD (O, L)])) (.lst ((seg (FF n g0 ps) (j + 1) (c - (j + 1))).map stD)) = .ok (.ow ((seg (FF n g0 ps) 0 j).map stD ++ stD (O, L) :: (seg (FF n g0 ps) (j + 1) (c - (j + 1))).map stD)) := by
      rw [fAddL_lst (by simp [seg_len]; omega)]
      simp
    have pk : ∀ o : Bool, fNe (.int O.1) (.int n) = .ok (.fr (.bl o)) → (if o = true then gD O else gD (FF n g0 ps (j + 1))) = gD L := by
      intro o ho
      rw [ne] at ho
      by_cases q : O.1 = n
      · rw [if_pos q] at hL
        have : o = false := by
          have := ho
          simp [q] at this
          exact this
        rw [this, ← hL]
        rfl
      · rw [if_neg q] at hL
        have : o = true := by
          have := ho
          have q2 : ¬ (O.1 : Int) = (n : Int) := by omega
          simp [q2] at this
          exact this
        rw [this, ← hL]
        rfl
    clear hL
    have jn : fAddL (.int k) (.int 1) = .ok (.fr (.int ((k : Int) + 1))) := rfl
    generalize (seg (FF n g0 ps) 0 k).map stD ++ bad :: (seg (FF n g0 ps) (k + 1) (c - (k + 1))).map stD = X3 at *
    generalize (seg (FF n g0 ps) 0 k).map stD ++ [bad] = X2 at *
    generalize (seg (FF n g0 ps) (k + 1) (c - (k + 1))).map stD = X4 at *
    generalize (seg (FF n g0 ps) 0 k).map stD = X1 at *
    generalize (seg (FF n g0 ps) 0 j).map stD ++ stD (O, L) :: (seg (FF n g0 ps) (j + 1) (c - (j + 1))).map stD = W3 at *
    generalize (seg (FF n g0 ps) 0 j).map stD ++ [stD (O, L)] = W2 at *
    generalize (seg (FF n g0 ps) (j + 1) (c - (j + 1))).map stD = W4 at *
    generalize (seg (FF n g0 ps) 0 j).map stD = W1 at *
    generalize (seg (FF n g0 ps) 0 c).map stD = TD at *
    generalize graphsD n g0 ps (c + 1) = GS at *
    generalize (zs.drop 3).map D.int = Z3 at *
    generalize zs.map D.int = ZZ at *
    generalize stD (FF n g0 ps k, FF n g0 ps (k + 1)) = S at *
    generalize stD (O, L) = SOL at *
    generalize gD (FF n g0 ps j) = GJ at *
    generalize gD (FF n g0 ps (j + 1)) = GJ1 at *
    generalize gD L = GL at *
    generalize gD O = GO at *
    generalize gD RG = GG at *
    generalize pr (0, 1) = P1 at *
    generalize pr (1, 2) = P2 at *
    generalize pr (0, 2) = P3 at *
    unfold f_L_wrong_joins m_L_wrong_joins
    generalize hb : (!decide ((O.1 : Int) = (n : Int))) = o at ne
    have pk := pk o ne
    cases o with
    | true =>
      have pk : GO = GL := pk
      subst pk
      simp [runF, env0, fin, sSeq, sSet, sIf, sRet, sRetN, sRetV, sDrop, sFrz, frz, frz1, sNop, sTry, sTryAs, mAnd, mOr, mNot, mB, mBin, mUn, mCall, mCons, mNil, bCons, bNil, mBV, mVar, mC, mTest, tNotM, tAndM, tOrM, tYesM, DL.R.bind, DL.R.quiet, Sl.d, asB, mIf, cl, i0, fInt, mk, rt1, rt2, rt3, rl, rg, hd1, ct, cq, hd2, ik, hd3, ol, mSl, oSome, oNone, asI, t1, i1, mr, ix, bl, a1, jn, t2, a2, nj, e1, i2, sb, mj, aj, gi, s3, ho, aj1, gi1, z1, z2, ne, mL, u1, bl2, b1, u2, b2, nj2]
    | false =>
      have pk : GJ1 = GL := pk
      subst pk
      simp [runF, env0, fin, sSeq, sSet, sIf, sRet, sRetN, sRetV, sDrop, sFrz, frz, frz1, sNop, sTry, sTryAs, mAnd, mOr, mNot, mB, mBin, mUn, mCall, mCons, mNil, bCons, bNil, mBV, mVar, mC, mTest, tNotM, tAndM, tOrM, tYesM, DL.R.bind, DL.R.quiet, Sl.d, asB, mIf, cl, i0, fInt, mk, rt1, rt2, rt3, rl, rg, hd1, ct, cq, hd2, ik, hd3, ol, mSl, oSome, oNone, asI, t1, i1, mr, ix, bl, a1, jn, t2, a2, nj, e1, i2, sb, mj, aj, gi, s3, ho, aj1, gi1, z1, z2, ne, mL, u1, bl2, b1, u2, b2, nj2]
end K15
set_option Elab.async false
set_option linter.all false
set_option maxRecDepth 100000
set_option maxHeartbeats 8000000
namespace K15
open PySem PySem.Spec L2 DL DM
open PyProof.Rows hiding St
theorem lchain_bad {L : List (List Int)} (hl : L ≠ []) (hk : L.length ≤ 5) (h : ∀ b ∈ L, b.length ≤ 7) (hw : witO L = none) : f_L_chain [.lst (L.map tupI)] = .ex 1 none := by
  rw [chain_fn (by simpa using hl) (by simpa using hk), wit_is hl hk h, hw]
theorem isP_no {xs : List Int} (h : ¬ xs.Perm (rng xs.length)) : isP xs = false := by
  cases c : isP xs with
  | false => rfl
  | true => exact absurd (isP_of c) h
theorem wrongc_ok {n : Nat} (hn : 1 ≤ n ∧ n ≤ 6) {ps : List (List Int)} (hp : ∀ p ∈ ps, p.Perm (rng n)) {c : Nat} (hc : ps.length = c) (hc5 : 1 ≤ c ∧ c ≤ 5) {zs : List Int} (hz : 4 ≤ zs.length) :
    f_L_wrong_chains [.lst (ps.map tupI), .lst (zs.map .int)] = .ok (.fr (.bl true)) := by
  have i0 : fIx (.lst (zs.map .int)) (.int 0) = .ok (.fr (.int (zs.getD 0 0))) := fIx_lstI (xs := zs) (getD_some (k := 0) (by omega))
  have i1 : fIx (.lst (zs.map .int)) (.int 1) = .ok (.fr (.int (zs.getD 1 0))) := fIx_lstI (xs := zs) (getD_some (k := 1) (by omega))
  have i2 : fIx (.lst (zs.map .int)) (.int 2) = .ok (.fr (.int (zs.getD 2 0))) := fIx_lstI (xs := zs) (getD_some (k := 2) (by omega))
  have i3 : fIx (.lst (zs.map .int)) (.int 3) = .ok (.fr (.int (zs.getD 3 0))) := fIx_lstI (xs := zs) (getD_some (k := 3) (by omega))
  generalize zs.getD 0 0 = y0 at i0
  generalize zs.getD 1 0 = y1 at i1
  generalize zs.getD 2 0 = y2 at i2
  generalize zs.getD 3 0 = y3 at i3
  have cl : fLen [.lst (ps.map tupI)] = .ok (.fr (.int c)) := by rw [fLen_map, hc]
  obtain ⟨k, hk, mk⟩ := mod_nat y0 (n := c) (by omega)
  obtain ⟨t, ht, mt⟩ := mod_nat y1 (n := n) (by omega)
  obtain ⟨r, hr, mr⟩ := mod_nat y2 (n := 6) (by omega)
  have mr : fMod (.int y2) (.int 6) = .ok (.fr (.int r)) := mr
  have m3 : fMod (.int y3) (.int 3) = .ok (.fr (.int (y3 % 3))) := rfl
  have b3 := emod_b y3 (n := 3) (by decide)
  have kl : k < ps.length := by omega
  have ik := rows_ix (ps := ps) kl
  obtain ⟨G, hG⟩ : ∃ G, ps[k] = G := ⟨_, rfl⟩
  rw [hG] at ik
  have Gm : G ∈ ps := by rw [← hG]; exact List.getElem_mem _
  have Gp := hp G Gm
  have Gl : G.length = n := by rw [Gp.length_eq, rng_len]
  have gl := fLen_tupI G
  rw [Gl] at gl
  have bnd : ∀ q : Nat, q < n → 0 ≤ G.getD q 0 ∧ G.getD q 0 < n := fun q hq => by
    have := at0_mem Gp (i := (q : Int)) (by omega)
    rw [at0_nat] at this
    exact this
  -- the rows that are spoilt
  have e1 := fSl_to (xs := G) (k := t) (by omega)
  have e2 : fSl (tupI G) (some ((t : Int) + 1)) none = .ok (.fr (tupI (G.drop (t + 1)))) := fSl_from (xs := G) (k := t + 1) (by omega)
  have tp : ∀ y : Int, fTup [.int y] = .ok (.fr (.tup [.int y])) := fun _ => rfl
  have sp1 : ∀ y : Int, fAddL (tupI (G.take t)) (.tup [.int y]) = .ok (.fr (tupI (G.take t ++ [y]))) := fun y => fAddL_tup (xs := G.take t) (ys := [y]) (by simp; omega)
  have sp2 : ∀ y : Int, fAddL (tupI (G.take t ++ [y])) (tupI (G.drop (t + 1))) = .ok (.fr (tupI (G.take t ++ [y] ++ G.drop (t + 1)))) := fun y => fAddL_tup (by simp; omega)
  have spl : ∀ y : Int, (G.take t ++ [y] ++ G.drop (t + 1)).length = n := fun y => by simp; omega
  obtain ⟨q, hq, iq, nq⟩ : ∃ q : Nat, q < n ∧ fIx (tupI G) (.int ((t : Int) - 1)) = .ok (.fr (.int (G.getD q 0))) ∧ (q ≠ t ∨ n = 1) := by
    by_cases c0 : t = 0
    · subst c0
      refine ⟨n - 1, by omega, ?_, by omega⟩
      have := fIx_tupN (xs := G) (k := 1) (a := G.getD (n - 1) 0) (by decide) (by omega) (by rw [Gl]; exact getD_some (by omega))
      exact this
    · refine ⟨t - 1, by omega, ?_, .inl (by omega)⟩
      rw [show (t : Int) - 1 = ((t - 1 : Nat) : Int) by omega]
      exact fIx_tupI (getD_some (by omega))
  obtain ⟨N, hN⟩ : ∃ N, G.take t ++ [(n : Int)] ++ G.drop (t + 1) = N := ⟨_, rfl⟩
  obtain ⟨Lo, hLo⟩ : ∃ N, G.take t ++ [0 - 1 - y3 % 3] ++ G.drop (t + 1) = N := ⟨_, rfl⟩
  obtain ⟨T, hT⟩ : ∃ N, G.take t ++ [G.getD q 0] ++ G.drop (t + 1) = N := ⟨_, rfl⟩
  have sN := sp2 (n : Int)
  have sL := sp2 (0 - 1 - y3 % 3)
  have sT := sp2 (G.getD q 0)
  rw [hN] at sN
  rw [hLo] at sL
  rw [hT] at sT
  have bt := bnd t ht
  have pN : isP N = false := by rw [← hN]; exact isP_spoilt Gp (by omega) (by omega)
  have lN : N.length = n := by rw [← hN]; exact spl _
  have pL : isP Lo = false := by rw [← hLo]; exact isP_spoilt Gp (by omega) (by omega)
  have pT : isP T = false ∨ (n = 1 ∧ T = G) := by
    by_cases c1 : n = 1
    · right
      refine ⟨c1, ?_⟩
      rw [← hT]
      have t0 : t = 0 := by omega
      have q0 : q = 0 := by omega
      subst t0 q0
      match G, (show G.length = 1 by omega) with
      | [x], _ => rfl
    · left
      rw [← hT]
      refine isP_spoilt Gp (by omega) fun e => ?_
      have := at0_inj Gp (i := (q : Int)) (j := (t : Int)) (by omega) (by omega) (by rw [at0_nat, at0_nat]; exact e)
      omega
  have s99 : fAddL (tupI G) (.tup [.int 99]) = .ok (.fr (tupI (G ++ [99]))) := fAddL_tup (xs := G) (ys := [99]) (by simp; omega)
  have p99 : isP (G ++ [99]) = false := isP_no fun h => by
    have m := h.mem_iff.mp (show (99 : Int) ∈ G ++ [99] by simp)
    obtain ⟨i, h1, h2⟩ := mem_rng.mp m
    simp at h1
    omega
  have t7 : fTup [.int 0, .int 1, .int 2, .int 3, .int 4, .int 5, .int 6] = .ok (.fr (tupI [0, 1, 2, 3, 4, 5, 6])) := rfl
  have t11 : fTup [.int 1, .int 1] = .ok (.fr (tupI [1, 1])) := rfl
  have L6 : ∀ a b c d e f : D, fLst [a, b, c, d, e, f] = .ok (.ow [a, b, c, d, e, f]) := fun _ _ _ _ _ _ => rfl
  obtain ⟨X, ix, xl, xp⟩ : ∃ X : List Int, fIx (.lst [tupI N, tupI Lo, tupI T, tupI (G ++ [99]), tupI [0, 1, 2, 3, 4, 5, 6], tupI [1, 1]]) (.int r) = .ok (.fr (tupI X)) ∧ X.length ≤ 7 ∧ (isP X = false ∨ (n = 1 ∧ X = G)) := by
    match r, hr with
    | 0, _ => exact ⟨N, rfl, by omega, .inl pN⟩
    | 1, _ => exact ⟨Lo, rfl, by rw [← hLo, spl]; omega, .inl pL⟩
    | 2, _ => exact ⟨T, rfl, by rw [← hT, spl]; omega, pT⟩
    | 3, _ => exact ⟨G ++ [99], rfl, by simp; omega, .inl p99⟩
    | 4, _ => exact ⟨[0, 1, 2, 3, 4, 5, 6], rfl, by decide, .inl (by decide +kernel)⟩
    | 5, _ => exact ⟨[1, 1], rfl, by decide, .inl (by decide +kernel)⟩
  have eX := fEq_tup (xs := X) (ys := G) xl (by omega)
  have en := fEq_int n 1
  obtain ⟨X2, hX2, x2l, x2p⟩ : ∃ X2 : List Int, (if n = 1 ∧ X = G then N else X) = X2 ∧ X2.length ≤ 7 ∧ isP X2 = false := by
    by_cases c1 : n = 1 ∧ X = G
    · exact ⟨N, by rw [if_pos c1], by omega, pN⟩
    · exact ⟨X, by rw [if_neg c1], xl, xp.resolve_right c1⟩
  have si : ∀ o0 o1 o2 o4 o6 o7 o9 : Option Sl, (sIf (tAndM (mTest (mB (mBin fEq (mB (mCall fLen (bCons (mBV 3) bNil))) (mB (mC (.int 1)))))) (mTest (mB (mBin fEq (mBV 8) (mBV 3))))) (sSet 8 (mVar 5)) sNop) [o0, o1, o2, some (.fr (tupI G)), o4, some (.fr (tupI N)), o6, o7, some (.fr (tupI X)), o9] = .nx [o0, o1, o2, some (.fr (tupI G)), o4, some (.fr (tupI N)), o6, o7, some (.fr (tupI X2)), o9] := by
    intro o0 o1 o2 o4 o6 o7 o9
    clear ix sN s99 sp1 sp2 sL sT e1 e2 iq ik
    by_cases c1 : n = 1
    · rw [decide_eq_true (by omega)] at en
      by_cases c2 : X = G
      · rw [if_pos ⟨c1, c2⟩] at hX2
        rw [decide_eq_true c2] at eX
        subst hX2
        generalize tupI G = TG at *
        generalize tupI N = TN at *
        generalize tupI X = TX at *
        simp [runF, env0, fin, sSeq, sSet, sIf, sRet, sRetN, sRetV, sDrop, sFrz, frz, frz1, sNop, sTry, sTryAs, mAnd, mOr, mNot, mB, mBin, mUn, mCall, mCons, mNil, bCons, bNil, mBV, mVar, mC, mTest, tNotM, tAndM, tOrM, tYesM, DL.R.bind, DL.R.quiet, Sl.d, asB, mIf, gl, en, eX]
      · rw [if_neg (fun q => c2 q.2)] at hX2
        rw [decide_eq_false c2] at eX
        subst hX2
        generalize tupI G = TG at *
        generalize tupI N = TN at *
        generalize tupI X = TX at *
        simp [runF, env0, fin, sSeq, sSet, sIf, sRet, sRetN, sRetV, sDrop, sFrz, frz, frz1, sNop, sTry, sTryAs, mAnd, mOr, mNot, mB, mBin, mUn, mCall, mCons, mNil, bCons, bNil, mBV, mVar, mC, mTest, tNotM, tAndM, tOrM, tYesM, DL.R.bind, DL.R.quiet, Sl.d, asB, mIf, gl, en, eX]
    · rw [if_neg (fun q => c1 q.1)] at hX2
      rw [decide_eq_false (by omega)] at en
      subst hX2
      generalize tupI G = TG at *
      generalize tupI N = TN at *
      generalize tupI X = TX at *
      simp [runF, env0, fin, sSeq, sSet, sIf, sRet, sRetN, sRetV, sDrop, sFrz, frz, frz1, sNop, sTry, sTryAs, mAnd, mOr, mNot, mB, mBin, mUn, mCall, mCons, mNil, bCons, bNil, mBV, mVar, mC, mTest, tNotM, tAndM, tOrM, tYesM, DL.R.bind, DL.R.quiet, Sl.d, asB, mIf, gl, en]
  -- the lists of rows
  have A1 := fSl_lto tupI (xs := ps) (k := k) (by omega)
  have A2 : fSl (.lst (ps.map tupI)) (some ((k : Int) + 1)) none = .ok (.ow ((ps.drop (k + 1)).map tupI)) := fSl_lfrom tupI (xs := ps) (k := k + 1) (by omega)
  have one : ∀ d : D, fLst [d] = .ok (.ow [d]) := fun _ => rfl
  have add1 : ∀ Y : List Int, fAddL (.lst ((ps.take k).map tupI)) (.lst [tupI Y]) = .ok (.ow ((ps.take k).map tupI ++ [tupI Y])) := fun Y => fAddL_lst (by simp; omega)
  have add2 : ∀ Y : List Int, fAddL (.lst ((ps.take k).map tupI ++ [tupI Y])) (.lst ((ps.drop (k + 1)).map tupI)) = .ok (.ow ((ps.take k ++ Y :: ps.drop (k + 1)).map tupI)) := fun Y => by
    rw [fAddL_lst (by simp; omega)]
    simp
  have ll : ∀ Y : List Int, (ps.take k ++ Y :: ps.drop (k + 1)).length ≤ 5 := fun Y => by simp; omega
  have lb : ∀ Y : List Int, Y.length ≤ 7 → ∀ b ∈ ps.take k ++ Y :: ps.drop (k + 1), b.length ≤ 7 := by
    intro Y hY b m
    have rest : ∀ b ∈ ps, b.length ≤ 7 := fun b m => by rw [(hp b m).length_eq, rng_len]; omega
    rcases List.mem_append.mp m with m | m
    · exact rest b (List.mem_of_mem_take m)
    · rcases List.mem_cons.mp m with rfl | m
      · exact hY
      · exact rest b (List.mem_of_mem_drop m)
  have nb : ∀ Y : List Int, Y.length ≤ 7 → witO (ps.take k ++ Y :: ps.drop (k + 1)) = none → f_L_no_chain [.lst ((ps.take k ++ Y :: ps.drop (k + 1)).map tupI)] = .ok (.fr (.bl true)) := fun Y hY hw =>
    nochain_of (lchain_bad (by simp) (ll Y) (lb Y hY) hw)
  have n1 := nb X2 x2l (witO_bad (x := X2) (y := X2) (by simp) (by simp) (.inl x2p))
  have n2 : f_L_no_chain [.lst [tupI X2]] = .ok (.fr (.bl true)) := nochain_of (lchain_bad (L := [X2]) (by simp) (by simp) (by intro b m; rw [List.mem_singleton.mp m]; exact x2l) (witO_bad (x := X2) (y := X2) (by simp) (by simp) (.inl x2p)))
  have a1 := add1 X2
  have a2 := add2 X2
  have ec := fEq_int c 1
  have f1 := sp1 (n : Int)
  have f2 := sp1 (0 - 1 - y3 % 3)
  have f3 := sp1 (G.getD q 0)
  have jn : fAddL (.int k) (.int 1) = .ok (.fr (.int ((k : Int) + 1))) := rfl
  have jt : fAddL (.int t) (.int 1) = .ok (.fr (.int ((t : Int) + 1))) := rfl
  have u1 : fSub (.int 0) (.int 1) = .ok (.fr (.int (0 - 1))) := rfl
  have u2 : fSub (.int (0 - 1)) (.int (y3 % 3)) = .ok (.fr (.int (0 - 1 - y3 % 3))) := rfl
  have u3 : fSub (.int t) (.int 1) = .ok (.fr (.int ((t : Int) - 1))) := rfl
  have t00 : fTup [] = .ok (.fr (tupI [])) := rfl
  have sn : fAddL (tupI G) (.tup [.int n]) = .ok (.fr (tupI (G ++ [(n : Int)]))) := fAddL_tup (xs := G) (ys := [(n : Int)]) (by simp; omega)
  have a3 := add1 (G ++ [(n : Int)])
  have a4 := add2 (G ++ [(n : Int)])
  have a5 := add1 []
  have a6 := add2 []
  clear add1 add2 sp1 sp2 lb
  have oneX := one (tupI X2)
  have oneL := one (tupI (G ++ [(n : Int)]))
  have one0 := one (tupI [])
  clear one
  generalize (0 : Int) - 1 - y3 % 3 = low at *
  generalize (0 : Int) - 1 = mone at *
  have tlow := tp low
  have tq := tp (G.getD q 0)
  have tn := tp (n : Int)
  have t99 := tp 99
  clear tp
  by_cases c1 : c = 1
  · rw [decide_eq_true (by omega)] at ec
    clear nb a3 a4 a5 a6 oneL one0 t00
    generalize (ps.take k ++ X2 :: ps.drop (k + 1)).map tupI = R1 at *
    generalize (ps.take k).map tupI ++ [tupI X2] = R2 at *
    generalize (ps.take k).map tupI = R3 at *
    generalize (ps.drop (k + 1)).map tupI = R4 at *
    generalize ps.map tupI = PD at *
    generalize zs.map D.int = ZZ at *
    generalize G.getD q 0 = gq at *
    generalize tupI (G.take t ++ [(n : Int)]) = V1 at *
    generalize tupI (G.take t ++ [low]) = V2 at *
    generalize tupI (G.take t ++ [gq]) = V3 at *
    generalize tupI (G.take t) = V4 at *
    generalize tupI (G.drop (t + 1)) = V5 at *
    generalize tupI (G ++ [99]) = V6 at *
    generalize tupI (G ++ [(n : Int)]) = V7 at *
    generalize tupI N = TN at *
    generalize tupI Lo = TL at *
    generalize tupI T = TT at *
    generalize tupI G = TG at *
    generalize tupI X2 = TX2 at *
    generalize tupI X = TX at *
    generalize tupI [0, 1, 2, 3, 4, 5, 6] = S7 at *
    generalize tupI [1, 1] = S11 at *
    unfold f_L_wrong_chains m_L_wrong_chains
    generalize hSI : (sIf (tAndM (mTest (mB (mBin fEq (mB (mCall fLen (bCons (mBV 3) bNil))) (mB (mC (.int 1)))))) (mTest (mB (mBin fEq (mBV 8) (mBV 3))))) (sSet 8 (mVar 5)) sNop) = SI at si ⊢
    simp [runF, env0, fin, sSeq, sSet, sIf, sRet, sRetN, sRetV, sDrop, sFrz, frz, frz1, sNop, sTry, sTryAs, mAnd, mOr, mNot, mB, mBin, mUn, mCall, mCons, mNil, bCons, bNil, mBV, mVar, mC, mTest, tNotM, tAndM, tOrM, tYesM, DL.R.bind, DL.R.quiet, Sl.d, asB, mIf, cl, i0, fInt, mk, ik, i1, gl, mt, mSl, oSome, oNone, asI, e1, tn, f1, jt, e2, sN, i3, m3, u1, u2, tlow, f2, sL, u3, iq, tq, f3, sT, t99, s99, t7, t11, L6, i2, mr, ix, si, A1, oneX, a1, jn, A2, a2, n1, n2, ec]
  · rw [decide_eq_false (by omega)] at ec
    have oth : ∃ y, y ∈ ps.take k ++ ps.drop (k + 1) := by
      by_cases c2 : k = 0
      · exact ⟨ps[1]'(by omega), List.mem_append.mpr (.inr (List.mem_iff_getElem.mpr ⟨0, by simp; omega, by simp [c2]⟩))⟩
      · exact ⟨ps[0]'(by omega), List.mem_append.mpr (.inl (List.mem_iff_getElem.mpr ⟨0, by simp; omega, by simp⟩))⟩
    obtain ⟨y, ym⟩ := oth
    have yl : y.length = n := by
      have : y ∈ ps := by
        rcases List.mem_append.mp ym with m | m
        · exact List.mem_of_mem_take m
        · exact List.mem_of_mem_drop m
      rw [(hp y this).length_eq, rng_len]
    have ym2 : ∀ Y : List Int, y ∈ ps.take k ++ Y :: ps.drop (k + 1) := fun Y => by
      rcases List.mem_append.mp ym with m | m
      · exact List.mem_append.mpr (.inl m)
      · exact List.mem_append.mpr (.inr (List.mem_cons_of_mem _ m))
    have n3 := nb (G ++ [(n : Int)]) (by simp; omega) (witO_bad (x := G ++ [(n : Int)]) (y := y) (by simp) (ym2 _) (.inr (by simp; omega)))
    have n4 := nb [] (by simp) (witO_bad (x := []) (y := y) (by simp) (ym2 _) (.inr (by simp; omega)))
    clear nb
    generalize (ps.take k ++ X2 :: ps.drop (k + 1)).map tupI = R1 at *
    generalize (ps.take k ++ (G ++ [(n : Int)]) :: ps.drop (k + 1)).map tupI = R5 at *
    generalize (ps.take k ++ [] :: ps.drop (k + 1)).map tupI = R7 at *
    generalize (ps.take k).map tupI ++ [tupI X2] = R2 at *
    generalize (ps.take k).map tupI ++ [tupI (G ++ [(n : Int)])] = R6 at *
    generalize (ps.take k).map tupI ++ [tupI []] = R8 at *
    generalize (ps.take k).map tupI = R3 at *
    generalize (ps.drop (k + 1)).map tupI = R4 at *
    generalize ps.map tupI = PD at *
    generalize zs.map D.int = ZZ at *
    generalize G.getD q 0 = gq at *
    generalize tupI (G.take t ++ [(n : Int)]) = V1 at *
    generalize tupI (G.take t ++ [low]) = V2 at *
    generalize tupI (G.take t ++ [gq]) = V3 at *
    generalize tupI (G.take t) = V4 at *
    generalize tupI (G.drop (t + 1)) = V5 at *
    generalize tupI (G ++ [99]) = V6 at *
    generalize tupI (G ++ [(n : Int)]) = V7 at *
    generalize tupI N = TN at *
    generalize tupI Lo = TL at *
    generalize tupI T = TT at *
    generalize tupI G = TG at *
    generalize tupI X2 = TX2 at *
    generalize tupI X = TX at *
    generalize tupI [0, 1, 2, 3, 4, 5, 6] = S7 at *
    generalize tupI [1, 1] = S11 at *
    generalize tupI [] = S0 at *
    unfold f_L_wrong_chains m_L_wrong_chains
    generalize hSI : (sIf (tAndM (mTest (mB (mBin fEq (mB (mCall fLen (bCons (mBV 3) bNil))) (mB (mC (.int 1)))))) (mTest (mB (mBin fEq (mBV 8) (mBV 3))))) (sSet 8 (mVar 5)) sNop) = SI at si ⊢
    simp [runF, env0, fin, sSeq, sSet, sIf, sRet, sRetN, sRetV, sDrop, sFrz, frz, frz1, sNop, sTry, sTryAs, mAnd, mOr, mNot, mB, mBin, mUn, mCall, mCons, mNil, bCons, bNil, mBV, mVar, mC, mTest, tNotM, tAndM, tOrM, tYesM, DL.R.bind, DL.R.quiet, Sl.d, asB, mIf, cl, i0, fInt, mk, ik, i1, gl, mt, mSl, oSome, oNone, asI, e1, tn, f1, jt, e2, sN, i3, m3, u1, u2, tlow, f2, sL, u3, iq, tq, f3, sT, t99, s99, t7, t11, L6, i2, mr, ix, si, A1, oneX, a1, jn, A2, a2, n1, n2, ec, sn, oneL, a3, a4, n3, t00, one0, a5, a6, n4]
end K15
set_option Elab.async false
set_option linter.all false
set_option maxRecDepth 100000
set_option maxHeartbeats 8000000
namespace K15
open PySem PySem.Spec L2 DL DM
open PyProof.Rows hiding St
theorem FF_app {n : Nat} {g0 : List (Int × Int)} {ps : List (List Int)} {p : List Int} {j : Nat} (h : j ≤ ps.length) : FF n g0 (ps ++ [p]) j = FF n g0 ps j := by
  unfold FF gk
  rw [List.take_append_of_le_length h]
theorem FF_new (n : Nat) (g0 : List (Int × Int)) (ps : List (List Int)) (p : List Int) : FF n g0 (ps ++ [p]) (ps.length + 1) = (n, pmoved p (gk g0 ps ps.length)) := by
  unfold FF
  rw [gk_succ (by simp)]
  have e : gk g0 (ps ++ [p]) ps.length = gk g0 ps ps.length := by
    unfold gk
    rw [List.take_append_of_le_length (Nat.le_refl _)]
  rw [e]
  simp
theorem graphs_app (n : Nat) (g0 : List (Int × Int)) (ps : List (List Int)) (p : List Int) : graphsD n g0 (ps ++ [p]) (ps.length + 1 + 1) = graphsD n g0 ps (ps.length + 1) ++ [gD (n, pmoved p (gk g0 ps ps.length))] := by
  unfold graphsD
  rw [List.range_succ, List.map_append, List.map_cons, List.map_nil, FF_new]
  congr 1
  refine List.map_congr_left fun j m => ?_
  rw [FF_app (by have := List.mem_range.mp m; omega)]
theorem seg_app (n : Nat) (g0 : List (Int × Int)) (ps : List (List Int)) (p : List Int) : (seg (FF n g0 (ps ++ [p])) 0 (ps.length + 1)).map stD = (seg (FF n g0 ps) 0 ps.length).map stD ++ [stD (FF n g0 ps ps.length, (n, pmoved p (gk g0 ps ps.length)))] := by
  unfold seg
  rw [← List.range_eq_range', ← List.range_eq_range', List.range_succ, List.map_append, List.map_append, List.map_cons, List.map_nil, List.map_cons, List.map_nil, FF_new, FF_app (Nat.le_refl _)]
  congr 2
  refine List.map_congr_left fun j m => ?_
  have := List.mem_range.mp m
  rw [FF_app (by omega), FF_app (by omega)]
/-! ### the rows, graphs and statements are made -/
abbrev LB1 : MS := (sSeq (sSet 11 (mBin fIx (mB (mCall f_L_numbers (mCons (mCall f_L_cell (mCons (mVar 0) (mCons (mBin fAddL (mB (mC (.int 2))) (mBV 8)) mNil))) (mCons (mC (.int 1)) mNil)))) (mB (mC (.int 0)))))
    (sSeq (sApp 9 (mCall fTuple (bCons (mB (mCall f_L_permutation (mCons (mVar 2) (mCons (mBin fMod (mB (mCall fInt (bCons (mBV 11) bNil))) (mB (mCall f_L_factorial (mCons (mVar 2) mNil)))) mNil)))) bNil)))
    (sSeq (sApp 7 (mCall fTup (mCons (mVar 2) (mCons (mCall f_L_moved (mCons (mBin fIx (mB (mBin fIx (mBV 7) (mBV 8))) (mB (mC (.int 1)))) (mCons (mBin fIx (mBV 9) (mBV 8)) mNil))) mNil))))
    (sApp 10 (mCall f_L_made (mCons (mBin fIx (mBV 7) (mBV 8)) (mCons (mBin fIx (mBV 7) (mB (mBin fAddL (mBV 8) (mB (mC (.int 1)))))) mNil)))))))
def LInv (n c : Nat) (g0 : List (Int × Int)) (NN ZZ PL DS : List D) (lv : Int) (ds : List D) (env : En) : Prop := ∃ (k : Nat) (ps : List (List Int)) (o8 o11 : Option Sl),
  env = [some (.fr (.lst NN)), some (.ow ZZ), some (.fr (.int n)), some (.fr (.int c)), some (.ow PL), some (.ow DS), some (.fr (.int lv)), some (.ow (graphsD n g0 ps (k + 1))), o8, some (.ow (ps.map tupI)), some (.ow ((seg (FF n g0 ps) 0 k).map stD)), o11, none, none, none] ∧
  ps.length = k ∧ k ≤ c ∧ (∀ p ∈ ps, p.Perm (rng n)) ∧ ds = (List.range' k (c - k)).map fun k : Nat => D.int k
theorem fact_is : f_L_factorial = f_factorial := rfl
theorem perm_is : f_L_permutation = f_perm := rfl
theorem cell_is : f_L_cell = f_cell := rfl
theorem numbers_is : f_L_numbers = f_numbers := rfl
theorem lstep {n c : Nat} (hn : 1 ≤ n ∧ n ≤ 6) (hc : c ≤ 5) {g0 : List (Int × Int)} (h0 : GOK n g0) {ns : List Int} {ZZ PL DS : List D} {lv : Int} (d : D) (ds : List D) (env : En) (h : LInv n c g0 (ns.map .int) ZZ PL DS lv (d :: ds) env) :
    ∃ e1 e2, (Pt.nm 8).go d env = some e1 ∧ (LB1 e1 = .nx e2 ∨ LB1 e1 = .ct e2) ∧ LInv n c g0 (ns.map .int) ZZ PL DS lv ds e2 := by
  obtain ⟨k, ps, o8, o11, rfl, pl, hk, hp, hd⟩ := h
  have kl : k < c := by
    rcases Nat.lt_or_ge k c with q | q
    · exact q
    · rw [show c - k = 0 by omega] at hd; simp at hd
  have hd2 : d = .int k ∧ ds = (List.range' (k + 1) (c - (k + 1))).map fun k : Nat => D.int k := by
    rw [show c - k = (c - (k + 1)) + 1 by omega, List.range'_succ, List.map_cons] at hd
    exact ⟨(List.cons.inj hd).1, (List.cons.inj hd).2⟩
  obtain ⟨rfl, rfl⟩ := hd2
  obtain ⟨v, hv⟩ := cell_ok ns (k := 2 + k) (by omega)
  have hv : f_L_cell [.lst (ns.map .int), .int (2 + (k : Int))] = .ok (.fr (.int v)) := by
    have e : ((2 + k : Nat) : Int) = 2 + (k : Int) := by omega
    rw [← e]
    exact hv
  obtain ⟨zs, zl, _, hz⟩ := numbers_ok v (m := 1) (by decide)
  have hz : f_L_numbers [.int v, .int 1] = .ok (.ow (zs.map .int)) := hz
  have i0 : fIx (.lst (zs.map .int)) (.int 0) = .ok (.fr (.int (zs.getD 0 0))) := fIx_lstI (xs := zs) (getD_some (k := 0) (by omega))
  generalize zs.getD 0 0 = y at i0
  have f1 : f_L_factorial [.int n] = .ok (.fr (.int (facN n))) := fac_ok (by omega)
  obtain ⟨a, ha, ma⟩ := mod_nat y (facN_pos n)
  obtain ⟨p, p1, pp⟩ := perm_ok (n := n) (by omega) ha
  have p1 : f_L_permutation [.int n, .int a] = .ok (.ow (p.map .int)) := p1
  have t1 : fTuple [.lst (p.map .int)] = .ok (.fr (tupI p)) := rfl
  have pln : p.length = n := by rw [pp.length_eq, rng_len]
  subst pl
  have gkk := gk_ok hp h0 ps.length
  have ag := graphs_app n g0 ps p
  have as := seg_app n g0 ps p
  have ar : (ps ++ [p]).map tupI = ps.map tupI ++ [tupI p] := by simp
  have ix1 := graphs_ix (n := n) (g0 := g0) (ps := ps) (c := ps.length + 1) (k := ps.length) (by omega)
  have ix2 : fIx (.lst ((ps ++ [p]).map tupI)) (.int ps.length) = .ok (.fr (tupI p)) := fIx_map tupI (by simp)
  have ix3 := graphs_ix (n := n) (g0 := g0) (ps := ps ++ [p]) (c := ps.length + 1 + 1) (k := ps.length) (by omega)
  have ix4 := graphs_ix (n := n) (g0 := g0) (ps := ps ++ [p]) (c := ps.length + 1 + 1) (k := ps.length + 1) (by omega)
  rw [FF_app (Nat.le_refl _)] at ix3
  rw [FF_new] at ix4
  have ix4 : fIx (.lst (graphsD n g0 (ps ++ [p]) (ps.length + 1 + 1))) (.int ((ps.length : Int) + 1)) = .ok (.fr (gD (n, pmoved p (gk g0 ps ps.length)))) := ix4
  have x1 : fIx (gD (FF n g0 ps ps.length)) (.int 1) = .ok (.fr (.tup ((gk g0 ps ps.length).map pr))) := rfl
  have mv := moved_is (.inl rfl) pln gkk.1 (by have := gkk.2.2; omega)
  have tg : fTup [.int n, .tup ((pmoved p (gk g0 ps ps.length)).map pr)] = .ok (.fr (gD (n, pmoved p (gk g0 ps ps.length)))) := rfl
  have mo := pmoved_ok pp gkk
  have md := made_is hn gkk.1 gkk.2.1 (by have := gkk.2.2; omega) mo.1 mo.2.1 (by have := mo.2.2; omega)
  have md : f_L_made [gD (FF n g0 ps ps.length), gD (n, pmoved p (gk g0 ps ps.length))] = .ok (.fr (stD (FF n g0 ps ps.length, (n, pmoved p (gk g0 ps ps.length))))) := md
  have l7 : (graphsD n g0 ps (ps.length + 1)).length < lim := by simp; unfold lim; omega
  have l9 : (ps.map tupI).length < lim := by simp; unfold lim; omega
  have l10 : ((seg (FF n g0 ps) 0 ps.length).map stD).length < lim := by simp [seg_len]; unfold lim; omega
  have jn : fAddL (.int ps.length) (.int 1) = .ok (.fr (.int ((ps.length : Int) + 1))) := rfl
  have j2 : fAddL (.int 2) (.int ps.length) = .ok (.fr (.int (2 + (ps.length : Int)))) := rfl
  refine ⟨_, [some (.fr (.lst (ns.map .int))), some (.ow ZZ), some (.fr (.int n)), some (.fr (.int c)), some (.ow PL), some (.ow DS), some (.fr (.int lv)), some (.ow (graphsD n g0 (ps ++ [p]) (ps.length + 1 + 1))), some (.fr (.int ps.length)), some (.ow ((ps ++ [p]).map tupI)), some (.ow ((seg (FF n g0 (ps ++ [p])) 0 (ps.length + 1)).map stD)), some (.fr (.int y)), none, none, none], rfl, .inl ?_, ps.length + 1, ps ++ [p], _, _, rfl, by simp, by omega, fun q m => ?_, rfl⟩
  · rw [ag] at ix3 ix4 ⊢
    rw [ar] at ix2 ⊢
    rw [as]
    clear ag ar as
    generalize stD (FF n g0 ps ps.length, (n, pmoved p (gk g0 ps ps.length))) = S at *
    generalize (seg (FF n g0 ps) 0 ps.length).map stD = TD at *
    generalize graphsD n g0 ps (ps.length + 1) = GS at *
    generalize gD (n, pmoved p (gk g0 ps ps.length)) = G2 at *
    generalize gD (FF n g0 ps ps.length) = G1 at *
    generalize D.tup ((pmoved p (gk g0 ps ps.length)).map pr) = A2 at *
    generalize D.tup ((gk g0 ps ps.length).map pr) = A1 at *
    generalize ps.map tupI = PD at *
    generalize p.map D.int = PI at *
    generalize tupI p = TP at *
    generalize ns.map D.int = NN at *
    generalize zs.map D.int = Z1 at *
    generalize (ps.length : Int) = K at *
    unfold LB1
    simp [runF, env0, fin, sSeq, sSet, sIf, sRet, sRetN, sRetV, sDrop, sFrz, frz, frz1, sNop, sTry, sTryAs, mAnd, mOr, mNot, mB, mBin, mUn, mCall, mCons, mNil, bCons, bNil, mBV, mVar, mC, mTest, tNotM, tAndM, tOrM, tYesM, DL.R.bind, DL.R.quiet, Sl.d, asB, mIf, j2, hv, hz, i0, fInt, f1, ma, p1, t1, sApp, l9, ix1, x1, ix2, mv, tg, l7, jn, ix3, ix4, md, l10]
  · rcases List.mem_append.mp m with m | m
    · exact hp q m
    · rw [List.mem_singleton.mp m]; exact pp
theorem prod_app {n : Nat} (hn : n ≤ 6) : ∀ {l r : List (List Int)}, l ≠ [] → r ≠ [] → (∀ p ∈ l, p.Perm (rng n)) → (∀ p ∈ r, p.Perm (rng n)) → prod (l ++ r) = pafter (prod l) (prod r)
  | [], _, h, _, _, _ => absurd rfl h
  | [a], [], _, h, _, _ => absurd rfl h
  | [a], b :: r, _, _, hl, hr => prod_cons hn (hl a List.mem_cons_self) (hr b List.mem_cons_self) fun c m => hr c (List.mem_cons_of_mem _ m)
  | a :: b :: l, r, _, h2, hl, hr => by
    have ha := hl a List.mem_cons_self
    have hb := hl b (List.mem_cons_of_mem _ List.mem_cons_self)
    have hl2 : ∀ c ∈ b :: l, c.Perm (rng n) := fun c m => hl c (List.mem_cons_of_mem _ m)
    have ih := prod_app hn (l := b :: l) (r := r) (by simp) h2 hl2 hr
    have e1 := prod_cons hn ha hb (l := l ++ r) fun c m => by
      rcases List.mem_append.mp m with m | m
      · exact hl2 c (List.mem_cons_of_mem _ m)
      · exact hr c m
    have e2 := prod_cons hn ha hb (l := l) fun c m => hl2 c (List.mem_cons_of_mem _ m)
    show prod (a :: b :: (l ++ r)) = _
    rw [e1, e2, pafter_assoc ha (prod_perm hn (by simp) hl2)]
    exact congrArg (pafter a) ih
/-! ### the first graph -/
theorem ps_tab : (List.range 7).all (fun n => decide ((pairsL n).Pairwise fun a b => leP a b = true)) = true := by decide +kernel
theorem sub_ok {n : Nat} (h : n ≤ 6) {es : List (Int × Int)} (hs : es.Sublist (pairsL n)) : GOK n es := by
  have pw : (pairsL n).Pairwise fun a b => leP a b = true := of_decide_eq_true (List.all_eq_true.mp ps_tab n (List.mem_range.mpr (by omega)))
  have ge := pl_ge h
  exact ⟨⟨fun e m => ge.1 e (hs.subset m), hs.nodup ge.2⟩, eqP_of_ordered (isortP_ordered es) (pw.sublist hs) (isort_permI _ _), Nat.le_trans hs.length_le (pl_len h)⟩
abbrev gT : En → R Bool := (mTest (mB (mBin fLt (mB (mBin fMod (mB (mCall fInt (bCons (mB (mBin fIx (mBV 5) (mBV 8))) bNil))) (mB (mC (.int 3))))) (mBV 6))))
theorem first_comp {n : Nat} (h : n ≤ 6) {xs : List Int} (hx : xs.length = (pairsL n).length) (lv : Int) (o0 o1 o2 o3 : Option Sl) : ∃ es : List (Int × Int), GOK n es ∧
    compL (Pt.nm 8).go gT (mBin fIx (mBV 4) (mBV 8)) [o0, o1, o2, o3, some (.ow ((pairsL n).map pr)), some (.ow (xs.map .int)), some (.fr (.int lv)), none, none, none, none, none, none, none, none] ((List.range (pairsL n).length).map fun k : Nat => D.int k) = .ok (es.map pr) := by
  refine ⟨((List.range (pairsL n).length).filter fun k => decide (xs.getD k 0 % 3 < lv)).map fun k => (pairsL n).getD k (0, 0), sub_ok h ?_, ?_⟩
  · have e : (List.range (pairsL n).length).map (fun k => (pairsL n).getD k (0, 0)) = pairsL n := by
      apply List.ext_getElem
      · simp
      · intro i h1 h2
        simp [List.getD, h2]
    conv => rhs; rw [← e]
    exact (List.filter_sublist).map _
  · rw [List.map_map]
    refine compL_filter fun k m => ?_
    have kl := List.mem_range.mp m
    have i1 : fIx (.lst (xs.map .int)) (.int k) = .ok (.fr (.int (xs.getD k 0))) := fIx_lstI (xs := xs) (getD_some (k := k) (by omega))
    have i2 : fIx (.lst ((pairsL n).map pr)) (.int k) = .ok (.fr (pr ((pairsL n).getD k (0, 0)))) := fIx_map pr (by rw [List.getElem?_eq_getElem kl]; simp [List.getD, kl])
    have m3 : ∀ z : Int, fMod (.int z) (.int 3) = .ok (.fr (.int (z % 3))) := fun _ => rfl
    have lt : ∀ a b : Int, fLt (.int a) (.int b) = .ok (.fr (.bl (decide (a < b)))) := fun _ _ => rfl
    refine ⟨_, rfl, ?_, fun _ => ⟨.fr (pr ((pairsL n).getD k (0, 0))), ?_, rfl⟩⟩
    · generalize xs.getD k 0 = z at *
      generalize xs.map D.int = XX at *
      generalize (pairsL n).map pr = PL at *
      simp [runF, env0, fin, sSeq, sSet, sIf, sRet, sRetN, sRetV, sDrop, sFrz, frz, frz1, sNop, sTry, sTryAs, mAnd, mOr, mNot, mB, mBin, mUn, mCall, mCons, mNil, bCons, bNil, mBV, mVar, mC, mTest, tNotM, tAndM, tOrM, tYesM, DL.R.bind, DL.R.quiet, Sl.d, asB, mIf, i1, fInt, m3, lt]
    · generalize pr ((pairsL n).getD k (0, 0)) = P at *
      generalize xs.map D.int = XX at *
      generalize (pairsL n).map pr = PL at *
      simp [runF, env0, fin, sSeq, sSet, sIf, sRet, sRetN, sRetV, sDrop, sFrz, frz, frz1, sNop, sTry, sTryAs, mAnd, mOr, mNot, mB, mBin, mUn, mCall, mCons, mNil, bCons, bNil, mBV, mVar, mC, mTest, tNotM, tAndM, tOrM, tYesM, DL.R.bind, DL.R.quiet, Sl.d, asB, mIf, i2]
end K15
set_option Elab.async false
set_option linter.all false
set_option maxRecDepth 100000
set_option maxHeartbeats 16000000
namespace K15
open PySem PySem.Spec L2 DL DM
open PyProof.Rows hiding St
theorem lent_bl {F : Fn} {ds : List D} {b : Bool} (h : F ds = .ok (.fr (.bl b))) : lent F ds = .ok (.fr (.bl b)) := by unfold lent; rw [h]; rfl
abbrev LB2 : MS := (sIf (tOrM (tNotM (mTest (mB (mCall (lent f_L_stretch) (bCons (mBV 10) (bCons (mBV 7) (bCons (mBV 9) (bCons (mB (mC (.int 0))) (bCons (mB (mBin fAddL (mBV 8) (mB (mC (.int 1))))) bNil))))))))) (tNotM (mTest (mB (mCall (lent f_L_stretch) (bCons (mBV 10) (bCons (mBV 7) (bCons (mBV 9) (bCons (mBV 8) (bCons (mBV 3) bNil)))))))))) (sRet (mC (.bl false))) sNop)
abbrev LB3 : MS := (sSeq (sIf (tNotM (mTest (mB (mCall f_L_same (mCons (mCall f_joined_alike (mCons (mCall f_L_join (mCons (mSl (mBV 10) oNone (oSome (mBV 14))) mNil)) (mCons (mCall f_L_join (mCons (mSl (mBV 10) (oSome (mBV 14)) oNone) mNil)) mNil))) (mCons (mVar 12) mNil)))))) (sRet (mC (.bl false))) sNop)
    (sIf (tNotM (mTest (mB (mCall (lent f_L_same) (bCons (mB (mCall f_joined_witness (mCons (mCall f_L_chain (mCons (mSl (mBV 9) oNone (oSome (mBV 14))) mNil)) (mCons (mCall f_L_chain (mCons (mSl (mBV 9) (oSome (mBV 14)) oNone) mNil)) mNil)))) (bCons (mBV 13) bNil)))))) (sRet (mC (.bl false))) sNop))
abbrev LB4 : MS := (sIf (tNotM (mTest (mB (mCall f_L_same (mCons (mBin fIx (mBV 10) (mBV 8)) (mCons (mCall fTup (mCons (mC (.str (Str.ofString "alike"))) (mCons (mBin fIx (mBV 7) (mBV 8)) (mCons (mBin fIx (mBV 7) (mB (mBin fAddL (mBV 8) (mB (mC (.int 1)))))) mNil)))) mNil)))))) (sRet (mC (.bl false))) sNop)
section
variable {n : Nat} {g0 : List (Int × Int)} {ps : List (List Int)} {c : Nat}
theorem loop2 (hn : n ≤ 6) (hp : ∀ p ∈ ps, p.Perm (rng n)) (h : GOK n g0) (hc : ps.length = c) (hc5 : c ≤ 5) (o0 o1 o2 o4 o5 o6 o8 o11 : Option Sl) :
    ∃ q, DL.forM (Pt.nm 8).go LB2 ((List.range c).map fun k : Nat => D.int k) [o0, o1, o2, some (.fr (.int c)), o4, o5, o6, some (.ow (graphsD n g0 ps (c + 1))), o8, some (.ow (ps.map tupI)), some (.ow ((seg (FF n g0 ps) 0 c).map stD)), o11, none, none, none] =
      .nx [o0, o1, o2, some (.fr (.int c)), o4, o5, o6, some (.ow (graphsD n g0 ps (c + 1))), q, some (.ow (ps.map tupI)), some (.ow ((seg (FF n g0 ps) 0 c).map stD)), o11, none, none, none] := by
  refine forM_each (i := 8) (f := fun k : Nat => D.int k) (env := [o0, o1, o2, some (.fr (.int c)), o4, o5, o6, some (.ow (graphsD n g0 ps (c + 1))), none, some (.ow (ps.map tupI)), some (.ow ((seg (FF n g0 ps) 0 c).map stD)), o11, none, none, none]) (List.range c) o8 fun k m => ?_
  have kl := List.mem_range.mp m
  refine ⟨[o0, o1, o2, some (.fr (.int c)), o4, o5, o6, some (.ow (graphsD n g0 ps (c + 1))), some (.fr (.int k)), some (.ow (ps.map tupI)), some (.ow ((seg (FF n g0 ps) 0 c).map stD)), o11, none, none, none], ?_, some (.fr (.int k)), rfl⟩
  have s1 := lent_bl (stretch_ok hn hp h (a := 0) (b := k + 1) hc hc5 (by omega) (by omega))
  have s1 : lent f_L_stretch [.lst ((seg (FF n g0 ps) 0 c).map stD), .lst (graphsD n g0 ps (c + 1)), .lst (ps.map tupI), .int 0, .int ((k : Int) + 1)] = .ok (.fr (.bl true)) := s1
  have s2 := lent_bl (stretch_ok hn hp h (a := k) (b := c) hc hc5 (by omega) (by omega))
  have jn : fAddL (.int k) (.int 1) = .ok (.fr (.int ((k : Int) + 1))) := rfl
  show LB2 [o0, o1, o2, some (.fr (.int c)), o4, o5, o6, some (.ow (graphsD n g0 ps (c + 1))), some (.fr (.int k)), some (.ow (ps.map tupI)), some (.ow ((seg (FF n g0 ps) 0 c).map stD)), o11, none, none, none] = _
  generalize graphsD n g0 ps (c + 1) = GS at *
  generalize (seg (FF n g0 ps) 0 c).map stD = TD at *
  generalize ps.map tupI = PD at *
  unfold LB2
  simp [runF, env0, fin, sSeq, sSet, sIf, sRet, sRetN, sRetV, sDrop, sFrz, frz, frz1, sNop, sTry, sTryAs, mAnd, mOr, mNot, mB, mBin, mUn, mCall, mCons, mNil, bCons, bNil, mBV, mVar, mC, mTest, tNotM, tAndM, tOrM, tYesM, DL.R.bind, DL.R.quiet, Sl.d, asB, mIf, jn, s1, s2]
theorem loop3 (hn : n ≤ 6) (hp : ∀ p ∈ ps, p.Perm (rng n)) (h : GOK n g0) (hc : ps.length = c) (hc5 : 1 ≤ c ∧ c ≤ 5) (o0 o1 o2 o4 o5 o6 o7 o8 o11 o14 : Option Sl) :
    ∃ q, DL.forM (Pt.nm 14).go LB3 ((List.range (c - 1)).map fun k : Nat => D.int (1 + (k : Int))) [o0, o1, o2, some (.fr (.int c)), o4, o5, o6, o7, o8, some (.fr (.lst (ps.map tupI))), some (.ow ((seg (FF n g0 ps) 0 c).map stD)), o11, some (.fr (stD (FF n g0 ps 0, FF n g0 ps c))), some (.fr (tupI (prod ps))), o14] =
      .nx [o0, o1, o2, some (.fr (.int c)), o4, o5, o6, o7, o8, some (.fr (.lst (ps.map tupI))), some (.ow ((seg (FF n g0 ps) 0 c).map stD)), o11, some (.fr (stD (FF n g0 ps 0, FF n g0 ps c))), some (.fr (tupI (prod ps))), q] := by
  refine forM_each (i := 14) (f := fun k : Nat => D.int (1 + (k : Int))) (env := [o0, o1, o2, some (.fr (.int c)), o4, o5, o6, o7, o8, some (.fr (.lst (ps.map tupI))), some (.ow ((seg (FF n g0 ps) 0 c).map stD)), o11, some (.fr (stD (FF n g0 ps 0, FF n g0 ps c))), some (.fr (tupI (prod ps))), none]) (List.range (c - 1)) o14 fun k0 m => ?_
  obtain ⟨k, hk⟩ : ∃ k, 1 + k0 = k := ⟨_, rfl⟩
  have kl : 1 ≤ k ∧ k < c := by have := List.mem_range.mp m; omega
  have ek : (1 : Int) + (k0 : Int) = (k : Int) := by omega
  refine ⟨[o0, o1, o2, some (.fr (.int c)), o4, o5, o6, o7, o8, some (.fr (.lst (ps.map tupI))), some (.ow ((seg (FF n g0 ps) 0 c).map stD)), o11, some (.fr (stD (FF n g0 ps 0, FF n g0 ps c))), some (.fr (tupI (prod ps))), some (.fr (.int k))], ?_, some (.fr (.int k)), rfl⟩
  show LB3 [o0, o1, o2, some (.fr (.int c)), o4, o5, o6, o7, o8, some (.fr (.lst (ps.map tupI))), some (.ow ((seg (FF n g0 ps) 0 c).map stD)), o11, some (.fr (stD (FF n g0 ps 0, FF n g0 ps c))), some (.fr (tupI (prod ps))), some (.fr (.int (1 + (k0 : Int))))] = _
  rw [ek]
  have t1 : fSl (.lst ((seg (FF n g0 ps) 0 c).map stD)) none (some (k : Int)) = .ok (.ow ((seg (FF n g0 ps) 0 k).map stD)) := by
    rw [fSl_lto stD (by rw [seg_len]; omega), seg_take _ (by omega)]
  have t2 : fSl (.lst ((seg (FF n g0 ps) 0 c).map stD)) (some (k : Int)) none = .ok (.ow ((seg (FF n g0 ps) k (c - k)).map stD)) := by
    rw [fSl_lfrom stD (by rw [seg_len]; omega), seg_drop _ (by omega)]
  have j1 := ljoin_seg (FF n g0 ps) 0 (m := k) (by omega)
  rw [Nat.zero_add] at j1
  have j2 := ljoin_seg (FF n g0 ps) k (m := c - k) (by omega)
  rw [show k + (c - k) = c by omega] at j2
  have j3 := join_is (p := (FF n g0 ps 0, FF n g0 ps k)) (ps := [(FF n g0 ps k, FF n g0 ps c)]) (by simp)
  have lk : linked (FF n g0 ps 0, FF n g0 ps k) [(FF n g0 ps k, FF n g0 ps c)] = true := by
    show (decide (FF n g0 ps k = FF n g0 ps k) && true) = true
    simp
  rw [if_pos lk] at j3
  have j3 : f_joined_alike [stD (FF n g0 ps 0, FF n g0 ps k), stD (FF n g0 ps k, FF n g0 ps c)] = .ok (.fr (stD (FF n g0 ps 0, FF n g0 ps c))) := j3
  have g1 := gk_ok hp h 0
  have g2 := gk_ok hp h c
  have q1 := same_is (good_st (p := (FF n g0 ps 0, FF n g0 ps c)) (by show (gk g0 ps 0).length ≤ 1000; have := g1.2.2; omega) (by show (gk g0 ps c).length ≤ 1000; have := g2.2.2; omega))
  have r1 := fSl_lto tupI (xs := ps) (k := k) (by omega)
  have r2 := fSl_lfrom tupI (xs := ps) (k := k) (by omega)
  have n1 : ps.take k ≠ [] := by intro q; have := congrArg List.length q; rw [List.length_take, List.length_nil] at this; omega
  have n2 : ps.drop k ≠ [] := by intro q; have := congrArg List.length q; rw [List.length_drop, List.length_nil] at this; omega
  have p1 : ∀ p ∈ ps.take k, p.Perm (rng n) := fun p m => hp p (List.mem_of_mem_take m)
  have p2 : ∀ p ∈ ps.drop k, p.Perm (rng n) := fun p m => hp p (List.mem_of_mem_drop m)
  have c1 := lchain_good hn n1 (by simp; omega) p1
  have c2 := lchain_good hn n2 (by simp; omega) p2
  have c3 := wit_good hn (l := [prod (ps.take k), prod (ps.drop k)]) (by simp) (by simp) (by
    intro b m
    rcases List.mem_cons.mp m with rfl | m
    · exact prod_perm hn n1 p1
    · rw [List.mem_singleton.mp m]; exact prod_perm hn n2 p2)
  have e : prod [prod (ps.take k), prod (ps.drop k)] = prod ps := by
    show pafter (prod (ps.take k)) (prod (ps.drop k)) = _
    rw [← prod_app hn n1 n2 p1 p2, List.take_append_drop]
  rw [e] at c3
  have c3 : f_joined_witness [tupI (prod (ps.take k)), tupI (prod (ps.drop k))] = .ok (.fr (tupI (prod ps))) := c3
  have pl : (prod ps).length = n := by rw [(prod_perm hn (by intro q; rw [q] at hc; simp at hc; omega) hp).length_eq, rng_len]
  have q2 := lsame_is (good_ints (k := 6) (xs := prod ps) (by omega))
  clear e
  generalize (seg (FF n g0 ps) 0 k).map stD = T1 at *
  generalize (seg (FF n g0 ps) k (c - k)).map stD = T2 at *
  generalize (seg (FF n g0 ps) 0 c).map stD = TD at *
  generalize stD (FF n g0 ps 0, FF n g0 ps k) = S1 at *
  generalize stD (FF n g0 ps k, FF n g0 ps c) = S2 at *
  generalize stD (FF n g0 ps 0, FF n g0 ps c) = S3 at *
  generalize tupI (prod (ps.take k)) = W1 at *
  generalize tupI (prod (ps.drop k)) = W2 at *
  generalize tupI (prod ps) = W3 at *
  generalize (ps.take k).map tupI = R1 at *
  generalize (ps.drop k).map tupI = R2 at *
  generalize ps.map tupI = PD at *
  unfold LB3
  simp [runF, env0, fin, sSeq, sSet, sIf, sRet, sRetN, sRetV, sDrop, sFrz, frz, frz1, sNop, sTry, sTryAs, mAnd, mOr, mNot, mB, mBin, mUn, mCall, mCons, mNil, bCons, bNil, mBV, mVar, mC, mTest, tNotM, tAndM, tOrM, tYesM, DL.R.bind, DL.R.quiet, Sl.d, asB, mIf, mSl, oSome, oNone, asI, t1, t2, j1, j2, j3, q1, r1, r2, c1, c2, c3, q2]
theorem loop4 (hp : ∀ p ∈ ps, p.Perm (rng n)) (h : GOK n g0) (o0 o1 o2 o3 o4 o5 o6 o8 o9 o11 o12 o13 o14 : Option Sl) :
    ∃ q, DL.forM (Pt.nm 8).go LB4 ((List.range c).map fun k : Nat => D.int k) [o0, o1, o2, o3, o4, o5, o6, some (.ow (graphsD n g0 ps (c + 1))), o8, o9, some (.ow ((seg (FF n g0 ps) 0 c).map stD)), o11, o12, o13, o14] =
      .nx [o0, o1, o2, o3, o4, o5, o6, some (.ow (graphsD n g0 ps (c + 1))), q, o9, some (.ow ((seg (FF n g0 ps) 0 c).map stD)), o11, o12, o13, o14] := by
  refine forM_each (i := 8) (f := fun k : Nat => D.int k) (env := [o0, o1, o2, o3, o4, o5, o6, some (.ow (graphsD n g0 ps (c + 1))), none, o9, some (.ow ((seg (FF n g0 ps) 0 c).map stD)), o11, o12, o13, o14]) (List.range c) o8 fun k m => ?_
  have kl := List.mem_range.mp m
  refine ⟨[o0, o1, o2, o3, o4, o5, o6, some (.ow (graphsD n g0 ps (c + 1))), some (.fr (.int k)), o9, some (.ow ((seg (FF n g0 ps) 0 c).map stD)), o11, o12, o13, o14], ?_, some (.fr (.int k)), rfl⟩
  have i1 := seg_ix (F := FF n g0 ps) kl
  have i2 := graphs_ix (n := n) (g0 := g0) (ps := ps) (c := c + 1) (k := k) (by omega)
  have i3 := graphs_ix (n := n) (g0 := g0) (ps := ps) (c := c + 1) (k := k + 1) (by omega)
  have i3 : fIx (.lst (graphsD n g0 ps (c + 1))) (.int ((k : Int) + 1)) = .ok (.fr (gD (FF n g0 ps (k + 1)))) := i3
  have t : fTup [sA, gD (FF n g0 ps k), gD (FF n g0 ps (k + 1))] = .ok (.fr (stD (FF n g0 ps k, FF n g0 ps (k + 1)))) := rfl
  have g1 := gk_ok hp h k
  have g2 := gk_ok hp h (k + 1)
  have q1 := same_is (good_st (p := (FF n g0 ps k, FF n g0 ps (k + 1))) (by show (gk g0 ps k).length ≤ 1000; have := g1.2.2; omega) (by show (gk g0 ps (k + 1)).length ≤ 1000; have := g2.2.2; omega))
  have jn : fAddL (.int k) (.int 1) = .ok (.fr (.int ((k : Int) + 1))) := rfl
  show LB4 [o0, o1, o2, o3, o4, o5, o6, some (.ow (graphsD n g0 ps (c + 1))), some (.fr (.int k)), o9, some (.ow ((seg (FF n g0 ps) 0 c).map stD)), o11, o12, o13, o14] = _
  generalize graphsD n g0 ps (c + 1) = GS at *
  generalize (seg (FF n g0 ps) 0 c).map stD = TD at *
  generalize stD (FF n g0 ps k, FF n g0 ps (k + 1)) = S1 at *
  generalize gD (FF n g0 ps k) = G1 at *
  generalize gD (FF n g0 ps (k + 1)) = G2 at *
  unfold LB4
  simp [runF, env0, fin, sSeq, sSet, sIf, sRet, sRetN, sRetV, sDrop, sFrz, frz, frz1, sNop, sTry, sTryAs, mAnd, mOr, mNot, mB, mBin, mUn, mCall, mCons, mNil, bCons, bNil, mBV, mVar, mC, mTest, tNotM, tAndM, tOrM, tYesM, DL.R.bind, DL.R.quiet, Sl.d, asB, mIf, i1, i2, i3, jn, t, q1]
end
theorem f_law_true (ns : List Int) (hl : ns.length ≤ 63) : f_law [.lst (ns.map .int)] = .ok (.fr (.bl true)) := by
  obtain ⟨v0, hv0⟩ := cell_ok ns (k := 0) (by decide)
  obtain ⟨v1, hv1⟩ := cell_ok ns (k := 1) (by decide)
  have hv0 : f_L_cell [.lst (ns.map .int), .int 0] = .ok (.fr (.int v0)) := hv0
  have hv1 : f_L_cell [.lst (ns.map .int), .int 1] = .ok (.fr (.int v1)) := hv1
  obtain ⟨zs, zl, zb, hz⟩ := numbers_ok v0 (m := 16) (by decide)
  have hz : f_L_numbers [.int v0, .int 16] = .ok (.ow (zs.map .int)) := hz
  have i0 : fIx (.lst (zs.map .int)) (.int 0) = .ok (.fr (.int (zs.getD 0 0))) := fIx_lstI (xs := zs) (getD_some (k := 0) (by omega))
  have i1 : fIx (.lst (zs.map .int)) (.int 1) = .ok (.fr (.int (zs.getD 1 0))) := fIx_lstI (xs := zs) (getD_some (k := 1) (by omega))
  have i2 : fIx (.lst (zs.map .int)) (.int 2) = .ok (.fr (.int (zs.getD 2 0))) := fIx_lstI (xs := zs) (getD_some (k := 2) (by omega))
  have c3 : fSl (.lst (zs.map .int)) (some 3) none = .ok (.ow ((zs.drop 3).map .int)) := fSl_lfrom D.int (xs := zs) (k := 3) (by omega)
  have c10 : fSl (.lst (zs.map .int)) (some 10) none = .ok (.ow ((zs.drop 10).map .int)) := fSl_lfrom D.int (xs := zs) (k := 10) (by omega)
  generalize zs.getD 0 0 = z0 at *
  generalize zs.getD 1 0 = z1 at *
  generalize zs.getD 2 0 = z2 at *
  obtain ⟨k0, hk0, m6⟩ := mod_nat z0 (n := 6) (by decide)
  have m6 : fMod (.int z0) (.int 6) = .ok (.fr (.int k0)) := m6
  obtain ⟨n, hn⟩ : ∃ n, 1 + k0 = n := ⟨_, rfl⟩
  have nb : 1 ≤ n ∧ n ≤ 6 := by omega
  have en : fAddL (.int 1) (.int k0) = .ok (.fr (.int n)) := by rw [fAddL_int, show (1 : Int) + (k0 : Int) = (n : Int) by omega]
  obtain ⟨k1, hk1, m5⟩ := mod_nat z1 (n := 5) (by decide)
  have m5 : fMod (.int z1) (.int 5) = .ok (.fr (.int k1)) := m5
  obtain ⟨c, hc⟩ : ∃ c, 1 + k1 = c := ⟨_, rfl⟩
  have cb : 1 ≤ c ∧ c ≤ 5 := by omega
  have ec : fAddL (.int 1) (.int k1) = .ok (.fr (.int c)) := by rw [fAddL_int, show (1 : Int) + (k1 : Int) = (c : Int) by omega]
  have np := np_is nb.2
  have nl : fLen [.lst ((pairsL n).map pr)] = .ok (.fr (.int (pairsL n).length)) := fLen_map pr _
  have pl := pl_len nb.2
  obtain ⟨xs, xl, xb, hx⟩ := numbers_ok v1 (m := (pairsL n).length) (by omega)
  have hx : f_L_numbers [.int v1, .int (pairsL n).length] = .ok (.ow (xs.map .int)) := hx
  have b5 := emod_b z2 (n := 5) (by decide)
  have m52 : fMod (.int z2) (.int 5) = .ok (.fr (.int (z2 % 5))) := rfl
  have hlv := ints_at (xs := [1, 2, 2, 3, 0]) (i := z2 % 5) ⟨b5.1, b5.2⟩
  generalize at0 [1, 2, 2, 3, 0] (z2 % 5) = lv at hlv
  have hlv : fIx (.lst [.int 1, .int 2, .int 2, .int 3, .int 0]) (.int (z2 % 5)) = .ok (.fr (.int lv)) := hlv
  have L5 : fLst [.int 1, .int 2, .int 2, .int 3, .int 0] = .ok (.ow [.int 1, .int 2, .int 2, .int 3, .int 0]) := rfl
  obtain ⟨g0, h0, fc⟩ := first_comp nb.2 xl lv (some (.fr (.lst (ns.map .int)))) (some (.ow (zs.map .int))) (some (.fr (.int n))) (some (.fr (.int c)))
  have tg : fTuple [.lst (g0.map pr)] = .ok (.fr (.tup (g0.map pr))) := rfl
  have tt : fTup [.int n, .tup (g0.map pr)] = .ok (.fr (gD (n, g0))) := rfl
  have lg : fLst [gD (n, g0)] = .ok (.ow [gD (n, g0)]) := rfl
  -- the loop that makes them
  obtain ⟨env, lp, li⟩ := forM_inv (as := (Pt.nm 8).go) (b := LB1) (P := LInv n c g0 (ns.map .int) (zs.map .int) ((pairsL n).map pr) (xs.map .int) lv) (lstep nb cb.2 h0) (rangeD 0 c)
    [some (.fr (.lst (ns.map .int))), some (.ow (zs.map .int)), some (.fr (.int n)), some (.fr (.int c)), some (.ow ((pairsL n).map pr)), some (.ow (xs.map .int)), some (.fr (.int lv)), some (.ow [gD (n, g0)]), none, some (.ow []), some (.ow []), none, none, none, none]
    ⟨0, [], none, none, rfl, rfl, by omega, by simp, by rw [rangeD_nat, Nat.sub_zero, List.range_eq_range']⟩
  obtain ⟨k, ps, o8, o11, rfl, kl, kc, hp, hd⟩ := li
  have kc : k = c := by
    rcases Nat.lt_or_ge k c with q | q
    · rw [show c - k = (c - (k + 1)) + 1 by omega, List.range'_succ] at hd
      simp at hd
    · omega
  subst kc
  have pne : ps ≠ [] := by intro q; rw [q] at kl; simp at kl; omega
  obtain ⟨q8, l2⟩ := loop2 nb.2 hp h0 kl cb.2 (some (.fr (.lst (ns.map .int)))) (some (.ow (zs.map .int))) (some (.fr (.int n))) (some (.ow ((pairsL n).map pr))) (some (.ow (xs.map .int))) (some (.fr (.int lv))) o8 o11
  obtain ⟨q14, l3⟩ := loop3 nb.2 hp h0 kl cb (some (.fr (.lst (ns.map .int)))) (some (.ow (zs.map .int))) (some (.fr (.int n))) (some (.ow ((pairsL n).map pr))) (some (.ow (xs.map .int))) (some (.fr (.int lv))) (some (.ow (graphsD n g0 ps (k + 1)))) q8 o11 none
  obtain ⟨w8, l4⟩ := loop4 (c := k) hp h0 (some (.fr (.lst (ns.map .int)))) (some (.ow (zs.map .int))) (some (.fr (.int n))) (some (.fr (.int k))) (some (.ow ((pairsL n).map pr))) (some (.ow (xs.map .int))) (some (.fr (.int lv))) q8 (some (.fr (.lst (ps.map tupI)))) o11 (some (.fr (stD (FF n g0 ps 0, FF n g0 ps k)))) (some (.fr (tupI (prod ps)))) q14
  have ix0 := graphs_ix (n := n) (g0 := g0) (ps := ps) (c := k + 1) (k := 0) (by omega)
  have ix0 : fIx (.lst (graphsD n g0 ps (k + 1))) (.int 0) = .ok (.fr (gD (FF n g0 ps 0))) := ix0
  have ixk := graphs_ix (n := n) (g0 := g0) (ps := ps) (c := k + 1) (k := k) (by omega)
  have td : fTup [sA, gD (FF n g0 ps 0), gD (FF n g0 ps k)] = .ok (.fr (stD (FF n g0 ps 0, FF n g0 ps k))) := rfl
  have pv := product_is nb.2 pne hp
  have wj := lent_bl (wrongj_ok nb hp h0 kl cb (zs := zs.drop 3) (by simp; omega))
  have wc := lent_bl (wrongc_ok nb hp kl cb (zs := zs.drop 10) (by simp; omega))
  have t0 : fTup [] = .ok (.fr (.tup [])) := rfl
  have r0 : ([] : List Int).Perm (rng 0) := .refl _
  have w1 := wit_good (n := 0) (by omega) (l := [[]]) (by simp) (by simp) (by intro b m; rw [List.mem_singleton.mp m]; exact r0)
  have w1 : f_joined_witness [.tup []] = .ok (.fr (.tup [])) := w1
  have w3 := wit_good (n := 0) (by omega) (l := [[], [], []]) (by simp) (by simp) (by intro b m; simp at m; rw [m]; exact r0)
  have w3 : f_joined_witness [.tup [], .tup [], .tup []] = .ok (.fr (.tup [])) := w3
  have s0 : f_L_same [.tup [], .tup []] = .ok (.fr (.bl true)) := same_is rfl
  have jf := ljoin_seg (FF n g0 ps) 0 (m := k) cb
  rw [Nat.zero_add] at jf
  have cf := lchain_good nb.2 pne (by omega) hp
  have g1 := gk_ok hp h0 0
  have g2 := gk_ok hp h0 k
  have q1 := same_is (good_st (p := (FF n g0 ps 0, FF n g0 ps k)) (by show (gk g0 ps 0).length ≤ 1000; have := g1.2.2; omega) (by show (gk g0 ps k).length ≤ 1000; have := g2.2.2; omega))
  have pl2 : (prod ps).length = n := by rw [(prod_perm nb.2 pne hp).length_eq, rng_len]
  have q2 := lsame_is (good_ints (k := 6) (xs := prod ps) (by omega))
  have l5 : (k : Int) ≤ big ∧ -big ≤ (k : Int) := by unfold big; omega
  have l6 : ((pairsL n).length : Int) ≤ big ∧ -big ≤ ((pairsL n).length : Int) := by unfold big; omega
  have l7 : ((List.range (pairsL n).length).map fun k : Nat => D.int k).length ≤ lim := by simp; unfold lim; omega
  have ln : fLst [] = .ok (.ow []) := rfl
  have rr := rangeD_nat (pairsL n).length
  have rk := rangeD_nat k
  have r1 : rangeD 1 (k - 1) = (List.range (k - 1)).map fun k : Nat => D.int (1 + (k : Int)) := rfl
  have one : -big ≤ (1 : Int) ∧ (1 : Int) ≤ big := by unfold big; omega
  rw [rk] at lp
  unfold f_law m_law
  obtain ⟨B1, hB1⟩ : ∃ m, LB1 = m := ⟨_, rfl⟩
  have hB1' := hB1
  unfold LB1 at hB1'
  obtain ⟨B2, hB2⟩ : ∃ m, LB2 = m := ⟨_, rfl⟩
  have hB2' := hB2
  unfold LB2 at hB2'
  obtain ⟨B3, hB3⟩ : ∃ m, LB3 = m := ⟨_, rfl⟩
  have hB3' := hB3
  unfold LB3 at hB3'
  obtain ⟨B4, hB4⟩ : ∃ m, LB4 = m := ⟨_, rfl⟩
  have hB4' := hB4
  unfold LB4 at hB4'
  obtain ⟨GT, hG⟩ : ∃ m, gT = m := ⟨_, rfl⟩
  have hG' := hG
  unfold gT at hG'
  rw [hB1', hB2', hB3', hB4', hG']
  rw [hB1] at lp
  rw [hB2] at l2
  rw [hB3] at l3
  rw [hB4] at l4
  rw [hG] at fc
  clear hB1 hB1' hB2 hB2' hB3 hB3' hB4 hB4' hG hG' hd xb zb
  generalize (zs.drop 3).map D.int = Z3 at *
  generalize (zs.drop 10).map D.int = Z10 at *
  generalize zs.map D.int = ZZ at *
  generalize xs.map D.int = XX at *
  generalize ns.map D.int = NN at *
  generalize (List.range (pairsL n).length).map (fun k : Nat => D.int k) = RP at *
  generalize (List.range k).map (fun k : Nat => D.int k) = RK at *
  generalize (List.range (k - 1)).map (fun k : Nat => D.int (1 + (k : Int))) = RK1 at *
  generalize (pairsL n).map pr = PL at *
  generalize graphsD n g0 ps (k + 1) = GS at *
  generalize (seg (FF n g0 ps) 0 k).map stD = TD at *
  generalize stD (FF n g0 ps 0, FF n g0 ps k) = DUE at *
  generalize gD (FF n g0 ps 0) = GA at *
  generalize gD (FF n g0 ps k) = GB at *
  generalize tupI (prod ps) = WH at *
  generalize ps.map tupI = PD at *
  generalize gD (n, g0) = G0' at *
  generalize D.tup (g0.map pr) = T0 at *
  generalize g0.map pr = GM at *
  simp [runF, env0, fin, sSeq, sSet, sIf, sRet, sRetN, sRetV, sDrop, sFrz, frz, frz1, sNop, sTry, sTryAs, mAnd, mOr, mNot, mB, mBin, mUn, mCall, mCons, mNil, bCons, bNil, mBV, mVar, mC, mTest, tNotM, tAndM, tOrM, tYesM, DL.R.bind, DL.R.quiet, Sl.d, asB, mIf, hv0, hz, i0, fInt, m6, en, i1, m5, ec, np, hv1, nl, hx, L5, i2, m52, hlv, mComp, mRng1, l6, rr, wipeE, l7, fc, tg, tt, lg, sFor, l5, rk, lp, l2, ix0, ixk, td, pv, mRng2, one, r1, l3, mSl, oSome, oNone, asI, c3, wj, c10, wc, t0, w1, s0, w3, l4, jf, q1, cf, q2, ln]
end K15
set_option Elab.async false
set_option linter.all false
set_option maxRecDepth 100000
set_option maxHeartbeats 4000000
namespace K15
open PySem PySem.Spec L2 DL
open PyProof.Rows hiding St

def gOf (C : List Addr) : G0 := ⟨fun i => C.getD i 0, fun _ => []⟩
def spL (K : PySem.W.Frag) : Sp := fun vs H Q _ => ∃ (a : Addr) (ns : List Int), vs = [.ref a] ∧ SqL K H a (ns.map V.int) ∧ ns.length ≤ 63 ∧ ∀ H', Q (.bl true) H'
theorem prom_law (hf : ∀ ns : List Int, ns.length ≤ 63 → f_law [.lst (ns.map .int)] = .ok (.fr (.bl true))) {K : PySem.W.Frag} {g : G0} : ∀ vs H Q E, spL K vs H Q E → Prom K g f_law vs H Q E := fun vs H Q E ⟨a, ns, e, hs, hl, k⟩ => prom_of e hs (hf ns hl) k
theorem all_mk (hf : ∀ ns : List Int, ns.length ≤ 63 → f_law [.lst (ns.map .int)] = .ok (.fr (.bl true))) {P : Program} {w : World} {K : PySem.W.Frag} {h : Heap} {mg : Str → Option Value} {fa C0 C1 C2 C3 C4 C5 f0 f1 f2 f3 f4 f5 f6 f7 f8 f9 f10 f11 f12 f13 f14 f15 f16 f17 f18 f19 f20 f21 f22 f23 f24 f25 f26 f27 f28 f29 f30 f31 f32 f33 f34 f35 f36 f37 f38 f39 f40 f41 f42 f43 f44 f45 f46 f47 f48 f49 f50 f51 f52 f53 f54 Td19 : Addr} (X : K.In h) (G : h.Ns mainGlobals mg) (hfa : mg "law" = some (.ref fa))
    {od0 an0 od1 an1 od2 an2 od3 an3 od4 an4 od5 an5 od6 an6 od7 an7 od8 an8 od9 an9 od10 an10 od11 an11 od12 an12 od13 an13 od14 an14 od15 an15 od16 an16 od17 an17 od18 an18 od19 an19 od20 an20 od21 an21 od22 an22 od23 an23 od24 an24 od25 an25 od26 an26 od27 an27 od28 an28 od29 an29 od30 an30 od31 an31 od32 an32 od33 an33 od34 an34 od35 an35 od36 an36 od37 an37 od38 an38 od39 an39 od40 an40 od41 an41 od42 an42 od43 an43 od44 an44 od45 an45 od46 an46 od47 an47 od48 an48 od49 an49 od50 an50 od51 an51 od52 an52 od53 an53 od54 an54 : Option Addr} {sl0 sl1 sl2 sl3 sl4 sl5 sl6 sl7 sl8 sl9 sl10 sl11 sl12 sl13 sl14 sl15 sl16 sl17 sl18 sl19 sl20 sl21 sl22 sl23 sl24 sl25 sl26 sl27 sl28 sl29 sl30 sl31 sl32 sl33 sl34 sl35 sl36 sl37 sl38 sl39 sl40 sl41 sl42 sl43 sl44 sl45 sl46 sl47 sl48 sl49 sl50 sl51 sl52 sl53 sl54 : Array (Option Value)} {oc0 kV0 dc0 pm0 cd0 ct0 oc1 kV1 dc1 pm1 cd1 ct1 oc2 kV2 dc2 pm2 cd2 ct2 oc3 kV3 dc3 pm3 cd3 ct3 oc4 kV4 dc4 pm4 cd4 ct4 oc5 kV5 dc5 pm5 cd5 ct5 oc6 kV6 dc6 pm6 cd6 ct6 oc7 kV7 dc7 pm7 cd7 ct7 oc8 kV8 dc8 pm8 cd8 ct8 oc9 kV9 dc9 pm9 cd9 ct9 oc10 kV10 dc10 pm10 cd10 ct10 oc11 kV11 dc11 pm11 cd11 ct11 oc12 kV12 dc12 pm12 cd12 ct12 oc13 kV13 dc13 pm13 cd13 ct13 oc14 kV14 dc14 pm14 cd14 ct14 oc15 kV15 dc15 pm15 cd15 ct15 oc16 kV16 dc16 pm16 cd16 ct16 oc17 kV17 dc17 pm17 cd17 ct17 oc18 kV18 dc18 pm18 cd18 ct18 oc19 kV19 dc19 pm19 cd19 ct19 oc20 kV20 dc20 pm20 cd20 ct20 oc21 kV21 dc21 pm21 cd21 ct21 oc22 kV22 dc22 pm22 cd22 ct22 oc23 kV23 dc23 pm23 cd23 ct23 oc24 kV24 dc24 pm24 cd24 ct24 oc25 kV25 dc25 pm25 cd25 ct25 oc26 kV26 dc26 pm26 cd26 ct26 oc27 kV27 dc27 pm27 cd27 ct27 oc28 kV28 dc28 pm28 cd28 ct28 oc29 kV29 dc29 pm29 cd29 ct29 oc30 kV30 dc30 pm30 cd30 ct30 oc31 kV31 dc31 pm31 cd31 ct31 oc32 kV32 dc32 pm32 cd32 ct32 oc33 kV33 dc33 pm33 cd33 ct33 oc34 kV34 dc34 pm34 cd34 ct34 oc35 kV35 dc35 pm35 cd35 ct35 oc36 kV36 dc36 pm36 cd36 ct36 oc37 kV37 dc37 pm37 cd37 ct37 oc38 kV38 dc38 pm38 cd38 ct38 oc39 kV39 dc39 pm39 cd39 ct39 oc40 kV40 dc40 pm40 cd40 ct40 oc41 kV41 dc41 pm41 cd41 ct41 oc42 kV42 dc42 pm42 cd42 ct42 oc43 kV43 dc43 pm43 cd43 ct43 oc44 kV44 dc44 pm44 cd44 ct44 oc45 kV45 dc45 pm45 cd45 ct45 oc46 kV46 dc46 pm46 cd46 ct46 oc47 kV47 dc47 pm47 cd47 ct47 oc48 kV48 dc48 pm48 cd48 ct48 oc49 kV49 dc49 pm49 cd49 ct49 oc50 kV50 dc50 pm50 cd50 ct50 oc51 kV51 dc51 pm51 cd51 ct51 oc52 kV52 dc52 pm52 cd52 ct52 oc53 kV53 dc53 pm53 cd53 ct53 oc54 kV54 dc54 pm54 cd54 ct54 : Value} {t_LARGEST_SIZE : _} {t_LEAST_RING : _} {t_LEAST_RING_NODES : _} {t_MOST_ATOMS : _} {t_MOST_GATES : _} {t_MOST_INPUTS : _} {t_MOST_NODES : _} {ocd19 : Value} {odd19 : Option Addr} {nd19 : Nat} {sld19 : Array (Option Value)} {td19_0 : Tok}
    (nC0 : PySem.W.nsIn K mainGlobals "UnseenError" = some (some (.ref C0)))
    (xC0 : PySem.W.excIn K C0 [.type "ValueError", .type "Exception", .type "BaseException", .type "object"] "ValueError.__new__" = true)
    (kC0 : PySem.W.keepIn K (.ref C0) = true)
    (sC0 : PySem.W.subIn K (.ref C0) (.type "BaseException") = some true)
    (tC0 : PySem.W.typeIn K (.ref C0) = some (.type "type"))
    (dC0 : PySem.W.hasDictIn K C0 = true)
    (gC0 : PySem.W.findIn K (.ref C0) "__getattribute__" = some (some (.builtin "BaseException.__getattribute__")))
    (aC0 : PySem.W.findIn K (.ref C0) "__getattr__" = some none)
    (cC0 : PySem.W.findIn K (.ref C0) "__class__" = some (some (.builtin "object.__class__")))
    (mC0 : PySem.W.mroIn K C0 (.type "object") = some true)
    (nC1 : PySem.W.nsIn K mainGlobals "BadPermutation" = some (some (.ref C1)))
    (xC1 : PySem.W.excIn K C1 [.type "ValueError", .type "Exception", .type "BaseException", .type "object"] "ValueError.__new__" = true)
    (kC1 : PySem.W.keepIn K (.ref C1) = true)
    (sC1 : PySem.W.subIn K (.ref C1) (.type "BaseException") = some true)
    (tC1 : PySem.W.typeIn K (.ref C1) = some (.type "type"))
    (dC1 : PySem.W.hasDictIn K C1 = true)
    (gC1 : PySem.W.findIn K (.ref C1) "__getattribute__" = some (some (.builtin "BaseException.__getattribute__")))
    (aC1 : PySem.W.findIn K (.ref C1) "__getattr__" = some none)
    (cC1 : PySem.W.findIn K (.ref C1) "__class__" = some (some (.builtin "object.__class__")))
    (mC1 : PySem.W.mroIn K C1 (.type "object") = some true)
    (nC2 : PySem.W.nsIn K mainGlobals "BadDraw" = some (some (.ref C2)))
    (xC2 : PySem.W.excIn K C2 [.type "ValueError", .type "Exception", .type "BaseException", .type "object"] "ValueError.__new__" = true)
    (kC2 : PySem.W.keepIn K (.ref C2) = true)
    (sC2 : PySem.W.subIn K (.ref C2) (.type "BaseException") = some true)
    (tC2 : PySem.W.typeIn K (.ref C2) = some (.type "type"))
    (dC2 : PySem.W.hasDictIn K C2 = true)
    (gC2 : PySem.W.findIn K (.ref C2) "__getattribute__" = some (some (.builtin "BaseException.__getattribute__")))
    (aC2 : PySem.W.findIn K (.ref C2) "__getattr__" = some none)
    (cC2 : PySem.W.findIn K (.ref C2) "__class__" = some (some (.builtin "object.__class__")))
    (mC2 : PySem.W.mroIn K C2 (.type "object") = some true)
    (nC3 : PySem.W.nsIn K mainGlobals "BadGraph" = some (some (.ref C3)))
    (xC3 : PySem.W.excIn K C3 [.type "ValueError", .type "Exception", .type "BaseException", .type "object"] "ValueError.__new__" = true)
    (kC3 : PySem.W.keepIn K (.ref C3) = true)
    (sC3 : PySem.W.subIn K (.ref C3) (.type "BaseException") = some true)
    (tC3 : PySem.W.typeIn K (.ref C3) = some (.type "type"))
    (dC3 : PySem.W.hasDictIn K C3 = true)
    (gC3 : PySem.W.findIn K (.ref C3) "__getattribute__" = some (some (.builtin "BaseException.__getattribute__")))
    (aC3 : PySem.W.findIn K (.ref C3) "__getattr__" = some none)
    (cC3 : PySem.W.findIn K (.ref C3) "__class__" = some (some (.builtin "object.__class__")))
    (mC3 : PySem.W.mroIn K C3 (.type "object") = some true)
    (nC4 : PySem.W.nsIn K mainGlobals "BadStatement" = some (some (.ref C4)))
    (xC4 : PySem.W.excIn K C4 [.type "ValueError", .type "Exception", .type "BaseException", .type "object"] "ValueError.__new__" = true)
    (kC4 : PySem.W.keepIn K (.ref C4) = true)
    (sC4 : PySem.W.subIn K (.ref C4) (.type "BaseException") = some true)
    (tC4 : PySem.W.typeIn K (.ref C4) = some (.type "type"))
    (dC4 : PySem.W.hasDictIn K C4 = true)
    (gC4 : PySem.W.findIn K (.ref C4) "__getattribute__" = some (some (.builtin "BaseException.__getattribute__")))
    (aC4 : PySem.W.findIn K (.ref C4) "__getattr__" = some none)
    (cC4 : PySem.W.findIn K (.ref C4) "__class__" = some (some (.builtin "object.__class__")))
    (mC4 : PySem.W.mroIn K C4 (.type "object") = some true)
    (nC5 : PySem.W.nsIn K mainGlobals "BadWitness" = some (some (.ref C5)))
    (xC5 : PySem.W.excIn K C5 [.type "ValueError", .type "Exception", .type "BaseException", .type "object"] "ValueError.__new__" = true)
    (kC5 : PySem.W.keepIn K (.ref C5) = true)
    (sC5 : PySem.W.subIn K (.ref C5) (.type "BaseException") = some true)
    (tC5 : PySem.W.typeIn K (.ref C5) = some (.type "type"))
    (dC5 : PySem.W.hasDictIn K C5 = true)
    (gC5 : PySem.W.findIn K (.ref C5) "__getattribute__" = some (some (.builtin "BaseException.__getattribute__")))
    (aC5 : PySem.W.findIn K (.ref C5) "__getattr__" = some none)
    (cC5 : PySem.W.findIn K (.ref C5) "__class__" = some (some (.builtin "object.__class__")))
    (mC5 : PySem.W.mroIn K C5 (.type "object") = some true)
    (og : PySem.W.specialIn K (.builtin "object.__class__") "__get__" = some (some (.builtin "getset_descriptor.__get__")))
    (ot : PySem.W.takesIn K (.builtin "object.__class__") = some true)
    (e0_0 : PySem.W.subIn K (.ref C0) (.ref C0) = some true)
    (e1_0 : PySem.W.subIn K (.ref C1) (.ref C0) = some true)
    (e2_0 : PySem.W.subIn K (.ref C2) (.ref C0) = some true)
    (e3_0 : PySem.W.subIn K (.ref C3) (.ref C0) = some true)
    (e4_0 : PySem.W.subIn K (.ref C4) (.ref C0) = some true)
    (e5_0 : PySem.W.subIn K (.ref C5) (.ref C0) = some true)
    (e0_1 : PySem.W.subIn K (.ref C0) (.ref C1) = some false)
    (e1_1 : PySem.W.subIn K (.ref C1) (.ref C1) = some true)
    (e2_1 : PySem.W.subIn K (.ref C2) (.ref C1) = some false)
    (e3_1 : PySem.W.subIn K (.ref C3) (.ref C1) = some false)
    (e4_1 : PySem.W.subIn K (.ref C4) (.ref C1) = some false)
    (e5_1 : PySem.W.subIn K (.ref C5) (.ref C1) = some false)
    (e0_2 : PySem.W.subIn K (.ref C0) (.ref C2) = some false)
    (e1_2 : PySem.W.subIn K (.ref C1) (.ref C2) = some false)
    (e2_2 : PySem.W.subIn K (.ref C2) (.ref C2) = some true)
    (e3_2 : PySem.W.subIn K (.ref C3) (.ref C2) = some false)
    (e4_2 : PySem.W.subIn K (.ref C4) (.ref C2) = some false)
    (e5_2 : PySem.W.subIn K (.ref C5) (.ref C2) = some false)
    (e0_3 : PySem.W.subIn K (.ref C0) (.ref C3) = some false)
    (e1_3 : PySem.W.subIn K (.ref C1) (.ref C3) = some false)
    (e2_3 : PySem.W.subIn K (.ref C2) (.ref C3) = some false)
    (e3_3 : PySem.W.subIn K (.ref C3) (.ref C3) = some true)
    (e4_3 : PySem.W.subIn K (.ref C4) (.ref C3) = some false)
    (e5_3 : PySem.W.subIn K (.ref C5) (.ref C3) = some false)
    (e0_4 : PySem.W.subIn K (.ref C0) (.ref C4) = some false)
    (e1_4 : PySem.W.subIn K (.ref C1) (.ref C4) = some false)
    (e2_4 : PySem.W.subIn K (.ref C2) (.ref C4) = some false)
    (e3_4 : PySem.W.subIn K (.ref C3) (.ref C4) = some false)
    (e4_4 : PySem.W.subIn K (.ref C4) (.ref C4) = some true)
    (e5_4 : PySem.W.subIn K (.ref C5) (.ref C4) = some false)
    (e0_5 : PySem.W.subIn K (.ref C0) (.ref C5) = some false)
    (e1_5 : PySem.W.subIn K (.ref C1) (.ref C5) = some false)
    (e2_5 : PySem.W.subIn K (.ref C2) (.ref C5) = some false)
    (e3_5 : PySem.W.subIn K (.ref C3) (.ref C5) = some false)
    (e4_5 : PySem.W.subIn K (.ref C4) (.ref C5) = some false)
    (e5_5 : PySem.W.subIn K (.ref C5) (.ref C5) = some true)
    (m_ValueError : PySem.W.kitMeta "ValueError" = true)
    (e0_ValueError : PySem.W.subIn K (.ref C0) (.type "ValueError") = some true)
    (e1_ValueError : PySem.W.subIn K (.ref C1) (.type "ValueError") = some true)
    (e2_ValueError : PySem.W.subIn K (.ref C2) (.type "ValueError") = some true)
    (e3_ValueError : PySem.W.subIn K (.ref C3) (.type "ValueError") = some true)
    (e4_ValueError : PySem.W.subIn K (.ref C4) (.type "ValueError") = some true)
    (e5_ValueError : PySem.W.subIn K (.ref C5) (.type "ValueError") = some true)
    (n_ValueError : PySem.W.nsIn K mainGlobals "ValueError" = some none)
    (n_abs : PySem.W.nsIn K mainGlobals "abs" = some none)
    (n_all : PySem.W.nsIn K mainGlobals "all" = some none)
    (n_bool : PySem.W.nsIn K mainGlobals "bool" = some none)
    (n_enumerate : PySem.W.nsIn K mainGlobals "enumerate" = some none)
    (n_int : PySem.W.nsIn K mainGlobals "int" = some none)
    (n_isinstance : PySem.W.nsIn K mainGlobals "isinstance" = some none)
    (n_len : PySem.W.nsIn K mainGlobals "len" = some none)
    (n_list : PySem.W.nsIn K mainGlobals "list" = some none)
    (n_max : PySem.W.nsIn K mainGlobals "max" = some none)
    (n_min : PySem.W.nsIn K mainGlobals "min" = some none)
    (n_range : PySem.W.nsIn K mainGlobals "range" = some none)
    (n_sorted : PySem.W.nsIn K mainGlobals "sorted" = some none)
    (n_str : PySem.W.nsIn K mainGlobals "str" = some none)
    (n_tuple : PySem.W.nsIn K mainGlobals "tuple" = some none)
    (n_type : PySem.W.nsIn K mainGlobals "type" = some none)
    (n_zip : PySem.W.nsIn K mainGlobals "zip" = some none)
    (c_LARGEST_SIZE : PySem.W.nsIn K mainGlobals "LARGEST_SIZE" = some (some (.int 6 t_LARGEST_SIZE)))
    (c_LEAST_RING : PySem.W.nsIn K mainGlobals "LEAST_RING" = some (some (.int 3 t_LEAST_RING)))
    (c_LEAST_RING_NODES : PySem.W.nsIn K mainGlobals "LEAST_RING_NODES" = some (some (.int 3 t_LEAST_RING_NODES)))
    (c_MOST_ATOMS : PySem.W.nsIn K mainGlobals "MOST_ATOMS" = some (some (.int 4 t_MOST_ATOMS)))
    (c_MOST_GATES : PySem.W.nsIn K mainGlobals "MOST_GATES" = some (some (.int 6 t_MOST_GATES)))
    (c_MOST_INPUTS : PySem.W.nsIn K mainGlobals "MOST_INPUTS" = some (some (.int 4 t_MOST_INPUTS)))
    (c_MOST_NODES : PySem.W.nsIn K mainGlobals "MOST_NODES" = some (some (.int 6 t_MOST_NODES)))
    (a0 : PySem.W.nsIn K mainGlobals "is_permutation" = some (some (.ref f0)))
    (l0 : K.lookup f0 = some ⟨oc0, od0, .func (PySem.W.fnOf "is_permutation" "is_permutation" (defArgs s_is_permutation) (defBody s_is_permutation) (defScope s_is_permutation) .none kV0 dc0 pm0 an0 cd0 ct0), sl0⟩)
    (c0 : PySem.W.codeIn K cd0 "is_permutation" = true)
    (k0 : PySem.W.keepIn K (.ref f0) = true)
    (a1 : PySem.W.nsIn K mainGlobals "require_permutation" = some (some (.ref f1)))
    (l1 : K.lookup f1 = some ⟨oc1, od1, .func (PySem.W.fnOf "require_permutation" "require_permutation" (defArgs s_require_permutation) (defBody s_require_permutation) (defScope s_require_permutation) .none kV1 dc1 pm1 an1 cd1 ct1), sl1⟩)
    (c1 : PySem.W.codeIn K cd1 "require_permutation" = true)
    (k1 : PySem.W.keepIn K (.ref f1) = true)
    (a2 : PySem.W.nsIn K mainGlobals "inverse" = some (some (.ref f2)))
    (l2 : K.lookup f2 = some ⟨oc2, od2, .func (PySem.W.fnOf "inverse" "inverse" (defArgs s_inverse) (defBody s_inverse) (defScope s_inverse) .none kV2 dc2 pm2 an2 cd2 ct2), sl2⟩)
    (c2 : PySem.W.codeIn K cd2 "inverse" = true)
    (k2 : PySem.W.keepIn K (.ref f2) = true)
    (a3 : PySem.W.nsIn K mainGlobals "compose" = some (some (.ref f3)))
    (l3 : K.lookup f3 = some ⟨oc3, od3, .func (PySem.W.fnOf "compose" "compose" (defArgs s_compose) (defBody s_compose) (defScope s_compose) .none kV3 dc3 pm3 an3 cd3 ct3), sl3⟩)
    (c3 : PySem.W.codeIn K cd3 "compose" = true)
    (k3 : PySem.W.keepIn K (.ref f3) = true)
    (a4 : PySem.W.nsIn K mainGlobals "make_graph" = some (some (.ref f4)))
    (l4 : K.lookup f4 = some ⟨oc4, od4, .func (PySem.W.fnOf "make_graph" "make_graph" (defArgs s_make_graph) (defBody s_make_graph) (defScope s_make_graph) .none kV4 dc4 pm4 an4 cd4 ct4), sl4⟩)
    (c4 : PySem.W.codeIn K cd4 "make_graph" = true)
    (k4 : PySem.W.keepIn K (.ref f4) = true)
    (a5 : PySem.W.nsIn K mainGlobals "has_edge" = some (some (.ref f5)))
    (l5 : K.lookup f5 = some ⟨oc5, od5, .func (PySem.W.fnOf "has_edge" "has_edge" (defArgs s_has_edge) (defBody s_has_edge) (defScope s_has_edge) .none kV5 dc5 pm5 an5 cd5 ct5), sl5⟩)
    (c5 : PySem.W.codeIn K cd5 "has_edge" = true)
    (k5 : PySem.W.keepIn K (.ref f5) = true)
    (a6 : PySem.W.nsIn K mainGlobals "is_ring" = some (some (.ref f6)))
    (l6 : K.lookup f6 = some ⟨oc6, od6, .func (PySem.W.fnOf "is_ring" "is_ring" (defArgs s_is_ring) (defBody s_is_ring) (defScope s_is_ring) .none kV6 dc6 pm6 an6 cd6 ct6), sl6⟩)
    (c6 : PySem.W.codeIn K cd6 "is_ring" = true)
    (k6 : PySem.W.keepIn K (.ref f6) = true)
    (a7 : PySem.W.nsIn K mainGlobals "require_ring" = some (some (.ref f7)))
    (l7 : K.lookup f7 = some ⟨oc7, od7, .func (PySem.W.fnOf "require_ring" "require_ring" (defArgs s_require_ring) (defBody s_require_ring) (defScope s_require_ring) .none kV7 dc7 pm7 an7 cd7 ct7), sl7⟩)
    (c7 : PySem.W.codeIn K cd7 "require_ring" = true)
    (k7 : PySem.W.keepIn K (.ref f7) = true)
    (a8 : PySem.W.nsIn K mainGlobals "ring_form" = some (some (.ref f8)))
    (l8 : K.lookup f8 = some ⟨oc8, od8, .func (PySem.W.fnOf "ring_form" "ring_form" (defArgs s_ring_form) (defBody s_ring_form) (defScope s_ring_form) .none kV8 dc8 pm8 an8 cd8 ct8), sl8⟩)
    (c8 : PySem.W.codeIn K cd8 "ring_form" = true)
    (k8 : PySem.W.keepIn K (.ref f8) = true)
    (a9 : PySem.W.nsIn K mainGlobals "ring_edges" = some (some (.ref f9)))
    (l9 : K.lookup f9 = some ⟨oc9, od9, .func (PySem.W.fnOf "ring_edges" "ring_edges" (defArgs s_ring_edges) (defBody s_ring_edges) (defScope s_ring_edges) .none kV9 dc9 pm9 an9 cd9 ct9), sl9⟩)
    (c9 : PySem.W.codeIn K cd9 "ring_edges" = true)
    (k9 : PySem.W.keepIn K (.ref f9) = true)
    (a10 : PySem.W.nsIn K mainGlobals "is_ring_form" = some (some (.ref f10)))
    (l10 : K.lookup f10 = some ⟨oc10, od10, .func (PySem.W.fnOf "is_ring_form" "is_ring_form" (defArgs s_is_ring_form) (defBody s_is_ring_form) (defScope s_is_ring_form) .none kV10 dc10 pm10 an10 cd10 ct10), sl10⟩)
    (c10 : PySem.W.codeIn K cd10 "is_ring_form" = true)
    (k10 : PySem.W.keepIn K (.ref f10) = true)
    (a11 : PySem.W.nsIn K mainGlobals "ring" = some (some (.ref f11)))
    (l11 : K.lookup f11 = some ⟨oc11, od11, .func (PySem.W.fnOf "ring" "ring" (defArgs s_ring) (defBody s_ring) (defScope s_ring) .none kV11 dc11 pm11 an11 cd11 ct11), sl11⟩)
    (c11 : PySem.W.codeIn K cd11 "ring" = true)
    (k11 : PySem.W.keepIn K (.ref f11) = true)
    (a12 : PySem.W.nsIn K mainGlobals "alike" = some (some (.ref f12)))
    (l12 : K.lookup f12 = some ⟨oc12, od12, .func (PySem.W.fnOf "alike" "alike" (defArgs s_alike) (defBody s_alike) (defScope s_alike) .none kV12 dc12 pm12 an12 cd12 ct12), sl12⟩)
    (c12 : PySem.W.codeIn K cd12 "alike" = true)
    (k12 : PySem.W.keepIn K (.ref f12) = true)
    (a13 : PySem.W.nsIn K mainGlobals "is_gate" = some (some (.ref f13)))
    (l13 : K.lookup f13 = some ⟨oc13, od13, .func (PySem.W.fnOf "is_gate" "is_gate" (defArgs s_is_gate) (defBody s_is_gate) (defScope s_is_gate) .none kV13 dc13 pm13 an13 cd13 ct13), sl13⟩)
    (c13 : PySem.W.codeIn K cd13 "is_gate" = true)
    (k13 : PySem.W.keepIn K (.ref f13) = true)
    (a14 : PySem.W.nsIn K mainGlobals "circuit" = some (some (.ref f14)))
    (l14 : K.lookup f14 = some ⟨oc14, od14, .func (PySem.W.fnOf "circuit" "circuit" (defArgs s_circuit) (defBody s_circuit) (defScope s_circuit) .none kV14 dc14 pm14 an14 cd14 ct14), sl14⟩)
    (c14 : PySem.W.codeIn K cd14 "circuit" = true)
    (k14 : PySem.W.keepIn K (.ref f14) = true)
    (a15 : PySem.W.nsIn K mainGlobals "atom_count" = some (some (.ref f15)))
    (l15 : K.lookup f15 = some ⟨oc15, od15, .func (PySem.W.fnOf "atom_count" "atom_count" (defArgs s_atom_count) (defBody s_atom_count) (defScope s_atom_count) .none kV15 dc15 pm15 an15 cd15 ct15), sl15⟩)
    (c15 : PySem.W.codeIn K cd15 "atom_count" = true)
    (k15 : PySem.W.keepIn K (.ref f15) = true)
    (a16 : PySem.W.nsIn K mainGlobals "require_parts" = some (some (.ref f16)))
    (l16 : K.lookup f16 = some ⟨oc16, od16, .func (PySem.W.fnOf "require_parts" "require_parts" (defArgs s_require_parts) (defBody s_require_parts) (defScope s_require_parts) .none kV16 dc16 pm16 an16 cd16 ct16), sl16⟩)
    (c16 : PySem.W.codeIn K cd16 "require_parts" = true)
    (k16 : PySem.W.keepIn K (.ref f16) = true)
    (a17 : PySem.W.nsIn K mainGlobals "both" = some (some (.ref f17)))
    (l17 : K.lookup f17 = some ⟨oc17, od17, .func (PySem.W.fnOf "both" "both" (defArgs s_both) (defBody s_both) (defScope s_both) .none kV17 dc17 pm17 an17 cd17 ct17), sl17⟩)
    (c17 : PySem.W.codeIn K cd17 "both" = true)
    (k17 : PySem.W.keepIn K (.ref f17) = true)
    (a18 : PySem.W.nsIn K mainGlobals "require_kind" = some (some (.ref f18)))
    (l18 : K.lookup f18 = some ⟨oc18, od18, .func (PySem.W.fnOf "require_kind" "require_kind" (defArgs s_require_kind) (defBody s_require_kind) (defScope s_require_kind) .none kV18 dc18 pm18 an18 cd18 ct18), sl18⟩)
    (c18 : PySem.W.codeIn K cd18 "require_kind" = true)
    (k18 : PySem.W.keepIn K (.ref f18) = true)
    (a19 : PySem.W.nsIn K mainGlobals "gate_value" = some (some (.ref f19)))
    (l19 : K.lookup f19 = some ⟨oc19, od19, .func (PySem.W.fnOf "gate_value" "gate_value" (defArgs s_gate_value) (defBody s_gate_value) (defScope s_gate_value) (.ref Td19) kV19 dc19 pm19 an19 cd19 ct19), sl19⟩)
    (d19 : K.lookup Td19 = some ⟨ocd19, odd19, .seq #[.int 0 td19_0] nd19, sld19⟩)
    (c19 : PySem.W.codeIn K cd19 "gate_value" = true)
    (k19 : PySem.W.keepIn K (.ref f19) = true)
    (a20 : PySem.W.nsIn K mainGlobals "is_row" = some (some (.ref f20)))
    (l20 : K.lookup f20 = some ⟨oc20, od20, .func (PySem.W.fnOf "is_row" "is_row" (defArgs s_is_row) (defBody s_is_row) (defScope s_is_row) .none kV20 dc20 pm20 an20 cd20 ct20), sl20⟩)
    (c20 : PySem.W.codeIn K cd20 "is_row" = true)
    (k20 : PySem.W.keepIn K (.ref f20) = true)
    (a21 : PySem.W.nsIn K mainGlobals "is_bits" = some (some (.ref f21)))
    (l21 : K.lookup f21 = some ⟨oc21, od21, .func (PySem.W.fnOf "is_bits" "is_bits" (defArgs s_is_bits) (defBody s_is_bits) (defScope s_is_bits) .none kV21 dc21 pm21 an21 cd21 ct21), sl21⟩)
    (c21 : PySem.W.codeIn K cd21 "is_bits" = true)
    (k21 : PySem.W.keepIn K (.ref f21) = true)
    (a22 : PySem.W.nsIn K mainGlobals "wire_values" = some (some (.ref f22)))
    (l22 : K.lookup f22 = some ⟨oc22, od22, .func (PySem.W.fnOf "wire_values" "wire_values" (defArgs s_wire_values) (defBody s_wire_values) (defScope s_wire_values) .none kV22 dc22 pm22 an22 cd22 ct22), sl22⟩)
    (c22 : PySem.W.codeIn K cd22 "wire_values" = true)
    (k22 : PySem.W.keepIn K (.ref f22) = true)
    (a23 : PySem.W.nsIn K mainGlobals "turns_into" = some (some (.ref f23)))
    (l23 : K.lookup f23 = some ⟨oc23, od23, .func (PySem.W.fnOf "turns_into" "turns_into" (defArgs s_turns_into) (defBody s_turns_into) (defScope s_turns_into) .none kV23 dc23 pm23 an23 cd23 ct23), sl23⟩)
    (c23 : PySem.W.codeIn K cd23 "turns_into" = true)
    (k23 : PySem.W.keepIn K (.ref f23) = true)
    (a24 : PySem.W.nsIn K mainGlobals "fits" = some (some (.ref f24)))
    (l24 : K.lookup f24 = some ⟨oc24, od24, .func (PySem.W.fnOf "fits" "fits" (defArgs s_fits) (defBody s_fits) (defScope s_fits) .none kV24 dc24 pm24 an24 cd24 ct24), sl24⟩)
    (c24 : PySem.W.codeIn K cd24 "fits" = true)
    (k24 : PySem.W.keepIn K (.ref f24) = true)
    (a25 : PySem.W.nsIn K mainGlobals "has_form" = some (some (.ref f25)))
    (l25 : K.lookup f25 = some ⟨oc25, od25, .func (PySem.W.fnOf "has_form" "has_form" (defArgs s_has_form) (defBody s_has_form) (defScope s_has_form) .none kV25 dc25 pm25 an25 cd25 ct25), sl25⟩)
    (c25 : PySem.W.codeIn K cd25 "has_form" = true)
    (k25 : PySem.W.keepIn K (.ref f25) = true)
    (a26 : PySem.W.nsIn K mainGlobals "holds_atom" = some (some (.ref f26)))
    (l26 : K.lookup f26 = some ⟨oc26, od26, .func (PySem.W.fnOf "holds_atom" "holds_atom" (defArgs s_holds_atom) (defBody s_holds_atom) (defScope s_holds_atom) .none kV26 dc26 pm26 an26 cd26 ct26), sl26⟩)
    (c26 : PySem.W.codeIn K cd26 "holds_atom" = true)
    (k26 : PySem.W.keepIn K (.ref f26) = true)
    (a27 : PySem.W.nsIn K mainGlobals "holds" = some (some (.ref f27)))
    (l27 : K.lookup f27 = some ⟨oc27, od27, .func (PySem.W.fnOf "holds" "holds" (defArgs s_holds) (defBody s_holds) (defScope s_holds) .none kV27 dc27 pm27 an27 cd27 ct27), sl27⟩)
    (c27 : PySem.W.codeIn K cd27 "holds" = true)
    (k27 : PySem.W.keepIn K (.ref f27) = true)
    (a28 : PySem.W.nsIn K mainGlobals "holds_join" = some (some (.ref f28)))
    (l28 : K.lookup f28 = some ⟨oc28, od28, .func (PySem.W.fnOf "holds_join" "holds_join" (defArgs s_holds_join) (defBody s_holds_join) (defScope s_holds_join) .none kV28 dc28 pm28 an28 cd28 ct28), sl28⟩)
    (c28 : PySem.W.codeIn K cd28 "holds_join" = true)
    (k28 : PySem.W.keepIn K (.ref f28) = true)
    (a29 : PySem.W.nsIn K mainGlobals "require_witness" = some (some (.ref f29)))
    (l29 : K.lookup f29 = some ⟨oc29, od29, .func (PySem.W.fnOf "require_witness" "require_witness" (defArgs s_require_witness) (defBody s_require_witness) (defScope s_require_witness) .none kV29 dc29 pm29 an29 cd29 ct29), sl29⟩)
    (c29 : PySem.W.codeIn K cd29 "require_witness" = true)
    (k29 : PySem.W.keepIn K (.ref f29) = true)
    (a30 : PySem.W.nsIn K mainGlobals "swap_statement" = some (some (.ref f30)))
    (l30 : K.lookup f30 = some ⟨oc30, od30, .func (PySem.W.fnOf "swap_statement" "swap_statement" (defArgs s_swap_statement) (defBody s_swap_statement) (defScope s_swap_statement) .none kV30 dc30 pm30 an30 cd30 ct30), sl30⟩)
    (c30 : PySem.W.codeIn K cd30 "swap_statement" = true)
    (k30 : PySem.W.keepIn K (.ref f30) = true)
    (a31 : PySem.W.nsIn K mainGlobals "swap_witness" = some (some (.ref f31)))
    (l31 : K.lookup f31 = some ⟨oc31, od31, .func (PySem.W.fnOf "swap_witness" "swap_witness" (defArgs s_swap_witness) (defBody s_swap_witness) (defScope s_swap_witness) .none kV31 dc31 pm31 an31 cd31 ct31), sl31⟩)
    (c31 : PySem.W.codeIn K cd31 "swap_witness" = true)
    (k31 : PySem.W.keepIn K (.ref f31) = true)
    (a32 : PySem.W.nsIn K mainGlobals "joined_alike" = some (some (.ref f32)))
    (l32 : K.lookup f32 = some ⟨oc32, od32, .func (PySem.W.fnOf "joined_alike" "joined_alike" (defArgs s_joined_alike) (defBody s_joined_alike) (defScope s_joined_alike) .none kV32 dc32 pm32 an32 cd32 ct32), sl32⟩)
    (c32 : PySem.W.codeIn K cd32 "joined_alike" = true)
    (k32 : PySem.W.keepIn K (.ref f32) = true)
    (a33 : PySem.W.nsIn K mainGlobals "joined_witness" = some (some (.ref f33)))
    (l33 : K.lookup f33 = some ⟨oc33, od33, .func (PySem.W.fnOf "joined_witness" "joined_witness" (defArgs s_joined_witness) (defBody s_joined_witness) (defScope s_joined_witness) .none kV33 dc33 pm33 an33 cd33 ct33), sl33⟩)
    (c33 : PySem.W.codeIn K cd33 "joined_witness" = true)
    (k33 : PySem.W.keepIn K (.ref f33) = true)
    (a34 : PySem.W.nsIn K mainGlobals "_law_cell" = some (some (.ref f34)))
    (l34 : K.lookup f34 = some ⟨oc34, od34, .func (PySem.W.fnOf "_law_cell" "_law_cell" (defArgs s_L_cell) (defBody s_L_cell) (defScope s_L_cell) .none kV34 dc34 pm34 an34 cd34 ct34), sl34⟩)
    (c34 : PySem.W.codeIn K cd34 "_law_cell" = true)
    (k34 : PySem.W.keepIn K (.ref f34) = true)
    (a35 : PySem.W.nsIn K mainGlobals "_law_numbers" = some (some (.ref f35)))
    (l35 : K.lookup f35 = some ⟨oc35, od35, .func (PySem.W.fnOf "_law_numbers" "_law_numbers" (defArgs s_L_numbers) (defBody s_L_numbers) (defScope s_L_numbers) .none kV35 dc35 pm35 an35 cd35 ct35), sl35⟩)
    (c35 : PySem.W.codeIn K cd35 "_law_numbers" = true)
    (k35 : PySem.W.keepIn K (.ref f35) = true)
    (a36 : PySem.W.nsIn K mainGlobals "_law_same" = some (some (.ref f36)))
    (l36 : K.lookup f36 = some ⟨oc36, od36, .func (PySem.W.fnOf "_law_same" "_law_same" (defArgs s_L_same) (defBody s_L_same) (defScope s_L_same) .none kV36 dc36 pm36 an36 cd36 ct36), sl36⟩)
    (c36 : PySem.W.codeIn K cd36 "_law_same" = true)
    (k36 : PySem.W.keepIn K (.ref f36) = true)
    (a37 : PySem.W.nsIn K mainGlobals "_law_factorial" = some (some (.ref f37)))
    (l37 : K.lookup f37 = some ⟨oc37, od37, .func (PySem.W.fnOf "_law_factorial" "_law_factorial" (defArgs s_L_factorial) (defBody s_L_factorial) (defScope s_L_factorial) .none kV37 dc37 pm37 an37 cd37 ct37), sl37⟩)
    (c37 : PySem.W.codeIn K cd37 "_law_factorial" = true)
    (k37 : PySem.W.keepIn K (.ref f37) = true)
    (a38 : PySem.W.nsIn K mainGlobals "_law_permutation" = some (some (.ref f38)))
    (l38 : K.lookup f38 = some ⟨oc38, od38, .func (PySem.W.fnOf "_law_permutation" "_law_permutation" (defArgs s_L_permutation) (defBody s_L_permutation) (defScope s_L_permutation) .none kV38 dc38 pm38 an38 cd38 ct38), sl38⟩)
    (c38 : PySem.W.codeIn K cd38 "_law_permutation" = true)
    (k38 : PySem.W.keepIn K (.ref f38) = true)
    (a39 : PySem.W.nsIn K mainGlobals "_law_after" = some (some (.ref f39)))
    (l39 : K.lookup f39 = some ⟨oc39, od39, .func (PySem.W.fnOf "_law_after" "_law_after" (defArgs s_L_after) (defBody s_L_after) (defScope s_L_after) .none kV39 dc39 pm39 an39 cd39 ct39), sl39⟩)
    (c39 : PySem.W.codeIn K cd39 "_law_after" = true)
    (k39 : PySem.W.keepIn K (.ref f39) = true)
    (a40 : PySem.W.nsIn K mainGlobals "_law_undone" = some (some (.ref f40)))
    (l40 : K.lookup f40 = some ⟨oc40, od40, .func (PySem.W.fnOf "_law_undone" "_law_undone" (defArgs s_L_undone) (defBody s_L_undone) (defScope s_L_undone) .none kV40 dc40 pm40 an40 cd40 ct40), sl40⟩)
    (c40 : PySem.W.codeIn K cd40 "_law_undone" = true)
    (k40 : PySem.W.keepIn K (.ref f40) = true)
    (a41 : PySem.W.nsIn K mainGlobals "_law_pairs" = some (some (.ref f41)))
    (l41 : K.lookup f41 = some ⟨oc41, od41, .func (PySem.W.fnOf "_law_pairs" "_law_pairs" (defArgs s_L_pairs) (defBody s_L_pairs) (defScope s_L_pairs) .none kV41 dc41 pm41 an41 cd41 ct41), sl41⟩)
    (c41 : PySem.W.codeIn K cd41 "_law_pairs" = true)
    (k41 : PySem.W.keepIn K (.ref f41) = true)
    (a42 : PySem.W.nsIn K mainGlobals "_law_edge" = some (some (.ref f42)))
    (l42 : K.lookup f42 = some ⟨oc42, od42, .func (PySem.W.fnOf "_law_edge" "_law_edge" (defArgs s_L_edge) (defBody s_L_edge) (defScope s_L_edge) .none kV42 dc42 pm42 an42 cd42 ct42), sl42⟩)
    (c42 : PySem.W.codeIn K cd42 "_law_edge" = true)
    (k42 : PySem.W.keepIn K (.ref f42) = true)
    (a43 : PySem.W.nsIn K mainGlobals "_law_moved" = some (some (.ref f43)))
    (l43 : K.lookup f43 = some ⟨oc43, od43, .func (PySem.W.fnOf "_law_moved" "_law_moved" (defArgs s_L_moved) (defBody s_L_moved) (defScope s_L_moved) .none kV43 dc43 pm43 an43 cd43 ct43), sl43⟩)
    (c43 : PySem.W.codeIn K cd43 "_law_moved" = true)
    (k43 : PySem.W.keepIn K (.ref f43) = true)
    (a44 : PySem.W.nsIn K mainGlobals "_law_made" = some (some (.ref f44)))
    (l44 : K.lookup f44 = some ⟨oc44, od44, .func (PySem.W.fnOf "_law_made" "_law_made" (defArgs s_L_made) (defBody s_L_made) (defScope s_L_made) .none kV44 dc44 pm44 an44 cd44 ct44), sl44⟩)
    (c44 : PySem.W.codeIn K cd44 "_law_made" = true)
    (k44 : PySem.W.keepIn K (.ref f44) = true)
    (a45 : PySem.W.nsIn K mainGlobals "_law_join" = some (some (.ref f45)))
    (l45 : K.lookup f45 = some ⟨oc45, od45, .func (PySem.W.fnOf "_law_join" "_law_join" (defArgs s_L_join) (defBody s_L_join) (defScope s_L_join) .none kV45 dc45 pm45 an45 cd45 ct45), sl45⟩)
    (c45 : PySem.W.codeIn K cd45 "_law_join" = true)
    (k45 : PySem.W.keepIn K (.ref f45) = true)
    (a46 : PySem.W.nsIn K mainGlobals "_law_chain" = some (some (.ref f46)))
    (l46 : K.lookup f46 = some ⟨oc46, od46, .func (PySem.W.fnOf "_law_chain" "_law_chain" (defArgs s_L_chain) (defBody s_L_chain) (defScope s_L_chain) .none kV46 dc46 pm46 an46 cd46 ct46), sl46⟩)
    (c46 : PySem.W.codeIn K cd46 "_law_chain" = true)
    (k46 : PySem.W.keepIn K (.ref f46) = true)
    (a47 : PySem.W.nsIn K mainGlobals "_law_product" = some (some (.ref f47)))
    (l47 : K.lookup f47 = some ⟨oc47, od47, .func (PySem.W.fnOf "_law_product" "_law_product" (defArgs s_L_product) (defBody s_L_product) (defScope s_L_product) .none kV47 dc47 pm47 an47 cd47 ct47), sl47⟩)
    (c47 : PySem.W.codeIn K cd47 "_law_product" = true)
    (k47 : PySem.W.keepIn K (.ref f47) = true)
    (a48 : PySem.W.nsIn K mainGlobals "_law_no_join" = some (some (.ref f48)))
    (l48 : K.lookup f48 = some ⟨oc48, od48, .func (PySem.W.fnOf "_law_no_join" "_law_no_join" (defArgs s_L_no_join) (defBody s_L_no_join) (defScope s_L_no_join) .none kV48 dc48 pm48 an48 cd48 ct48), sl48⟩)
    (c48 : PySem.W.codeIn K cd48 "_law_no_join" = true)
    (k48 : PySem.W.keepIn K (.ref f48) = true)
    (a49 : PySem.W.nsIn K mainGlobals "_law_no_chain" = some (some (.ref f49)))
    (l49 : K.lookup f49 = some ⟨oc49, od49, .func (PySem.W.fnOf "_law_no_chain" "_law_no_chain" (defArgs s_L_no_chain) (defBody s_L_no_chain) (defScope s_L_no_chain) .none kV49 dc49 pm49 an49 cd49 ct49), sl49⟩)
    (c49 : PySem.W.codeIn K cd49 "_law_no_chain" = true)
    (k49 : PySem.W.keepIn K (.ref f49) = true)
    (a50 : PySem.W.nsIn K mainGlobals "_law_stretch" = some (some (.ref f50)))
    (l50 : K.lookup f50 = some ⟨oc50, od50, .func (PySem.W.fnOf "_law_stretch" "_law_stretch" (defArgs s_L_stretch) (defBody s_L_stretch) (defScope s_L_stretch) .none kV50 dc50 pm50 an50 cd50 ct50), sl50⟩)
    (c50 : PySem.W.codeIn K cd50 "_law_stretch" = true)
    (k50 : PySem.W.keepIn K (.ref f50) = true)
    (a51 : PySem.W.nsIn K mainGlobals "_law_other_graph" = some (some (.ref f51)))
    (l51 : K.lookup f51 = some ⟨oc51, od51, .func (PySem.W.fnOf "_law_other_graph" "_law_other_graph" (defArgs s_L_other_graph) (defBody s_L_other_graph) (defScope s_L_other_graph) .none kV51 dc51 pm51 an51 cd51 ct51), sl51⟩)
    (c51 : PySem.W.codeIn K cd51 "_law_other_graph" = true)
    (k51 : PySem.W.keepIn K (.ref f51) = true)
    (a52 : PySem.W.nsIn K mainGlobals "_law_wrong_joins" = some (some (.ref f52)))
    (l52 : K.lookup f52 = some ⟨oc52, od52, .func (PySem.W.fnOf "_law_wrong_joins" "_law_wrong_joins" (defArgs s_L_wrong_joins) (defBody s_L_wrong_joins) (defScope s_L_wrong_joins) .none kV52 dc52 pm52 an52 cd52 ct52), sl52⟩)
    (c52 : PySem.W.codeIn K cd52 "_law_wrong_joins" = true)
    (k52 : PySem.W.keepIn K (.ref f52) = true)
    (a53 : PySem.W.nsIn K mainGlobals "_law_wrong_chains" = some (some (.ref f53)))
    (l53 : K.lookup f53 = some ⟨oc53, od53, .func (PySem.W.fnOf "_law_wrong_chains" "_law_wrong_chains" (defArgs s_L_wrong_chains) (defBody s_L_wrong_chains) (defScope s_L_wrong_chains) .none kV53 dc53 pm53 an53 cd53 ct53), sl53⟩)
    (c53 : PySem.W.codeIn K cd53 "_law_wrong_chains" = true)
    (k53 : PySem.W.keepIn K (.ref f53) = true)
    (a54 : PySem.W.nsIn K mainGlobals "law" = some (some (.ref f54)))
    (l54 : K.lookup f54 = some ⟨oc54, od54, .func (PySem.W.fnOf "law" "law" (defArgs s_law) (defBody s_law) (defScope s_law) .none kV54 dc54 pm54 an54 cd54 ct54), sl54⟩)
    (c54 : PySem.W.codeIn K cd54 "law" = true)
    (k54 : PySem.W.keepIn K (.ref f54) = true)
    : ∃ fd : FuncData, (∀ (s : Shared) (v : Value), BindsTo s fd ⟨[v], []⟩ [("script", v)]) ∧ ∀ base : Heap, K.In base → base.Ns mainGlobals mg → FnOk P w K mg base (L2.CX P w) 19 fa fd ["script"] (spL K) := by
  have e := hfa.symm.trans (PySem.W.mg_of X G a54)
  cases e
  let g : G0 := gOf [C0, C1, C2, C3, C4, C5]
  have T : Tx K mg g := {
    n_ValueError := PySem.W.mg_none_of X G n_ValueError,
    n_abs := PySem.W.mg_none_of X G n_abs,
    n_all := PySem.W.mg_none_of X G n_all,
    n_bool := PySem.W.mg_none_of X G n_bool,
    n_enumerate := PySem.W.mg_none_of X G n_enumerate,
    n_int := PySem.W.mg_none_of X G n_int,
    n_isinstance := PySem.W.mg_none_of X G n_isinstance,
    n_len := PySem.W.mg_none_of X G n_len,
    n_list := PySem.W.mg_none_of X G n_list,
    n_max := PySem.W.mg_none_of X G n_max,
    n_min := PySem.W.mg_none_of X G n_min,
    n_range := PySem.W.mg_none_of X G n_range,
    n_sorted := PySem.W.mg_none_of X G n_sorted,
    n_str := PySem.W.mg_none_of X G n_str,
    n_tuple := PySem.W.mg_none_of X G n_tuple,
    n_type := PySem.W.mg_none_of X G n_type,
    n_zip := PySem.W.mg_none_of X G n_zip,
    c_LARGEST_SIZE := ⟨_, PySem.W.mg_of X G c_LARGEST_SIZE⟩,
    c_LEAST_RING := ⟨_, PySem.W.mg_of X G c_LEAST_RING⟩,
    c_LEAST_RING_NODES := ⟨_, PySem.W.mg_of X G c_LEAST_RING_NODES⟩,
    c_MOST_ATOMS := ⟨_, PySem.W.mg_of X G c_MOST_ATOMS⟩,
    c_MOST_GATES := ⟨_, PySem.W.mg_of X G c_MOST_GATES⟩,
    c_MOST_INPUTS := ⟨_, PySem.W.mg_of X G c_MOST_INPUTS⟩,
    c_MOST_NODES := ⟨_, PySem.W.mg_of X G c_MOST_NODES⟩,
    e_UnseenError := ⟨PySem.W.mg_of X G nC0, xC0, kC0, sC0, tC0⟩,
    e_BadPermutation := ⟨PySem.W.mg_of X G nC1, xC1, kC1, sC1, tC1⟩,
    e_BadDraw := ⟨PySem.W.mg_of X G nC2, xC2, kC2, sC2, tC2⟩,
    e_BadGraph := ⟨PySem.W.mg_of X G nC3, xC3, kC3, sC3, tC3⟩,
    e_BadStatement := ⟨PySem.W.mg_of X G nC4, xC4, kC4, sC4, tC4⟩,
    e_BadWitness := ⟨PySem.W.mg_of X G nC5, xC5, kC5, sC5, tC5⟩,
    xc := fun c hc => match c, hc with | 0, _ => ⟨gC0, aC0, sC0, dC0, cC0, og, ot, mC0⟩ | 1, _ => ⟨gC1, aC1, sC1, dC1, cC1, og, ot, mC1⟩ | 2, _ => ⟨gC2, aC2, sC2, dC2, cC2, og, ot, mC2⟩ | 3, _ => ⟨gC3, aC3, sC3, dC3, cC3, og, ot, mC3⟩ | 4, _ => ⟨gC4, aC4, sC4, dC4, cC4, og, ot, mC4⟩ | 5, _ => ⟨gC5, aC5, sC5, dC5, cC5, og, ot, mC5⟩ | n + 6, h => absurd h (by omega),
    exm_BadPermutation := fun c b e => match c, e with | 0, e => (by cases e; exact PySem.W.exm_ref sC1 dC1 tC1 e0_1) | 1, e => (by cases e; exact PySem.W.exm_ref sC1 dC1 tC1 e1_1) | 2, e => (by cases e; exact PySem.W.exm_ref sC1 dC1 tC1 e2_1) | 3, e => (by cases e; exact PySem.W.exm_ref sC1 dC1 tC1 e3_1) | 4, e => (by cases e; exact PySem.W.exm_ref sC1 dC1 tC1 e4_1) | 5, e => (by cases e; exact PySem.W.exm_ref sC1 dC1 tC1 e5_1) | n + 6, e => (by cases e),
    exm_BadStatement := fun c b e => match c, e with | 0, e => (by cases e; exact PySem.W.exm_ref sC4 dC4 tC4 e0_4) | 1, e => (by cases e; exact PySem.W.exm_ref sC4 dC4 tC4 e1_4) | 2, e => (by cases e; exact PySem.W.exm_ref sC4 dC4 tC4 e2_4) | 3, e => (by cases e; exact PySem.W.exm_ref sC4 dC4 tC4 e3_4) | 4, e => (by cases e; exact PySem.W.exm_ref sC4 dC4 tC4 e4_4) | 5, e => (by cases e; exact PySem.W.exm_ref sC4 dC4 tC4 e5_4) | n + 6, e => (by cases e),
    kit_BadDraw := fun c hc => match c, hc with | 0, _ => kit_own dC2 tC2 e0_2 e2_2 | 1, _ => kit_own dC2 tC2 e1_2 e2_2 | 2, _ => kit_own dC2 tC2 e2_2 e2_2 | 3, _ => kit_own dC2 tC2 e3_2 e2_2 | 4, _ => kit_own dC2 tC2 e4_2 e2_2 | 5, _ => kit_own dC2 tC2 e5_2 e2_2 | n + 6, h => absurd h (by omega),
    kit_BadGraph := fun c hc => match c, hc with | 0, _ => kit_own dC3 tC3 e0_3 e3_3 | 1, _ => kit_own dC3 tC3 e1_3 e3_3 | 2, _ => kit_own dC3 tC3 e2_3 e3_3 | 3, _ => kit_own dC3 tC3 e3_3 e3_3 | 4, _ => kit_own dC3 tC3 e4_3 e3_3 | 5, _ => kit_own dC3 tC3 e5_3 e3_3 | n + 6, h => absurd h (by omega),
    kit_BadPermutation := fun c hc => match c, hc with | 0, _ => kit_own dC1 tC1 e0_1 e1_1 | 1, _ => kit_own dC1 tC1 e1_1 e1_1 | 2, _ => kit_own dC1 tC1 e2_1 e1_1 | 3, _ => kit_own dC1 tC1 e3_1 e1_1 | 4, _ => kit_own dC1 tC1 e4_1 e1_1 | 5, _ => kit_own dC1 tC1 e5_1 e1_1 | n + 6, h => absurd h (by omega),
    kit_BadStatement := fun c hc => match c, hc with | 0, _ => kit_own dC4 tC4 e0_4 e4_4 | 1, _ => kit_own dC4 tC4 e1_4 e4_4 | 2, _ => kit_own dC4 tC4 e2_4 e4_4 | 3, _ => kit_own dC4 tC4 e3_4 e4_4 | 4, _ => kit_own dC4 tC4 e4_4 e4_4 | 5, _ => kit_own dC4 tC4 e5_4 e4_4 | n + 6, h => absurd h (by omega),
    kit_BadWitness := fun c hc => match c, hc with | 0, _ => kit_own dC5 tC5 e0_5 e5_5 | 1, _ => kit_own dC5 tC5 e1_5 e5_5 | 2, _ => kit_own dC5 tC5 e2_5 e5_5 | 3, _ => kit_own dC5 tC5 e3_5 e5_5 | 4, _ => kit_own dC5 tC5 e4_5 e5_5 | 5, _ => kit_own dC5 tC5 e5_5 e5_5 | n + 6, h => absurd h (by omega),
    kit_UnseenError := fun c hc => match c, hc with | 0, _ => kit_own dC0 tC0 e0_0 e0_0 | 1, _ => kit_own dC0 tC0 e1_0 e0_0 | 2, _ => kit_own dC0 tC0 e2_0 e0_0 | 3, _ => kit_own dC0 tC0 e3_0 e0_0 | 4, _ => kit_own dC0 tC0 e4_0 e0_0 | 5, _ => kit_own dC0 tC0 e5_0 e0_0 | n + 6, h => absurd h (by omega),
    kit_ValueError := fun c hc => match c, hc with | 0, _ => kit_blt m_ValueError e0_ValueError | 1, _ => kit_blt m_ValueError e1_ValueError | 2, _ => kit_blt m_ValueError e2_ValueError | 3, _ => kit_blt m_ValueError e3_ValueError | 4, _ => kit_blt m_ValueError e4_ValueError | 5, _ => kit_blt m_ValueError e5_ValueError | n + 6, h => absurd h (by omega) }
  have F0 := fun_mk (st := s_is_permutation) l0 c0 k0
  have b0 := F0.binds (ps := ["row"]) fun _ _ _ _ _ _ us hl => match us, hl with | [_], _ => rfl
  have F1 := fun_mk (st := s_require_permutation) l1 c1 k1
  have b1 := F1.binds (ps := ["row"]) fun _ _ _ _ _ _ us hl => match us, hl with | [_], _ => rfl
  have F2 := fun_mk (st := s_inverse) l2 c2 k2
  have b2 := F2.binds (ps := ["row"]) fun _ _ _ _ _ _ us hl => match us, hl with | [_], _ => rfl
  have F3 := fun_mk (st := s_compose) l3 c3 k3
  have b3 := F3.binds (ps := ["first", "second"]) fun _ _ _ _ _ _ us hl => match us, hl with | [_, _], _ => rfl
  have F4 := fun_mk (st := s_make_graph) l4 c4 k4
  have b4 := F4.binds (ps := ["nodes", "edges"]) fun _ _ _ _ _ _ us hl => match us, hl with | [_, _], _ => rfl
  have F5 := fun_mk (st := s_has_edge) l5 c5 k5
  have b5 := F5.binds (ps := ["graph", "a", "b"]) fun _ _ _ _ _ _ us hl => match us, hl with | [_, _, _], _ => rfl
  have F6 := fun_mk (st := s_is_ring) l6 c6 k6
  have b6 := F6.binds (ps := ["row"]) fun _ _ _ _ _ _ us hl => match us, hl with | [_], _ => rfl
  have F7 := fun_mk (st := s_require_ring) l7 c7 k7
  have b7 := F7.binds (ps := ["row"]) fun _ _ _ _ _ _ us hl => match us, hl with | [_], _ => rfl
  have F8 := fun_mk (st := s_ring_form) l8 c8 k8
  have b8 := F8.binds (ps := ["row"]) fun _ _ _ _ _ _ us hl => match us, hl with | [_], _ => rfl
  have F9 := fun_mk (st := s_ring_edges) l9 c9 k9
  have b9 := F9.binds (ps := ["row"]) fun _ _ _ _ _ _ us hl => match us, hl with | [_], _ => rfl
  have F10 := fun_mk (st := s_is_ring_form) l10 c10 k10
  have b10 := F10.binds (ps := ["row", "size"]) fun _ _ _ _ _ _ us hl => match us, hl with | [_, _], _ => rfl
  have F11 := fun_mk (st := s_ring) l11 c11 k11
  have b11 := F11.binds (ps := ["graph"]) fun _ _ _ _ _ _ us hl => match us, hl with | [_], _ => rfl
  have F12 := fun_mk (st := s_alike) l12 c12 k12
  have b12 := F12.binds (ps := ["first", "second"]) fun _ _ _ _ _ _ us hl => match us, hl with | [_, _], _ => rfl
  have F13 := fun_mk (st := s_is_gate) l13 c13 k13
  have b13 := F13.binds (ps := ["gate", "own"]) fun _ _ _ _ _ _ us hl => match us, hl with | [_, _], _ => rfl
  have F14 := fun_mk (st := s_circuit) l14 c14 k14
  have b14 := F14.binds (ps := ["inputs", "gates"]) fun _ _ _ _ _ _ us hl => match us, hl with | [_, _], _ => rfl
  have F15 := fun_mk (st := s_atom_count) l15 c15 k15
  have b15 := F15.binds (ps := ["statement"]) fun _ _ _ _ _ _ us hl => match us, hl with | [_], _ => rfl
  have F16 := fun_mk (st := s_require_parts) l16 c16 k16
  have b16 := F16.binds (ps := ["first", "second"]) fun _ _ _ _ _ _ us hl => match us, hl with | [_, _], _ => rfl
  have F17 := fun_mk (st := s_both) l17 c17 k17
  have b17 := F17.binds (ps := ["first", "second"]) fun _ _ _ _ _ _ us hl => match us, hl with | [_, _], _ => rfl
  have F18 := fun_mk (st := s_require_kind) l18 c18 k18
  have b18 := F18.binds (ps := ["statement", "kind"]) fun _ _ _ _ _ _ us hl => match us, hl with | [_, _], _ => rfl
  have F19 : FunD K "gate_value" "gate_value" (defArgs s_gate_value) (defBody s_gate_value) (defScope s_gate_value) [.int 0] [] f19 (PySem.W.fnOf "gate_value" "gate_value" (defArgs s_gate_value) (defBody s_gate_value) (defScope s_gate_value) (.ref Td19) kV19 dc19 pm19 an19 cd19 ct19) := ⟨⟨_, _, _, _, _, _, _, _, _, _, rfl, l19, c19, .inr ⟨by simp, Td19, _, _, _, rfl, d19, rfl, (.cons ⟨td19_0, rfl⟩ .nil)⟩, .inl rfl⟩, k19⟩
  have b19 : Binds K (PySem.W.fnOf "gate_value" "gate_value" (defArgs s_gate_value) (defBody s_gate_value) (defScope s_gate_value) (.ref Td19) kV19 dc19 pm19 an19 cd19 ct19) ["name", "first", "second"] [] := by
    obtain ⟨ds, v, b⟩ := FunD.binds1 (ps := ["name", "first", "second"]) F19 3 1 (by simp) rfl fun _ _ _ _ _ _ _ us its hl hi => match us, its, hl, hi with | [_, _, _], [_], _, _ => ⟨_, rfl, rfl⟩
    cases v
    exact b
  have e19 := FunD.binds1 (ps := ["name", "first", "second"]) F19 2 0 (by simp) rfl fun _ _ _ _ _ _ _ us its hl hi => match us, its, hl, hi with | [_, _], [_], _, _ => ⟨_, rfl, rfl⟩
  have F20 := fun_mk (st := s_is_row) l20 c20 k20
  have b20 := F20.binds (ps := ["value", "size"]) fun _ _ _ _ _ _ us hl => match us, hl with | [_, _], _ => rfl
  have F21 := fun_mk (st := s_is_bits) l21 c21 k21
  have b21 := F21.binds (ps := ["value", "size"]) fun _ _ _ _ _ _ us hl => match us, hl with | [_, _], _ => rfl
  have F22 := fun_mk (st := s_wire_values) l22 c22 k22
  have b22 := F22.binds (ps := ["statement", "bits"]) fun _ _ _ _ _ _ us hl => match us, hl with | [_, _], _ => rfl
  have F23 := fun_mk (st := s_turns_into) l23 c23 k23
  have b23 := F23.binds (ps := ["first", "second", "row"]) fun _ _ _ _ _ _ us hl => match us, hl with | [_, _, _], _ => rfl
  have F24 := fun_mk (st := s_fits) l24 c24 k24
  have b24 := F24.binds (ps := ["statement", "row"]) fun _ _ _ _ _ _ us hl => match us, hl with | [_, _], _ => rfl
  have F25 := fun_mk (st := s_has_form) l25 c25 k25
  have b25 := F25.binds (ps := ["statement", "value"]) fun _ _ _ _ _ _ us hl => match us, hl with | [_, _], _ => rfl
  have F26 := fun_mk (st := s_holds_atom) l26 c26 k26
  have b26 := F26.binds (ps := ["atom", "witness"]) fun _ _ _ _ _ _ us hl => match us, hl with | [_, _], _ => rfl
  have F27 := fun_mk (st := s_holds) l27 c27 k27
  have b27 := F27.binds (ps := ["statement", "witness"]) fun _ _ _ _ _ _ us hl => match us, hl with | [_, _], _ => rfl
  have F28 := fun_mk (st := s_holds_join) l28 c28 k28
  have b28 := F28.binds (ps := ["statement", "witness"]) fun _ _ _ _ _ _ us hl => match us, hl with | [_, _], _ => rfl
  have F29 := fun_mk (st := s_require_witness) l29 c29 k29
  have b29 := F29.binds (ps := ["statement", "witness"]) fun _ _ _ _ _ _ us hl => match us, hl with | [_, _], _ => rfl
  have F30 := fun_mk (st := s_swap_statement) l30 c30 k30
  have b30 := F30.binds (ps := ["statement"]) fun _ _ _ _ _ _ us hl => match us, hl with | [_], _ => rfl
  have F31 := fun_mk (st := s_swap_witness) l31 c31 k31
  have b31 := F31.binds (ps := ["statement", "witness"]) fun _ _ _ _ _ _ us hl => match us, hl with | [_, _], _ => rfl
  have F34 := fun_mk (st := s_L_cell) l34 c34 k34
  have b34 := F34.binds (ps := ["script", "k"]) fun _ _ _ _ _ _ us hl => match us, hl with | [_, _], _ => rfl
  have F35 := fun_mk (st := s_L_numbers) l35 c35 k35
  have b35 := F35.binds (ps := ["cell", "many"]) fun _ _ _ _ _ _ us hl => match us, hl with | [_, _], _ => rfl
  have F36 := fun_mk (st := s_L_same) l36 c36 k36
  have b36 := F36.binds (ps := ["value", "due"]) fun _ _ _ _ _ _ us hl => match us, hl with | [_, _], _ => rfl
  have F37 := fun_mk (st := s_L_factorial) l37 c37 k37
  have b37 := F37.binds (ps := ["size"]) fun _ _ _ _ _ _ us hl => match us, hl with | [_], _ => rfl
  have F38 := fun_mk (st := s_L_permutation) l38 c38 k38
  have b38 := F38.binds (ps := ["size", "number"]) fun _ _ _ _ _ _ us hl => match us, hl with | [_, _], _ => rfl
  have F39 := fun_mk (st := s_L_after) l39 c39 k39
  have b39 := F39.binds (ps := ["first", "second"]) fun _ _ _ _ _ _ us hl => match us, hl with | [_, _], _ => rfl
  have F40 := fun_mk (st := s_L_undone) l40 c40 k40
  have b40 := F40.binds (ps := ["row"]) fun _ _ _ _ _ _ us hl => match us, hl with | [_], _ => rfl
  have F41 := fun_mk (st := s_L_pairs) l41 c41 k41
  have b41 := F41.binds (ps := ["nodes"]) fun _ _ _ _ _ _ us hl => match us, hl with | [_], _ => rfl
  have F42 := fun_mk (st := s_L_edge) l42 c42 k42
  have b42 := F42.binds (ps := ["a", "b"]) fun _ _ _ _ _ _ us hl => match us, hl with | [_, _], _ => rfl
  have F43 := fun_mk (st := s_L_moved) l43 c43 k43
  have b43 := F43.binds (ps := ["edges", "row"]) fun _ _ _ _ _ _ us hl => match us, hl with | [_, _], _ => rfl
  have F44 := fun_mk (st := s_L_made) l44 c44 k44
  have b44 := F44.binds (ps := ["first", "last"]) fun _ _ _ _ _ _ us hl => match us, hl with | [_, _], _ => rfl
  have F45 := fun_mk (st := s_L_join) l45 c45 k45
  have b45 := F45.binds (ps := ["rows"]) fun _ _ _ _ _ _ us hl => match us, hl with | [_], _ => rfl
  have F46 := fun_mk (st := s_L_chain) l46 c46 k46
  have b46 := F46.binds (ps := ["rows"]) fun _ _ _ _ _ _ us hl => match us, hl with | [_], _ => rfl
  have F47 := fun_mk (st := s_L_product) l47 c47 k47
  have b47 := F47.binds (ps := ["rows"]) fun _ _ _ _ _ _ us hl => match us, hl with | [_], _ => rfl
  have F48 := fun_mk (st := s_L_no_join) l48 c48 k48
  have b48 := F48.binds (ps := ["rows"]) fun _ _ _ _ _ _ us hl => match us, hl with | [_], _ => rfl
  have F49 := fun_mk (st := s_L_no_chain) l49 c49 k49
  have b49 := F49.binds (ps := ["rows"]) fun _ _ _ _ _ _ us hl => match us, hl with | [_], _ => rfl
  have F50 := fun_mk (st := s_L_stretch) l50 c50 k50
  have b50 := F50.binds (ps := ["told", "graphs", "rows", "a", "b"]) fun _ _ _ _ _ _ us hl => match us, hl with | [_, _, _, _, _], _ => rfl
  have F51 := fun_mk (st := s_L_other_graph) l51 c51 k51
  have b51 := F51.binds (ps := ["graph", "row"]) fun _ _ _ _ _ _ us hl => match us, hl with | [_, _], _ => rfl
  have F52 := fun_mk (st := s_L_wrong_joins) l52 c52 k52
  have b52 := F52.binds (ps := ["told", "graphs", "row"]) fun _ _ _ _ _ _ us hl => match us, hl with | [_, _, _], _ => rfl
  have F53 := fun_mk (st := s_L_wrong_chains) l53 c53 k53
  have b53 := F53.binds (ps := ["rows", "row"]) fun _ _ _ _ _ _ us hl => match us, hl with | [_, _], _ => rfl
  have F54 := fun_mk (st := s_law) l54 c54 k54
  refine ⟨PySem.W.fnOf "law" "law" (defArgs s_law) (defBody s_law) (defScope s_law) .none kV54 dc54 pm54 an54 cd54 ct54, fun s v => .of_eq rfl, fun base _ _ => ?_⟩
  have D0 := ok_is_permutation (P := P) (w := w) (base := base) F0 (PySem.W.mg_of X G a0) b0 T
  have D1 := ok_require_permutation (P := P) (w := w) (base := base) F1 (PySem.W.mg_of X G a1) b1 T D0
  have D2 := ok_inverse (P := P) (w := w) (base := base) F2 (PySem.W.mg_of X G a2) b2 T D1
  have D3 := ok_compose (P := P) (w := w) (base := base) F3 (PySem.W.mg_of X G a3) b3 T D1
  have D4 := ok_make_graph (P := P) (w := w) (base := base) F4 (PySem.W.mg_of X G a4) b4 T
  have D5 := ok_has_edge (P := P) (w := w) (base := base) F5 (PySem.W.mg_of X G a5) b5 T
  have D6 := ok_is_ring (P := P) (w := w) (base := base) F6 (PySem.W.mg_of X G a6) b6 T D0
  have D7 := ok_require_ring (P := P) (w := w) (base := base) F7 (PySem.W.mg_of X G a7) b7 T D6
  have D8 := ok_ring_form (P := P) (w := w) (base := base) F8 (PySem.W.mg_of X G a8) b8 T D7
  have D9 := ok_ring_edges (P := P) (w := w) (base := base) F9 (PySem.W.mg_of X G a9) b9 T D7
  have D10 := ok_is_ring_form (P := P) (w := w) (base := base) F10 (PySem.W.mg_of X G a10) b10 T D6 D8
  have D11 := ok_ring (P := P) (w := w) (base := base) F11 (PySem.W.mg_of X G a11) b11 T
  have D12 := ok_alike (P := P) (w := w) (base := base) F12 (PySem.W.mg_of X G a12) b12 T
  have D13 := ok_is_gate (P := P) (w := w) (base := base) F13 (PySem.W.mg_of X G a13) b13 T
  have D14 := ok_circuit (P := P) (w := w) (base := base) F14 (PySem.W.mg_of X G a14) b14 T D13
  have D15 := ok_atom_count (P := P) (w := w) (base := base) F15 (PySem.W.mg_of X G a15) b15 T
  have D16 := ok_require_parts (P := P) (w := w) (base := base) F16 (PySem.W.mg_of X G a16) b16 T D15
  have D17 := ok_both (P := P) (w := w) (base := base) F17 (PySem.W.mg_of X G a17) b17 T D16
  have D18 := ok_require_kind (P := P) (w := w) (base := base) F18 (PySem.W.mg_of X G a18) b18 T
  have D19 := ok_gate_value (P := P) (w := w) (base := base) F19 (PySem.W.mg_of X G a19) b19 e19 T
  have D20 := ok_is_row (P := P) (w := w) (base := base) F20 (PySem.W.mg_of X G a20) b20 T
  have D21 := ok_is_bits (P := P) (w := w) (base := base) F21 (PySem.W.mg_of X G a21) b21 T D20
  have D22 := ok_wire_values (P := P) (w := w) (base := base) F22 (PySem.W.mg_of X G a22) b22 T D18 D19.1 D21
  have D23 := ok_turns_into (P := P) (w := w) (base := base) F23 (PySem.W.mg_of X G a23) b23 T D5
  have D24 := ok_fits (P := P) (w := w) (base := base) F24 (PySem.W.mg_of X G a24) b24 T D9 D22 D23
  have D25 := ok_has_form (P := P) (w := w) (base := base) F25 (PySem.W.mg_of X G a25) b25 T D0 D10 D20 D21
  have D26 := ok_holds_atom (P := P) (w := w) (base := base) F26 (PySem.W.mg_of X G a26) b26 T D24 D25
  have DR28 := ok_R_holds (P := P) (w := w) (base := base) F27 (PySem.W.mg_of X G a27) b27 F28 (PySem.W.mg_of X G a28) b28 T D26
  have D27 := DR28.1
  have D28 := DR28.2
  have D29 := ok_require_witness (P := P) (w := w) (base := base) F29 (PySem.W.mg_of X G a29) b29 T D27
  have D30 := ok_swap_statement (P := P) (w := w) (base := base) F30 (PySem.W.mg_of X G a30) b30 T
  have D31 := ok_swap_witness (P := P) (w := w) (base := base) F31 (PySem.W.mg_of X G a31) b31 T D2 D29 D30
  have D32 := ok_joined_alike (P := P) (w := w) (base := base) l32 c32 k32 (PySem.W.mg_of X G a32) (StX.bind_star1 (B := fun vs => bindArgs _ ⟨vs, []⟩) (fun _ => rfl) (fun _ _ _ => rfl)) T
  have D33 := ok_joined_witness (P := P) (w := w) (base := base) l33 c33 k33 (PySem.W.mg_of X G a33) (StX.bind_star1 (B := fun vs => bindArgs _ ⟨vs, []⟩) (fun _ => rfl) (fun _ _ _ => rfl)) T D1 D3
  have D34 := ok_L_cell (P := P) (w := w) (base := base) F34 (PySem.W.mg_of X G a34) b34 T
  have D35 := ok_L_numbers (P := P) (w := w) (base := base) F35 (PySem.W.mg_of X G a35) b35 T
  have D36 := ok_L_same (P := P) (w := w) (base := base) F36 (PySem.W.mg_of X G a36) b36 T
  have D37 := ok_L_factorial (P := P) (w := w) (base := base) F37 (PySem.W.mg_of X G a37) b37 T
  have D38 := ok_L_permutation (P := P) (w := w) (base := base) F38 (PySem.W.mg_of X G a38) b38 T D37
  have D39 := ok_L_after (P := P) (w := w) (base := base) F39 (PySem.W.mg_of X G a39) b39 T
  have D40 := ok_L_undone (P := P) (w := w) (base := base) F40 (PySem.W.mg_of X G a40) b40 T
  have D41 := ok_L_pairs (P := P) (w := w) (base := base) F41 (PySem.W.mg_of X G a41) b41 T
  have D42 := ok_L_edge (P := P) (w := w) (base := base) F42 (PySem.W.mg_of X G a42) b42 T
  have D43 := ok_L_moved (P := P) (w := w) (base := base) F43 (PySem.W.mg_of X G a43) b43 T D42
  have D44 := ok_L_made (P := P) (w := w) (base := base) F44 (PySem.W.mg_of X G a44) b44 T D4 D12
  have D45 := ok_L_join (P := P) (w := w) (base := base) F45 (PySem.W.mg_of X G a45) b45 T D32
  have D46 := ok_L_chain (P := P) (w := w) (base := base) F46 (PySem.W.mg_of X G a46) b46 T D33
  have D47 := ok_L_product (P := P) (w := w) (base := base) F47 (PySem.W.mg_of X G a47) b47 T D39
  have D48 := ok_L_no_join (P := P) (w := w) (base := base) F48 (PySem.W.mg_of X G a48) b48 T D45
  have D49 := ok_L_no_chain (P := P) (w := w) (base := base) F49 (PySem.W.mg_of X G a49) b49 T D46
  have D50 := ok_L_stretch (P := P) (w := w) (base := base) F50 (PySem.W.mg_of X G a50) b50 T D27 D30 D31 D36 D40 D43 D45 D46 D47
  have D51 := ok_L_other_graph (P := P) (w := w) (base := base) F51 (PySem.W.mg_of X G a51) b51 T D41
  have D52 := ok_L_wrong_joins (P := P) (w := w) (base := base) F52 (PySem.W.mg_of X G a52) b52 T D4 D11 D14 D17 D44 D48 D51
  have D53 := ok_L_wrong_chains (P := P) (w := w) (base := base) F53 (PySem.W.mg_of X G a53) b53 T D49
  exact (ok_law F54 T D32 D33 D34 D35 D36 D37 D38 D41 D43 D44 D45 D46 D47 D50 D52 D53).imp (prom_law hf)
theorem walk (hf : ∀ ns : List Int, ns.length ≤ 63 → f_law [.lst (ns.map .int)] = .ok (.fr (.bl true))) {l : PySem.W.OpenLaw} {q : Program} {loose : List Str} {XP : (Str → Option Value) → Heap → Prop} {YP : World → Heap → Prop} {d : DefRec} {K : Params → PySem.W.Frag} (hn : l.most = some 63) (hdf : d.params.defaults = [])
    (hY : ∀ (w : World) (h : Heap), YP w h → (K w.params).In h)
    (F : ∀ (w : World) (mg : Str → Option Value) (fa : Addr) (h : Heap), (K w.params).In h → h.Ns mainGlobals mg → mg d.name = some (.ref fa) →
      ∃ fd : FuncData, (∀ (s : Shared) (u : Value), BindsTo s fd ⟨[u], []⟩ [("script", u)]) ∧ ∀ base : Heap, (K w.params).In base → base.Ns mainGlobals mg → FnOk l.prog w (K w.params) mg base (L2.CX l.prog w) 19 fa fd ["script"] (spL (K w.params))) :
    PySem.W.WalkO q loose XP YP l.row.toRowW d [] (fun f vs => PySem.call f vs) :=
  L2.walk_of (n := 63) (k := 19) (x := "script") (CX := fun w => L2.CX l.prog w) (sp := fun w => spL (K w.params)) hn (by decide) hdf ⟨by decide, by decide, by decide⟩ hY F (fun _ _ a ns hl _ hS => ⟨a, ns, rfl, hS, hl, fun _ => rfl⟩) fun _ _ _ _ _ ⟨_, _, _, _, _, z⟩ => z.2.2.2.2.2.2.2
end K15

open PySem PySem.W PyProof.Rows in
set_option maxRecDepth 100000 in
set_option maxHeartbeats 0 in
theorem PySem.Challenge.cw_provedunseen_k15_alike_like_paths_holds : PySem.Challenge.rw_provedunseen_k15_alike_like_paths.Holds := by
  w_on; o_law; k_head; (case hw => w_witness2)
  k_fill
  refine K15.walk K15.f_law_true (l := PySem.Challenge.rw_provedunseen_k15_alike_like_paths) rfl rfl (fun w h Y => PySem.W.kIn_of Y) ?F
  case F =>
    intro w mg fa h KX G hmg
    refine' K15.all_mk K15.f_law_true KX G hmg ?nC0 ?xC0 ?kC0 ?sC0 ?tC0 ?dC0 ?gC0 ?aC0 ?cC0 ?mC0 ?nC1 ?xC1 ?kC1 ?sC1 ?tC1 ?dC1 ?gC1 ?aC1 ?cC1 ?mC1 ?nC2 ?xC2 ?kC2 ?sC2 ?tC2 ?dC2 ?gC2 ?aC2 ?cC2 ?mC2 ?nC3 ?xC3 ?kC3 ?sC3 ?tC3 ?dC3 ?gC3 ?aC3 ?cC3 ?mC3 ?nC4 ?xC4 ?kC4 ?sC4 ?tC4 ?dC4 ?gC4 ?aC4 ?cC4 ?mC4 ?nC5 ?xC5 ?kC5 ?sC5 ?tC5 ?dC5 ?gC5 ?aC5 ?cC5 ?mC5 ?og ?ot ?e0_0 ?e1_0 ?e2_0 ?e3_0 ?e4_0 ?e5_0 ?e0_1 ?e1_1 ?e2_1 ?e3_1 ?e4_1 ?e5_1 ?e0_2 ?e1_2 ?e2_2 ?e3_2 ?e4_2 ?e5_2 ?e0_3 ?e1_3 ?e2_3 ?e3_3 ?e4_3 ?e5_3 ?e0_4 ?e1_4 ?e2_4 ?e3_4 ?e4_4 ?e5_4 ?e0_5 ?e1_5 ?e2_5 ?e3_5 ?e4_5 ?e5_5 ?m_ValueError ?e0_ValueError ?e1_ValueError ?e2_ValueError ?e3_ValueError ?e4_ValueError ?e5_ValueError ?n_ValueError ?n_abs ?n_all ?n_bool ?n_enumerate ?n_int ?n_isinstance ?n_len ?n_list ?n_max ?n_min ?n_range ?n_sorted ?n_str ?n_tuple ?n_type ?n_zip ?c_LARGEST_SIZE ?c_LEAST_RING ?c_LEAST_RING_NODES ?c_MOST_ATOMS ?c_MOST_GATES ?c_MOST_INPUTS ?c_MOST_NODES ?a0 ?l0 ?c0 ?k0 ?a1 ?l1 ?c1 ?k1 ?a2 ?l2 ?c2 ?k2 ?a3 ?l3 ?c3 ?k3 ?a4 ?l4 ?c4 ?k4 ?a5 ?l5 ?c5 ?k5 ?a6 ?l6 ?c6 ?k6 ?a7 ?l7 ?c7 ?k7 ?a8 ?l8 ?c8 ?k8 ?a9 ?l9 ?c9 ?k9 ?a10 ?l10 ?c10 ?k10 ?a11 ?l11 ?c11 ?k11 ?a12 ?l12 ?c12 ?k12 ?a13 ?l13 ?c13 ?k13 ?a14 ?l14 ?c14 ?k14 ?a15 ?l15 ?c15 ?k15 ?a16 ?l16 ?c16 ?k16 ?a17 ?l17 ?c17 ?k17 ?a18 ?l18 ?c18 ?k18 ?a19 ?l19 ?d19 ?c19 ?k19 ?a20 ?l20 ?c20 ?k20 ?a21 ?l21 ?c21 ?k21 ?a22 ?l22 ?c22 ?k22 ?a23 ?l23 ?c23 ?k23 ?a24 ?l24 ?c24 ?k24 ?a25 ?l25 ?c25 ?k25 ?a26 ?l26 ?c26 ?k26 ?a27 ?l27 ?c27 ?k27 ?a28 ?l28 ?c28 ?k28 ?a29 ?l29 ?c29 ?k29 ?a30 ?l30 ?c30 ?k30 ?a31 ?l31 ?c31 ?k31 ?a32 ?l32 ?c32 ?k32 ?a33 ?l33 ?c33 ?k33 ?a34 ?l34 ?c34 ?k34 ?a35 ?l35 ?c35 ?k35 ?a36 ?l36 ?c36 ?k36 ?a37 ?l37 ?c37 ?k37 ?a38 ?l38 ?c38 ?k38 ?a39 ?l39 ?c39 ?k39 ?a40 ?l40 ?c40 ?k40 ?a41 ?l41 ?c41 ?k41 ?a42 ?l42 ?c42 ?k42 ?a43 ?l43 ?c43 ?k43 ?a44 ?l44 ?c44 ?k44 ?a45 ?l45 ?c45 ?k45 ?a46 ?l46 ?c46 ?k46 ?a47 ?l47 ?c47 ?k47 ?a48 ?l48 ?c48 ?k48 ?a49 ?l49 ?c49 ?k49 ?a50 ?l50 ?c50 ?k50 ?a51 ?l51 ?c51 ?k51 ?a52 ?l52 ?c52 ?k52 ?a53 ?l53 ?c53 ?k53 ?a54 ?l54 ?c54 ?k54
    (case nC0 => k_is)
    (case xC0 => k_exc)
    (case kC0 => k_is)
    (case sC0 => k_is)
    (case tC0 => k_is)
    (case dC0 => k_is)
    (case gC0 => k_is)
    (case aC0 => k_is)
    (case cC0 => k_is)
    (case mC0 => k_is)
    (case nC1 => k_is)
    (case xC1 => k_exc)
    (case kC1 => k_is)
    (case sC1 => k_is)
    (case tC1 => k_is)
    (case dC1 => k_is)
    (case gC1 => k_is)
    (case aC1 => k_is)
    (case cC1 => k_is)
    (case mC1 => k_is)
    (case nC2 => k_is)
    (case xC2 => k_exc)
    (case kC2 => k_is)
    (case sC2 => k_is)
    (case tC2 => k_is)
    (case dC2 => k_is)
    (case gC2 => k_is)
    (case aC2 => k_is)
    (case cC2 => k_is)
    (case mC2 => k_is)
    (case nC3 => k_is)
    (case xC3 => k_exc)
    (case kC3 => k_is)
    (case sC3 => k_is)
    (case tC3 => k_is)
    (case dC3 => k_is)
    (case gC3 => k_is)
    (case aC3 => k_is)
    (case cC3 => k_is)
    (case mC3 => k_is)
    (case nC4 => k_is)
    (case xC4 => k_exc)
    (case kC4 => k_is)
    (case sC4 => k_is)
    (case tC4 => k_is)
    (case dC4 => k_is)
    (case gC4 => k_is)
    (case aC4 => k_is)
    (case cC4 => k_is)
    (case mC4 => k_is)
    (case nC5 => k_is)
    (case xC5 => k_exc)
    (case kC5 => k_is)
    (case sC5 => k_is)
    (case tC5 => k_is)
    (case dC5 => k_is)
    (case gC5 => k_is)
    (case aC5 => k_is)
    (case cC5 => k_is)
    (case mC5 => k_is)
    (case og => k_is)
    (case ot => k_is)
    (case e0_0 => first | rfl | k_is)
    (case e1_0 => first | rfl | k_is)
    (case e2_0 => first | rfl | k_is)
    (case e3_0 => first | rfl | k_is)
    (case e4_0 => first | rfl | k_is)
    (case e5_0 => first | rfl | k_is)
    (case e0_1 => first | rfl | k_is)
    (case e1_1 => first | rfl | k_is)
    (case e2_1 => first | rfl | k_is)
    (case e3_1 => first | rfl | k_is)
    (case e4_1 => first | rfl | k_is)
    (case e5_1 => first | rfl | k_is)
    (case e0_2 => first | rfl | k_is)
    (case e1_2 => first | rfl | k_is)
    (case e2_2 => first | rfl | k_is)
    (case e3_2 => first | rfl | k_is)
    (case e4_2 => first | rfl | k_is)
    (case e5_2 => first | rfl | k_is)
    (case e0_3 => first | rfl | k_is)
    (case e1_3 => first | rfl | k_is)
    (case e2_3 => first | rfl | k_is)
    (case e3_3 => first | rfl | k_is)
    (case e4_3 => first | rfl | k_is)
    (case e5_3 => first | rfl | k_is)
    (case e0_4 => first | rfl | k_is)
    (case e1_4 => first | rfl | k_is)
    (case e2_4 => first | rfl | k_is)
    (case e3_4 => first | rfl | k_is)
    (case e4_4 => first | rfl | k_is)
    (case e5_4 => first | rfl | k_is)
    (case e0_5 => first | rfl | k_is)
    (case e1_5 => first | rfl | k_is)
    (case e2_5 => first | rfl | k_is)
    (case e3_5 => first | rfl | k_is)
    (case e4_5 => first | rfl | k_is)
    (case e5_5 => first | rfl | k_is)
    (case m_ValueError => decide +kernel)
    (case e0_ValueError => first | rfl | k_is)
    (case e1_ValueError => first | rfl | k_is)
    (case e2_ValueError => first | rfl | k_is)
    (case e3_ValueError => first | rfl | k_is)
    (case e4_ValueError => first | rfl | k_is)
    (case e5_ValueError => first | rfl | k_is)
    (case n_ValueError => k_is)
    (case n_abs => k_is)
    (case n_all => k_is)
    (case n_bool => k_is)
    (case n_enumerate => k_is)
    (case n_int => k_is)
    (case n_isinstance => k_is)
    (case n_len => k_is)
    (case n_list => k_is)
    (case n_max => k_is)
    (case n_min => k_is)
    (case n_range => k_is)
    (case n_sorted => k_is)
    (case n_str => k_is)
    (case n_tuple => k_is)
    (case n_type => k_is)
    (case n_zip => k_is)
    (case c_LARGEST_SIZE => k_is)
    (case c_LEAST_RING => k_is)
    (case c_LEAST_RING_NODES => k_is)
    (case c_MOST_ATOMS => k_is)
    (case c_MOST_GATES => k_is)
    (case c_MOST_INPUTS => k_is)
    (case c_MOST_NODES => k_is)
    (case a0 => k_is)
    (case l0 => k_is)
    (case c0 => k_is)
    (case k0 => k_is)
    (case a1 => k_is)
    (case l1 => k_is)
    (case c1 => k_is)
    (case k1 => k_is)
    (case a2 => k_is)
    (case l2 => k_is)
    (case c2 => k_is)
    (case k2 => k_is)
    (case a3 => k_is)
    (case l3 => k_is)
    (case c3 => k_is)
    (case k3 => k_is)
    (case a4 => k_is)
    (case l4 => k_is)
    (case c4 => k_is)
    (case k4 => k_is)
    (case a5 => k_is)
    (case l5 => k_is)
    (case c5 => k_is)
    (case k5 => k_is)
    (case a6 => k_is)
    (case l6 => k_is)
    (case c6 => k_is)
    (case k6 => k_is)
    (case a7 => k_is)
    (case l7 => k_is)
    (case c7 => k_is)
    (case k7 => k_is)
    (case a8 => k_is)
    (case l8 => k_is)
    (case c8 => k_is)
    (case k8 => k_is)
    (case a9 => k_is)
    (case l9 => k_is)
    (case c9 => k_is)
    (case k9 => k_is)
    (case a10 => k_is)
    (case l10 => k_is)
    (case c10 => k_is)
    (case k10 => k_is)
    (case a11 => k_is)
    (case l11 => k_is)
    (case c11 => k_is)
    (case k11 => k_is)
    (case a12 => k_is)
    (case l12 => k_is)
    (case c12 => k_is)
    (case k12 => k_is)
    (case a13 => k_is)
    (case l13 => k_is)
    (case c13 => k_is)
    (case k13 => k_is)
    (case a14 => k_is)
    (case l14 => k_is)
    (case c14 => k_is)
    (case k14 => k_is)
    (case a15 => k_is)
    (case l15 => k_is)
    (case c15 => k_is)
    (case k15 => k_is)
    (case a16 => k_is)
    (case l16 => k_is)
    (case c16 => k_is)
    (case k16 => k_is)
    (case a17 => k_is)
    (case l17 => k_is)
    (case c17 => k_is)
    (case k17 => k_is)
    (case a18 => k_is)
    (case l18 => k_is)
    (case c18 => k_is)
    (case k18 => k_is)
    (case a19 => k_is)
    (case l19 => k_is)
    (case d19 => k_is)
    (case c19 => k_is)
    (case k19 => k_is)
    (case a20 => k_is)
    (case l20 => k_is)
    (case c20 => k_is)
    (case k20 => k_is)
    (case a21 => k_is)
    (case l21 => k_is)
    (case c21 => k_is)
    (case k21 => k_is)
    (case a22 => k_is)
    (case l22 => k_is)
    (case c22 => k_is)
    (case k22 => k_is)
    (case a23 => k_is)
    (case l23 => k_is)
    (case c23 => k_is)
    (case k23 => k_is)
    (case a24 => k_is)
    (case l24 => k_is)
    (case c24 => k_is)
    (case k24 => k_is)
    (case a25 => k_is)
    (case l25 => k_is)
    (case c25 => k_is)
    (case k25 => k_is)
    (case a26 => k_is)
    (case l26 => k_is)
    (case c26 => k_is)
    (case k26 => k_is)
    (case a27 => k_is)
    (case l27 => k_is)
    (case c27 => k_is)
    (case k27 => k_is)
    (case a28 => k_is)
    (case l28 => k_is)
    (case c28 => k_is)
    (case k28 => k_is)
    (case a29 => k_is)
    (case l29 => k_is)
    (case c29 => k_is)
    (case k29 => k_is)
    (case a30 => k_is)
    (case l30 => k_is)
    (case c30 => k_is)
    (case k30 => k_is)
    (case a31 => k_is)
    (case l31 => k_is)
    (case c31 => k_is)
    (case k31 => k_is)
    (case a32 => k_is)
    (case l32 => k_is)
    (case c32 => k_is)
    (case k32 => k_is)
    (case a33 => k_is)
    (case l33 => k_is)
    (case c33 => k_is)
    (case k33 => k_is)
    (case a34 => k_is)
    (case l34 => k_is)
    (case c34 => k_is)
    (case k34 => k_is)
    (case a35 => k_is)
    (case l35 => k_is)
    (case c35 => k_is)
    (case k35 => k_is)
    (case a36 => k_is)
    (case l36 => k_is)
    (case c36 => k_is)
    (case k36 => k_is)
    (case a37 => k_is)
    (case l37 => k_is)
    (case c37 => k_is)
    (case k37 => k_is)
    (case a38 => k_is)
    (case l38 => k_is)
    (case c38 => k_is)
    (case k38 => k_is)
    (case a39 => k_is)
    (case l39 => k_is)
    (case c39 => k_is)
    (case k39 => k_is)
    (case a40 => k_is)
    (case l40 => k_is)
    (case c40 => k_is)
    (case k40 => k_is)
    (case a41 => k_is)
    (case l41 => k_is)
    (case c41 => k_is)
    (case k41 => k_is)
    (case a42 => k_is)
    (case l42 => k_is)
    (case c42 => k_is)
    (case k42 => k_is)
    (case a43 => k_is)
    (case l43 => k_is)
    (case c43 => k_is)
    (case k43 => k_is)
    (case a44 => k_is)
    (case l44 => k_is)
    (case c44 => k_is)
    (case k44 => k_is)
    (case a45 => k_is)
    (case l45 => k_is)
    (case c45 => k_is)
    (case k45 => k_is)
    (case a46 => k_is)
    (case l46 => k_is)
    (case c46 => k_is)
    (case k46 => k_is)
    (case a47 => k_is)
    (case l47 => k_is)
    (case c47 => k_is)
    (case k47 => k_is)
    (case a48 => k_is)
    (case l48 => k_is)
    (case c48 => k_is)
    (case k48 => k_is)
    (case a49 => k_is)
    (case l49 => k_is)
    (case c49 => k_is)
    (case k49 => k_is)
    (case a50 => k_is)
    (case l50 => k_is)
    (case c50 => k_is)
    (case k50 => k_is)
    (case a51 => k_is)
    (case l51 => k_is)
    (case c51 => k_is)
    (case k51 => k_is)
    (case a52 => k_is)
    (case l52 => k_is)
    (case c52 => k_is)
    (case k52 => k_is)
    (case a53 => k_is)
    (case l53 => k_is)
    (case c53 => k_is)
    (case k53 => k_is)
    (case a54 => k_is)
    (case l54 => k_is)
    (case c54 => k_is)
    (case k54 => k_is)
#print axioms PySem.Challenge.cw_provedunseen_k15_alike_like_paths_holds
