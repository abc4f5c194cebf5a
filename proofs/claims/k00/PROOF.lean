import PyProof.Rows.All
import Wide.All
import OpenK.AllK
import Wide.FinOn
import HandS.ForMost
import HandS.ForExc
import HandS.TupAny
import HandS.Conv
import HandS.RevRange
import HandS.RaiseMore
import HandS.FStr
import HandS.ExcIs
import HandS.IsInst
import HandS.Wide
import HandS.Gcd
import HandS.Zip
import KE.KMathGC
import KE.SortCalls
import KE.SortData
import KE.SortLaws
import HandS.Strs
import HandS.Deep
import KE.GoesEnum
import HandS.Defaults
import HandS.CallSlots
import HandS.More
import HandS.Text
import HandS.Rev
import HandS.Star
import HandS.TupMul
import HandS.SlotsOwn
import KE.KCallOwn
import PySem.Challenge.RW_provedunseen_k00_exact_ratios
set_option Elab.async false
set_option linter.all false
set_option maxRecDepth 100000
namespace DL
open PySem PySem.Spec L2
open PyProof.Rows hiding St

/-! ### values as data -/
inductive D where
  | non | bl (b : Bool) | int (i : Int) | str (x : Str) | tup (xs : List D) | lst (xs : List D) | obj (c : Nat) (fs : List D)

structure G0 where
  cl : Nat → Addr
  fl : Nat → List Str
abbrev Av := Addr → Prop

/-- a tuple whose object is known to have no dict: one that the program made, or one of the written part -/
def Tu (K : PySem.W.Frag) (H : Hp) (a : Addr) (vs : List V) : Prop :=
  (∃ o : Obj, H a = some (.frz o (.tup vs)) ∧ o.cls = .type "tuple" ∧ o.dict = none) ∨
    ∃ (o : Obj) (its : Array Value) (n : Nat), K.lookup a = some o ∧ o.cls = .type "tuple" ∧ o.dict = none ∧ o.data = .seq its n ∧ its.size ≤ sizeLine ∧ Vals vs its.toList
theorem Tu.sqT {K : PySem.W.Frag} {H : Hp} {a : Addr} {vs : List V} (h : Tu K H a vs) : SqT K H a vs := by
  rcases h with ⟨o, e, _⟩ | ⟨o, its, n, h1, h2, _, h3, h4, h5⟩
  · exact .inl (.inr ⟨o, e⟩)
  · exact .inr ⟨o, its, n, h1, h2, h3, h4, h5⟩

/-- a list that no slot owns -/
def Ls (K : PySem.W.Frag) (H : Hp) (Z : Av) (a : Addr) (vs : List V) : Prop :=
  (¬ Z a ∧ Rd H a (.lst vs)) ∨
    ∃ (o : Obj) (its : Array Value) (n : Nat), K.lookup a = some o ∧ o.cls = .type "list" ∧ o.dict = none ∧ o.data = .seq its n ∧ its.size ≤ sizeLine ∧ Vals vs its.toList
theorem Ls.sq {K : PySem.W.Frag} {H : Hp} {Z : Av} {a : Addr} {vs : List V} (h : Ls K H Z a vs) : SqL K H a vs := h.elim (fun h => .inl h.2) .inr

section
variable (K : PySem.W.Frag) (g : G0) (H : Hp) (Z : Av)
mutual
def Rep : D → V → Prop
  | .non, v => v = .non
  | .bl b, v => v = .bl b
  | .int i, v => v = .int i
  | .str x, v => v = .str x
  | .tup xs, v => ∃ a vs, v = .ref a ∧ Tu K H a vs ∧ RepL xs vs
  | .lst xs, v => ∃ a vs, v = .ref a ∧ Ls K H Z a vs ∧ RepL xs vs
  | .obj c fs, v => ∃ a dx vs, v = .ref a ∧ ¬ Z a ∧ H a = some (.ins (g.cl c) dx ((g.fl c).zip vs)) ∧ (g.fl c).length = vs.length ∧ RepL fs vs
def RepL : List D → List V → Prop
  | [], vs => vs = []
  | x :: xs, vs => ∃ v r, vs = v :: r ∧ Rep x v ∧ RepL xs r
end
end

/-- what is read of (H, Z) is there in (H', Z') -/
structure Kp (H : Hp) (Z : Av) (H' : Hp) (Z' : Av) : Prop where
  same : ∀ a o, H a = some o → ¬ Z a → H' a = some o
  tups : ∀ a o xs, H a = some (.frz o (.tup xs)) → H' a = some (.frz o (.tup xs))
  z : ∀ a, H a ≠ none → ¬ Z a → ¬ Z' a
theorem Kp.of {H H' : Hp} {Z Z' : Av} (s : Same H H') (z : ∀ a, H a ≠ none → Z' a → Z a) : Kp H Z H' Z' :=
  ⟨fun a o e _ => s a o e, fun a o xs h => s a _ h, fun a h n z' => n (z a h z')⟩
theorem Kp.same_ {H H' : Hp} {Z : Av} (s : Same H H') : Kp H Z H' Z := .of s fun _ _ z => z
theorem Kp.tu {H H' : Hp} {Z Z' : Av} {K : PySem.W.Frag} {a : Addr} {vs : List V} (k : Kp H Z H' Z') (h : Tu K H a vs) : Tu K H' a vs := by
  rcases h with ⟨o, e, c⟩ | h
  · exact .inl ⟨o, k.tups _ _ _ e, c⟩
  · exact .inr h
theorem Kp.rd {H H' : Hp} {Z Z' : Av} {a : Addr} {o : HO} (k : Kp H Z H' Z') (n : ¬ Z a) (h : Rd H a o) : Rd H' a o ∧ ¬ Z' a := by
  rcases h with h | ⟨u, h⟩
  · exact ⟨.inl (k.same _ _ h n), k.z a (by rw [h]; simp) n⟩
  · exact ⟨.inr ⟨u, k.same _ _ h n⟩, k.z a (by rw [h]; simp) n⟩

theorem Kp.ls {H H' : Hp} {Z Z' : Av} {K : PySem.W.Frag} {a : Addr} {vs : List V} (k : Kp H Z H' Z') (h : Ls K H Z a vs) : Ls K H' Z' a vs := by
  rcases h with ⟨n, h⟩ | h
  · exact .inl ⟨(k.rd n h).2, (k.rd n h).1⟩
  · exact .inr h
section
variable {K : PySem.W.Frag} {g : G0} {H H' : Hp} {Z Z' : Av}
mutual
theorem Rep.mono (k : Kp H Z H' Z') : ∀ (d : D) (v : V), Rep K g H Z d v → Rep K g H' Z' d v
  | .non, v, h => by unfold Rep at h ⊢; exact h
  | .bl b, v, h => by unfold Rep at h ⊢; exact h
  | .int i, v, h => by unfold Rep at h ⊢; exact h
  | .str x, v, h => by unfold Rep at h ⊢; exact h
  | .tup xs, v, h => by
    unfold Rep at h ⊢
    obtain ⟨a, vs, e, s, r⟩ := h
    exact ⟨a, vs, e, k.tu s, RepL.mono k xs vs r⟩
  | .lst xs, v, h => by
    unfold Rep at h ⊢
    obtain ⟨a, vs, e, s, r⟩ := h
    exact ⟨a, vs, e, k.ls s, RepL.mono k xs vs r⟩
  | .obj c fs, v, h => by
    unfold Rep at h ⊢
    obtain ⟨a, dx, vs, e, n, s, l, r⟩ := h
    exact ⟨a, dx, vs, e, k.z a (by rw [s]; simp) n, k.same _ _ s n, l, RepL.mono k fs vs r⟩
theorem RepL.mono (k : Kp H Z H' Z') : ∀ (ds : List D) (vs : List V), RepL K g H Z ds vs → RepL K g H' Z' ds vs
  | [], vs, h => by unfold RepL at h ⊢; exact h
  | d :: ds, vs, h => by
    unfold RepL at h ⊢
    obtain ⟨v, r, e, h1, h2⟩ := h
    exact ⟨v, r, e, Rep.mono k d v h1, RepL.mono k ds r h2⟩
end
theorem Rep.tup_ {xs : List D} {v : V} : Rep K g H Z (.tup xs) v ↔ ∃ a vs, v = .ref a ∧ Tu K H a vs ∧ RepL K g H Z xs vs := by unfold Rep; exact Iff.rfl
theorem Rep.lst_ {xs : List D} {v : V} : Rep K g H Z (.lst xs) v ↔ ∃ a vs, v = .ref a ∧ Ls K H Z a vs ∧ RepL K g H Z xs vs := by unfold Rep; exact Iff.rfl
theorem Rep.obj_ {c : Nat} {fs : List D} {v : V} : Rep K g H Z (.obj c fs) v ↔ ∃ a dx vs, v = .ref a ∧ ¬ Z a ∧ H a = some (.ins (g.cl c) dx ((g.fl c).zip vs)) ∧ (g.fl c).length = vs.length ∧ RepL K g H Z fs vs := by unfold Rep; exact Iff.rfl
theorem Rep.int_ {i : Int} {v : V} : Rep K g H Z (.int i) v ↔ v = .int i := by unfold Rep; exact Iff.rfl
theorem Rep.bl_ {i : Bool} {v : V} : Rep K g H Z (.bl i) v ↔ v = .bl i := by unfold Rep; exact Iff.rfl
theorem Rep.str_ {i : Str} {v : V} : Rep K g H Z (.str i) v ↔ v = .str i := by unfold Rep; exact Iff.rfl
theorem Rep.non_ {v : V} : Rep K g H Z .non v ↔ v = .non := by unfold Rep; exact Iff.rfl
theorem RepL.nil_ {vs : List V} : RepL K g H Z [] vs ↔ vs = [] := by unfold RepL; exact Iff.rfl
theorem RepL.cons_ {d : D} {ds : List D} {vs : List V} : RepL K g H Z (d :: ds) vs ↔ ∃ v r, vs = v :: r ∧ Rep K g H Z d v ∧ RepL K g H Z ds r := by
  constructor
  · intro h; unfold RepL at h; exact h
  · intro h; unfold RepL; exact h
theorem RepL.length : ∀ {ds : List D} {vs : List V}, RepL K g H Z ds vs → ds.length = vs.length
  | [], vs, h => by rw [RepL.nil_.mp h]; rfl
  | d :: ds, vs, h => by
    obtain ⟨v, r, e, _, h2⟩ := RepL.cons_.mp h
    rw [e, List.length_cons, List.length_cons, RepL.length h2]
theorem RepL.append : ∀ {ds es : List D} {vs ws : List V}, RepL K g H Z ds vs → RepL K g H Z es ws → RepL K g H Z (ds ++ es) (vs ++ ws)
  | [], es, vs, ws, h, h' => by rw [RepL.nil_.mp h]; exact h'
  | d :: ds, es, vs, ws, h, h' => by
    obtain ⟨v, r, e, h1, h2⟩ := RepL.cons_.mp h
    rw [e]
    exact RepL.cons_.mpr ⟨v, r ++ ws, rfl, h1, RepL.append h2 h'⟩
theorem RepL.one {d : D} {v : V} (h : Rep K g H Z d v) : RepL K g H Z [d] [v] := RepL.cons_.mpr ⟨v, [], rfl, h, RepL.nil_.mpr rfl⟩
theorem RepL.get : ∀ {ds : List D} {vs : List V} {i : Nat} {d : D}, RepL K g H Z ds vs → ds[i]? = some d → ∃ v, vs[i]? = some v ∧ Rep K g H Z d v
  | [], vs, i, d, h, e => by simp at e
  | c :: ds, vs, 0, d, h, e => by
    obtain ⟨v, r, ev, h1, h2⟩ := RepL.cons_.mp h
    simp at e
    subst e ev
    exact ⟨v, rfl, h1⟩
  | c :: ds, vs, i + 1, d, h, e => by
    obtain ⟨v, r, ev, h1, h2⟩ := RepL.cons_.mp h
    subst ev
    obtain ⟨w, e2, h3⟩ := RepL.get (i := i) h2 (by simpa using e)
    exact ⟨w, by simpa using e2, h3⟩
theorem RepL.set : ∀ {ds : List D} {vs : List V} (i : Nat) {d : D} {v : V}, RepL K g H Z ds vs → Rep K g H Z d v → RepL K g H Z (ds.set i d) (vs.set i v)
  | [], vs, i, d, v, h, _ => by rw [RepL.nil_.mp h]; exact RepL.nil_.mpr rfl
  | c :: ds, vs, 0, d, v, h, hd => by
    obtain ⟨v', r, ev, h1, h2⟩ := RepL.cons_.mp h
    subst ev
    exact RepL.cons_.mpr ⟨v, r, rfl, hd, h2⟩
  | c :: ds, vs, i + 1, d, v, h, hd => by
    obtain ⟨v', r, ev, h1, h2⟩ := RepL.cons_.mp h
    subst ev
    exact RepL.cons_.mpr ⟨v', r.set i v, rfl, h1, RepL.set i h2 hd⟩
theorem RepL.drop : ∀ {ds : List D} {vs : List V} (n : Nat), RepL K g H Z ds vs → RepL K g H Z (ds.drop n) (vs.drop n)
  | ds, vs, 0, h => h
  | [], vs, n + 1, h => by rw [RepL.nil_.mp h]; exact RepL.nil_.mpr rfl
  | c :: ds, vs, n + 1, h => by
    obtain ⟨v', r, ev, h1, h2⟩ := RepL.cons_.mp h
    subst ev
    exact RepL.drop n h2
theorem RepL.take : ∀ {ds : List D} {vs : List V} (n : Nat), RepL K g H Z ds vs → RepL K g H Z (ds.take n) (vs.take n)
  | ds, vs, 0, h => by rw [List.take_zero, List.take_zero]; exact RepL.nil_.mpr rfl
  | [], vs, n + 1, h => by rw [RepL.nil_.mp h]; exact RepL.nil_.mpr rfl
  | c :: ds, vs, n + 1, h => by
    obtain ⟨v', r, ev, h1, h2⟩ := RepL.cons_.mp h
    subst ev
    exact RepL.cons_.mpr ⟨v', r.take n, rfl, h1, RepL.take n h2⟩
theorem RepL.eraseIdx : ∀ {ds : List D} {vs : List V} (i : Nat), RepL K g H Z ds vs → RepL K g H Z (ds.eraseIdx i) (vs.eraseIdx i)
  | [], vs, i, h => by rw [RepL.nil_.mp h]; exact RepL.nil_.mpr rfl
  | c :: ds, vs, 0, h => by
    obtain ⟨v', r, ev, h1, h2⟩ := RepL.cons_.mp h
    subst ev
    exact h2
  | c :: ds, vs, i + 1, h => by
    obtain ⟨v', r, ev, h1, h2⟩ := RepL.cons_.mp h
    subst ev
    exact RepL.cons_.mpr ⟨v', r.eraseIdx i, rfl, h1, RepL.eraseIdx i h2⟩
end

/-! ### slots -/
inductive Sl where
  | fr (d : D) | ow (xs : List D)
def Sl.d : Sl → D
  | .fr d => d
  | .ow xs => .lst xs
abbrev En := List (Option Sl)
abbrev Pl := Option (Str × D)
inductive R (α : Type) where
  | ok (a : α) | ex (c : Nat) (p : Pl) | st
def R.bind {α β : Type} : R α → (α → R β) → R β
  | .ok a, f => f a
  | .ex c p, _ => .ex c p
  | .st, _ => .st
inductive RS where
  | nx (e : En) | rt (s : Sl) | bk (e : En) | ct (e : En) | ex (c : Nat) (p : Pl) (e : En) | st
abbrev M := En → R Sl
abbrev MS := En → RS

def SlIn (K : PySem.W.Frag) (g : G0) (H : Hp) (Z : Av) : Sl → V → Prop
  | .fr d, v => Rep K g H Z d v
  | .ow xs, v => ∃ a vs, v = .ref a ∧ Z a ∧ H a = some (.lst vs) ∧ RepL K g H Z xs vs
structure ERel (K : PySem.W.Frag) (g : G0) (x : St → Prop) (Z : Av) (env : En) (σ : St) (H : Hp) : Prop where
  dom : ∀ a, Z a → H a ≠ none
  ex : x σ
  len : env.length = σ.length
  at_ : ∀ (i : Nat) (s : Sl), env[i]? = some (some s) → ∃ v, σ[i]? = some (some v) ∧ SlIn K g H Z s v
def ExP (K : PySem.W.Frag) (g : G0) (H : Hp) (Z : Av) : Pl → Option Addr → Prop
  | none, dd => dd = none
  | some (f, x), dd => ∃ da v, dd = some da ∧ H da = some (.xd [(f, v)]) ∧ Rep K g H Z x v
def PostE (K : PySem.W.Frag) (g : G0) (W : WX) (Z : Av) (σ : St) (H : Hp) (Q : VK) : R Sl → Prop
  | .ok (.fr d) => ∀ v H', Same H H' → Rep K g H' Z d v → Q v H'
  | .ok (.ow xs) => ∀ a vs H', Same H H' → H a = none → H' a = some (.lst vs) → RepL K g H' (fun b => Z b ∨ b = a) xs vs → Q (.ref a) H'
  | .ex c p => ∀ H' dd, Same H H' → ExP K g H' Z p dd → W (.ref (g.cl c)) dd σ H'
  | .st => False
def PostD (K : PySem.W.Frag) (g : G0) (W : WX) (Z : Av) (σ : St) (H : Hp) (Q : VK) : R Sl → Prop
  | .ok s => ∀ v H', Same H H' → Rep K g H' Z s.d v → Q v H'
  | .ex c p => ∀ H' dd, Same H H' → ExP K g H' Z p dd → W (.ref (g.cl c)) dd σ H'
  | .st => False
def PostA (K : PySem.W.Frag) (g : G0) (W : WX) (Z : Av) (σ : St) (H : Hp) (Q : List V → Hp → Prop) : R (List D) → Prop
  | .ok ds => ∀ vs H', Same H H' → RepL K g H' Z ds vs → Q vs H'
  | .ex c p => ∀ H' dd, Same H H' → ExP K g H' Z p dd → W (.ref (g.cl c)) dd σ H'
  | .st => False
def PostT (K : PySem.W.Frag) (g : G0) (W : WX) (Z : Av) (σ : St) (H : Hp) (Q : Bool → Hp → Prop) : R Bool → Prop
  | .ok b => ∀ H', Same H H' → Q b H'
  | .ex c p => ∀ H' dd, Same H H' → ExP K g H' Z p dd → W (.ref (g.cl c)) dd σ H'
  | .st => False

def tM (K : PySem.W.Frag) (g : G0) (x : St → Prop) (W : WX) (m : M) : TE := fun σ H Q => ∃ env Z, ERel K g x Z env σ H ∧ PostE K g W Z σ H Q (m env)
def tA (K : PySem.W.Frag) (g : G0) (x : St → Prop) (W : WX) (m : En → R (List D)) : TA := fun σ H Q => ∃ env Z, ERel K g x Z env σ H ∧ PostA K g W Z σ H Q (m env)
def tT (K : PySem.W.Frag) (g : G0) (x : St → Prop) (W : WX) (m : En → R Bool) : TT := fun σ H Q => ∃ env Z, ERel K g x Z env σ H ∧ PostT K g W Z σ H Q (m env)
abbrev PEd (g : G0) (x : St → Prop) (W : WX) (X : Cx) (e : Expr) (m : M) : Prop := PE X e (tM X.K g x W m)
abbrev PAd (g : G0) (x : St → Prop) (W : WX) (X : Cx) (es : List Expr) (m : En → R (List D)) : Prop := PA X es (tA X.K g x W m)
abbrev PTd (g : G0) (x : St → Prop) (W : WX) (X : Cx) (e : Expr) (m : En → R Bool) : Prop := PT X e (tT X.K g x W m)

theorem weakE {X : Cx} {e : Expr} {t t' : TE} (h : PE X e t) (w : ∀ σ H Q, t' σ H Q → t σ H Q) : PE X e t' := ⟨fun pins s σ H Q I q => h.run pins s σ H Q I (w _ _ _ q)⟩
theorem weakA {X : Cx} {e : List Expr} {t t' : TA} (h : PA X e t) (w : ∀ σ H Q, t' σ H Q → t σ H Q) : PA X e t' := ⟨fun pos pins s σ H Q I q => h.run pos pins s σ H Q I (w _ _ _ q)⟩
theorem weakT {X : Cx} {e : Expr} {t t' : TT} (h : PT X e t) (w : ∀ σ H Q, t' σ H Q → t σ H Q) : PT X e t' := ⟨fun pins s σ H Q I q => h.run pins s σ H Q I (w _ _ _ q)⟩
theorem weakS {X : Cx} {e : Stmt} {t t' : TS} (h : PS X e t) (w : ∀ D σ H, t' D σ H → t D σ H) : PS X e t' := ⟨fun pins s σ H D I q => h.run pins s σ H D I (w _ _ _ q)⟩
theorem weakSs {X : Cx} {e : List Stmt} {t t' : TS} (h : PSs X e t) (w : ∀ D σ H, t' D σ H → t D σ H) : PSs X e t' := ⟨fun pins s σ H D I q => h.run pins s σ H D I (w _ _ _ q)⟩

section
variable {K : PySem.W.Frag} {g : G0} {x : St → Prop} {W : WX} {Z : Av} {env : En} {σ : St} {H H' : Hp}
theorem SlIn.mono {s : Sl} {v : V} (k : Same H H') (h : SlIn K g H Z s v) : SlIn K g H' Z s v := by
  cases s with
  | fr d => exact Rep.mono (.same_ k) d v h
  | ow xs =>
    obtain ⟨a, vs, e, z, p, r⟩ := h
    exact ⟨a, vs, e, z, k _ _ p, RepL.mono (.same_ k) xs vs r⟩
theorem dom_mono (k : Same H H') (h : ∀ a, Z a → H a ≠ none) : ∀ a, Z a → H' a ≠ none := fun a z e => h a z (k.free e)
theorem ERel.mono (k : Same H H') (h : ERel K g x Z env σ H) : ERel K g x Z env σ H' :=
  ⟨dom_mono k h.dom, h.ex, h.len, fun i s e => let ⟨v, e2, r⟩ := h.at_ i s e; ⟨v, e2, r.mono k⟩⟩
theorem PostE.later {Q : VK} {r : R Sl} (k : Same H H') (h : PostE K g W Z σ H Q r) : PostE K g W Z σ H' Q r := by
  cases r with
  | ok s =>
    cases s with
    | fr d => exact fun v H2 k2 q => h v H2 (k.trans k2) q
    | ow xs => exact fun a vs H2 k2 n e q => h a vs H2 (k.trans k2) (k.free n) e q
  | ex c p => exact fun H2 dd k2 q => h H2 dd (k.trans k2) q
  | st => exact h
theorem PostA.later {Q : List V → Hp → Prop} {r : R (List D)} (k : Same H H') (h : PostA K g W Z σ H Q r) : PostA K g W Z σ H' Q r := by
  cases r with
  | ok s => exact fun v H2 k2 q => h v H2 (k.trans k2) q
  | ex c p => exact fun H2 dd k2 q => h H2 dd (k.trans k2) q
  | st => exact h
theorem PostT.later {Q : Bool → Hp → Prop} {r : R Bool} (k : Same H H') (h : PostT K g W Z σ H Q r) : PostT K g W Z σ H' Q r := by
  cases r with
  | ok s => exact fun H2 k2 => h H2 (k.trans k2)
  | ex c p => exact fun H2 dd k2 q => h H2 dd (k.trans k2) q
  | st => exact h
/-- a fresh list's value, kept -/
theorem rep_fresh {xs : List D} {a : Addr} {vs : List V} (dom : ∀ a, Z a → H a ≠ none) (n : H a = none) (e : H' a = some (.lst vs)) (r : RepL K g H' (fun b => Z b ∨ b = a) xs vs) : Rep K g H' Z (.lst xs) (.ref a) :=
  Rep.lst_.mpr ⟨a, vs, rfl, .inl ⟨fun z => dom a z n, .inl e⟩, RepL.mono (.of (Same.refl _) fun b _ z => .inl z) xs vs r⟩
theorem use {m : M} {Q : VK} (er : ERel K g x Z env σ H) (h : PostD K g W Z σ H Q (m env)) : tM K g x W m σ H Q := by
  refine ⟨env, Z, er, ?_⟩
  cases e : m env with
  | ok s =>
    rw [e] at h
    cases s with
    | fr d => exact h
    | ow xs => exact fun a vs H' k n p r => h (.ref a) H' k (rep_fresh er.dom n p r)
  | ex c p => rw [e] at h; exact h
  | st => rw [e] at h; exact h
/-- operands, one behind the other -/
theorem use1 {m : M} {f : Sl → R Sl} {Q Q' : VK} (er : ERel K g x Z env σ H) (hp : PostE K g W Z σ H Q ((m env).bind f))
    (h : ∀ s v H', m env = .ok s → Same H H' → Rep K g H' Z s.d v → PostE K g W Z σ H' Q (f s) → Q' v H') : tM K g x W m σ H Q' := by
  refine use er ?_
  cases e : m env with
  | ok s =>
    rw [e] at hp
    exact fun v H' k r => h s v H' e k r (hp.later k)
  | ex c p => rw [e] at hp; exact hp
  | st => rw [e] at hp; exact hp
theorem use1A {m : M} {f : Sl → R (List D)} {Q : List V → Hp → Prop} {Q' : VK} (er : ERel K g x Z env σ H) (hp : PostA K g W Z σ H Q ((m env).bind f))
    (h : ∀ s v H', m env = .ok s → Same H H' → Rep K g H' Z s.d v → PostA K g W Z σ H' Q (f s) → Q' v H') : tM K g x W m σ H Q' := by
  refine use er ?_
  cases e : m env with
  | ok s =>
    rw [e] at hp
    exact fun v H' k r => h s v H' e k r (hp.later k)
  | ex c p => rw [e] at hp; exact hp
  | st => rw [e] at hp; exact hp
theorem use1T {m : M} {f : Sl → R Bool} {Q : Bool → Hp → Prop} {Q' : VK} (er : ERel K g x Z env σ H) (hp : PostT K g W Z σ H Q ((m env).bind f))
    (h : ∀ s v H', m env = .ok s → Same H H' → Rep K g H' Z s.d v → PostT K g W Z σ H' Q (f s) → Q' v H') : tM K g x W m σ H Q' := by
  refine use er ?_
  cases e : m env with
  | ok s =>
    rw [e] at hp
    exact fun v H' k r => h s v H' e k r (hp.later k)
  | ex c p => rw [e] at hp; exact hp
  | st => rw [e] at hp; exact hp
theorem useA {m : En → R (List D)} {f : List D → R Sl} {Q : VK} {Q' : List V → Hp → Prop} (er : ERel K g x Z env σ H) (hp : PostE K g W Z σ H Q ((m env).bind f))
    (h : ∀ ds vs H', m env = .ok ds → Same H H' → RepL K g H' Z ds vs → PostE K g W Z σ H' Q (f ds) → Q' vs H') : tA K g x W m σ H Q' := by
  refine ⟨env, Z, er, ?_⟩
  cases e : m env with
  | ok s =>
    rw [e] at hp
    exact fun v H' k r => h s v H' e k r (hp.later k)
  | ex c p => rw [e] at hp; exact hp
  | st => rw [e] at hp; exact hp
theorem useAA {m : En → R (List D)} {f : List D → R (List D)} {Q : List V → Hp → Prop} {Q' : List V → Hp → Prop} (er : ERel K g x Z env σ H) (hp : PostA K g W Z σ H Q ((m env).bind f))
    (h : ∀ ds vs H', m env = .ok ds → Same H H' → RepL K g H' Z ds vs → PostA K g W Z σ H' Q (f ds) → Q' vs H') : tA K g x W m σ H Q' := by
  refine ⟨env, Z, er, ?_⟩
  cases e : m env with
  | ok s =>
    rw [e] at hp
    exact fun v H' k r => h s v H' e k r (hp.later k)
  | ex c p => rw [e] at hp; exact hp
  | st => rw [e] at hp; exact hp
theorem useT {m : En → R Bool} {f : Bool → R Sl} {Q : VK} {Q' : Bool → Hp → Prop} (er : ERel K g x Z env σ H) (hp : PostE K g W Z σ H Q ((m env).bind f))
    (h : ∀ b H', m env = .ok b → Same H H' → PostE K g W Z σ H' Q (f b) → Q' b H') : tT K g x W m σ H Q' := by
  refine ⟨env, Z, er, ?_⟩
  cases e : m env with
  | ok s =>
    rw [e] at hp
    exact fun H' k => h s H' e k (hp.later k)
  | ex c p => rw [e] at hp; exact hp
  | st => rw [e] at hp; exact hp
theorem useTT {m : En → R Bool} {f : Bool → R Bool} {Q : Bool → Hp → Prop} {Q' : Bool → Hp → Prop} (er : ERel K g x Z env σ H) (hp : PostT K g W Z σ H Q ((m env).bind f))
    (h : ∀ b H', m env = .ok b → Same H H' → PostT K g W Z σ H' Q (f b) → Q' b H') : tT K g x W m σ H Q' := by
  refine ⟨env, Z, er, ?_⟩
  cases e : m env with
  | ok s =>
    rw [e] at hp
    exact fun H' k => h s H' e k (hp.later k)
  | ex c p => rw [e] at hp; exact hp
  | st => rw [e] at hp; exact hp
theorem PostE.put {Q : VK} {d : D} {v : V} {W : WX} (h : PostE K g W Z σ H Q (.ok (.fr d))) (r : Rep K g H Z d v) : Q v H := h v H (Same.refl _) r
end
end DL
set_option Elab.async false
set_option linter.all false
set_option maxRecDepth 100000
namespace DL
open PySem PySem.Spec L2
open PyProof.Rows hiding St

/-! ### expressions -/
def mVar (i : Nat) : M := fun env => match env[i]? with
  | some (some (.fr d)) => .ok (.fr d)
  | _ => .st
def mC (d : D) : M := fun _ => .ok (.fr d)
abbrev B := En → R D
def mB (m : M) : B := fun env => (m env).bind fun s => .ok s.d
def mBV (i : Nat) : B := fun env => match env[i]? with
  | some (some s) => .ok s.d
  | _ => .st
def mBin (F : D → D → R Sl) (ma mb : B) : M := fun env => (ma env).bind fun x => (mb env).bind fun y => F x y
def mUn (F : D → R Sl) (ma : B) : M := fun env => (ma env).bind F
def bNil : En → R (List D) := fun _ => .ok []
def bCons (ma : B) (mr : En → R (List D)) : En → R (List D) := fun env => (ma env).bind fun x => (mr env).bind fun xs => .ok (x :: xs)
def mNil : En → R (List D) := fun _ => .ok []
def mCons (ma : M) (mr : En → R (List D)) : En → R (List D) := fun env => (ma env).bind fun x => (mr env).bind fun xs => .ok (x.d :: xs)
def mCall (F : List D → R Sl) (ma : En → R (List D)) : M := fun env => (ma env).bind F
def lim : Nat := 1000000
def fTup (xs : List D) : R Sl := if xs.length ≤ lim then .ok (.fr (.tup xs)) else .st
def fLst (xs : List D) : R Sl := if xs.length ≤ lim then .ok (.ow xs) else .st
def asB : D → R Bool
  | .bl b => .ok b
  | _ => .st
def mTest (m : B) : En → R Bool := fun env => (m env).bind asB
def tNotM (t : En → R Bool) : En → R Bool := fun env => (t env).bind fun b => .ok (!b)
def tAndM (t u : En → R Bool) : En → R Bool := fun env => (t env).bind fun b => if b = true then u env else .ok false
def tOrM (t u : En → R Bool) : En → R Bool := fun env => (t env).bind fun b => if b = true then .ok true else u env
def mAnd (a b : B) : M := fun env => (a env).bind fun s => (asB s).bind fun c => if c = true then (b env).bind fun s => (asB s).bind fun e => .ok (.fr (.bl e)) else .ok (.fr (.bl false))
def mOr (a b : B) : M := fun env => (a env).bind fun s => (asB s).bind fun c => if c = true then .ok (.fr (.bl true)) else (b env).bind fun s => (asB s).bind fun e => .ok (.fr (.bl e))
def mNot (a : B) : M := fun env => (a env).bind fun s => (asB s).bind fun c => .ok (.fr (.bl (!c)))
def mIf (t : En → R Bool) (a b : M) : M := fun env => (t env).bind fun c => if c = true then (a env).bind fun s => .ok (.fr s.d) else (b env).bind fun s => .ok (.fr s.d)

/-! ### rules of values -/
/-- a value that is looked at: a list may be one that a slot owns -/
def RepB (K : PySem.W.Frag) (g : G0) (H : Hp) (Z : Av) (d : D) (v : V) : Prop :=
  Rep K g H Z d v ∨ ∃ xs a vs, d = .lst xs ∧ v = .ref a ∧ H a = some (.lst vs) ∧ RepL K g H Z xs vs
def RepBL (K : PySem.W.Frag) (g : G0) (H : Hp) (Z : Av) : List D → List V → Prop
  | [], vs => vs = []
  | d :: ds, vs => ∃ v r, vs = v :: r ∧ RepB K g H Z d v ∧ RepBL K g H Z ds r
def PostB (K : PySem.W.Frag) (g : G0) (W : WX) (Z : Av) (σ : L2.St) (H : Hp) (Q : VK) : R D → Prop
  | .ok d => ∀ v H', Same H H' → RepB K g H' Z d v → Q v H'
  | .ex c p => ∀ H' dd, Same H H' → ExP K g H' Z p dd → W (.ref (g.cl c)) dd σ H'
  | .st => False
def PostBA (K : PySem.W.Frag) (g : G0) (W : WX) (Z : Av) (σ : L2.St) (H : Hp) (Q : List V → Hp → Prop) : R (List D) → Prop
  | .ok ds => ∀ vs H', Same H H' → RepBL K g H' Z ds vs → Q vs H'
  | .ex c p => ∀ H' dd, Same H H' → ExP K g H' Z p dd → W (.ref (g.cl c)) dd σ H'
  | .st => False
def tB (K : PySem.W.Frag) (g : G0) (x : L2.St → Prop) (W : WX) (m : B) : TE := fun σ H Q => ∃ env Z, ERel K g x Z env σ H ∧ PostB K g W Z σ H Q (m env)
def tBA (K : PySem.W.Frag) (g : G0) (x : L2.St → Prop) (W : WX) (m : En → R (List D)) : TA := fun σ H Q => ∃ env Z, ERel K g x Z env σ H ∧ PostBA K g W Z σ H Q (m env)
abbrev PBd (g : G0) (x : L2.St → Prop) (W : WX) (X : Cx) (e : Expr) (m : B) : Prop := PE X e (tB X.K g x W m)
abbrev PBAd (g : G0) (x : L2.St → Prop) (W : WX) (X : Cx) (es : List Expr) (m : En → R (List D)) : Prop := PA X es (tBA X.K g x W m)
section
variable {K : PySem.W.Frag} {g : G0} {x : L2.St → Prop} {W : WX} {Z : Av} {env : En} {σ : L2.St} {H H' : Hp}
theorem RepB.mono (k : Same H H') {d : D} {v : V} (h : RepB K g H Z d v) : RepB K g H' Z d v := by
  rcases h with h | ⟨xs, a, vs, e1, e2, e3, r⟩
  · exact .inl (Rep.mono (.same_ k) _ _ h)
  · exact .inr ⟨xs, a, vs, e1, e2, k _ _ e3, RepL.mono (.same_ k) _ _ r⟩
theorem RepBL.mono (k : Same H H') : ∀ {ds : List D} {vs : List V}, RepBL K g H Z ds vs → RepBL K g H' Z ds vs
  | [], vs, h => h
  | d :: ds, vs, ⟨v, r, e, h1, h2⟩ => ⟨v, r, e, h1.mono k, RepBL.mono k h2⟩
theorem RepB.int_ {i : Int} {v : V} (h : RepB K g H Z (.int i) v) : v = .int i := h.elim Rep.int_.mp fun ⟨_, _, _, e, _⟩ => by cases e
theorem RepB.bl_ {i : Bool} {v : V} (h : RepB K g H Z (.bl i) v) : v = .bl i := h.elim Rep.bl_.mp fun ⟨_, _, _, e, _⟩ => by cases e
theorem RepB.str_ {i : Str} {v : V} (h : RepB K g H Z (.str i) v) : v = .str i := h.elim Rep.str_.mp fun ⟨_, _, _, e, _⟩ => by cases e
theorem RepB.non_ {v : V} (h : RepB K g H Z .non v) : v = .non := h.elim Rep.non_.mp fun ⟨_, _, _, e, _⟩ => by cases e
theorem RepB.tup_ {xs : List D} {v : V} (h : RepB K g H Z (.tup xs) v) : ∃ a vs, v = .ref a ∧ Tu K H a vs ∧ RepL K g H Z xs vs := h.elim Rep.tup_.mp fun ⟨_, _, _, e, _⟩ => by cases e
theorem RepB.lst_ {xs : List D} {v : V} (h : RepB K g H Z (.lst xs) v) : ∃ a vs, v = .ref a ∧ SqL K H a vs ∧ RepL K g H Z xs vs := by
  rcases h with h | ⟨ys, a, vs, e1, e2, e3, r⟩
  · obtain ⟨a, vs, e, rd, r⟩ := Rep.lst_.mp h
    exact ⟨a, vs, e, rd.sq, r⟩
  · cases e1
    exact ⟨a, vs, e2, SqL.of e3, r⟩
theorem PostB.later {Q : VK} {r : R D} (k : Same H H') (h : PostB K g W Z σ H Q r) : PostB K g W Z σ H' Q r := by
  cases r with
  | ok s => exact fun v H2 k2 q => h v H2 (k.trans k2) q
  | ex c p => exact fun H2 dd k2 q => h H2 dd (k.trans k2) q
  | st => exact h
theorem PostBA.later {Q : List V → Hp → Prop} {r : R (List D)} (k : Same H H') (h : PostBA K g W Z σ H Q r) : PostBA K g W Z σ H' Q r := by
  cases r with
  | ok s => exact fun v H2 k2 q => h v H2 (k.trans k2) q
  | ex c p => exact fun H2 dd k2 q => h H2 dd (k.trans k2) q
  | st => exact h
theorem useB {m : B} {f : D → R Sl} {Q Q' : VK} (er : ERel K g x Z env σ H) (hp : PostE K g W Z σ H Q ((m env).bind f))
    (h : ∀ d v H', m env = .ok d → Same H H' → RepB K g H' Z d v → PostE K g W Z σ H' Q (f d) → Q' v H') : tB K g x W m σ H Q' := by
  refine ⟨env, Z, er, ?_⟩
  cases e : m env with
  | ok s => rw [e] at hp; exact fun v H' k r => h s v H' e k r (hp.later k)
  | ex c p => rw [e] at hp; exact hp
  | st => rw [e] at hp; exact hp
theorem useBA {m : B} {f : D → R (List D)} {Q : List V → Hp → Prop} {Q' : VK} (er : ERel K g x Z env σ H) (hp : PostBA K g W Z σ H Q ((m env).bind f))
    (h : ∀ d v H', m env = .ok d → Same H H' → RepB K g H' Z d v → PostBA K g W Z σ H' Q (f d) → Q' v H') : tB K g x W m σ H Q' := by
  refine ⟨env, Z, er, ?_⟩
  cases e : m env with
  | ok s => rw [e] at hp; exact fun v H' k r => h s v H' e k r (hp.later k)
  | ex c p => rw [e] at hp; exact hp
  | st => rw [e] at hp; exact hp
theorem useBT {m : B} {f : D → R Bool} {Q : Bool → Hp → Prop} {Q' : VK} (er : ERel K g x Z env σ H) (hp : PostT K g W Z σ H Q ((m env).bind f))
    (h : ∀ d v H', m env = .ok d → Same H H' → RepB K g H' Z d v → PostT K g W Z σ H' Q (f d) → Q' v H') : tB K g x W m σ H Q' := by
  refine ⟨env, Z, er, ?_⟩
  cases e : m env with
  | ok s => rw [e] at hp; exact fun v H' k r => h s v H' e k r (hp.later k)
  | ex c p => rw [e] at hp; exact hp
  | st => rw [e] at hp; exact hp
theorem useBL {m : En → R (List D)} {f : List D → R Sl} {Q : VK} {Q' : List V → Hp → Prop} (er : ERel K g x Z env σ H) (hp : PostE K g W Z σ H Q ((m env).bind f))
    (h : ∀ ds vs H', m env = .ok ds → Same H H' → RepBL K g H' Z ds vs → PostE K g W Z σ H' Q (f ds) → Q' vs H') : tBA K g x W m σ H Q' := by
  refine ⟨env, Z, er, ?_⟩
  cases e : m env with
  | ok s => rw [e] at hp; exact fun v H' k r => h s v H' e k r (hp.later k)
  | ex c p => rw [e] at hp; exact hp
  | st => rw [e] at hp; exact hp
theorem useBLA {m : En → R (List D)} {f : List D → R (List D)} {Q : List V → Hp → Prop} {Q' : List V → Hp → Prop} (er : ERel K g x Z env σ H) (hp : PostBA K g W Z σ H Q ((m env).bind f))
    (h : ∀ ds vs H', m env = .ok ds → Same H H' → RepBL K g H' Z ds vs → PostBA K g W Z σ H' Q (f ds) → Q' vs H') : tBA K g x W m σ H Q' := by
  refine ⟨env, Z, er, ?_⟩
  cases e : m env with
  | ok s => rw [e] at hp; exact fun v H' k r => h s v H' e k r (hp.later k)
  | ex c p => rw [e] at hp; exact hp
  | st => rw [e] at hp; exact hp
end
def OpF (K : PySem.W.Frag) (r : R2) (F : D → D → R Sl) : Prop := ∀ (g : G0) (W : WX) (H : Hp) (Z : Av) (σ : L2.St) (x y : D) (v u : V) (Q : VK),
  (∀ a, Z a → H a ≠ none) → RepB K g H Z x v → RepB K g H Z y u → PostE K g W Z σ H Q (F x y) → r v u H Q
def UnF (K : PySem.W.Frag) (r : V → Hp → VK → Prop) (F : D → R Sl) : Prop := ∀ (g : G0) (W : WX) (H : Hp) (Z : Av) (σ : L2.St) (x : D) (v : V) (Q : VK),
  (∀ a, Z a → H a ≠ none) → RepB K g H Z x v → PostE K g W Z σ H Q (F x) → r v H Q
def CallF (K : PySem.W.Frag) (r : List V → Hp → VK → Prop) (F : List D → R Sl) : Prop := ∀ (g : G0) (W : WX) (H : Hp) (Z : Av) (σ : L2.St) (xs : List D) (vs : List V) (Q : VK),
  (∀ a, Z a → H a ≠ none) → RepBL K g H Z xs vs → PostE K g W Z σ H Q (F xs) → r vs H Q

theorem limLine {n : Nat} (h : n ≤ lim) : n ≤ sizeLine := by rw [sizeLine_eq]; unfold lim at h; omega
theorem limLine' {n : Nat} (h : n < lim) : n < sizeLine := by rw [sizeLine_eq]; unfold lim at h; omega

section
variable {g : G0} {x : L2.St → Prop} {W : WX} {X : Cx} {a b e : Expr} {es : List Expr} {pos : Pos} {m mA : M} {ma mb mt : B} {mr : En → R (List D)}
theorem tM.imp {Q Q' : VK} {σ : L2.St} {H : Hp} (h : tM X.K g x W m σ H Q) (q : ∀ v H', Q v H' → Q' v H') : tM X.K g x W m σ H Q' := by
  obtain ⟨env, Z, er, hp⟩ := h
  refine ⟨env, Z, er, ?_⟩
  cases e : m env with
  | ok s =>
    rw [e] at hp
    cases s with
    | fr d => exact fun v H' k r => q _ _ (hp v H' k r)
    | ow xs => exact fun a vs H' k n p r => q _ _ (hp a vs H' k n p r)
  | ex c p => rw [e] at hp; exact hp
  | st => rw [e] at hp; exact hp

theorem de_var (i : Nat) {y : Str} (hN : X.N[i]? = some y := by rfl) (hv : Vis X.env.scope y := by first | exact Or.inl rfl | exact Or.inr (Or.inl rfl) | exact Or.inr (Or.inr rfl)) (hd : (y == ("__debug__" : Str)) = false := by decide)
    (hcd : (y == ("__classdict__" : Str)) = false := by decide) : PEd g x W X (.Name y pos) (mVar i) := by
  refine weakE (pe_var hN hv hd hcd) fun σ H Q ⟨env, Z, er, hp⟩ => ?_
  unfold mVar at hp
  split at hp
  · rename_i d e
    obtain ⟨v, e2, r⟩ := er.at_ i _ e
    exact ⟨v, e2, hp v H (Same.refl _) r⟩
  · exact hp.elim
theorem de_C {d : D} {v : V} (h : PE X e (tC v)) (hr : ∀ (K : PySem.W.Frag) (g : G0) (H : Hp) (Z : Av), Rep K g H Z d v) : PEd g x W X e (mC d) :=
  weakE h fun σ H Q ⟨env, Z, er, hp⟩ => hp v H (Same.refl _) (hr _ _ _ _)
theorem de_int {i : Int} {j : Nat} : PEd g x W X (.Constant (.int i) j pos) (mC (.int i)) := de_C pe_int fun _ _ _ _ => Rep.int_.mpr rfl
theorem de_bl {i : Bool} {j : Nat} : PEd g x W X (.Constant (.bool i) j pos) (mC (.bl i)) := de_C pe_bl fun _ _ _ _ => Rep.bl_.mpr rfl
theorem de_non {j : Nat} : PEd g x W X (.Constant .none j pos) (mC .non) := de_C pe_non fun _ _ _ _ => Rep.non_.mpr rfl
theorem de_str {i : Str} {j : Nat} : PEd g x W X (.Constant (.str i) j pos) (mC (.str i)) := de_C pe_str fun _ _ _ _ => Rep.str_.mpr rfl
theorem de_globI {y : Str} {i : Int} {t : Tok} (hg : Gl X y) (hm : X.mg y = some (.int i t)) (hd : (y == ("__debug__" : Str)) = false := by decide) : PEd g x W X (.Name y pos) (mC (.int i)) :=
  de_C (pe_glob (v := V.int i) hg hm ⟨t, rfl⟩ hd) fun _ _ _ _ => Rep.int_.mpr rfl
theorem de_globS {y : Str} {i : Str} {t : Tok} (hg : Gl X y) (hm : X.mg y = some (.str i t)) (hd : (y == ("__debug__" : Str)) = false := by decide) : PEd g x W X (.Name y pos) (mC (.str i)) :=
  de_C (pe_glob (v := V.str i) hg hm ⟨t, rfl⟩ hd) fun _ _ _ _ => Rep.str_.mpr rfl

theorem de_b (h : PEd g x W X e m) : PBd g x W X e (mB m) := by
  refine weakE h fun σ H Q ⟨env, Z, er, hp⟩ => use er ?_
  unfold mB at hp
  cases em : m env with
  | ok s => rw [em] at hp; exact fun v H' k r => hp v H' k (.inl r)
  | ex c p => rw [em] at hp; exact hp
  | st => rw [em] at hp; exact hp
theorem de_v (i : Nat) {y : Str} (hN : X.N[i]? = some y := by rfl) (hv : Vis X.env.scope y := by first | exact Or.inl rfl | exact Or.inr (Or.inl rfl) | exact Or.inr (Or.inr rfl)) (hd : (y == ("__debug__" : Str)) = false := by decide)
    (hcd : (y == ("__classdict__" : Str)) = false := by decide) : PBd g x W X (.Name y pos) (mBV i) := by
  refine weakE (pe_var hN hv hd hcd) fun σ H Q ⟨env, Z, er, hp⟩ => ?_
  unfold mBV at hp
  split at hp
  · rename_i s e
    obtain ⟨v, e2, r⟩ := er.at_ i _ e
    refine ⟨v, e2, hp v H (Same.refl _) ?_⟩
    cases s with
    | fr d => exact .inl r
    | ow xs =>
      obtain ⟨a, vs, ev, _, p, rr⟩ := r
      exact .inr ⟨xs, a, vs, rfl, ev, p, rr⟩
  · exact hp.elim
theorem op2 {r : R2} {F : D → D → R Sl} (hF : OpF X.K r F) {σ : L2.St} {H : Hp} {Q : VK} (h : tM X.K g x W (mBin F ma mb) σ H Q) : tOp r (tB X.K g x W ma) (tB X.K g x W mb) σ H Q := by
  obtain ⟨env, Z, er, hp⟩ := h
  refine useB er hp fun s v H1 e1 k1 r1 hp1 => ?_
  refine useB (er.mono k1) hp1 fun s2 u H2 e2 k2 r2 hp2 => ?_
  exact hF g W H2 Z σ _ _ _ _ _ (dom_mono (k1.trans k2) er.dom) (r1.mono k2) r2 hp2
theorem de_op {op : Operator} {r : R2} {F : D → D → R Sl} (ho : OpR X (binaryOp op) r) (hF : OpF X.K r F) (ha : PBd g x W X a ma) (hb : PBd g x W X b mb) : PEd g x W X (.BinOp a op b pos) (mBin F ma mb) :=
  weakE (pe_op ho ha hb) fun σ H Q h => op2 hF h
theorem de_cmp {op : CmpOp} {r : R2} {F : D → D → R Sl} (ho : OpR X (compareOp op) r) (hF : OpF X.K r F) (ha : PBd g x W X a ma) (hb : PBd g x W X b mb) (hm : behindInMarks op b = false) : PEd g x W X (.Compare a [op] [b] pos) (mBin F ma mb) :=
  weakE (pe_cmpR ho ha hb hm) fun σ H Q h => op2 hF h
theorem toTest {m : B} {σ : L2.St} {H : Hp} {Q : Bool → Hp → Prop} (h : tT X.K g x W (mTest m) σ H Q) : tB X.K g x W m σ H fun v H' => ∃ k, v = .bl k ∧ Q k H' := by
  obtain ⟨env, Z, er, hp⟩ := h
  refine useBT er hp fun d v H1 e1 k1 r1 hp1 => ?_
  cases d with
  | bl b => exact ⟨b, r1.bl_, hp1 H1 (Same.refl _)⟩
  | _ => exact hp1.elim
theorem toTestM {m : M} {σ : L2.St} {H : Hp} {Q : Bool → Hp → Prop} (h : tT X.K g x W (mTest (mB m)) σ H Q) : tM X.K g x W m σ H fun v H' => ∃ k, v = .bl k ∧ Q k H' := by
  obtain ⟨env, Z, er, hp⟩ := h
  refine use er ?_
  unfold mTest mB at hp
  cases em : m env with
  | ok s =>
    rw [em] at hp
    have hp : PostT X.K g W Z σ H Q (asB s.d) := hp
    intro v H' k r
    cases ed : s.d with
    | bl b => rw [ed] at hp r; exact ⟨b, Rep.bl_.mp r, hp H' k⟩
    | _ => rw [ed] at hp; exact hp.elim
  | ex c p => rw [em] at hp; exact hp
  | st => rw [em] at hp; exact hp
theorem dt_cmp {op : CmpOp} {r : R2} {F : D → D → R Sl} (ho : OpR X (compareOp op) r) (hF : OpF X.K r F) (ha : PBd g x W X a ma) (hb : PBd g x W X b mb) (hm : behindInMarks op b = false) : PTd g x W X (.Compare a [op] [b] pos) (mTest (mB (mBin F ma mb))) :=
  weakT (pt_cmpR ho ha hb hm) fun σ H Q h => op2 hF (toTestM h)
theorem dt_val (h : PBd g x W X e mt) (he : ∀ whole, isTrue e X.env whole = (do let v ← whole; standAt e.pos; holding [v] (truthy v)) := by intro _; rfl) : PTd g x W X e (mTest mt) :=
  weakT (pt_val h he) fun σ H Q h => toTest h
theorem dt_not {t : En → R Bool} (h : PTd g x W X e t) : PTd g x W X (.UnaryOp .Not e pos) (tNotM t) :=
  weakT (pt_not h) fun σ H Q ⟨env, Z, er, hp⟩ => useTT er hp fun b H' e k hp' => hp' H' (Same.refl _)
abbrev PWd (g : G0) (x : L2.St → Prop) (W : WX) (X : Cx) (e : Expr) (m : En → R Bool) : Prop := PW X e (tT X.K g x W m)
theorem weakW {X : Cx} {e : Expr} {t t' : TT} (h : PW X e t) (w : ∀ σ H Q, t' σ H Q → t σ H Q) : PW X e t' := ⟨fun wh pins s σ H Q I q => h.run wh pins s σ H Q I (w _ _ _ q)⟩
theorem dw_and1 {t : En → R Bool} (h : PTd g x W X e t) : PWd g x W X (.BoolOp .And [e] pos) t := pw_and1 h
theorem dw_or1 {t : En → R Bool} (h : PTd g x W X e t) : PWd g x W X (.BoolOp .Or [e] pos) t := pw_or1 h
theorem dw_and {t u : En → R Bool} (ha : PTd g x W X a t) (hb : PWd g x W X (.BoolOp .And (b :: es) pos) u) : PWd g x W X (.BoolOp .And (a :: b :: es) pos) (tAndM t u) :=
  weakW (pw_and ha hb) fun σ H Q ⟨env, Z, er, hp⟩ => useTT er hp fun c H' e k hp' => by
    cases c with
    | true => rw [if_pos rfl] at hp' ⊢; exact ⟨env, Z, er.mono k, hp'⟩
    | false => exact hp' H' (Same.refl _)
theorem dw_or {t u : En → R Bool} (ha : PTd g x W X a t) (hb : PWd g x W X (.BoolOp .Or (b :: es) pos) u) : PWd g x W X (.BoolOp .Or (a :: b :: es) pos) (tOrM t u) :=
  weakW (pw_or ha hb) fun σ H Q ⟨env, Z, er, hp⟩ => useTT er hp fun c H' e k hp' => by
    cases c with
    | true => exact hp' H' (Same.refl _)
    | false => exact ⟨env, Z, er.mono k, hp'⟩
theorem dt_w {t : En → R Bool} (h : PWd g x W X e t) : PTd g x W X e t := h.pt
theorem postFr {K : PySem.W.Frag} {Z : Av} {σ : L2.St} {H : Hp} {Q : VK} {r : R Sl} (h : PostE K g W Z σ H Q (r.bind fun s => .ok (.fr s.d))) : PostD K g W Z σ H Q r := by
  cases r with
  | ok s => exact h
  | ex c p => exact h
  | st => exact h
theorem de_one {op : BoolOp} (h : PBd g x W X a ma) : PBd g x W X (.BoolOp op [a] pos) ma := pe_one h
theorem andPart {Z : Av} {env : En} {σ : L2.St} {H H1 : Hp} {Q : VK} {K : PySem.W.Frag} (er : ERel K g x Z env σ H) (k1 : Same H H1) (hp : PostE K g W Z σ H1 Q ((mb env).bind fun s => (asB s).bind fun e => .ok (.fr (.bl e)))) : tB K g x W mb σ H1 Q := by
  refine useB (er.mono k1) hp fun d v H2 e2 k2 r2 hp2 => ?_
  cases d with
  | bl e => rw [r2.bl_]; exact hp2 _ H2 (Same.refl _) (Rep.bl_.mpr rfl)
  | _ => exact hp2.elim
theorem de_and (ha : PBd g x W X a ma) (hb : PBd g x W X (.BoolOp .And (b :: es) pos) mb) : PEd g x W X (.BoolOp .And (a :: b :: es) pos) (mAnd ma mb) :=
  weakE (pe_and ha hb) fun σ H Q ⟨env, Z, er, hp⟩ => useB er hp fun d v H1 e1 k1 r1 hp1 => by
    cases d with
    | bl c =>
      refine ⟨c, r1.bl_, ?_⟩
      cases c with
      | true => exact andPart er k1 hp1
      | false => exact hp1 _ H1 (Same.refl _) (Rep.bl_.mpr rfl)
    | _ => exact hp1.elim
theorem de_or (ha : PBd g x W X a ma) (hb : PBd g x W X (.BoolOp .Or (b :: es) pos) mb) : PEd g x W X (.BoolOp .Or (a :: b :: es) pos) (mOr ma mb) :=
  weakE (pe_or ha hb) fun σ H Q ⟨env, Z, er, hp⟩ => useB er hp fun d v H1 e1 k1 r1 hp1 => by
    cases d with
    | bl c =>
      refine ⟨c, r1.bl_, ?_⟩
      cases c with
      | true => exact hp1 _ H1 (Same.refl _) (Rep.bl_.mpr rfl)
      | false => exact andPart er k1 hp1
    | _ => exact hp1.elim
theorem de_not (ha : PBd g x W X a ma) : PEd g x W X (.UnaryOp .Not a pos) (mNot ma) :=
  weakE (pe_not ha) fun σ H Q ⟨env, Z, er, hp⟩ => useB er hp fun d v H1 e1 k1 r1 hp1 => by
    cases d with
    | bl c => exact ⟨c, r1.bl_, hp1 _ H1 (Same.refl _) (Rep.bl_.mpr rfl)⟩
    | _ => exact hp1.elim
theorem de_if {t : En → R Bool} {c : Expr} (hc : PTd g x W X c t) (ha : PEd g x W X a m) (hb : PEd g x W X b mA) : PEd g x W X (.IfExp c a b pos) (mIf t m mA) :=
  weakE (pe_ifExp hc ha hb) fun σ H Q ⟨env, Z, er, hp⟩ => useT er hp fun c H1 e1 k1 hp1 => by
    cases c with
    | true => exact use (er.mono k1) (postFr hp1)
    | false => exact use (er.mono k1) (postFr hp1)
theorem de_un {op : UnaryOp} {r : V → Hp → VK → Prop} {F : D → R Sl} (ho : UnR X (unaryOp op) r) (hF : UnF X.K r F) (ha : PBd g x W X a ma) : PEd g x W X (.UnaryOp op a pos) (mUn F ma) :=
  weakE (pe_un ho ha) fun σ H Q ⟨env, Z, er, hp⟩ => useB er hp fun s v H1 e1 k1 r1 hp1 => hF g W H1 Z σ _ _ _ (dom_mono k1 er.dom) r1 hp1

/-! ### arguments, displays, calls of built-ins -/
theorem da_nil : PAd g x W X [] mNil := weakA pa_nil fun σ H Q ⟨env, Z, er, hp⟩ => hp [] H (Same.refl _) (RepL.nil_.mpr rfl)
theorem db_nil : PBAd g x W X [] bNil := weakA pa_nil fun σ H Q ⟨env, Z, er, hp⟩ => hp [] H (Same.refl _) rfl
theorem db_cons (ha : PBd g x W X a ma) (hr : PBAd g x W X es mr) (hs : starEach (a :: es) X.env = (false, eval a X.env) :: starEach es X.env := by rfl) : PBAd g x W X (a :: es) (bCons ma mr) :=
  weakA (pa_cons ha hr hs) fun σ H Q ⟨env, Z, er, hp⟩ => useBA er hp fun s v H1 e1 k1 r1 hp1 =>
    useBLA (er.mono k1) hp1 fun ds vs H2 e2 k2 r2 hp2 => hp2 _ H2 (Same.refl _) ⟨v, vs, rfl, r1.mono k2, r2⟩
theorem da_cons (ha : PEd g x W X a m) (hr : PAd g x W X es mr) (hs : starEach (a :: es) X.env = (false, eval a X.env) :: starEach es X.env := by rfl) : PAd g x W X (a :: es) (mCons m mr) :=
  weakA (pa_cons ha hr hs) fun σ H Q ⟨env, Z, er, hp⟩ => use1A er hp fun s v H1 e1 k1 r1 hp1 =>
    useAA (er.mono k1) hp1 fun ds vs H2 e2 k2 r2 hp2 => hp2 _ H2 (Same.refl _) (RepL.cons_.mpr ⟨v, vs, rfl, Rep.mono (.same_ k2) _ _ r1, r2⟩)
theorem callF {r : List V → Hp → VK → Prop} {F : List D → R Sl} (hF : CallF X.K r F) {σ : L2.St} {H : Hp} {Q : VK} (h : tM X.K g x W (mCall F mr) σ H Q) : tBA X.K g x W mr σ H fun vs H1 => r vs H1 Q := by
  obtain ⟨env, Z, er, hp⟩ := h
  exact useBL er hp fun ds vs H1 e1 k1 r1 hp1 => hF g W H1 Z σ _ _ _ (dom_mono k1 er.dom) r1 hp1
theorem callA {r : List V → Hp → VK → Prop} {F : List D → R Sl} (hF : ∀ (g : G0) (W : WX) (H : Hp) (Z : Av) (σ : L2.St) (xs : List D) (vs : List V) (Q : VK), (∀ a, Z a → H a ≠ none) → RepL X.K g H Z xs vs → PostE X.K g W Z σ H Q (F xs) → r vs H Q)
    {σ : L2.St} {H : Hp} {Q : VK} (h : tM X.K g x W (mCall F mr) σ H Q) : tA X.K g x W mr σ H fun vs H1 => r vs H1 Q := by
  obtain ⟨env, Z, er, hp⟩ := h
  exact useA er hp fun ds vs H1 e1 k1 r1 hp1 => hF g W H1 Z σ _ _ _ (dom_mono k1 er.dom) r1 hp1
theorem same_upd {H : Hp} {p : Addr} {o : HO} (h : H p = none) : Same H (upd H p o) := fun b u e => by rw [upd_ne (ne_of_none e h)]; exact e
/-- a new tuple -/
def NewT (H : Hp) (vs : List V) (Q : VK) : Prop := ∀ (p : Addr) (o : Obj), H p = none → o.cls = .type "tuple" → o.dict = none → Q (.ref p) (upd H p (.frz o (.tup vs)))
theorem rtup_new {K : PySem.W.Frag} {H : Hp} {Z : Av} {p : Addr} {o : Obj} {ds : List D} {vs : List V} (h : H p = none) (c : o.cls = .type "tuple") (d : o.dict = none) (r : RepL K g H Z ds vs) : Rep K g (upd H p (.frz o (.tup vs))) Z (.tup ds) (.ref p) :=
  Rep.tup_.mpr ⟨p, vs, rfl, .inl ⟨o, upd_same, c, d⟩, RepL.mono (.same_ (same_upd h)) _ _ r⟩
theorem newT {pins : List (Addr × Obj)} {σ : L2.St} {H : Hp} {s : Shared} {h' : Heap} {p : Addr} {us : List Value} {vs : List V} {Q : VK} {t' : Nat} (I : Inv X pins σ H s) (k : ∀ b o, s.heap.get? b = some o → h'.get? b = some o) (hp : s.heap.objs.size ≤ p)
    (e : h'.get? p = some { cls := .type "tuple", data := .seq us.toArray }) (r : Vals vs us) (z : vs.length ≤ sizeLine) (q : NewT H vs Q) : EP X pins σ Q (.ref p) { s with heap := h', toks := t' } :=
  ⟨.ref p, _, I.laid (t' := t') k hp (o := .frz { cls := .type "tuple", data := .seq us.toArray } (.tup vs)) ⟨e, z, us, r, ⟨_, e, rfl, _, rfl⟩⟩, rfl, q p _ (I.hok.fresh hp) rfl rfl⟩
theorem pe_tupN {x1} {t : TA} (h : PA X es t) : PE X (.Tuple es x1 pos) (fun σ H Q => t σ H fun xs H1 => xs.length ≤ sizeLine ∧ NewT H1 xs Q) := by
  refine ⟨fun pins s σ H Q I hq => ?_⟩
  refine wpAny_Tuple_spliced (thn (h.run pos pins s σ H _ I hq) fun us s1 ⟨xs, H1, I1, r, z, q⟩ => ⟨by rw [← r.length]; exact z, ?_⟩)
  exact newT (t' := s1.toks) I1 (fun b u e => Heap.get?_push_of_some _ e) (Nat.le_refl _) (Heap.get?_push_size _ rfl) r z q
theorem rlst_new {K : PySem.W.Frag} {H : Hp} {Z : Av} {p : Addr} {o : HO} {ds : List D} {vs : List V} (h : H p = none) (r : RepL K g H Z ds vs) : RepL K g (upd H p o) (fun b => Z b ∨ b = p) ds vs :=
  RepL.mono (.of (same_upd h) fun b n z => z.elim id fun e => absurd h (by rw [← e]; exact n)) _ _ r
theorem post_tup {K : PySem.W.Frag} {H : Hp} {Z : Av} {σ : L2.St} {Q : VK} {ds : List D} {vs : List V} (hp : PostE K g W Z σ H Q (.ok (.fr (.tup ds)))) (r : RepL K g H Z ds vs) : NewT H vs Q :=
  fun p o h c d => hp _ _ (same_upd h) (rtup_new h c d r)
theorem post_ow {K : PySem.W.Frag} {H : Hp} {Z : Av} {σ : L2.St} {Q : VK} {p : Addr} {ds : List D} {vs : List V} (hp : PostE K g W Z σ H Q (.ok (.ow ds))) (h : H p = none) (r : RepL K g H Z ds vs) : Q (.ref p) (upd H p (.lst vs)) :=
  hp p vs _ (same_upd h) h upd_same (rlst_new h r)
theorem de_tup {x1} (h : PAd g x W X es mr) : PEd g x W X (.Tuple es x1 pos) (mCall fTup mr) :=
  weakE (pe_tupN h) fun σ H Q h => callA (r := fun xs H1 Q => xs.length ≤ sizeLine ∧ NewT H1 xs Q) (fun g W H Z σ xs vs Q dom r hp => by
    unfold fTup at hp
    split at hp
    · rename_i hl
      exact ⟨by rw [← r.length]; exact limLine hl, post_tup hp r⟩
    · exact hp.elim) h
theorem de_lst (h : PAd g x W X es mr) : PEd g x W X (.List es pos) (mCall fLst mr) :=
  weakE (pe_lst h) fun σ H Q h => callA (r := fun xs H1 Q => xs.length ≤ sizeLine ∧ ∀ p, H1 p = none → Q (.ref p) (upd H1 p (.lst xs))) (fun g W H Z σ xs vs Q dom r hp => by
    unfold fLst at hp
    split at hp
    · rename_i hl
      exact ⟨by rw [← r.length]; exact limLine hl, fun p n => post_ow hp n r⟩
    · exact hp.elim) h
theorem de_callB {r : List V → Hp → VK → Prop} {F : List D → R Sl} {id : String} {y : Str} {p : Pos} (hc : CallR X (.builtin id) r) (hF : CallF X.K r F) (hg : Gl X y) (hm : X.mg y = none) (hv : bootBuiltins y = some (.builtin id)) (ha : PBAd g x W X (e :: es) mr) (hn : y ≠ "__name__" := by decide)
    (hdb : (y == ("__debug__" : Str)) = false := by decide) (he : starEach (e :: es) X.env = (false, eval e X.env) :: starEach es X.env := by rfl) (hpl : (backTo pos (starEach es X.env)).any (·.1) = false := by rfl) :
    PEd g x W X (.Call (.Name y p) (e :: es) [] pos) (mCall F mr) :=
  weakE (pe_callB hc hg hm hv ha hn hdb he hpl) fun σ H Q h => callF hF h
theorem de_callT {r : List V → Hp → VK → Prop} {F : List D → R Sl} {id : String} {y : Str} {p : Pos} (hc : CallR X (.type id) r) (hF : CallF X.K r F) (hg : Gl X y) (hm : X.mg y = none) (hv : bootBuiltins y = some (.type id)) (ha : PBAd g x W X (e :: es) mr) (hn : y ≠ "__name__" := by decide)
    (hdb : (y == ("__debug__" : Str)) = false := by decide) (he : starEach (e :: es) X.env = (false, eval e X.env) :: starEach es X.env := by rfl) (hpl : (backTo pos (starEach es X.env)).any (·.1) = false := by rfl) :
    PEd g x W X (.Call (.Name y p) (e :: es) [] pos) (mCall F mr) :=
  weakE (pe_callTy hc hg hm hv ha hn hdb he hpl) fun σ H Q h => callF hF h
end
end DL
set_option Elab.async false
set_option linter.all false
set_option maxRecDepth 100000
namespace DL
open PySem PySem.Spec L2
open PyProof.Rows hiding St

/-! ### statements -/
/-- the addresses that slots own, and those that are kept away from outside -/
def zz (A : Av) (env : En) (σ : L2.St) : Av := fun a => A a ∨ ∃ (i : Nat) (xs : List D), env[i]? = some (some (Sl.ow xs)) ∧ σ[i]? = some (some (V.ref a))
structure SRel (K : PySem.W.Frag) (g : G0) (x : L2.St → Prop) (A : Av) (H0 : Hp) (env : En) (σ : L2.St) (H : Hp) : Prop where
  er : ERel K g x (zz A env σ) env σ H
  same : Same H0 H
  adom : ∀ a, A a → H0 a ≠ none
  fresh : ∀ (i : Nat) (xs : List D) (a : Addr), env[i]? = some (some (Sl.ow xs)) → σ[i]? = some (some (V.ref a)) → H0 a = none
  dist : ∀ (i j : Nat) (xs ys : List D) (a : Addr), env[i]? = some (some (Sl.ow xs)) → env[j]? = some (some (Sl.ow ys)) → σ[i]? = some (some (V.ref a)) → σ[j]? = some (some (V.ref a)) → i = j
  len : env.length = σ.length
def PostS (K : PySem.W.Frag) (g : G0) (x : L2.St → Prop) (W : WX) (A : Av) (H0 : Hp) (D : Ends) : RS → Prop
  | .nx e => ∀ σ' H', SRel K g x A H0 e σ' H' → D.nx σ' H'
  | .bk e => ∀ σ' H', SRel K g x A H0 e σ' H' → D.bk σ' H'
  | .ct e => ∀ σ' H', SRel K g x A H0 e σ' H' → D.ct σ' H'
  | .rt (.fr d) => ∀ v H', Same H0 H' → Rep K g H' A d v → D.rt v H'
  | .rt (.ow xs) => ∀ a vs H', Same H0 H' → H0 a = none → H' a = some (.lst vs) → RepL K g H' (fun b => A b ∨ b = a) xs vs → D.rt (.ref a) H'
  | .ex c p e => ∀ σ' H' dd, SRel K g x A H0 e σ' H' → ExP K g H' A p dd → W (.ref (g.cl c)) dd σ' H'
  | .st => False
def tS (K : PySem.W.Frag) (g : G0) (x : L2.St → Prop) (W : WX) (m : MS) : TS := fun D σ H => ∃ env A H0, SRel K g x A H0 env σ H ∧ PostS K g x W A H0 D (m env)
abbrev PSd (g : G0) (x : L2.St → Prop) (W : WX) (X : Cx) (s : Stmt) (m : MS) : Prop := PS X s (tS X.K g x W m)
abbrev PSsd (g : G0) (x : L2.St → Prop) (W : WX) (X : Cx) (s : List Stmt) (m : MS) : Prop := PSs X s (tS X.K g x W m)

def sNop : MS := fun env => .nx env
def sSeq (m n : MS) : MS := fun env => match m env with
  | .nx e => n e
  | r => r
def sIf (t : En → R Bool) (m n : MS) : MS := fun env => match t env with
  | .ok b => if b = true then m env else n env
  | .ex c p => .ex c p env
  | .st => .st
def sRet (m : M) : MS := fun env => match m env with
  | .ok s => .rt s
  | .ex c p => .ex c p env
  | .st => .st
def sRetN : MS := fun _ => .rt (.fr .non)
def sRetV (i : Nat) : MS := fun env => match env[i]? with
  | some (some s) => .rt s
  | _ => .st
def sSet (i : Nat) (m : M) : MS := fun env => match m env with
  | .ok s => .nx (env.set i (some s))
  | .ex c p => .ex c p env
  | .st => .st
def sDrop (m : M) : MS := fun env => match m env with
  | .ok _ => .nx env
  | .ex c p => .ex c p env
  | .st => .st
def frz1 (i : Nat) (env : En) : En := match env[i]? with
  | some (some (.ow xs)) => env.set i (some (.fr (.lst xs)))
  | _ => env
def frz : List Nat → En → En
  | [], env => env
  | i :: is, env => frz is (frz1 i env)
def sFrz (is : List Nat) (m : MS) : MS := fun env => m (frz is env)
def sApp (i : Nat) (m : M) : MS := fun env => match env[i]? with
  | some (some (.ow xs)) => match m env with
    | .ok s => if xs.length < lim then .nx (env.set i (some (.ow (xs ++ [s.d])))) else .st
    | .ex c p => .ex c p env
    | .st => .st
  | _ => .st
def sBrk : MS := fun env => .bk env
def sCnt : MS := fun env => .ct env

section
variable {K : PySem.W.Frag} {g : G0} {x : L2.St → Prop} {W : WX} {A : Av} {H0 H H' : Hp} {env : En} {σ : L2.St}
theorem SRel.later (r : SRel K g x A H0 env σ H) (k : Same H H') : SRel K g x A H0 env σ H' :=
  ⟨r.er.mono k, r.same.trans k, r.adom, r.fresh, r.dist, r.len⟩
theorem zz_sub {a : Addr} (h : A a) : zz A env σ a := .inl h
theorem SRel.kpA (r : SRel K g x A H0 env σ H) : Kp H (zz A env σ) H A := .of (Same.refl _) fun _ _ z => zz_sub z
/-- an anchor below -/
theorem SRel.anchor {H1 : Hp} (k : Same H0 H1) (ad : ∀ a, A a → H0 a ≠ none) (r : SRel K g x A H1 env σ H) : SRel K g x A H0 env σ H :=
  ⟨r.er, k.trans r.same, ad, fun i xs a e1 e2 => k.free (r.fresh i xs a e1 e2), r.dist, r.len⟩
theorem set_get {α : Type} {l : List α} {i j : Nat} {u w : α} (h : (l.set i u)[j]? = some w) : (i = j ∧ w = u ∧ i < l.length) ∨ (i ≠ j ∧ l[j]? = some w) := by
  by_cases e : i = j
  · subst e
    by_cases hl : i < l.length
    · rw [List.getElem?_set_self hl] at h
      exact .inl ⟨rfl, (Option.some.inj h).symm, hl⟩
    · rw [List.getElem?_eq_none (by simpa using hl)] at h
      cases h
  · rw [List.getElem?_set_ne e] at h
    exact .inr ⟨e, h⟩
/-- a value goes into a slot -/
theorem SRel.setFr (hx : ∀ σ, x σ) (r : SRel K g x A H0 env σ H) {i : Nat} {d : D} {v : V} (k : Same H H') (h : Rep K g H' (zz A env σ) d v) : SRel K g x A H0 (env.set i (some (.fr d))) (σ.set i (some v)) H' := by
  have r := r.later k
  have zs : ∀ a, zz A (env.set i (some (.fr d))) (σ.set i (some v)) a → zz A env σ a := by
    rintro a (z | ⟨j, xs, e1, e2⟩)
    · exact .inl z
    · rcases set_get e1 with ⟨_, e, _⟩ | ⟨ne, e1⟩
      · cases e
      · rcases set_get e2 with ⟨e, _⟩ | ⟨_, e2⟩
        · exact absurd e ne
        · exact .inr ⟨j, xs, e1, e2⟩
  refine ⟨⟨fun a z => r.er.dom a (zs a z), hx _, by rw [List.length_set, List.length_set, r.len], fun j s e => ?_⟩, r.same, r.adom, fun j xs a e1 e2 => ?_, fun j l xs ys a e1 e2 e3 e4 => ?_, by rw [List.length_set, List.length_set, r.len]⟩
  · rcases set_get e with ⟨ij, e, hl⟩ | ⟨ne, e⟩
    · cases e
      subst ij
      exact ⟨v, by rw [List.getElem?_set_self (by rw [← r.len]; exact hl)], Rep.mono (.of (Same.refl _) fun a _ z => zs a z) _ _ h⟩
    · obtain ⟨u, e2, q⟩ := r.er.at_ j s e
      refine ⟨u, by rw [List.getElem?_set_ne ne]; exact e2, ?_⟩
      cases s with
      | fr d2 => exact Rep.mono (.of (Same.refl _) fun a _ z => zs a z) _ _ q
      | ow xs =>
        obtain ⟨a, vs, ev, z, p, rr⟩ := q
        subst ev
        exact ⟨a, vs, rfl, .inr ⟨j, xs, by rw [List.getElem?_set_ne ne]; exact e, by rw [List.getElem?_set_ne ne]; exact e2⟩, p, RepL.mono (.of (Same.refl _) fun a _ z => zs a z) _ _ rr⟩
  · rcases set_get e1 with ⟨_, e, _⟩ | ⟨ne, e1⟩
    · cases e
    · rw [List.getElem?_set_ne ne] at e2
      exact r.fresh j xs a e1 e2
  · rcases set_get e1 with ⟨_, e, _⟩ | ⟨ne, e1⟩
    · cases e
    · rcases set_get e2 with ⟨_, e, _⟩ | ⟨ne2, e2⟩
      · cases e
      · rw [List.getElem?_set_ne ne] at e3
        rw [List.getElem?_set_ne ne2] at e4
        exact r.dist j l xs ys a e1 e2 e3 e4
/-- a fresh list goes into a slot -/
theorem SRel.setOw (hx : ∀ σ, x σ) (r : SRel K g x A H0 env σ H) {i : Nat} {xs : List D} {a : Addr} {vs : List V} (k : Same H H') (n : H a = none) (e : H' a = some (.lst vs)) (h : RepL K g H' (fun b => zz A env σ b ∨ b = a) xs vs) :
    SRel K g x A H0 (env.set i (some (.ow xs))) (σ.set i (some (.ref a))) H' := by
  have r' := r.later k
  have zs : ∀ b, zz A (env.set i (some (.ow xs))) (σ.set i (some (.ref a))) b → zz A env σ b ∨ b = a := by
    rintro b (z | ⟨j, ys, e1, e2⟩)
    · exact .inl (.inl z)
    · rcases set_get e1 with ⟨ij, _, _⟩ | ⟨ne, e1⟩
      · subst ij
        rcases set_get e2 with ⟨_, e, _⟩ | ⟨ne, _⟩
        · cases e; exact .inr rfl
        · exact absurd rfl ne
      · rcases set_get e2 with ⟨e, _⟩ | ⟨_, e2⟩
        · exact absurd e ne
        · exact .inl (.inr ⟨j, ys, e1, e2⟩)
  have nH0 : H0 a = none := r.same.free n
  have old : ∀ b, H b ≠ none → zz A (env.set i (some (.ow xs))) (σ.set i (some (.ref a))) b → zz A env σ b := fun b hb z => (zs b z).elim id fun e => absurd n (by rw [← e]; exact hb)
  have kp : Kp H (zz A env σ) H' (zz A (env.set i (some (.ow xs))) (σ.set i (some (.ref a)))) := .of k old
  refine ⟨⟨fun b z => ?_, hx _, by rw [List.length_set, List.length_set, r.len], fun j s e1 => ?_⟩, r'.same, r.adom, fun j ys b e1 e2 => ?_, fun j l ys zs' b e1 e2 e3 e4 => ?_, by rw [List.length_set, List.length_set, r.len]⟩
  · rcases zs b z with z | z
    · exact r'.er.dom b z
    · rw [z, e]; simp
  · rcases set_get e1 with ⟨ij, ee, hl⟩ | ⟨ne, e1⟩
    · cases ee
      subst ij
      have hs : (σ.set i (some (V.ref a)))[i]? = some (some (V.ref a)) := by rw [List.getElem?_set_self (by rw [← r.len]; exact hl)]
      exact ⟨.ref a, hs, a, vs, rfl, .inr ⟨i, xs, by rw [List.getElem?_set_self hl], hs⟩, e, RepL.mono (.of (Same.refl _) fun b _ z => zs b z) _ _ h⟩
    · obtain ⟨u, e2, q⟩ := r.er.at_ j s e1
      refine ⟨u, by rw [List.getElem?_set_ne ne]; exact e2, ?_⟩
      cases s with
      | fr d2 => exact Rep.mono kp _ _ q
      | ow ys =>
        obtain ⟨b, ws, ev, z, p, rr⟩ := q
        subst ev
        exact ⟨b, ws, rfl, .inr ⟨j, ys, by rw [List.getElem?_set_ne ne]; exact e1, by rw [List.getElem?_set_ne ne]; exact e2⟩, k _ _ p, RepL.mono kp _ _ rr⟩
  · rcases set_get e1 with ⟨ij, _, hl⟩ | ⟨ne, e1⟩
    · subst ij
      rw [List.getElem?_set_self (by rw [← r.len]; exact hl)] at e2
      cases e2
      exact nH0
    · rw [List.getElem?_set_ne ne] at e2
      exact r.fresh j ys b e1 e2
  · have own : ∀ {j : Nat} {ys : List D}, env[j]? = some (some (.ow ys)) → σ[j]? = some (some (.ref a)) → False := fun {j ys} f1 f2 => by
      obtain ⟨u, f3, b, ws, ev, _, p, _⟩ := r.er.at_ j _ f1
      rw [f2] at f3
      cases f3
      cases ev
      rw [n] at p
      cases p
    rcases set_get e1 with ⟨ij, _, hl⟩ | ⟨ne, e1⟩
    · subst ij
      rw [List.getElem?_set_self (by rw [← r.len]; exact hl)] at e3
      cases e3
      rcases set_get e2 with ⟨il, _, _⟩ | ⟨ne2, e2⟩
      · exact il
      · rw [List.getElem?_set_ne ne2] at e4
        exact (own e2 e4).elim
    · rw [List.getElem?_set_ne ne] at e3
      rcases set_get e2 with ⟨il, _, hl⟩ | ⟨ne2, e2⟩
      · subst il
        rw [List.getElem?_set_self (by rw [← r.len]; exact hl)] at e4
        cases e4
        exact (own e1 e3).elim
      · rw [List.getElem?_set_ne ne2] at e4
        exact r.dist j l ys zs' b e1 e2 e3 e4
/-- an owned list changes -/
theorem SRel.mut (r : SRel K g x A H0 env σ H) {i : Nat} {xs ys : List D} {a : Addr} {vs : List V} (e1 : env[i]? = some (some (.ow xs))) (e2 : σ[i]? = some (some (.ref a))) (h : RepL K g H (zz A env σ) ys vs) :
    SRel K g x A H0 (env.set i (some (.ow ys))) σ (upd H a (.lst vs)) := by
  have hi : i < env.length := (List.getElem?_eq_some_iff.mp e1).1
  have za : zz A env σ a := .inr ⟨i, xs, e1, e2⟩
  have zs : ∀ b, zz A (env.set i (some (.ow ys))) σ b ↔ zz A env σ b := fun b => by
    constructor
    · rintro (z | ⟨j, ws, f1, f2⟩)
      · exact .inl z
      · rcases set_get f1 with ⟨ij, _, _⟩ | ⟨ne, f1⟩
        · subst ij; exact .inr ⟨i, xs, e1, f2⟩
        · exact .inr ⟨j, ws, f1, f2⟩
    · rintro (z | ⟨j, ws, f1, f2⟩)
      · exact .inl z
      · by_cases ij : i = j
        · subst ij; exact .inr ⟨i, ys, by rw [List.getElem?_set_self hi], f2⟩
        · exact .inr ⟨j, ws, by rw [List.getElem?_set_ne ij]; exact f1, f2⟩
  obtain ⟨u, f3, b, ws, ev, _, p, _⟩ := r.er.at_ i _ e1
  rw [e2] at f3
  cases f3
  cases ev
  have kp : Kp H (zz A env σ) (upd H a (.lst vs)) (zz A (env.set i (some (.ow ys))) σ) :=
    ⟨fun b o e n => by rw [upd_ne (fun q => n (by rw [q]; exact za))]; exact e, fun b o us t => by
      have nb : b ≠ a := fun q => by
        subst q
        rw [p] at t
        cases t
      rw [upd_ne nb]
      exact t, fun b _ n z => n ((zs b).mp z)⟩
  have nH0 : H0 a = none := r.fresh i xs a e1 e2
  refine ⟨⟨fun b z => ?_, r.er.ex, by rw [List.length_set, r.len], fun j s f => ?_⟩, fun b o e => ?_, r.adom, fun j ws b f1 f2 => ?_, fun j l ws us b f1 f2 f3 f4 => ?_, by rw [List.length_set, r.len]⟩
  · by_cases q : b = a
    · rw [q, upd_same]; simp
    · rw [upd_ne q]; exact r.er.dom b ((zs b).mp z)
  · rcases set_get f with ⟨ij, ee, _⟩ | ⟨ne, f⟩
    · cases ee
      subst ij
      exact ⟨.ref a, e2, a, vs, rfl, (zs a).mpr za, upd_same, RepL.mono kp _ _ h⟩
    · obtain ⟨v, f2, q⟩ := r.er.at_ j s f
      refine ⟨v, f2, ?_⟩
      cases s with
      | fr d => exact Rep.mono kp _ _ q
      | ow us =>
        obtain ⟨b, ts, ev, z, p2, rr⟩ := q
        subst ev
        have nb : b ≠ a := fun q => ne (r.dist i j xs us a e1 f e2 (by rw [← q]; exact f2))
        exact ⟨b, ts, rfl, (zs b).mpr z, by rw [upd_ne nb]; exact p2, RepL.mono kp _ _ rr⟩
  · rw [upd_ne (ne_of_none e nH0)]; exact r.same b o e
  · rcases set_get f1 with ⟨ij, _, _⟩ | ⟨ne, f1⟩
    · subst ij; exact r.fresh i xs b e1 f2
    · exact r.fresh j ws b f1 f2
  · have fix : ∀ {j : Nat} {ws : List D}, (env.set i (some (.ow ys)))[j]? = some (some (.ow ws)) → ∃ ws', env[j]? = some (some (.ow ws')) := fun {j ws} f => by
      rcases set_get f with ⟨ij, _, _⟩ | ⟨ne, f⟩
      · exact ⟨xs, ij ▸ e1⟩
      · exact ⟨ws, f⟩
    obtain ⟨w1, g1⟩ := fix f1
    obtain ⟨w2, g2⟩ := fix f2
    exact r.dist j l w1 w2 b g1 g2 f3 f4
/-- a list is not changed any more -/
theorem SRel.frz1 (r : SRel K g x A H0 env σ H) (i : Nat) : SRel K g x A H0 (DL.frz1 i env) σ H := by
  unfold DL.frz1
  split
  · rename_i xs e1
    have hi : i < env.length := (List.getElem?_eq_some_iff.mp e1).1
    obtain ⟨v, e2, a, vs, ev, za, p, rr⟩ := r.er.at_ i _ e1
    subst ev
    have zs : ∀ b, zz A (env.set i (some (.fr (.lst xs)))) σ b → zz A env σ b := by
      rintro b (z | ⟨j, ws, f1, f2⟩)
      · exact .inl z
      · rcases set_get f1 with ⟨_, ee, _⟩ | ⟨ne, f1⟩
        · cases ee
        · exact .inr ⟨j, ws, f1, f2⟩
    have na : ¬ zz A (env.set i (some (.fr (.lst xs)))) σ a := by
      rintro (z | ⟨j, ws, f1, f2⟩)
      · exact r.adom a z (r.fresh i xs a e1 e2)
      · rcases set_get f1 with ⟨_, ee, _⟩ | ⟨ne, f1⟩
        · cases ee
        · exact ne (r.dist i j xs ws a e1 f1 e2 f2)
    have kp : Kp H (zz A env σ) H (zz A (env.set i (some (.fr (.lst xs)))) σ) := .of (Same.refl _) fun b _ z => zs b z
    refine ⟨⟨fun b z => r.er.dom b (zs b z), r.er.ex, by rw [List.length_set, r.len], fun j s f => ?_⟩, r.same, r.adom, fun j ws b f1 f2 => ?_, fun j l ws us b f1 f2 f3 f4 => ?_, by rw [List.length_set, r.len]⟩
    · rcases set_get f with ⟨ij, ee, _⟩ | ⟨ne, f⟩
      · cases ee
        subst ij
        exact ⟨.ref a, e2, Rep.lst_.mpr ⟨a, vs, rfl, .inl ⟨na, .inl p⟩, RepL.mono kp _ _ rr⟩⟩
      · obtain ⟨w, f2, q⟩ := r.er.at_ j s f
        refine ⟨w, f2, ?_⟩
        cases s with
        | fr d => exact Rep.mono kp _ _ q
        | ow us =>
          obtain ⟨b, ts, ev, z, p2, r2⟩ := q
          subst ev
          exact ⟨b, ts, rfl, .inr ⟨j, us, by rw [List.getElem?_set_ne ne]; exact f, f2⟩, p2, RepL.mono kp _ _ r2⟩
    · rcases set_get f1 with ⟨_, ee, _⟩ | ⟨ne, f1⟩
      · cases ee
      · exact r.fresh j ws b f1 f2
    · rcases set_get f1 with ⟨_, ee, _⟩ | ⟨_, f1⟩
      · cases ee
      · rcases set_get f2 with ⟨_, ee, _⟩ | ⟨_, f2⟩
        · cases ee
        · exact r.dist j l ws us b f1 f2 f3 f4
  · exact r
theorem SRel.frz : ∀ (is : List Nat) {env : En}, SRel K g x A H0 env σ H → SRel K g x A H0 (DL.frz is env) σ H
  | [], _, r => r
  | i :: is, _, r => SRel.frz is (r.frz1 i)
end

section
variable {g : G0} {x : L2.St → Prop} {W : WX} {X : Cx} {e : Expr} {st : Stmt} {rest body orelse : List Stmt} {pos : Pos} {m : M} {s t : MS}
theorem dss_nil : PSsd g x W X [] sNop := weakSs pss_nil fun D σ H ⟨env, A, H0, r, hp⟩ => hp σ H r
theorem tS.imp {D D' : Ends} {σ : L2.St} {H : Hp} (h : tS X.K g x W s D σ H) (h1 : ∀ σ H, D.nx σ H → D'.nx σ H) (h2 : ∀ v H, D.rt v H → D'.rt v H) (h3 : ∀ σ H, D.bk σ H → D'.bk σ H) (h4 : ∀ σ H, D.ct σ H → D'.ct σ H) : tS X.K g x W s D' σ H := by
  obtain ⟨env, A, H0, r, hp⟩ := h
  refine ⟨env, A, H0, r, ?_⟩
  cases e : s env with
  | nx e' => rw [e] at hp; exact fun σ' H' q => h1 _ _ (hp σ' H' q)
  | bk e' => rw [e] at hp; exact fun σ' H' q => h3 _ _ (hp σ' H' q)
  | ct e' => rw [e] at hp; exact fun σ' H' q => h4 _ _ (hp σ' H' q)
  | rt u =>
    rw [e] at hp
    cases u with
    | fr d => exact fun v H' k q => h2 _ _ (hp v H' k q)
    | ow xs => exact fun a vs H' k n p q => h2 _ _ (hp a vs H' k n p q)
  | ex c p e' => rw [e] at hp; exact hp
  | st => rw [e] at hp; exact hp
theorem seqPost {K : PySem.W.Frag} {A : Av} {H0 : Hp} {D : Ends} {u : RS} (h : PostS K g x W A H0 D (match u with | .nx e => t e | r => r)) : PostS K g x W A H0 { D with nx := tS K g x W t D } u := by
  cases u with
  | nx e' => exact fun σ' H' q => ⟨e', A, H0, q, h⟩
  | bk e' => exact h
  | ct e' => exact h
  | rt v => cases v <;> exact h
  | ex c p e' => exact h
  | st => exact h
theorem dss_cons (h1 : PSd g x W X st s) (h2 : PSsd g x W X rest t) : PSsd g x W X (st :: rest) (sSeq s t) :=
  weakSs (pss_cons h1 h2) fun D σ H ⟨env, A, H0, r, hp⟩ => ⟨env, A, H0, r, seqPost hp⟩
theorem dss_one (h1 : PSd g x W X st s) : PSsd g x W X [st] s := pss_one h1
theorem ds_pass : PSd g x W X (.Pass pos) sNop := weakS ps_pass fun D σ H ⟨env, A, H0, r, hp⟩ => hp σ H r
theorem ds_brk : PSd g x W X (.Break pos) sBrk := weakS ps_break fun D σ H ⟨env, A, H0, r, hp⟩ => hp σ H r
theorem ds_cnt : PSd g x W X (.Continue pos) sCnt := weakS ps_continue fun D σ H ⟨env, A, H0, r, hp⟩ => hp σ H r
/-- an expression of a statement -/
theorem runE {env : En} {A : Av} {H0 H : Hp} {σ : L2.St} {D : Ends} {f : Sl → RS} {Q : VK} (r : SRel X.K g x A H0 env σ H)
    (hp : PostS X.K g x W A H0 D (match m env with | .ok s => f s | .ex c p => .ex c p env | .st => .st))
    (h1 : ∀ d v H', m env = .ok (.fr d) → Same H H' → Rep X.K g H' (zz A env σ) d v → PostS X.K g x W A H0 D (f (.fr d)) → Q v H')
    (h2 : ∀ xs a vs H', m env = .ok (.ow xs) → Same H H' → H a = none → H' a = some (.lst vs) → RepL X.K g H' (fun b => zz A env σ b ∨ b = a) xs vs → PostS X.K g x W A H0 D (f (.ow xs)) → Q (.ref a) H') : tM X.K g x W m σ H Q := by
  refine ⟨env, _, r.er, ?_⟩
  cases e : m env with
  | ok s =>
    rw [e] at hp
    cases s with
    | fr d => exact fun v H' k q => h1 d v H' e k q hp
    | ow xs => exact fun a vs H' k n p q => h2 xs a vs H' e k n p q hp
  | ex c p =>
    rw [e] at hp
    refine fun H' dd k q => hp σ H' dd (r.later k) ?_
    cases p with
    | none => exact q
    | some fx =>
      obtain ⟨da, v, e1, e2, e3⟩ := q
      exact ⟨da, v, e1, e2, Rep.mono (.of (Same.refl _) fun _ _ z => .inl z) _ _ e3⟩
  | st => rw [e] at hp; exact hp
theorem ds_set {i : Nat} {y : Str} {pos' : Pos} (hx : ∀ σ, x σ) (hN : X.N.Nodup) (hi : X.N[i]? = some y) (hl : Loc X.env.scope y) (he : PEd g x W X e m) (hs : swapsWith e (some (.Name y pos')) pos.line X.env = pure false := by rfl)
    (hf : X.fn y = true ∨ X.env.scope.names.lookup y = some .local := by first | exact .inl rfl | exact .inr rfl | assumption) : PSd g x W X (.Assign [.Name y pos'] e pos) (sSet i m) :=
  weakS (ps_set hN hi hl he hs hf) fun D σ H ⟨env, A, H0, r, hp⟩ =>
    runE (f := fun s => .nx (env.set i (some s))) r hp (fun d v H' _ k q hp => hp _ _ (r.setFr hx k q)) fun xs a vs H' _ k n p q hp => hp _ _ (r.setOw hx k n p q)
theorem ds_ret (he : PEd g x W X e m) : PSd g x W X (.Return (some e) pos) (sRet m) :=
  weakS (ps_ret he) fun D σ H ⟨env, A, H0, r, hp⟩ =>
    runE (f := fun s => .rt s) r hp (fun d v H' _ k q hp => hp _ _ (r.same.trans k) (Rep.mono (.of (Same.refl _) fun _ _ z => .inl z) _ _ q)) fun xs a vs H' _ k n p q hp => hp _ _ _ (r.same.trans k) (r.same.free n) p (RepL.mono (.of (Same.refl _) fun _ _ z => z.elim (fun z => .inl (.inl z)) .inr) _ _ q)
theorem ds_retN : PSd g x W X (.Return none pos) sRetN :=
  weakS ps_retN fun D σ H ⟨env, A, H0, r, hp⟩ => hp _ _ r.same (Rep.non_.mpr rfl)
theorem ds_retV (i : Nat) {y : Str} {p : Pos} (hN : X.N[i]? = some y := by rfl) (hv : Vis X.env.scope y := by first | exact Or.inl rfl | exact Or.inr (Or.inl rfl) | exact Or.inr (Or.inr rfl)) (hd : (y == ("__debug__" : Str)) = false := by decide)
    (hcd : (y == ("__classdict__" : Str)) = false := by decide) : PSd g x W X (.Return (some (.Name y p)) pos) (sRetV i) :=
  weakS (ps_ret (pe_var hN hv hd hcd)) fun D σ H ⟨env, A, H0, r, hp⟩ => by
    unfold sRetV at hp
    split at hp
    · rename_i s e
      obtain ⟨v, e2, q⟩ := r.er.at_ i _ e
      cases s with
      | fr d => exact ⟨v, e2, hp _ _ r.same (Rep.mono (.of (Same.refl _) fun _ _ z => .inl z) _ _ q)⟩
      | ow xs =>
        obtain ⟨a, vs, ev, z, p, rr⟩ := q
        subst ev
        exact ⟨_, e2, hp _ _ _ r.same (r.fresh i xs a e e2) p (RepL.mono (.of (Same.refl _) fun b _ z => z.elim .inl fun q => by rw [q]; assumption) _ _ rr)⟩
    · exact hp.elim
theorem ds_expr (he : PEd g x W X e m) (hs : swapsWith e none pos.line X.env = pure false := by rfl) : PSd g x W X (.Expr e pos) (sDrop m) :=
  weakS (ps_expr he hs) fun D σ H ⟨env, A, H0, r, hp⟩ =>
    runE (f := fun s => .nx env) r hp (fun d v H' _ k q hp => hp _ _ (r.later k)) fun xs a vs H' _ k n p q hp => hp _ _ (r.later k)
theorem ds_doc {z : Str} {j : Nat} {pos' : Pos} : PSd g x W X (.Expr (.Constant (.str z) j pos) pos') sNop := weakS ps_doc fun D σ H ⟨env, A, H0, r, hp⟩ => hp σ H r
theorem ds_if {c : Expr} {b : En → R Bool} (hc : PTd g x W X c b) (ha : PSsd g x W X body s) (hb : PSsd g x W X orelse t) : PSd g x W X (.If c body orelse pos) (sIf b s t) :=
  weakS (ps_if hc ha hb) fun D σ H ⟨env, A, H0, r, hp⟩ => by
    refine ⟨env, _, r.er, ?_⟩
    unfold sIf at hp
    cases e : b env with
    | ok c =>
      rw [e] at hp
      intro H' k
      cases c with
      | true => exact ⟨env, A, H0, r.later k, hp⟩
      | false => exact ⟨env, A, H0, r.later k, hp⟩
    | ex c p =>
      rw [e] at hp
      refine fun H' dd k q => hp σ H' dd (r.later k) ?_
      cases p with
      | none => exact q
      | some fx =>
        obtain ⟨da, v, e1, e2, e3⟩ := q
        exact ⟨da, v, e1, e2, Rep.mono (.of (Same.refl _) fun _ _ z => .inl z) _ _ e3⟩
    | st => rw [e] at hp; exact hp
theorem ds_frz (is : List Nat) (h : PSd g x W X st s) : PSd g x W X st (sFrz is s) :=
  weakS h fun D σ H ⟨env, A, H0, r, hp⟩ => ⟨_, A, H0, r.frz is, hp⟩
theorem ds_app (i : Nat) {y : Str} {p apos cpos : Pos} (hN : X.N[i]? = some y := by rfl) (hv : Vis X.env.scope y := by first | exact Or.inl rfl | exact Or.inr (Or.inl rfl) | exact Or.inr (Or.inr rfl)) (hd : (y == ("__debug__" : Str)) = false := by decide)
    (hcd : (y == ("__classdict__" : Str)) = false := by decide) (he : PEd g x W X e m) (hx : ∀ σ, x σ)
    (hbase : attributeBase (.Name y p) "append" X.env (eval (.Name y p) X.env) = eval (.Name y p) X.env := by rfl)
    (hline : (apos.endLine == cpos.line) = true := by rfl)
    (hse : starEach [e] X.env = [(false, eval e X.env)] := by rfl)
    (hs : swapsWith (.Call (.Attribute (.Name y p) "append" apos) [e] [] cpos) none pos.line X.env = pure false := by rfl) : PSd g x W X (.Expr (.Call (.Attribute (.Name y p) "append" apos) [e] [] cpos) pos) (sApp i m) :=
  weakS (ps_expr (pe_bm PySem.F.plainAttrs_list PySem.F.slot_list_append PySem.F.type_list_append mt_append (pe_var hN hv hd hcd) (pa_cons he pa_nil hse) hbase (by rw [hse]; rfl) hline hse (by rfl)) hs) fun D σ H ⟨env, A, H0, r, hp⟩ => by
    unfold sApp at hp
    split at hp
    · rename_i xs e1
      obtain ⟨v, e2, a, vs, ev, z, p, rr⟩ := r.er.at_ i _ e1
      subst ev
      refine ⟨.ref a, e2, .inl ⟨rfl, vs, SqL.of p⟩, ?_⟩
      refine use (Z := zz A env σ) r.er ?_
      cases em : m env with
      | ok s =>
        rw [em] at hp
        intro u H' k q
        have hp : PostS X.K g x W A H0 D (if xs.length < lim then RS.nx (env.set i (some (.ow (xs ++ [s.d])))) else RS.st) := hp
        split at hp
        · rename_i hl
          have lv := rr.length
          exact ⟨a, vs, u, rfl, rfl, k _ _ p, by rw [← lv]; exact limLine' hl, hp _ _ ((r.later k).mut e1 e2 ((RepL.mono (.same_ k) _ _ rr).append (.one q)))⟩
        · exact hp.elim
      | ex c p =>
        rw [em] at hp
        refine fun H' dd k q => hp σ H' dd (r.later k) ?_
        cases p with
        | none => exact q
        | some fx =>
          obtain ⟨da, v, e1, e2, e3⟩ := q
          exact ⟨da, v, e1, e2, Rep.mono (.of (Same.refl _) fun _ _ z => .inl z) _ _ e3⟩
      | st => rw [em] at hp; exact hp
    · exact hp.elim
end
end DL
set_option Elab.async false
set_option linter.all false
set_option maxRecDepth 100000
namespace DL
open PySem PySem.Spec L2
open PyProof.Rows hiding St

/-! ### what a loop walks -/
structure Walk (K : PySem.W.Frag) (g : G0) (Z : Av) (H : Hp) (J : It) (xs : List D) : Prop where
  go : ∀ (i : Nat) (d : D) (H' : Hp), xs[i]? = some d → Kp H Z H' (fun _ => False) → J.go i H'
  yld : ∀ (i : Nat) (d : D) (H' : Hp) (v : V) (H'' : Hp), xs[i]? = some d → Kp H Z H' (fun _ => False) → J.yld i H' v H'' → Same H' H'' ∧ ∀ Z', Kp H Z H'' Z' → (∀ a, Z' a → H' a ≠ none) → Rep K g H'' Z' d v
  stop : ∀ (i : Nat) (H' : Hp), xs.length ≤ i → Kp H Z H' (fun _ => False) → J.stop i H'
def PostI (K : PySem.W.Frag) (g : G0) (W : WX) (Z : Av) (σ : L2.St) (H : Hp) (Rn : It → Hp → Prop) : R (List D) → Prop
  | .ok xs => ∀ J H', Same H H' → Walk K g Z H' J xs → Rn J H'
  | .ex c p => ∀ H' dd, Same H H' → ExP K g H' Z p dd → W (.ref (g.cl c)) dd σ H'
  | .st => False
def tI (K : PySem.W.Frag) (g : G0) (x : L2.St → Prop) (W : WX) (m : En → R (List D)) : TI := fun σ H R => ∃ env Z, ERel K g x Z env σ H ∧ PostI K g W Z σ H R (m env)
abbrev PId (g : G0) (x : L2.St → Prop) (W : WX) (X : Cx) (tg e : Expr) (m : En → R (List D)) : Prop := PI X tg e (tI X.K g x W m)
def asSeq : D → R (List D)
  | .lst xs => .ok xs
  | .tup xs => .ok xs
  | _ => .st
def mIter (m : M) : En → R (List D) := fun env => (m env).bind fun s => asSeq s.d
def rangeD (lo : Int) (n : Nat) : List D := (List.range n).map fun i => .int (lo + (i : Nat))
def big : Int := 1000000000
def mRng1 (m : B) : En → R (List D) := fun env => (m env).bind fun s => match s with
  | .int j => if -big ≤ j ∧ j ≤ big then .ok (rangeD 0 j.toNat) else .st
  | _ => .st
def mRng2 (m n : B) : En → R (List D) := fun env => (m env).bind fun s => (n env).bind fun t => match s, t with
  | .int i, .int j => if -big ≤ i ∧ i ≤ big ∧ -big ≤ j ∧ j ≤ big then .ok (rangeD i (j - i).toNat) else .st
  | _, _ => .st
def revD (a b : Int) : List D := (List.range (b - a).toNat).map fun i => .int (a + (((b - a).toNat : Nat) : Int) - 1 + (i : Nat) * (-1))
def mRev1 (m : B) : En → R (List D) := fun env => (m env).bind fun s => match s with
  | .int j => if -big ≤ j ∧ j ≤ big then .ok (revD 0 j) else .st
  | _ => .st
theorem rangeD_get {lo : Int} {n i : Nat} {d : D} (h : (rangeD lo n)[i]? = some d) : i < n ∧ d = .int (lo + (i : Nat)) := by
  unfold rangeD at h
  rw [List.getElem?_map] at h
  cases e : (List.range n)[i]? with
  | none => rw [e] at h; cases h
  | some k =>
    rw [e] at h
    obtain ⟨h1, h2⟩ := List.getElem?_eq_some_iff.mp e
    rw [List.getElem_range] at h2
    rw [List.length_range] at h1
    subst h2
    exact ⟨h1, (Option.some.inj h).symm⟩
theorem rangeD_length {lo : Int} {n : Nat} : (rangeD lo n).length = n := by unfold rangeD; rw [List.length_map, List.length_range]
theorem revD_get {a b : Int} {i : Nat} {d : D} (h : (revD a b)[i]? = some d) : i < (b - a).toNat ∧ d = .int (a + (((b - a).toNat : Nat) : Int) - 1 + (i : Nat) * (-1)) := by
  unfold revD at h
  rw [List.getElem?_map] at h
  cases e : (List.range (b - a).toNat)[i]? with
  | none => rw [e] at h; cases h
  | some k =>
    rw [e] at h
    obtain ⟨h1, h2⟩ := List.getElem?_eq_some_iff.mp e
    rw [List.getElem_range] at h2
    rw [List.length_range] at h1
    subst h2
    exact ⟨h1, (Option.some.inj h).symm⟩
theorem revD_length {a b : Int} : (revD a b).length = (b - a).toNat := by unfold revD; rw [List.length_map, List.length_range]
section
variable {K : PySem.W.Frag} {g : G0} {x : L2.St → Prop} {W : WX} {Z : Av} {env : En} {σ : L2.St} {H H' : Hp}
theorem walk_list {a : Addr} {ds : List D} {vs : List V} (h : Ls K H Z a vs) (r : RepL K g H Z ds vs) : Walk K g Z H (Itl K a) ds where
  go := fun i d H' e k => by
    obtain ⟨v, e2, _⟩ := r.get e
    exact ⟨vs, v, (k.ls h).sq, e2⟩
  yld := fun i d H' v H'' e k y => by
    obtain ⟨rfl, y⟩ := y
    obtain ⟨w, e2, q⟩ := r.get e
    have := y vs (k.ls h).sq
    rw [e2] at this
    cases this
    exact ⟨Same.refl _, fun Z' k2 _ => Rep.mono k2 _ _ q⟩
  stop := fun i H' l k => ⟨vs, (k.ls h).sq, by rw [← r.length]; exact l⟩
theorem walk_tup {a : Addr} {ds : List D} {vs : List V} (h : Tu K H a vs) (r : RepL K g H Z ds vs) : Walk K g Z H (Itt K a) ds where
  go := fun i d H' e k => by
    obtain ⟨v, e2, _⟩ := r.get e
    exact ⟨vs, v, (k.tu h).sqT, e2⟩
  yld := fun i d H' v H'' e k y => by
    obtain ⟨rfl, y⟩ := y
    obtain ⟨w, e2, q⟩ := r.get e
    have := y vs (k.tu h).sqT
    rw [e2] at this
    cases this
    exact ⟨Same.refl _, fun Z' k2 _ => Rep.mono k2 _ _ q⟩
  stop := fun i H' l k => ⟨vs, (k.tu h).sqT, by rw [← r.length]; exact l⟩
theorem walk_range {lo : Int} {n : Nat} : Walk K g Z H (Itr lo n) (rangeD lo n) where
  go := fun i d H' e k => (rangeD_get e).1
  yld := fun i d H' v H'' e k y => by
    obtain ⟨rfl, rfl⟩ := y
    rw [(rangeD_get e).2]
    exact ⟨Same.refl _, fun Z' k2 _ => Rep.int_.mpr rfl⟩
  stop := fun i H' l k => by rw [rangeD_length] at l; exact l
theorem walk_rev {a b : Int} : Walk K g Z H (Itc (a + (((b - a).toNat : Nat) : Int) - 1) (-1) (b - a).toNat) (revD a b) where
  go := fun i d H' e k => (revD_get e).1
  yld := fun i d H' v H'' e k y => by
    obtain ⟨rfl, rfl⟩ := y
    rw [(revD_get e).2]
    exact ⟨Same.refl _, fun Z' k2 _ => Rep.int_.mpr rfl⟩
  stop := fun i H' l k => by rw [revD_length] at l; exact l
theorem use1I {m : B} {f : D → R (List D)} {Q : It → Hp → Prop} {Q' : VK} (er : ERel K g x Z env σ H) (hp : PostI K g W Z σ H Q ((m env).bind f))
    (h : ∀ s v H', m env = .ok s → Same H H' → RepB K g H' Z s v → PostI K g W Z σ H' Q (f s) → Q' v H') : tB K g x W m σ H Q' := by
  refine ⟨env, Z, er, ?_⟩
  cases e : m env with
  | ok s =>
    rw [e] at hp
    refine fun v H' k r => h s v H' e k r ?_
    have hp : PostI K g W Z σ H Q (f s) := hp
    cases ef : f s with
    | ok xs => rw [ef] at hp; exact fun J H2 k2 w => hp J H2 (k.trans k2) w
    | ex c p => rw [ef] at hp; exact fun H2 dd k2 q => hp H2 dd (k.trans k2) q
    | st => rw [ef] at hp; exact hp
  | ex c p => rw [e] at hp; exact hp
  | st => rw [e] at hp; exact hp
end
section
variable {g : G0} {x : L2.St → Prop} {W : WX} {X : Cx} {tg e a b : Expr} {pos p : Pos} {m n : B}
theorem PI.or {w1 w2 : TI} (h1 : PI X tg e w1) (h2 : PI X tg e w2) : PI X tg e (fun σ H R => w1 σ H R ∨ w2 σ H R) :=
  ⟨fun pins s σ H R I h => h.elim (h1.run pins s σ H R I) (h2.run pins s σ H R I)⟩
theorem weakI {t t' : TI} (h : PI X tg e t) (w : ∀ σ H R, t' σ H R → t σ H R) : PI X tg e t' := ⟨fun pins s σ H R I q => h.run pins s σ H R I (w _ _ _ q)⟩
theorem di_seq {m : M} (he : PEd g x W X e m) : PId g x W X tg e (mIter m) := by
  refine weakI (PI.or (pi_list he) (pi_tup he)) fun σ H Rn ⟨env, Z, er, hp⟩ => ?_
  unfold mIter at hp
  cases em : m env with
  | ok s =>
    rw [em] at hp
    have hp : PostI X.K g W Z σ H Rn (asSeq s.d) := hp
    cases ed : s.d with
    | lst xs =>
      refine .inl (use er ?_)
      rw [em]
      intro v H' k r
      rw [ed] at r hp
      obtain ⟨a, vs, ev, rd, rr⟩ := Rep.lst_.mp r
      exact ⟨a, ev, ⟨vs, rd.sq⟩, hp _ H' k (walk_list rd rr)⟩
    | tup xs =>
      refine .inr (use er ?_)
      rw [em]
      intro v H' k r
      rw [ed] at r hp
      obtain ⟨a, vs, ev, rd, rr⟩ := Rep.tup_.mp r
      exact ⟨a, ev, ⟨vs, rd.sqT⟩, hp _ H' k (walk_tup rd rr)⟩
    | _ => rw [ed] at hp; exact hp.elim
  | ex c p => rw [em] at hp; refine .inl (use er ?_); rw [em]; exact hp
  | st => rw [em] at hp; exact hp.elim
theorem di_rng1 (hg : Gl X "range") (hm : X.mg "range" = none) (ha : PBd g x W X a m) (hs : starEach [a] X.env = [(false, eval a X.env)] := by rfl) : PId g x W X tg (.Call (.Name "range" p) [a] [] pos) (mRng1 m) :=
  weakI (pi_range1 hg hm (pa_cons ha pa_nil hs) hs) fun σ H R ⟨env, Z, er, hp⟩ => use1I er hp fun s v H1 e1 k r hp => by
    split at hp
    · rename_i j
      split at hp
      · rename_i hb
        unfold big at hb
        refine ⟨j, by rw [r.int_], by omega, by omega, hp _ H1 (Same.refl _) walk_range⟩
      · exact hp.elim
    · exact hp.elim
theorem di_rng2 (hg : Gl X "range") (hm : X.mg "range" = none) (ha : PBd g x W X a m) (hb : PBd g x W X b n) (hs : starEach [a, b] X.env = [(false, eval a X.env), (false, eval b X.env)] := by rfl) (hs2 : starEach [b] X.env = [(false, eval b X.env)] := by rfl) :
    PId g x W X tg (.Call (.Name "range" p) [a, b] [] pos) (mRng2 m n) :=
  weakI (pi_range2 hg hm (pa_cons ha (pa_cons hb pa_nil hs2) (by rw [hs, hs2])) hs hs2) fun σ H R ⟨env, Z, er, hp⟩ => use1I er hp fun s v H1 e1 k r hp => use1I (er.mono k) hp fun s2 v2 H2 e2 k2 r2 hp => by
    cases s with
    | int i =>
      cases s2 with
      | int j =>
        have hp : PostI X.K g W Z σ H2 R (if -big ≤ i ∧ i ≤ big ∧ -big ≤ j ∧ j ≤ big then .ok (rangeD i (j - i).toNat) else .st) := hp
        split at hp
        · rename_i hb
          unfold big at hb
          refine ⟨i, j, by rw [r.int_, r2.int_], ⟨by omega, by omega, by omega, by omega⟩, hp _ H2 (Same.refl _) walk_range⟩
        · exact hp.elim
      | _ => exact hp.elim
    | _ => exact hp.elim
theorem di_rev1 {pos' p' : Pos} (hg : Gl X "reversed") (hm : X.mg "reversed" = none) (hg' : Gl X "range") (hm' : X.mg "range" = none) (ha : PBd g x W X a m) (hs : starEach [a] X.env = (false, eval a X.env) :: starEach [] X.env := by rfl)
    (hs2 : starEach [.Call (.Name "range" p) [a] [] pos] X.env = (false, eval (.Call (.Name "range" p) [a] [] pos) X.env) :: starEach [] X.env := by rfl) : PId g x W X tg (.Call (.Name "reversed" p') [.Call (.Name "range" p) [a] [] pos] [] pos') (mRev1 m) :=
  weakI (pi_revR hg hm (prg_1 hg' hm' ha hs) hs2) fun σ H R ⟨env, Z, er, hp⟩ => use1I er hp fun s v H1 e1 k r hp => by
    split at hp
    · rename_i j
      split at hp
      · rename_i hb
        unfold big at hb
        refine ⟨j, by rw [r.int_], by omega, by omega, by omega, by omega, hp _ H1 (Same.refl _) walk_rev⟩
      · exact hp.elim
    · exact hp.elim
end

/-! ### targets -/
inductive Pt where
  | nm (i : Nat) | tp (is : List Nat)
def setAll : List Nat → List D → En → En
  | i :: is, d :: ds, env => setAll is ds (env.set i (some (.fr d)))
  | _, _, env => env
def Pt.go : Pt → D → En → Option En
  | .nm i, d, env => some (env.set i (some (.fr d)))
  | .tp is, .tup ds, env => if ds.length = is.length then some (setAll is ds env) else none
  | _, _, _ => none
def gAll : List Nat → TGs
  | [] => gNil
  | i :: is => gCons (gName i) (gAll is)
def Pt.tg (K : PySem.W.Frag) : Pt → TG
  | .nm i => gName i
  | .tp is => gTup K is.length (gAll is)
section
variable {K : PySem.W.Frag} {g : G0} {x : L2.St → Prop} {A : Av} {H0 H : Hp}
theorem gAll_ok (hx : ∀ σ, x σ) : ∀ (is : List Nat) (ds : List D) (vs : List V) (env : En) (σ : L2.St) (Q : L2.St → Hp → Prop), SRel K g x A H0 env σ H → RepL K g H (zz A env σ) ds vs → ds.length = is.length →
    (∀ σ', SRel K g x A H0 (setAll is ds env) σ' H → Q σ' H) → gAll is vs σ H Q
  | [], [], vs, env, σ, Q, r, rr, l, h => ⟨RepL.nil_.mp rr, h σ r⟩
  | i :: is, d :: ds, vs, env, σ, Q, r, rr, l, h => by
    obtain ⟨v, w, ev, h1, h2⟩ := RepL.cons_.mp rr
    refine ⟨v, w, ev, ?_⟩
    have r2 := r.setFr hx (i := i) (Same.refl _) h1
    refine gAll_ok hx is ds w _ _ Q r2 (RepL.mono ?_ _ _ h2) (by simpa using l) h
    refine .of (Same.refl _) fun a _ z => ?_
    rcases z with z | ⟨j, xs, e1, e2⟩
    · exact .inl z
    · rcases set_get e1 with ⟨_, e, _⟩ | ⟨ne, e1⟩
      · cases e
      · rcases set_get e2 with ⟨e, _⟩ | ⟨_, e2⟩
        · exact absurd e ne
        · exact .inr ⟨j, xs, e1, e2⟩
  | [], d :: ds, vs, env, σ, Q, r, rr, l, h => by simp at l
  | i :: is, [], vs, env, σ, Q, r, rr, l, h => by simp at l
theorem Pt.ok (hx : ∀ σ, x σ) {pt : Pt} {env e1 : En} {σ : L2.St} {d : D} {v : V} {Q : L2.St → Hp → Prop} (r : SRel K g x A H0 env σ H) (q : Rep K g H (zz A env σ) d v) (h : pt.go d env = some e1)
    (k : ∀ σ', SRel K g x A H0 e1 σ' H → Q σ' H) : pt.tg K v σ H Q := by
  cases pt with
  | nm i => cases h; exact k _ (r.setFr hx (Same.refl _) q)
  | tp is =>
    cases d with
    | tup ds =>
      have h : (if ds.length = is.length then some (setAll is ds env) else none) = some e1 := h
      split at h
      · rename_i l
        cases h
        obtain ⟨a, vs, ev, sq, rr⟩ := Rep.tup_.mp q
        exact ⟨a, vs, ev, sq.sqT, by rw [← rr.length]; exact l, gAll_ok hx is ds vs env σ Q r rr l k⟩
      · cases h
    | _ => cases h
end

/-! ### for -/
def RS.out : RS → RS
  | .nx e => .nx e
  | .ct e => .nx e
  | .bk e => .nx e
  | .rt s => .rt s
  | .ex c p e => .ex c p e
  | .st => .st
def forM (as : D → En → Option En) (b : MS) : List D → MS
  | [], env => .nx env
  | d :: ds, env => match as d env with
    | none => .st
    | some e1 => match b e1 with
      | .nx e => forM as b ds e
      | .ct e => forM as b ds e
      | .bk e => .nx e
      | .rt s => .rt s
      | .ex c p e => .ex c p e
      | .st => .st
def sFor (mi : En → R (List D)) (pt : Pt) (b : MS) : MS := fun env => match mi env with
  | .ok xs => forM pt.go b xs env
  | .ex c p => .ex c p env
  | .st => .st
def whM (t : En → R Bool) (b : MS) : Nat → MS
  | 0, _ => .st
  | n + 1, env => match t env with
    | .ok true => match b env with
      | .nx e => whM t b n e
      | .ct e => whM t b n e
      | .bk e => .nx e
      | .rt s => .rt s
      | .ex c p e => .ex c p e
      | .st => .st
    | .ok false => .nx env
    | .ex c p => .ex c p env
    | .st => .st
section
variable {K : PySem.W.Frag} {g : G0} {x : L2.St → Prop} {W : WX} {A : Av} {H0 H H' : Hp} {env : En} {σ : L2.St}
/-- the heap without the lists that slots own -/
noncomputable def hid (env : En) (σ : L2.St) (H : Hp) : Hp := fun b => open Classical in if ∃ (i : Nat) (xs : List D), env[i]? = some (some (Sl.ow xs)) ∧ σ[i]? = some (some (V.ref b)) then none else H b
theorem hid_some {b : Addr} {o : HO} (h : hid env σ H b = some o) : H b = some o ∧ ¬ ∃ (i : Nat) (xs : List D), env[i]? = some (some (Sl.ow xs)) ∧ σ[i]? = some (some (V.ref b)) := by
  unfold hid at h
  split at h
  · cases h
  · exact ⟨h, by assumption⟩
theorem hid_ne {b : Addr} (n : ¬ ∃ (i : Nat) (xs : List D), env[i]? = some (some (Sl.ow xs)) ∧ σ[i]? = some (some (V.ref b))) : hid env σ H b = H b := by
  unfold hid
  exact if_neg n
theorem SRel.same_hid (r : SRel K g x A H0 env σ H) : Same H0 (hid env σ H) := fun b o e => by
  rw [hid_ne]
  · exact r.same b o e
  · rintro ⟨i, xs, e1, e2⟩
    rw [r.fresh i xs b e1 e2] at e
    cases e
theorem SRel.to_hid (r : SRel K g x A H0 env σ H) : SRel K g x A (hid env σ H) env σ H :=
  ⟨r.er, fun b o e => (hid_some e).1, fun a z => by
    have n := r.adom a z
    obtain ⟨o, e⟩ : ∃ o, H0 a = some o := by
      cases q : H0 a with
      | none => exact absurd q n
      | some o => exact ⟨o, rfl⟩
    rw [r.same_hid a o e]
    simp, fun i xs a e1 e2 => by unfold hid; exact if_pos ⟨i, xs, e1, e2⟩, r.dist, r.len⟩
/-- from a later state with this anchor: what was read then is there -/
theorem SRel.kp_hid {env' : En} {σ' : L2.St} (r : SRel K g x A H0 env σ H) (r' : SRel K g x A (hid env σ H) env' σ' H') : Kp H (zz A env σ) H' (zz A env' σ') := by
  have ke : ∀ b o, H b = some o → (¬ ∃ (i : Nat) (xs : List D), env[i]? = some (some (Sl.ow xs)) ∧ σ[i]? = some (some (V.ref b))) → H' b = some o := fun b o e n => r'.same b o (by rw [hid_ne n]; exact e)
  refine ⟨fun b o e n => ke b o e fun z => n (.inr z), fun b o xs t => ?_, fun b n nz z => ?_⟩
  · have no : ¬ ∃ (i : Nat) (xs : List D), env[i]? = some (some (Sl.ow xs)) ∧ σ[i]? = some (some (V.ref b)) := by
      rintro ⟨i, ys, e1, e2⟩
      obtain ⟨v, e3, a, vs, ev, _, p, _⟩ := r.er.at_ i _ e1
      rw [e2] at e3
      cases e3
      cases ev
      rw [p] at t
      cases t
    exact ke _ _ t no
  · rcases z with z | ⟨i, xs, e1, e2⟩
    · exact nz (.inl z)
    · have q := r'.fresh i xs b e1 e2
      rw [hid_ne fun z => nz (.inr z)] at q
      exact n q
theorem Kp.toF {Z Z' : Av} (k : Kp H Z H' Z') : Kp H Z H' (fun _ => False) := ⟨k.same, k.tups, fun _ _ _ z => z⟩
/-- a loop's turn: what the body does, seen from outside -/
theorem turnPost {D : Ends} {N : L2.St → Hp → Prop} {u : RS} (r : SRel K g x A H0 env σ H)
    (hn : ∀ e, (u = .nx e ∨ u = .ct e) → ∀ σ' H', SRel K g x A (hid env σ H) e σ' H' → N σ' H')
    (hp : PostS K g x W A H0 D u.out ∨ (∃ e, u = .nx e ∨ u = .ct e)) :
    PostS K g x W A (hid env σ H) { D with nx := N, ct := N, bk := D.nx } u := by
  have sm := r.same_hid
  cases u with
  | nx e' => exact fun σ' H' q => hn e' (.inl rfl) σ' H' q
  | ct e' => exact fun σ' H' q => hn e' (.inr rfl) σ' H' q
  | bk e' =>
    rcases hp with hp | ⟨e, h | h⟩
    · exact fun σ' H' q => hp σ' H' (q.anchor sm r.adom)
    · cases h
    · cases h
  | rt s =>
    rcases hp with hp | ⟨e, h | h⟩
    · cases s with
      | fr d => exact fun v H' k q => hp v H' (sm.trans k) q
      | ow xs => exact fun a vs H' k n p q => hp a vs H' (sm.trans k) (sm.free n) p q
    · cases h
    · cases h
  | ex c p e' =>
    rcases hp with hp | ⟨e, h | h⟩
    · exact fun σ' H' dd q z => hp σ' H' dd (q.anchor sm r.adom) z
    · cases h
    · cases h
  | st =>
    rcases hp with hp | ⟨e, h | h⟩
    · exact hp
    · cases h
    · cases h
end
section
variable {g : G0} {x : L2.St → Prop} {W : WX} {X : Cx} {tg iter c : Expr} {body : List Stmt} {pos : Pos} {mi : En → R (List D)} {pt : Pt} {b : MS} {t : En → R Bool}
theorem drop_get {α : Type} {xs : List α} {i : Nat} (h : i < xs.length) : ∃ d, xs[i]? = some d ∧ xs.drop i = d :: xs.drop (i + 1) := ⟨xs[i], List.getElem?_eq_getElem h, List.drop_eq_getElem_cons h⟩
theorem ds_for (hx : ∀ σ, x σ) (hp : PassesOwn (model X.prog X.w) X.A X.env X.xe) (hc : X.calm = true) (hi : PId g x W X tg iter mi) (hg : PG X tg (pt.tg X.K)) (hb : PSsd g x W X body b)
    (hs : ∀ x, foldedSetIterable iter X.env x = pure x := by intro _; rfl) : PSd g x W X (.For tg iter body [] pos) (sFor mi pt b) := by
  refine weakS (ps_for hp hc hi hg hb hs) fun D σ H ⟨env, A, H0, r, hp⟩ => ?_
  refine ⟨env, zz A env σ, r.er, ?_⟩
  unfold sFor at hp
  cases ei : mi env with
  | ok xs =>
    rw [ei] at hp
    intro J H1 k walk
    have r1 := r.later k
    refine ⟨fun i m σ' H' => m = xs.length - i ∧ i ≤ xs.length ∧ ∃ env', SRel X.K g x A (hid env σ H1) env' σ' H' ∧ PostS X.K g x W A H0 D (forM pt.go b (xs.drop i) env'), ⟨xs.length, rfl, Nat.zero_le _, env, r1.to_hid, hp⟩, ?_⟩
    rintro i m σ' H' ⟨rfl, hi, env', r', hp⟩
    have kp := r1.kp_hid r'
    by_cases hl : i < xs.length
    · obtain ⟨d, ed, edr⟩ := drop_get hl
      rw [edr] at hp
      refine .inr ⟨walk.go i d H' ed kp.toF, fun σ2 H2 => ∃ env2, SRel X.K g x A (hid env σ H1) env2 σ2 H2 ∧ PostS X.K g x W A H0 D (forM pt.go b (xs.drop (i + 1)) env2), ?_, ?_⟩
      · rintro σ2 H2 ⟨env2, r2, hp2⟩
        exact ⟨xs.length - (i + 1), by omega, rfl, hl, env2, r2, hp2⟩
      · intro v H2 y
        obtain ⟨k2, rep⟩ := walk.yld i d H' v H2 ed kp.toF y
        have r2 := r'.later k2
        have kp2 := r1.kp_hid r2
        unfold forM at hp
        cases ea : pt.go d env' with
        | none => rw [ea] at hp; exact hp.elim
        | some e1 =>
          rw [ea] at hp
          have hp : PostS X.K g x W A H0 D (match b e1 with | .nx e => forM pt.go b (xs.drop (i + 1)) e | .ct e => forM pt.go b (xs.drop (i + 1)) e | .bk e => .nx e | .rt s => .rt s | .ex c p e => .ex c p e | .st => .st) := hp
          refine Pt.ok hx r2 (rep _ kp2 r'.er.dom) ea fun σ3 r3 => ?_
          refine ⟨e1, A, _, r3, turnPost r1 (fun e ee σ4 H4 r4 => ⟨e, r4, ?_⟩) ?_⟩
          · rcases ee with ee | ee <;> (rw [ee] at hp; exact hp)
          · cases eb : b e1 with
            | nx e => exact .inr ⟨e, .inl rfl⟩
            | ct e => exact .inr ⟨e, .inr rfl⟩
            | bk e => rw [eb] at hp; exact .inl hp
            | rt s => rw [eb] at hp; exact .inl hp
            | ex c p e => rw [eb] at hp; exact .inl hp
            | st => rw [eb] at hp; exact .inl hp
    · have ei : i = xs.length := by omega
      subst ei
      rw [List.drop_length] at hp
      exact .inl ⟨walk.stop _ H' (Nat.le_refl _) kp.toF, hp σ' H' (r'.anchor r1.same_hid r.adom)⟩
  | ex c p =>
    rw [ei] at hp
    refine fun H' dd k q => hp σ H' dd (r.later k) ?_
    cases p with
    | none => exact q
    | some fx =>
      obtain ⟨da, v, e1, e2, e3⟩ := q
      exact ⟨da, v, e1, e2, Rep.mono (.of (Same.refl _) fun _ _ z => .inl z) _ _ e3⟩
  | st => rw [ei] at hp; exact hp
theorem turnPost' {K : PySem.W.Frag} {A : Av} {H0 : Hp} {D : Ends} {N : L2.St → Hp → Prop} {u : RS}
    (hn : ∀ e, (u = .nx e ∨ u = .ct e) → ∀ σ' H', SRel K g x A H0 e σ' H' → N σ' H')
    (hp : PostS K g x W A H0 D u.out ∨ (∃ e, u = .nx e ∨ u = .ct e)) :
    PostS K g x W A H0 { D with nx := N, ct := N, bk := D.nx } u := by
  cases u with
  | nx e' => exact fun σ' H' q => hn e' (.inl rfl) σ' H' q
  | ct e' => exact fun σ' H' q => hn e' (.inr rfl) σ' H' q
  | bk e' => rcases hp with hp | ⟨e, h | h⟩ <;> first | exact hp | cases h
  | rt s => rcases hp with hp | ⟨e, h | h⟩ <;> first | (cases s <;> exact hp) | cases h
  | ex c p e' => rcases hp with hp | ⟨e, h | h⟩ <;> first | exact hp | cases h
  | st => rcases hp with hp | ⟨e, h | h⟩ <;> first | exact hp | cases h
theorem ds_while (n : Nat) (hp : PassesOwn (model X.prog X.w) X.A X.env X.xe) (hc : PTd g x W X c t) (hb : PSsd g x W X body b) : PSd g x W X (.While c body [] pos) (whM t b n) := by
  refine weakS (ps_while hp hc hb) fun D σ H ⟨env, A, H0, r, hp⟩ => ?_
  refine ⟨fun m σ' H' => ∃ env', SRel X.K g x A H0 env' σ' H' ∧ PostS X.K g x W A H0 D (whM t b m env'), ⟨n, env, r, hp⟩, ?_⟩
  rintro m σ' H' ⟨env', r', hp⟩
  cases m with
  | zero => exact hp.elim
  | succ m =>
    refine ⟨env', zz A env' σ', r'.er, ?_⟩
    unfold whM at hp
    cases et : t env' with
    | ok v =>
      rw [et] at hp
      intro H2 k
      have r2 := r'.later k
      cases v with
      | true =>
        rw [if_pos rfl]
        refine ⟨fun σ3 H3 => ∃ env3, SRel X.K g x A H0 env3 σ3 H3 ∧ PostS X.K g x W A H0 D (whM t b m env3), fun σ3 H3 h => ⟨m, Nat.lt_succ_self _, h⟩, env', A, H0, r2, turnPost' (fun e ee σ4 H4 r4 => ⟨e, r4, ?_⟩) ?_⟩
        · rcases ee with ee | ee <;> (rw [ee] at hp; exact hp)
        · have hp : PostS X.K g x W A H0 D (match b env' with | .nx e => whM t b m e | .ct e => whM t b m e | .bk e => .nx e | .rt s => .rt s | .ex c p e => .ex c p e | .st => .st) := hp
          cases eb : b env' with
          | nx e => exact .inr ⟨e, .inl rfl⟩
          | ct e => exact .inr ⟨e, .inr rfl⟩
          | bk e => rw [eb] at hp; exact .inl hp
          | rt s => rw [eb] at hp; exact .inl hp
          | ex c p e => rw [eb] at hp; exact .inl hp
          | st => rw [eb] at hp; exact .inl hp
      | false => exact hp σ' H2 r2
    | ex c p =>
      rw [et] at hp
      refine fun H2 dd k q => hp σ' H2 dd (r'.later k) ?_
      cases p with
      | none => exact q
      | some fx =>
        obtain ⟨da, v, e1, e2, e3⟩ := q
        exact ⟨da, v, e1, e2, Rep.mono (.of (Same.refl _) fun _ _ z => .inl z) _ _ e3⟩
    | st => rw [et] at hp; exact hp.elim
end
end DL
set_option Elab.async false
set_option linter.all false
set_option maxRecDepth 100000
namespace DL
open PySem PySem.Spec L2
open PyProof.Rows hiding St
abbrev T : L2.St → Prop := fun _ => True
abbrev W0 : WX := fun _ _ _ _ => False
theorem hT : ∀ σ, T σ := fun _ => trivial

/-! ### defs -/
abbrev Fn := List D → R Sl
def Prom (K : PySem.W.Frag) (g : G0) (f : Fn) : Sp := fun vs H Q E => ∃ Z ds, (∀ a, Z a → H a ≠ none) ∧ RepL K g H Z ds vs ∧ PostE K g (fun c d _ H => E c d H) Z [] H Q (f ds)
structure FD (P : Program) (w : World) (K : PySem.W.Frag) (mg : Str → Option Value) (base : Heap) (g : G0) (k : Nat) (y : Str) (ps : List Str) (f : Fn) : Prop where
  ex : ∃ a fd, mg y = some (.ref a) ∧ PySem.W.keepIn K (.ref a) = true ∧ Binds K fd ps [] ∧ FnOk P w K mg base (L2.CX P w) k a fd ps (Prom K g f)
theorem FD.mono {P : Program} {w : World} {K : PySem.W.Frag} {mg : Str → Option Value} {base : Heap} {g : G0} {j k : Nat} {y : Str} {ps : List Str} {f : Fn} (F : FD P w K mg base g j y ps f) (h : j ≤ k) : FD P w K mg base g k y ps f := by
  obtain ⟨a, fd, h1, h2, h3, h4⟩ := F.ex
  exact ⟨a, fd, h1, h2, h3, h4.mono h⟩
def env0 (n slots : Nat) (ds : List D) : En := ds.map (fun d => some (.fr d)) ++ List.replicate (slots - n) none
def fin : RS → R Sl
  | .nx _ => .ok (.fr .non)
  | .rt s => .ok s
  | .ex c p _ => .ex c p
  | _ => .st
def runF (n slots : Nat) (m : MS) : Fn := fun ds => if ds.length = n then fin (m (env0 n slots ds)) else .st
theorem postW {K : PySem.W.Frag} {g : G0} {Z : Av} {σ : L2.St} {W : WX} {H : Hp} {Q : VK} {r : R Sl} (h : PostE K g W Z σ H Q r) : PostE K g (fun c d _ H => W c d σ H) Z [] H Q r := by
  cases r with
  | ok s => cases s <;> exact h
  | ex c p => exact h
  | st => exact h
section
variable {g : G0} {x : L2.St → Prop} {W : WX} {X : Cx} {e : Expr} {es : List Expr} {mr : En → R (List D)} {pos p : Pos}
theorem de_fn {k : Nat} {y : Str} {ps : List Str} {f : Fn} (F : FD X.prog X.w X.K X.mg X.base g k y ps f) (hr : Room k X.A) (tk : Takes X W) (hg : Gl X y) (ha : PAd g x W X (e :: es) mr)
    (hdb : (y == ("__debug__" : Str)) = false := by decide) (he : starEach (e :: es) X.env = (false, eval e X.env) :: starEach es X.env := by rfl) (hpl : (backTo pos (starEach es X.env)).any (·.1) = false := by rfl) :
    PEd g x W X (.Call (.Name y p) (e :: es) [] pos) (mCall f mr) := by
  obtain ⟨a, fd, hm, hk, hb, hF⟩ := F.ex
  exact weakE (pe_callS hF hr hg hm hk hb (fun σ => passAt tk σ) ha hdb he hpl) fun σ H Q ⟨env, Z, er, hp⟩ =>
    useA er hp fun ds vs H1 e1 k1 r1 hp1 => ⟨Z, ds, dom_mono k1 er.dom, r1, postW hp1⟩
end
section
variable {P : Program} {w : World} {K : PySem.W.Frag} {mg : Str → Option Value} {base : Heap} {g : G0}
theorem repl_map {H : Hp} {Z : Av} : ∀ {ds : List D} {vs : List V} {i : Nat} {s : Sl}, RepL K g H Z ds vs → (ds.map fun d => some (Sl.fr d))[i]? = some (some s) → ∃ v, (vs.map some)[i]? = some (some v) ∧ SlIn K g H Z s v := fun {ds vs i s} r e => by
  rw [List.getElem?_map] at e
  cases ed : ds[i]? with
  | none => rw [ed] at e; cases e
  | some d =>
    rw [ed] at e
    cases e
    obtain ⟨v, ev, q⟩ := r.get ed
    exact ⟨v, by rw [List.getElem?_map, ev]; rfl, q⟩
theorem env0_get {n k : Nat} {ds : List D} {i : Nat} {s : Sl} (h : (env0 n k ds)[i]? = some (some s)) : (ds.map fun d => some (Sl.fr d))[i]? = some (some s) := by
  unfold env0 at h
  by_cases l : i < ds.length
  · rw [List.getElem?_append_left (by simpa using l)] at h
    exact h
  · rw [List.getElem?_append_right (by simpa using l), List.getElem?_replicate] at h
    split at h <;> cases h
theorem okF0 {y qual : Str} {st : Stmt} {a : Addr} {fd : FuncData} {N ps : List Str} {k : Nat} (F : Fun K y qual st a fd) (S : FnScope N ps (defScope st)) (m : MS)
    (body : ∀ (cdv : Value) (A : Around) (outer : List Env) (s : Shared) (H : Hp) (E : XK), Room k (A.deeper (envOfC qual (defScope st) s.heap.objs.size a cdv)) →
      PSsd g T (fun c d _ H => E c d H) (cxOf (L2.CX P w) P w K mg base N qual (defScope st) a cdv A outer s H E) (defBody st) m) : FnOk P w K mg base (L2.CX P w) (k + 1) a fd ps (Prom K g (runF ps.length N.length m)) := by
  have hl : ps.length ≤ N.length := by have := congrArg List.length S.pre; rw [List.length_take] at this; omega
  have len : ∀ vs H Q E, Prom K g (runF ps.length N.length m) vs H Q E → vs.length = ps.length := fun vs H Q E ⟨Z, ds, dom, r, hp⟩ => by
    unfold runF at hp
    split at hp
    · rw [← r.length]; assumption
    · exact hp.elim
  refine F.okX S len fun cdv A outer s H vs Q E hr hsp => ?_
  have lv := len _ _ _ _ hsp
  obtain ⟨Z, ds, dom, r, hp⟩ := hsp
  refine ⟨_, body cdv A outer s H E hr, ?_⟩
  have ld : ds.length = ps.length := by rw [r.length, lv]
  unfold runF at hp
  rw [if_pos ld] at hp
  have zZ : ∀ b, zz Z (env0 ps.length N.length ds) (L2.start N vs) b → Z b := by
    rintro b (z | ⟨i, xs, e1, e2⟩)
    · exact z
    · have e1 := env0_get e1
      rw [List.getElem?_map] at e1
      cases ed : ds[i]? with
      | none => rw [ed] at e1; cases e1
      | some d => rw [ed] at e1; cases e1
  have noow : ∀ (i : Nat) (xs : List D), (env0 ps.length N.length ds)[i]? = some (some (Sl.ow xs)) → False := fun i xs e1 => by
    have e1 := env0_get e1
    rw [List.getElem?_map] at e1
    cases ed : ds[i]? with
    | none => rw [ed] at e1; cases e1
    | some d => rw [ed] at e1; cases e1
  have hlen : (env0 ps.length N.length ds).length = (L2.start N vs).length := by
    unfold env0 L2.start
    rw [List.length_append, List.length_append, List.length_map, List.length_map, List.length_replicate, List.length_replicate, lv, ld]
  have sr : SRel K g T Z H (env0 ps.length N.length ds) (L2.start N vs) H := by
    refine ⟨⟨fun b z => dom b (zZ b z), trivial, hlen, fun i s e1 => ?_⟩, Same.refl _, dom, fun i xs a e1 _ => (noow i xs e1).elim, fun i j xs ys a e1 _ _ _ => (noow i xs e1).elim, hlen⟩
    obtain ⟨v, e2, q⟩ := repl_map r (env0_get e1)
    refine ⟨v, ?_, ?_⟩
    · unfold L2.start
      rw [List.getElem?_append_left]
      · exact e2
      · exact (List.getElem?_eq_some_iff.mp e2).1
    · cases s with
      | fr d => exact Rep.mono (.of (Same.refl _) fun b _ z => zZ b z) _ _ q
      | ow xs => exact (noow i xs e1).elim
  refine ⟨env0 ps.length N.length ds, Z, H, sr, ?_⟩
  cases e : m (env0 ps.length N.length ds) with
  | nx e' => rw [e] at hp; exact fun σ' H' q => hp .non H' q.same (Rep.non_.mpr rfl)
  | rt s => rw [e] at hp; cases s <;> exact hp
  | ex c p e' => rw [e] at hp; exact fun σ' H' dd q z => hp H' dd q.same z
  | bk e' => rw [e] at hp; exact hp.elim
  | ct e' => rw [e] at hp; exact hp.elim
  | st => rw [e] at hp; exact hp.elim
theorem okF {y qual : Str} {st : Stmt} {a : Addr} {fd : FuncData} {N ps : List Str} {k : Nat} (F : Fun K y qual st a fd) (S : FnScope N ps (defScope st)) (hm : mg y = some (.ref a)) (hb : Binds K fd ps []) (m : MS)
    (body : ∀ (cdv : Value) (A : Around) (outer : List Env) (s : Shared) (H : Hp) (E : XK), Room k (A.deeper (envOfC qual (defScope st) s.heap.objs.size a cdv)) →
      PSsd g T (fun c d _ H => E c d H) (cxOf (L2.CX P w) P w K mg base N qual (defScope st) a cdv A outer s H E) (defBody st) m) : FD P w K mg base g (k + 1) y ps (runF ps.length N.length m) :=
  ⟨a, fd, hm, F.kp, hb, okF0 F S m body⟩
end

/-! ### raise -/
def sRaise (c : Nat) : MS := fun env => .ex c none env
def sRaise1 (c : Nat) (m : M) : MS := fun env => match m env with
  | .ok _ => .ex c none env
  | .ex c p => .ex c p env
  | .st => .st
/-- an own error class without an own __init__ -/
structure ECls (K : PySem.W.Frag) (mg : Str → Option Value) (g : G0) (c : Nat) (y : Str) : Prop where
  mg : mg y = some (.ref (g.cl c))
  ex : PySem.W.excIn K (g.cl c) [.type "ValueError", .type "Exception", .type "BaseException", .type "object"] "ValueError.__new__" = true
  kp : PySem.W.keepIn K (.ref (g.cl c)) = true
  sub : PySem.W.subIn K (.ref (g.cl c)) (.type "BaseException") = some true
  ty : PySem.W.typeIn K (.ref (g.cl c)) = some (.type "type")
section
variable {g : G0} {x : L2.St → Prop} {W : WX} {X : Cx} {e : Expr} {m : M} {pos p pos' : Pos}
theorem ds_raise {c : Nat} {y z : Str} {j : Nat} {p2 : Pos} (hc : X.calm = true) (tk : Takes X W) (E : ECls X.K X.mg g c y) (hg : Gl X y) (hdb : (y == ("__debug__" : Str)) = false := by decide) :
    PSd g x W X (.Raise (some (.Call (.Name y p) [.Constant (.str z) j p2] [] pos)) none pos') (sRaise c) :=
  weakS (ps_raise hc tk (pmk_own PySem.F.excBase_ValueError E.ex E.mg E.kp (raises_own E.sub E.ty) hg hdb)) fun D σ H ⟨env, A, H0, r, hp⟩ => hp σ H none r rfl
theorem ds_raise1 {c : Nat} {y : Str} (hc : X.calm = true) (tk : Takes X W) (E : ECls X.K X.mg g c y) (hg : Gl X y) (he : PEd g x W X e m) (hs : starEach [e] X.env = (false, eval e X.env) :: starEach [] X.env := by rfl)
    (hdb : (y == ("__debug__" : Str)) = false := by decide) : PSd g x W X (.Raise (some (.Call (.Name y p) [e] [] pos)) none pos') (sRaise1 c m) :=
  weakS (ps_raise hc tk (SkE.pmk_own1 PySem.F.excBase_ValueError E.ex E.mg E.kp (raises_own E.sub E.ty) hg he hs hdb)) fun D σ H ⟨env, A, H0, r, hp⟩ => by
    refine runE (f := fun _ => .ex c none env) r hp (fun d v H' _ k q hp => hp _ _ none (r.later k) rfl) fun xs a vs H' _ k n p q hp => hp _ _ none (r.later k) rfl
end

/-! ### try -/
def RS.clr (i : Nat) : RS → RS
  | .nx e => .nx (e.set i none)
  | .bk e => .bk (e.set i none)
  | .ct e => .ct (e.set i none)
  | .rt s => .rt s
  | .ex _ _ _ => .st
  | .st => .st
def RS.noex : RS → RS
  | .ex _ _ _ => .st
  | r => r
def sTry (cat : Nat → Option Bool) (mb : MS) (su : Nat → Pl → MS) : MS := fun env => match mb env with
  | .ex c p e => match cat c with
    | some true => (su c p e).noex
    | some false => .ex c p e
    | none => .st
  | r => r
def sTryAs (i : Nat) (cat : Nat → Option Bool) (mb : MS) (su : Nat → Pl → MS) : MS := fun env => match mb env with
  | .ex c p e => match cat c with
    | some true => if i < e.length then (su c p (e.set i none)).clr i else .st
    | some false => .ex c p e
    | none => .st
  | r => r
def xS (a : Addr) (i : Nat) : L2.St → Prop := fun σ => σ[i]? = some (some (.ref a))
section
variable {K : PySem.W.Frag} {g : G0} {x x' : L2.St → Prop} {W : WX} {A : Av} {H0 H H' : Hp} {env : En} {σ : L2.St}
theorem SRel.clr (r : SRel K g x A H0 env σ H) (i : Nat) (u : Option V) (hx : x' (σ.set i u)) : SRel K g x' A H0 (env.set i none) (σ.set i u) H := by
  have fix : ∀ {j : Nat} {s : Sl}, (env.set i none)[j]? = some (some s) → i ≠ j ∧ env[j]? = some (some s) := fun {j s} f => by
    rcases set_get f with ⟨_, e, _⟩ | h
    · cases e
    · exact h
  have zs : ∀ a, zz A (env.set i none) (σ.set i u) a → zz A env σ a := by
    rintro a (z | ⟨j, xs, e1, e2⟩)
    · exact .inl z
    · obtain ⟨ne, e1⟩ := fix e1
      rw [List.getElem?_set_ne ne] at e2
      exact .inr ⟨j, xs, e1, e2⟩
  have kp : Kp H (zz A env σ) H (zz A (env.set i none) (σ.set i u)) := .of (Same.refl _) fun a _ z => zs a z
  refine ⟨⟨fun a z => r.er.dom a (zs a z), hx, by rw [List.length_set, List.length_set, r.len], fun j s f => ?_⟩, r.same, r.adom, fun j xs a e1 e2 => ?_, fun j l xs ys a e1 e2 e3 e4 => ?_, by rw [List.length_set, List.length_set, r.len]⟩
  · obtain ⟨ne, f⟩ := fix f
    obtain ⟨v, e2, q⟩ := r.er.at_ j s f
    refine ⟨v, by rw [List.getElem?_set_ne ne]; exact e2, ?_⟩
    cases s with
    | fr d => exact Rep.mono kp _ _ q
    | ow xs =>
      obtain ⟨a, vs, ev, z, p, rr⟩ := q
      subst ev
      exact ⟨a, vs, rfl, .inr ⟨j, xs, by rw [List.getElem?_set_ne ne]; exact f, by rw [List.getElem?_set_ne ne]; exact e2⟩, p, RepL.mono kp _ _ rr⟩
  · obtain ⟨ne, e1⟩ := fix e1
    rw [List.getElem?_set_ne ne] at e2
    exact r.fresh j xs a e1 e2
  · obtain ⟨ne, e1⟩ := fix e1
    obtain ⟨ne2, e2⟩ := fix e2
    rw [List.getElem?_set_ne ne] at e3
    rw [List.getElem?_set_ne ne2] at e4
    exact r.dist j l xs ys a e1 e2 e3 e4
theorem noexPost {D : Ends} {u : RS} (h : PostS K g x W A H0 D u.noex) : PostS K g x W0 A H0 D u := by
  cases u with
  | rt s => cases s <;> exact h
  | ex c p e => exact h.elim
  | _ => exact h
theorem clrPost {a : Addr} {i : Nat} {D : Ends} {u : RS} (h : PostS K g T W A H0 D (u.clr i)) :
    PostS K g (xS a i) W0 A H0 { nx := fun σ' H' => D.nx (σ'.set i none) H', rt := D.rt, bk := fun σ' H' => D.bk (σ'.set i none) H', ct := fun σ' H' => D.ct (σ'.set i none) H' } u := by
  cases u with
  | nx e => exact fun σ' H' q => h _ _ (q.clr i none trivial)
  | bk e => exact fun σ' H' q => h _ _ (q.clr i none trivial)
  | ct e => exact fun σ' H' q => h _ _ (q.clr i none trivial)
  | rt s => cases s <;> exact h
  | ex c p e => exact h.elim
  | st => exact h
end
section
variable {g : G0} {W : WX} {X : Cx} {y n : Str} {cv : Value} {i : Nat} {body suite : List Stmt} {b₀ : Stmt} {np pos pos' : Pos} {mb : MS} {su : Nat → Pl → MS} {cat : Nat → Option Bool}
theorem ds_tryAs (hs : X.stack = X.env :: X.outer) (hf : X.env.frame = some X.env.locals) (hN : X.N.Nodup) (hi : X.N[i]? = some n) (hln : X.env.kindOf n = some .local) (hc : Names X y cv) (tk : Takes X W)
    (hcat : ∀ c b, cat c = some b → PySem.W.exmOne X.K (.ref (g.cl c)) cv = some b)
    (hb : ∀ (W' : WX) (pn : List (Addr × Obj)) (xe : Value → Shared → Prop), Takes (X.tr pn xe) W' → PassesOwn (model X.prog X.w) X.A X.env xe → PSsd g T W' (X.tr pn xe) body mb)
    (hsu : ∀ (c : Nat) (p : Pl) (a : Addr) (oe : Obj) (d : Option Addr) (pn : List (Addr × Obj)), cat c = some true → (p = none → d = none) → Zc (.ref (g.cl c)) d oe → (∃ vs, oe.data = .fields vs) → PSsd g (xS a i) W0 (X.suite a ((a, oe) :: pn)) (b₀ :: suite) (su c p)) :
    PSd g T W X (.Try body [.ExceptHandler (some (.Name y np)) (some n) (b₀ :: suite) pos'] [] [] pos) (sTryAs i cat mb su) := by
  refine weakS (ps_try_as (tb := fun W' => tS X.K g T W' mb)
    (ts := fun a cls d D σ H => ∃ c p, cls = .ref (g.cl c) ∧ cat c = some true ∧ (p = none → d = none) ∧ tS X.K g (xS a i) W0 (su c p) D σ H) hs hf hN hi hln hc tk hb (fun a oe cls d pn hz hd => ⟨fun pins s σ H D I ⟨c, p, e, ct, pd, h⟩ => ?_⟩)) fun D σ H ⟨env, A, H0, r, hp⟩ => ?_
  · subst e
    exact (hsu c p a oe d pn ct pd hz hd).run pins s σ H D I h
  · refine ⟨env, A, H0, r, ?_⟩
    unfold sTryAs at hp
    cases eb : mb env with
    | ex c p e =>
      rw [eb] at hp
      intro σ' H' dd q pl
      have hp : PostS X.K g T W A H0 D (match cat c with | some true => (if i < e.length then (su c p (e.set i none)).clr i else .st) | some false => .ex c p e | none => .st) := hp
      cases ec : cat c with
      | none => rw [ec] at hp; exact hp.elim
      | some b =>
        rw [ec] at hp
        refine ⟨b, hcat c b ec, fun hb a na => ?_, fun hb => ?_⟩
        · subst hb
          have hp : PostS X.K g T W A H0 D (if i < e.length then (su c p (e.set i none)).clr i else .st) := hp
          split at hp
          case isFalse => exact hp.elim
          rename_i hi'
          rw [q.len] at hi'
          have nd : p = none → dd = none := fun e => by subst e; exact pl
          exact ⟨c, p, rfl, ec, nd, e.set i none, A, H0, q.clr i (some (.ref a)) (by unfold xS; rw [List.getElem?_set_self hi']), clrPost hp⟩
        · subst hb
          exact hp σ' H' dd q pl
    | rt s => rw [eb] at hp; cases s <;> exact hp
    | nx e => rw [eb] at hp; exact hp
    | bk e => rw [eb] at hp; exact hp
    | ct e => rw [eb] at hp; exact hp
    | st => rw [eb] at hp; exact hp
theorem ds_try (hs : X.stack = X.env :: X.outer) (hf : X.env.frame = some X.env.locals) (hc : Names X y cv) (tk : Takes X W)
    (hcat : ∀ c b, cat c = some b → PySem.W.exmOne X.K (.ref (g.cl c)) cv = some b)
    (hb : ∀ (W' : WX) (pn : List (Addr × Obj)) (xe : Value → Shared → Prop), Takes (X.tr pn xe) W' → PassesOwn (model X.prog X.w) X.A X.env xe → PSsd g T W' (X.tr pn xe) body mb)
    (hsu : ∀ (c : Nat) (p : Pl) (a : Addr) (oe : Obj) (pn : List (Addr × Obj)), cat c = some true → PSsd g T W0 (X.suite a ((a, oe) :: pn)) (b₀ :: suite) (su c p)) :
    PSd g T W X (.Try body [.ExceptHandler (some (.Name y np)) none (b₀ :: suite) pos'] [] [] pos) (sTry cat mb su) := by
  refine weakS (ps_try_only (tb := fun W' => tS X.K g T W' mb) (ts := fun a cls d D σ H => ∃ c p, cat c = some true ∧ tS X.K g T W0 (su c p) D σ H) hs hf hc tk hb (fun a oe cls d pn hz hd => ⟨fun pins s σ H D I ⟨c, p, ct, h⟩ => (hsu c p a oe pn ct).run pins s σ H D I h⟩)) fun D σ H ⟨env, A, H0, r, hp⟩ => ?_
  refine ⟨env, A, H0, r, ?_⟩
  unfold sTry at hp
  cases eb : mb env with
  | ex c p e =>
    rw [eb] at hp
    intro σ' H' dd q pl
    have hp : PostS X.K g T W A H0 D (match cat c with | some true => (su c p e).noex | some false => .ex c p e | none => .st) := hp
    cases ec : cat c with
    | none => rw [ec] at hp; exact hp.elim
    | some b =>
      rw [ec] at hp
      refine ⟨b, hcat c b ec, fun hb a na => ?_, fun hb => ?_⟩
      · subst hb
        exact ⟨c, p, ec, e, A, H0, q, noexPost hp⟩
      · subst hb
        exact hp σ' H' dd q pl
  | rt s => rw [eb] at hp; cases s <;> exact hp
  | nx e => rw [eb] at hp; exact hp
  | bk e => rw [eb] at hp; exact hp
  | ct e => rw [eb] at hp; exact hp
  | st => rw [eb] at hp; exact hp
end
end DL
set_option Elab.async false
set_option linter.all false
set_option maxRecDepth 100000
namespace DL
open PySem PySem.Spec L2
open PyProof.Rows hiding St

/-! ### comprehensions -/
def R.quiet {α : Type} : R α → R α
  | .ok a => .ok a
  | _ => .st
def compL (as : D → En → Option En) (t : En → R Bool) (me : M) (env : En) : List D → R (List D)
  | [] => .ok []
  | d :: ds => match as d env with
    | none => .st
    | some e1 => (t e1).quiet.bind fun b => if b = true then (me e1).quiet.bind fun s => (compL as t me env ds).bind fun r => .ok (s.d :: r) else compL as t me env ds
def wipeE (env : En) : List Nat → En
  | [] => env
  | v :: vs => (wipeE env vs).set v none
def mComp (mi : En → R (List D)) (pt : Pt) (t : En → R Bool) (me : M) (vs : List Nat) : M := fun env => (mi env).bind fun xs =>
  if xs.length ≤ lim then (compL pt.go t me (wipeE env vs) xs).quiet.bind fun r => .ok (.ow r) else .st
def Pt.slots : Pt → List Nat
  | .nm i => [i]
  | .tp is => is
section
variable {K : PySem.W.Frag} {g : G0} {x : L2.St → Prop} {W : WX} {Z Z' : Av} {env e1 : En} {σ : L2.St} {H H' : Hp}
theorem ERel.setFr (er : ERel K g T Z env σ H) {i : Nat} {d : D} {v : V} (h : Rep K g H Z d v) : ERel K g T Z (env.set i (some (.fr d))) (σ.set i (some v)) H := by
  refine ⟨er.dom, trivial, by rw [List.length_set, List.length_set, er.len], fun j s e => ?_⟩
  rcases set_get e with ⟨ij, e, hl⟩ | ⟨ne, e⟩
  · cases e
    subst ij
    exact ⟨v, by rw [List.getElem?_set_self (by rw [← er.len]; exact hl)], h⟩
  · obtain ⟨u, e2, q⟩ := er.at_ j s e
    exact ⟨u, by rw [List.getElem?_set_ne ne]; exact e2, q⟩
theorem ERel.wipe (er : ERel K g x Z env σ H) : ∀ vs : List Nat, ERel K g T Z (wipeE env vs) (wipe σ vs) H
  | [] => ⟨er.dom, trivial, er.len, er.at_⟩
  | v :: vs => by
    have r := er.wipe vs
    refine ⟨r.dom, trivial, by unfold wipeE L2.wipe; rw [List.length_set, List.length_set, r.len], fun j s e => ?_⟩
    unfold wipeE at e
    rcases set_get e with ⟨_, e, _⟩ | ⟨ne, e⟩
    · cases e
    · obtain ⟨u, e2, q⟩ := r.at_ j s e
      refine ⟨u, ?_, q⟩
      unfold L2.wipe
      rw [List.getElem?_set_ne ne]
      exact e2
theorem SlIn.kp {s : Sl} {v : V} (k : Kp H Z H' Z') (ow : ∀ a, Z a → Z' a) (lst : ∀ a o, Z a → H a = some o → H' a = some o) (h : SlIn K g H Z s v) : SlIn K g H' Z' s v := by
  cases s with
  | fr d => exact Rep.mono k _ _ h
  | ow xs =>
    obtain ⟨a, vs, ev, z, p, rr⟩ := h
    exact ⟨a, vs, ev, ow a z, lst a _ z p, RepL.mono k _ _ rr⟩
theorem wipe_set {i : Nat} {u : Option V} : ∀ {vs : List Nat} {σ : L2.St}, i ∈ vs → wipe (σ.set i u) vs = wipe σ vs
  | v :: vs, σ, h => by
    unfold L2.wipe
    by_cases hi : i ∈ vs
    · rw [wipe_set hi]
    · have e : i = v := (List.mem_cons.mp h).elim id fun q => absurd q hi
      subst e
      have c : ∀ (vs : List Nat) (σ : L2.St), i ∉ vs → wipe (σ.set i u) vs = (wipe σ vs).set i u := by
        intro vs
        induction vs with
        | nil => intro σ _; rfl
        | cons w ws ih =>
          intro σ hn
          unfold L2.wipe
          rw [ih σ fun q => hn (List.mem_cons_of_mem _ q), List.set_comm]
          intro q
          exact hn (by rw [q]; exact List.mem_cons_self)
      rw [c vs σ hi, List.set_set]
  | [], _, h => absurd h (by simp)
theorem wipe_wipe : ∀ (vs : List Nat) (σ : L2.St), wipe (wipe σ vs) vs = wipe σ vs := by
  have gen : ∀ (ws vs : List Nat) (σ : L2.St), (∀ v ∈ ws, v ∈ vs) → wipe (wipe σ ws) vs = wipe σ vs := by
    intro ws
    induction ws with
    | nil => intro vs σ _; rfl
    | cons v ws ih =>
      intro vs σ h
      show wipe ((wipe σ ws).set v none) vs = _
      rw [wipe_set (h v List.mem_cons_self), ih vs σ fun u hu => h u (List.mem_cons_of_mem _ hu)]
  exact fun vs σ => gen vs vs σ fun _ h => h
theorem gAll_okE {vs : List Nat} : ∀ (is : List Nat) (ds : List D) (ws : List V) (env : En) (σ : L2.St) (Q : L2.St → Hp → Prop), (∀ i ∈ is, i ∈ vs) → ERel K g T Z env σ H → RepL K g H Z ds ws → ds.length = is.length →
    (∀ σ', wipe σ' vs = wipe σ vs → ERel K g T Z (setAll is ds env) σ' H → Q σ' H) → gAll is ws σ H Q
  | [], [], ws, env, σ, Q, _, r, rr, l, h => ⟨RepL.nil_.mp rr, h σ rfl r⟩
  | i :: is, d :: ds, ws, env, σ, Q, sub, r, rr, l, h => by
    obtain ⟨v, w, ev, h1, h2⟩ := RepL.cons_.mp rr
    refine ⟨v, w, ev, ?_⟩
    refine gAll_okE is ds w _ _ Q (fun j hj => sub j (List.mem_cons_of_mem _ hj)) (r.setFr (i := i) h1) h2 (by simpa using l) fun σ' e er => h σ' ?_ er
    rw [e, wipe_set (sub i List.mem_cons_self)]
  | [], d :: ds, ws, env, σ, Q, _, r, rr, l, h => by simp at l
  | i :: is, [], ws, env, σ, Q, _, r, rr, l, h => by simp at l
theorem Pt.okE {vs : List Nat} {pt : Pt} {d : D} {v : V} {Q : L2.St → Hp → Prop} (sub : ∀ i ∈ pt.slots, i ∈ vs) (r : ERel K g T Z env σ H) (q : Rep K g H Z d v) (h : pt.go d env = some e1)
    (k : ∀ σ', wipe σ' vs = wipe σ vs → ERel K g T Z e1 σ' H → Q σ' H) : pt.tg K v σ H Q := by
  cases pt with
  | nm i => cases h; exact k _ (wipe_set (sub i (by simp [Pt.slots]))) (r.setFr q)
  | tp is =>
    cases d with
    | tup ds =>
      have h : (if ds.length = is.length then some (setAll is ds env) else none) = some e1 := h
      split at h
      · rename_i l
        cases h
        obtain ⟨a, ws, ev, sq, rr⟩ := Rep.tup_.mp q
        exact ⟨a, ws, ev, sq.sqT, by rw [← rr.length]; exact l, gAll_okE is ds ws env σ Q sub r rr l k⟩
      · cases h
    | _ => cases h
theorem compL_len {as : D → En → Option En} {t : En → R Bool} {me : M} : ∀ {ds r : List D}, compL as t me env ds = .ok r → r.length ≤ ds.length
  | [], r, h => by cases h; exact Nat.le_refl _
  | d :: ds, r, h => by
    unfold compL at h
    cases ea : as d env with
    | none => rw [ea] at h; cases h
    | some e1 =>
      rw [ea] at h
      have h : ((t e1).quiet.bind fun b => if b = true then (me e1).quiet.bind fun s => (compL as t me env ds).bind fun r => .ok (s.d :: r) else compL as t me env ds) = .ok r := h
      cases et : (t e1).quiet with
      | ok b =>
        rw [et] at h
        have h : (if b = true then (me e1).quiet.bind fun s => (compL as t me env ds).bind fun r => .ok (s.d :: r) else compL as t me env ds) = .ok r := h
        split at h
        · cases em : (me e1).quiet with
          | ok s =>
            rw [em] at h
            have h : ((compL as t me env ds).bind fun r => R.ok (s.d :: r)) = .ok r := h
            cases ec : compL as t me env ds with
            | ok r2 => rw [ec] at h; cases h; exact Nat.succ_le_succ (compL_len ec)
            | ex c p => rw [ec] at h; cases h
            | st => rw [ec] at h; cases h
          | ex c p => rw [em] at h; cases h
          | st => rw [em] at h; cases h
        · exact Nat.le_succ_of_le (compL_len h)
      | ex c p => rw [et] at h; cases h
      | st => rw [et] at h; cases h
theorem quiet_ok {α : Type} {r : R α} {a : α} (h : r.quiet = .ok a) : r = .ok a := by
  cases r with
  | ok b => exact h
  | ex c p => cases h
  | st => cases h
/-- what a comprehension reads -/
theorem lcOk {mi : En → R (List D)} {pt : Pt} {t : En → R Bool} {me : M} {vs : List Nat} {Q : VK} (sub : ∀ i ∈ pt.slots, i ∈ vs) (h : tM K g x W (mComp mi pt t me vs) σ H Q) :
    tLc (tI K g x W mi) (pt.tg K) (tT K g T W0 t) (tM K g T W0 me) vs σ H Q := by
  obtain ⟨env, Z, er, hp⟩ := h
  refine ⟨env, Z, er, ?_⟩
  unfold mComp at hp
  cases ei : mi env with
  | ex c p => rw [ei] at hp; exact hp
  | st => rw [ei] at hp; exact hp
  | ok xs =>
    rw [ei] at hp
    have hp : PostE K g W Z σ H Q (if xs.length ≤ lim then (compL pt.go t me (wipeE env vs) xs).quiet.bind fun r => .ok (.ow r) else .st) := hp
    split at hp
    case isFalse => exact hp.elim
    rename_i hlim
    cases ec : (compL pt.go t me (wipeE env vs) xs).quiet with
    | ex c p => exact absurd ec (by intro q; cases e : compL pt.go t me (wipeE env vs) xs <;> rw [e] at q <;> cases q)
    | st => rw [ec] at hp; exact hp.elim
    | ok total =>
      rw [ec] at hp
      have hp : PostE K g W Z σ H Q (.ok (.ow total)) := hp
      have ec := quiet_ok ec
      intro J H1 k walk L hL
      have er1 := er.mono k
      refine ⟨fun i m H' => m = xs.length - i ∧ i ≤ xs.length ∧ Same H1 H' ∧ ∃ acc ds0 r, H' L = some (.lst acc) ∧ RepL K g H' (fun b => Z b ∨ b = L) ds0 acc ∧ acc.length ≤ i ∧ compL pt.go t me (wipeE env vs) (xs.drop i) = .ok r ∧ total = ds0 ++ r,
        ⟨xs.length, rfl, Nat.zero_le _, same_upd hL, [], [], total, upd_same, RepL.nil_.mpr rfl, Nat.le_refl _, ec, rfl⟩, ?_⟩
      rintro i m H' ⟨rfl, hi, s1, acc, ds0, r, hD, hacc, hal, hc, ht⟩
      have kp : Kp H1 Z H' Z := .same_ s1
      by_cases hl : i < xs.length
      · obtain ⟨d, ed, edr⟩ := drop_get hl
        rw [edr] at hc
        unfold compL at hc
        refine .inr ⟨walk.go i d H' ed kp.toF, fun H2 => Same H1 H2 ∧ ∃ acc ds0 r, H2 L = some (.lst acc) ∧ RepL K g H2 (fun b => Z b ∨ b = L) ds0 acc ∧ acc.length ≤ i + 1 ∧ compL pt.go t me (wipeE env vs) (xs.drop (i + 1)) = .ok r ∧ total = ds0 ++ r, ?_, ?_⟩
        · rintro H2 h2
          exact ⟨xs.length - (i + 1), by omega, rfl, hl, h2⟩
        · intro v H2 y
          obtain ⟨k2, rep⟩ := walk.yld i d H' v H2 ed kp.toF y
          have s2 : Same H1 H2 := s1.trans k2
          have hD2 : H2 L = some (.lst acc) := k2 _ _ hD
          have kz : Kp H1 Z H2 (fun b => Z b ∨ b = L) := .of s2 fun b n z => z.elim id fun e => absurd hL (by rw [← e]; exact n)
          have dom2 : ∀ a, (Z a ∨ a = L) → H2 a ≠ none := fun a z => z.elim (fun z => dom_mono s2 er1.dom a z) fun e => by rw [e, hD2]; simp
          have ew : ERel K g T (fun b => Z b ∨ b = L) (wipeE env vs) (wipe σ vs) H2 := by
            have w := er1.wipe vs
            refine ⟨dom2, trivial, w.len, fun j s e => ?_⟩
            obtain ⟨u, e2, q⟩ := w.at_ j s e
            exact ⟨u, e2, q.kp kz (fun a z => .inl z) fun a o _ e => s2 a o e⟩
          cases ea : pt.go d (wipeE env vs) with
          | none => rw [ea] at hc; cases hc
          | some e1 =>
            rw [ea] at hc
            have hc : ((t e1).quiet.bind fun b => if b = true then (me e1).quiet.bind fun s => (compL pt.go t me (wipeE env vs) (xs.drop (i + 1))).bind fun r => .ok (s.d :: r) else compL pt.go t me (wipeE env vs) (xs.drop (i + 1))) = .ok r := hc
            refine Pt.okE sub ew (rep _ kz (fun a z => z.elim (fun z => dom_mono s1 er1.dom a z) fun e => by rw [e, hD]; simp)) ea fun σ2 ws er2 => ?_
            refine ⟨by rw [ws, wipe_wipe], e1, _, er2, ?_⟩
            cases et : t e1 with
            | ex c p => rw [et] at hc; cases hc
            | st => rw [et] at hc; cases hc
            | ok b =>
              rw [et] at hc
              have hc : (if b = true then (me e1).quiet.bind fun s => (compL pt.go t me (wipeE env vs) (xs.drop (i + 1))).bind fun r => .ok (s.d :: r) else compL pt.go t me (wipeE env vs) (xs.drop (i + 1))) = .ok r := hc
              intro H3 k3
              cases b with
              | false => exact ⟨s2.trans k3, acc, ds0, r, k3 _ _ hD2, RepL.mono (.same_ (k2.trans k3)) _ _ hacc, Nat.le_succ_of_le hal, hc, ht⟩
              | true =>
                rw [if_pos rfl] at hc ⊢
                refine use (Z := fun b => Z b ∨ b = L) (er2.mono k3) ?_
                cases em : me e1 with
                | ex c p => rw [em] at hc; cases hc
                | st => rw [em] at hc; cases hc
                | ok s =>
                  rw [em] at hc
                  have hc : ((compL pt.go t me (wipeE env vs) (xs.drop (i + 1))).bind fun r => R.ok (s.d :: r)) = .ok r := hc
                  cases ec2 : compL pt.go t me (wipeE env vs) (xs.drop (i + 1)) with
                  | ex c p => rw [ec2] at hc; cases hc
                  | st => rw [ec2] at hc; cases hc
                  | ok r2 =>
                    rw [ec2] at hc
                    cases hc
                    intro y H4 k4 q
                    have hD4 : H4 L = some (.lst acc) := k4 _ _ (k3 _ _ hD2)
                    have zL : (fun b => Z b ∨ b = L) L := Or.inr rfl
                    have km : Kp H4 (fun b => Z b ∨ b = L) (upd H4 L (.lst (acc ++ [y]))) (fun b => Z b ∨ b = L) :=
                      ⟨fun b o e n => by rw [upd_ne (fun q => n (by rw [q]; exact zL))]; exact e, fun b o us tt => by
                        have nb : b ≠ L := fun q => by
                          subst q
                          rw [hD4] at tt
                          cases tt
                        rw [upd_ne nb]
                        exact tt, fun b _ n => n⟩
                    refine ⟨acc, hD4, Nat.lt_of_le_of_lt hal (Nat.lt_of_lt_of_le hl (limLine hlim)), fun b o e => ?_, acc ++ [y], ds0 ++ [s.d], r2, upd_same, ?_, by rw [List.length_append, List.length_singleton]; omega, rfl, by rw [ht, List.append_assoc]; rfl⟩
                    · rw [upd_ne (ne_of_none e hL)]
                      exact k4 _ _ (k3 _ _ (s2 b o e))
                    · exact RepL.mono km _ _ ((RepL.mono (.same_ ((k2.trans k3).trans k4)) _ _ hacc).append (.one q))
      · have ei : i = xs.length := by omega
        subst ei
        rw [List.drop_length] at hc
        cases hc
        rw [List.append_nil] at ht
        subst ht
        exact .inl ⟨walk.stop _ H' (Nat.le_refl _) kp.toF, hp L acc H' (k.trans s1) (k.free hL) hD hacc⟩
end
section
variable {g : G0} {x : L2.St → Prop} {W : WX} {X : Cx} {elt tg iter : Expr} {ifs : List Expr} {scope : Scope} {own : List (Str × Nat)} {pos : Pos} {mi : En → R (List D)} {pt : Pt} {t : En → R Bool} {me : M}
abbrev PTsd (g : G0) (x : L2.St → Prop) (W : WX) (X : Cx) (es : List Expr) (m : En → R Bool) : Prop := PTs X es (tT X.K g x W m)
def tYesM : En → R Bool := fun _ => .ok true
theorem dts_nil : PTsd g x W X [] tYesM := ⟨fun pins s σ H Q I ⟨env, Z, er, hp⟩ => pts_nil.run pins s σ H Q I (hp H (Same.refl _))⟩
theorem dts_one {c : Expr} {t : En → R Bool} (h : PTd g x W X c t) : PTsd g x W X [c] t := pts_one h
theorem de_lc (hc : X.calm = true) (hN : X.N.Nodup) (hi : PId g x W X tg iter mi) (ok : BlkOk X.N X.env.scope scope own) (sub : ∀ i ∈ pt.slots, i ∈ own.map (·.2))
    (hg : ∀ (s : Shared) (H : Hp) (C : Addr) (cl : List (Str × Addr)) (fp : List Addr), PG (X.blk s H scope (compEnvC scope cl C X.env) fp) tg (pt.tg X.K))
    (ht : ∀ (s : Shared) (H : Hp) (C : Addr) (cl : List (Str × Addr)) (fp : List Addr), PTsd g T W0 (X.blk s H scope (compEnvC scope cl C X.env) fp) ifs t)
    (he : ∀ (s : Shared) (H : Hp) (C : Addr) (cl : List (Str × Addr)) (fp : List Addr), PEd g T W0 (X.blk s H scope (compEnvC scope cl C X.env) fp) elt me) (hs : ∀ x, foldedSetIterable iter X.env x = pure x := by intro _; rfl) :
    PEd g x W X (.ListComp elt [⟨tg, iter, ifs, 0⟩] scope pos) (mComp mi pt t me (own.map (·.2))) :=
  weakE (pe_lc hc hN hi ok hg ht he hs) fun σ H Q h => lcOk sub h
theorem ds_setLc {i : Nat} {y : Str} {py spos : Pos} (hx : ∀ σ, x σ) (hc : X.calm = true) (hN : X.N.Nodup) (hy : X.N[i]? = some y) (hyl : X.env.scope.names.lookup y = some .local)
    (hsw : swapsWith (.ListComp elt [⟨tg, iter, ifs, 0⟩] scope pos) (some (.Name y py)) spos.line X.env = pure true) (hi : PId g x W X tg iter mi) (ok : BlkOk X.N X.env.scope scope own) (sub : ∀ i ∈ pt.slots, i ∈ own.map (·.2))
    (hg : ∀ (s : Shared) (H : Hp) (C : Addr) (cl : List (Str × Addr)) (fp : List Addr), PG (X.blk s H scope (compEnvC scope cl C X.env) fp) tg (pt.tg X.K))
    (ht : ∀ (s : Shared) (H : Hp) (C : Addr) (cl : List (Str × Addr)) (fp : List Addr), PTsd g T W0 (X.blk s H scope (compEnvC scope cl C X.env) fp) ifs t)
    (he : ∀ (s : Shared) (H : Hp) (C : Addr) (cl : List (Str × Addr)) (fp : List Addr), PEd g T W0 (X.blk s H scope (compEnvC scope cl C X.env) fp) elt me) (hs : ∀ x, foldedSetIterable iter X.env x = pure x := by intro _; rfl) :
    PSd g x W X (.Assign [.Name y py] (.ListComp elt [⟨tg, iter, ifs, 0⟩] scope pos) spos) (sSet i (mComp mi pt t me (own.map (·.2)))) :=
  weakS (ps_setLc hc hN hy hyl hsw hi ok hg ht he hs) fun D σ H ⟨env, A, H0, r, hp⟩ => lcOk sub
    (runE (f := fun s => .nx (env.set i (some s))) r hp (fun d v H' _ k q hp => hp _ _ (r.setFr hx k q)) fun xs a vs H' _ k n p q hp => hp _ _ (r.setOw hx k n p q))
end

/-! ### further statements -/
def sUnp (pt : Pt) (m : M) : MS := fun env => match m env with
  | .ok s => match pt.go s.d env with
    | some e => .nx e
    | none => .st
  | .ex c p => .ex c p env
  | .st => .st
def ixD (n : Nat) (i : Int) : Option Nat := if 0 ≤ i then (if i < n then some i.toNat else none) else if -(n : Int) ≤ i then some (i + n).toNat else none
def sPut (i : Nat) (mk : B) (me : M) : MS := fun env => match me env with
  | .ok s => match env[i]? with
    | some (some (.ow xs)) => match mk env with
      | .ok k => match k with
        | .int j => match ixD xs.length j with
          | some n => .nx (env.set i (some (.ow (xs.set n s.d))))
          | none => .st
        | _ => .st
      | .ex c p => .ex c p env
      | .st => .st
    | _ => .st
  | .ex c p => .ex c p env
  | .st => .st
section
variable {g : G0} {x : L2.St → Prop} {W : WX} {X : Cx} {e ek tg : Expr} {pos : Pos} {m me : M} {mk : B}
theorem exA {K : PySem.W.Frag} {A : Av} {H : Hp} {env : En} {σ : L2.St} {p : Pl} {dd : Option Addr} (q : ExP K g H (zz A env σ) p dd) : ExP K g H A p dd := by
  cases p with
  | none => exact q
  | some fx =>
    obtain ⟨da, v, e1, e2, e3⟩ := q
    exact ⟨da, v, e1, e2, Rep.mono (.of (Same.refl _) fun _ _ z => .inl z) _ _ e3⟩
theorem ds_unp (pt : Pt) (hx : ∀ σ, x σ) (he : PEd g x W X e m) (hg : PG X tg (pt.tg X.K)) (hs : swapsWithSole [tg] e pos.line X.env = pure false := by rfl) (hw : swappedStores [tg] e X.env = pure none := by rfl) (h1 : (assignEach [tg] X.env).map (·.2) = [assign tg X.env] := by rfl) : PSd g x W X (.Assign [tg] e pos) (sUnp pt m) :=
  weakS (ps_asg he hg hs hw h1) fun D σ H ⟨env, A, H0, r, hp⟩ => by
    refine use r.er ?_
    unfold sUnp at hp
    cases em : m env with
    | ok s =>
      rw [em] at hp
      intro v H' k q
      have hp : PostS X.K g x W A H0 D (match pt.go s.d env with | some e => .nx e | none => .st) := hp
      cases ep : pt.go s.d env with
      | none => rw [ep] at hp; exact hp.elim
      | some e1 =>
        rw [ep] at hp
        exact Pt.ok hx (r.later k) q ep fun σ' r' => hp σ' H' r'
    | ex c p => rw [em] at hp; exact fun H' dd k q => hp σ H' dd (r.later k) (exA q)
    | st => rw [em] at hp; exact hp
theorem ds_put (i : Nat) {y : Str} {p pi : Pos} (he : PEd g x W X e me) (hk : PBd g x W X ek mk) (hN : X.N[i]? = some y := by rfl) (hv : Vis X.env.scope y := by first | exact Or.inl rfl | exact Or.inr (Or.inl rfl) | exact Or.inr (Or.inr rfl)) (hd : (y == ("__debug__" : Str)) = false := by decide)
    (hcd : (y == ("__classdict__" : Str)) = false := by decide) (hg : PG X (.Subscript (.Name y p) ek pi) (gSub (tVar i) (tB X.K g x W mk) rSetL)) (hs : swapsWithSole [.Subscript (.Name y p) ek pi] e pos.line X.env = pure false := by rfl)
    (hw : swappedStores [.Subscript (.Name y p) ek pi] e X.env = pure none := by rfl) : PSd g x W X (.Assign [.Subscript (.Name y p) ek pi] e pos) (sPut i mk me) :=
  weakS (ps_asg he hg hs hw) fun D σ H ⟨env, A, H0, r, hp⟩ => by
    refine use r.er ?_
    unfold sPut at hp
    cases em : me env with
    | ok s =>
      rw [em] at hp
      intro v H' k q
      have r1 := r.later k
      have hp : PostS X.K g x W A H0 D (match env[i]? with
        | some (some (.ow xs)) => match mk env with
          | .ok k => match k with
            | .int j => match ixD xs.length j with
              | some n => .nx (env.set i (some (.ow (xs.set n s.d))))
              | none => .st
            | _ => .st
          | .ex c p => .ex c p env
          | .st => .st
        | _ => .st) := hp
      split at hp
      · rename_i xs e1
        obtain ⟨w, e2, a, vs, ev, z, p, rr⟩ := r1.er.at_ i _ e1
        subst ev
        refine ⟨.ref a, e2, ?_⟩
        refine ⟨env, zz A env σ, r1.er, ?_⟩
        cases ek : mk env with
        | ok kk =>
          rw [ek] at hp
          intro w H2 k2 q2
          cases kk with
          | int j =>
            have hp : PostS X.K g x W A H0 D (match ixD xs.length j with
              | some n => .nx (env.set i (some (.ow (xs.set n s.d))))
              | none => .st) := hp
            split at hp
            · rename_i n en
              exact ⟨a, vs, j, n, rfl, q2.int_, k2 _ _ p, by rw [← rr.length]; exact en, hp σ _ ((r1.later k2).mut e1 e2 (RepL.set n (RepL.mono (.same_ k2) _ _ rr) (Rep.mono (.same_ k2) _ _ q)))⟩
            · exact hp.elim
          | _ => exact hp.elim
        | ex c p => rw [ek] at hp; exact fun H2 dd k2 q => hp σ H2 dd (r1.later k2) (exA q)
        | st => rw [ek] at hp; exact hp
      · exact hp.elim
    | ex c p => rw [em] at hp; exact fun H' dd k q => hp σ H' dd (r.later k) (exA q)
    | st => rw [em] at hp; exact hp
/-- xs.append(ys.pop(k)) -/
def sAppPop (i j : Nat) (mk : B) : MS := fun env => match env[i]?, env[j]? with
  | some (some (.ow xs)), some (some (.ow ys)) => match mk env with
    | .ok k => match k with
      | .int n => match ixD ys.length n with
        | some l => match ys[l]? with
          | some d => if i ≠ j ∧ xs.length < lim ∧ -1000000 ≤ n ∧ n ≤ 1000000 then .nx ((env.set j (some (.ow (ys.eraseIdx l)))).set i (some (.ow (xs ++ [d])))) else .st
          | none => .st
        | none => .st
      | _ => .st
    | .ex c p => .ex c p env
    | .st => .st
  | _, _ => .st
end
end DL
set_option Elab.async false
set_option linter.all false
set_option maxRecDepth 100000
namespace DL
open PySem PySem.Spec L2
open PyProof.Rows hiding St
section
variable {prog : Program} {w : World} {A : Around} {E : Value → Shared → Prop} {s : Shared}
theorem gather_tup {t : Addr} {us : List Value} {Q : List Value → Shared → Prop} (ht : IsTup s.heap t us.toArray) (hz : us.length ≤ sizeLine)
    (h : Q us { s with heap := (s.heap.push (seqObj "list" #[] 0)).update s.heap.objs.size (Obj.mapSeq (· ++ us.toArray)) }) :
    wpAny (model prog w) A (collect (.ref t)) Q E s := by
  obtain ⟨ob, hob, hcl, k, hda⟩ := id ht
  unfold collect
  refine wpAny_bind (wpAny_runValue (codeAny_builtin entry_proto_collect' (show wpAny _ _ (do again (.builtin "list.__iadd__" ⟨[← newList [], .ref t], []⟩)) _ _ s from ?_)))
  refine wpAny_bind (wpAny_newList (wpAny_pure ⟨Code.quiet_builtin _ (by decide +kernel), codeAny_builtin entry_list_iadd' (show wpAny _ _ (Builtin.List.listExtendWith (.ref s.heap.objs.size) (.ref t) (.ref s.heap.objs.size)) _ _ { s with heap := s.heap.push (seqObj "list" #[] 0) } from ?_)⟩))
  unfold Builtin.List.listExtendWith
  have hob' : (s.heap.push (seqObj "list" #[] 0)).get? t = some ob := Heap.get?_push_of_some _ hob
  refine wpAny_bind (wpAny_typeOf (T := "tuple") ⟨ob, hob', hcl⟩ ?_)
  have tt : (Value.type "tuple" == Value.type "tuple") = true := by rfl
  rw [if_pos (by rw [tt]; simp)]
  refine wpAny_bind (listItems_at hob' hda (wpAny_bind (listItems_at (xs := #[]) (n := 0) (Heap.get?_push_size _ rfl) rfl ?_)))
  rw [if_neg (by simp)]
  refine wpAny_bind (listUpdate_at (xs := #[]) (n := 0) (Heap.get?_push_size _ rfl) rfl (wpAny_pure ?_) (Nat.zero_le _) (by show (#[] ++ us.toArray).size ≤ _; rw [Array.size_append]; simp; omega))
  show wpAny (model prog w) A (do
      let ob ← load s.heap.objs.size
      match ob.data with
      | .seq xs _ => pure xs.toList
      | _ => unsupported "internal:collect") Q E { s with heap := (s.heap.push (seqObj "list" #[] 0)).update s.heap.objs.size (Obj.mapSeq (· ++ us.toArray)) }
  refine wpAny_bind (wpAny_load (get?_update_seq (Heap.get?_push_size _ rfl) _) ?_)
  show wpAny _ _ (pure ((#[] : Array Value) ++ us.toArray).toList) Q E _
  rw [show ((#[] : Array Value) ++ us.toArray).toList = us by simp]
  exact wpAny_pure h
open PySem.W in
theorem sorted_tup {t : Addr} {us : List Value} {Q : Value → Shared → Prop} (ht : IsTup s.heap t us.toArray) (hL : us.length ≤ sizeLine)
    (body : ∀ E' : Value → Shared → Prop, wpAny (model prog w) A.in1.in1 (Builtin.«list.sort» ⟨[.ref (s.heap.objs.size + 1)], []⟩) (fun f s' => f = .done (.ret .none) ∧ Q (.ref (s.heap.objs.size + 1)) s') E' { s with heap := copyHeap s.heap us }) :
    wpAny (model prog w) A (call (.builtin "sorted") [.ref t]) Q E s := by
  refine Calls.call_function_entry kind_sorted plain_sorted entry_sorted (args_sorted1 _) ?_
  unfold Builtin.«sorted»
  refine wpAny_bind (m := checkCount "sorted" 1 1 _) (wpAny_pure (wpAny_bind (gather_tup ht hL (wpAny_bind (wpAny_newList ?_ hL)))))
  have hs : ((s.heap.push (seqObj "list" #[] 0)).update s.heap.objs.size (Obj.mapSeq (· ++ us.toArray))).objs.size = s.heap.objs.size + 1 := by rw [Heap.size_update, size_push']
  show wpAny _ _ _ _ _ { s with heap := copyHeap s.heap us }
  rw [hs]
  refine wpAny_bind (wpAny_holding (wpAny_call_entry slot_list_sort ⟨_, copyHeap_at s.heap us, rfl⟩ entry_list_sort ?_ (args_list_sort _)))
  refine wpAny_mono (body _) (fun f s' hf => ?_) fun _ _ e => e
  obtain ⟨rfl, hq⟩ := hf
  exact ⟨_, rfl, wpAny_pure ⟨_, rfl, hq⟩⟩
end

/-! ### numbers and texts -/
def fAdd : D → D → R Sl
  | .int a, .int b => .ok (.fr (.int (a + b)))
  | .str a, .str b => if a.length + b.length ≤ lim then .ok (.fr (.str (a ++ b))) else .st
  | .tup a, .tup b => if a.length + b.length ≤ lim then .ok (.fr (.tup (a ++ b))) else .st
  | _, _ => .st
def fSub : D → D → R Sl
  | .int a, .int b => .ok (.fr (.int (a - b)))
  | _, _ => .st
def MulOk (i j : Int) : Bool := decide (i.natAbs < 2 ^ 64) || decide (j.natAbs < 2 ^ 64) || (decide (i.natAbs < 2 ^ 4000) && decide (j.natAbs < 2 ^ 4000))
def fMul : D → D → R Sl
  | .int a, .int b => if MulOk a b = true then .ok (.fr (.int (a * b))) else .st
  | _, _ => .st
def fDiv : D → D → R Sl
  | .int a, .int b => if 0 < b ∧ b.natAbs < 2 ^ 4000 then .ok (.fr (.int (a / b))) else .st
  | _, _ => .st
def fMod : D → D → R Sl
  | .int a, .int b => if 0 < b then .ok (.fr (.int (a % b))) else .st
  | _, _ => .st
def fNeg : D → R Sl
  | .int a => .ok (.fr (.int (-a)))
  | _ => .st
def fLt : D → D → R Sl
  | .int a, .int b => .ok (.fr (.bl (decide (a < b))))
  | _, _ => .st
def fLe : D → D → R Sl
  | .int a, .int b => .ok (.fr (.bl (decide (a ≤ b))))
  | _, _ => .st
def fGt : D → D → R Sl
  | .int a, .int b => .ok (.fr (.bl (decide (b < a))))
  | _, _ => .st
def fGe : D → D → R Sl
  | .int a, .int b => .ok (.fr (.bl (decide (b ≤ a))))
  | _, _ => .st
section
variable {X : Cx}
/-- t + u, a new tuple where one is made -/
def rCatN (K : PySem.W.Frag) : R2 := fun x y H Q => ∃ a b xs ys, x = .ref a ∧ y = .ref b ∧ SqT K H a xs ∧ SqT K H b ys ∧ xs.length + ys.length ≤ sizeLine ∧
  (xs = [] → Q (.ref b) H) ∧ (xs ≠ [] → ys = [] → Q (.ref a) H) ∧ (xs ≠ [] → ys ≠ [] → NewT H (xs ++ ys) Q)
theorem op_catN : OpR X (binaryOp .Add) (rCatN X.K) := by
  intro pins s σ H x y v u Q I rx ry h
  obtain ⟨a, b, xs, ys, rfl, rfl, ha, hb, hz, q0, q1, q2⟩ := h
  cases rx
  cases ry
  obtain ⟨its, r1, p1, _⟩ := I.tuple ha
  obtain ⟨its2, r2, p2, _⟩ := I.tuple hb
  by_cases hx : xs = []
  · subst hx
    cases r1
    exact cat_tup0 p1 p2 ⟨.ref b, H, I, rfl, q0 rfl⟩
  · have hi : its ≠ [] := fun e => hx ((Vals.nil_iff r1).mp e)
    refine HT.cat_tup p1 p2 hi (fun e => ⟨.ref a, H, I, rfl, q1 hx ((Vals.nil_iff r2).mp e)⟩) (fun e => ?_) (by rw [← r1.length, ← r2.length]; exact hz)
    exact newT (t' := s.toks) I (fun b u e => Heap.get?_push_of_some _ e) (Nat.le_refl _) (Heap.get?_push_size _ rfl) (r1.append r2) (by rw [List.length_append]; exact hz) (q2 hx fun e2 => e ((Vals.nil_iff r2).mpr e2))
end
section
variable {K : PySem.W.Frag}
theorem of_add : OpF K (fun x y H Q => (rI0 (fun i j => .int (i + j)) x y H Q ∨ ∃ i j, x = .str i ∧ y = .str j ∧ i.length + j.length ≤ sizeLine ∧ Q (.str (i ++ j)) H) ∨ rCatN K x y H Q) fAdd := by
  intro g W H Z σ x y v u Q dom rx ry hp
  cases x <;> cases y <;> first | exact hp.elim | skip
  · rw [rx.int_, ry.int_]
    exact .inl (.inl ⟨_, _, rfl, rfl, hp _ H (Same.refl _) (Rep.int_.mpr rfl)⟩)
  · simp only [fAdd] at hp
    split at hp
    · rw [rx.str_, ry.str_]
      exact .inl (.inr ⟨_, _, rfl, rfl, limLine (by assumption), hp _ H (Same.refl _) (Rep.str_.mpr rfl)⟩)
    · exact hp.elim
  · simp only [fAdd] at hp
    split at hp
    · rename_i hl
      obtain ⟨a, vs, e1, t1, r1⟩ := rx.tup_
      obtain ⟨b, ws, e2, t2, r2⟩ := ry.tup_
      refine .inr ⟨a, b, vs, ws, e1, e2, t1.sqT, t2.sqT, by rw [← r1.length, ← r2.length]; exact limLine hl, fun e => ?_, fun _ e => ?_, fun _ _ => post_tup hp (r1.append r2)⟩
      · subst e
        have z := r1.length
        rw [List.length_nil, List.length_eq_zero_iff] at z
        subst z
        exact hp _ H (Same.refl _) (Rep.tup_.mpr ⟨b, ws, rfl, t2, r2⟩)
      · subst e
        have z := r2.length
        rw [List.length_nil, List.length_eq_zero_iff] at z
        subst z
        rw [List.append_nil] at hp
        exact hp _ H (Same.refl _) (Rep.tup_.mpr ⟨a, vs, rfl, t1, r1⟩)
    · exact hp.elim
theorem of_sub : OpF K (rI0 fun i j => .int (i - j)) fSub := by
  intro g W H Z σ x y v u Q dom rx ry hp
  cases x <;> cases y <;> first | exact hp.elim | skip
  rw [rx.int_, ry.int_]
  exact ⟨_, _, rfl, rfl, hp _ H (Same.refl _) (Rep.int_.mpr rfl)⟩
theorem of_mul : OpF K (fun x y H Q => rI CMul (fun i j => .int (i * j)) x y H Q ∨ rI CMulW (fun i j => .int (i * j)) x y H Q) fMul := by
  intro g W H Z σ x y v u Q dom rx ry hp
  cases x <;> cases y <;> first | exact hp.elim | skip
  rename_i i j
  simp only [fMul] at hp
  split at hp
  · rename_i hm
    rw [rx.int_, ry.int_]
    have q := hp _ H (Same.refl _) (Rep.int_.mpr rfl)
    unfold MulOk at hm
    rw [Bool.or_eq_true, Bool.or_eq_true, Bool.and_eq_true, decide_eq_true_eq, decide_eq_true_eq, decide_eq_true_eq, decide_eq_true_eq] at hm
    rcases hm with (hm | hm) | hm
    · exact .inl ⟨_, _, rfl, rfl, .inl (by omega), q⟩
    · exact .inl ⟨_, _, rfl, rfl, .inr (by omega), q⟩
    · exact .inr ⟨_, _, rfl, rfl, wide_mul hm.1 hm.2 (by decide) (by decide) (by decide), q⟩
  · exact hp.elim
theorem of_div : OpF K (rI CDivW fun i j => .int (i / j)) fDiv := by
  intro g W H Z σ x y v u Q dom rx ry hp
  cases x <;> cases y <;> first | exact hp.elim | skip
  simp only [fDiv] at hp
  split at hp
  · rename_i hm
    rw [rx.int_, ry.int_]
    exact ⟨_, _, rfl, rfl, wide_div hm.1 hm.2 (by decide) (by decide), hp _ H (Same.refl _) (Rep.int_.mpr rfl)⟩
  · exact hp.elim
theorem of_mod : OpF K (rI (fun _ j => 0 < j) fun i j => .int (i % j)) fMod := by
  intro g W H Z σ x y v u Q dom rx ry hp
  cases x <;> cases y <;> first | exact hp.elim | skip
  simp only [fMod] at hp
  split at hp
  · rename_i hm
    rw [rx.int_, ry.int_]
    exact ⟨_, _, rfl, rfl, hm, hp _ H (Same.refl _) (Rep.int_.mpr rfl)⟩
  · exact hp.elim
theorem of_cmp {p : Int → Int → Bool} {F : D → D → R Sl} (h : ∀ x y, (∃ i j, x = .int i ∧ y = .int j ∧ F x y = .ok (.fr (.bl (p i j)))) ∨ F x y = .st) : OpF K (rI0 fun i j => .bl (p i j)) F := by
  intro g W H Z σ x y v u Q dom rx ry hp
  rcases h x y with ⟨i, j, rfl, rfl, e⟩ | e
  · rw [e] at hp
    rw [rx.int_, ry.int_]
    exact ⟨_, _, rfl, rfl, hp _ H (Same.refl _) (Rep.bl_.mpr rfl)⟩
  · rw [e] at hp; exact hp.elim
theorem of_lt : OpF K (rI0 fun i j => .bl (decide (i < j))) fLt := of_cmp fun x y => by cases x <;> cases y <;> first | exact .inl ⟨_, _, rfl, rfl, rfl⟩ | exact .inr rfl
theorem of_le : OpF K (rI0 fun i j => .bl (decide (i ≤ j))) fLe := of_cmp fun x y => by cases x <;> cases y <;> first | exact .inl ⟨_, _, rfl, rfl, rfl⟩ | exact .inr rfl
theorem of_gt : OpF K (rI0 fun i j => .bl (decide (j < i))) fGt := of_cmp fun x y => by cases x <;> cases y <;> first | exact .inl ⟨_, _, rfl, rfl, rfl⟩ | exact .inr rfl
theorem of_ge : OpF K (rI0 fun i j => .bl (decide (j ≤ i))) fGe := of_cmp fun x y => by cases x <;> cases y <;> first | exact .inl ⟨_, _, rfl, rfl, rfl⟩ | exact .inr rfl
theorem of_neg : UnF K (rU fun i => .int (-i)) fNeg := by
  intro g W H Z σ x v Q dom rx hp
  cases x <;> first | exact hp.elim | skip
  rw [rx.int_]
  exact ⟨_, rfl, hp _ H (Same.refl _) (Rep.int_.mpr rfl)⟩
end
section
variable {g : G0} {x : L2.St → Prop} {W : WX} {X : Cx} {a b e : Expr} {es : List Expr} {pos p : Pos} {ma mb : B}
theorem de_add (ha : PBd g x W X a ma) (hb : PBd g x W X b mb) : PEd g x W X (.BinOp a .Add b pos) (mBin fAdd ma mb) := de_op ((op_add.or op_add_str).or op_catN) of_add ha hb
theorem de_sub (ha : PBd g x W X a ma) (hb : PBd g x W X b mb) : PEd g x W X (.BinOp a .Sub b pos) (mBin fSub ma mb) := de_op op_sub of_sub ha hb
theorem de_mul (ha : PBd g x W X a ma) (hb : PBd g x W X b mb) : PEd g x W X (.BinOp a .Mult b pos) (mBin fMul ma mb) := de_op (op_mul.or op_mulW) of_mul ha hb
theorem de_div (ha : PBd g x W X a ma) (hb : PBd g x W X b mb) : PEd g x W X (.BinOp a .FloorDiv b pos) (mBin fDiv ma mb) := de_op op_fdivW of_div ha hb
theorem de_mod (ha : PBd g x W X a ma) (hb : PBd g x W X b mb) : PEd g x W X (.BinOp a .Mod b pos) (mBin fMod ma mb) := de_op op_mod of_mod ha hb
theorem de_neg (ha : PBd g x W X a ma) : PEd g x W X (.UnaryOp .USub a pos) (mUn fNeg ma) := de_un un_neg of_neg ha
theorem de_lt (ha : PBd g x W X a ma) (hb : PBd g x W X b mb) : PEd g x W X (.Compare a [.Lt] [b] pos) (mBin fLt ma mb) := de_cmp op_lt of_lt ha hb (nomark _)
theorem de_le (ha : PBd g x W X a ma) (hb : PBd g x W X b mb) : PEd g x W X (.Compare a [.LtE] [b] pos) (mBin fLe ma mb) := de_cmp op_le of_le ha hb (nomark _)
theorem de_gt (ha : PBd g x W X a ma) (hb : PBd g x W X b mb) : PEd g x W X (.Compare a [.Gt] [b] pos) (mBin fGt ma mb) := de_cmp op_gt of_gt ha hb (nomark _)
theorem de_ge (ha : PBd g x W X a ma) (hb : PBd g x W X b mb) : PEd g x W X (.Compare a [.GtE] [b] pos) (mBin fGe ma mb) := de_cmp op_ge of_ge ha hb (nomark _)
theorem dt_lt (ha : PBd g x W X a ma) (hb : PBd g x W X b mb) : PTd g x W X (.Compare a [.Lt] [b] pos) (mTest (mB (mBin fLt ma mb))) := dt_cmp op_lt of_lt ha hb (nomark _)
theorem dt_le (ha : PBd g x W X a ma) (hb : PBd g x W X b mb) : PTd g x W X (.Compare a [.LtE] [b] pos) (mTest (mB (mBin fLe ma mb))) := dt_cmp op_le of_le ha hb (nomark _)
theorem dt_gt (ha : PBd g x W X a ma) (hb : PBd g x W X b mb) : PTd g x W X (.Compare a [.Gt] [b] pos) (mTest (mB (mBin fGt ma mb))) := dt_cmp op_gt of_gt ha hb (nomark _)
theorem dt_ge (ha : PBd g x W X a ma) (hb : PBd g x W X b mb) : PTd g x W X (.Compare a [.GtE] [b] pos) (mTest (mB (mBin fGe ma mb))) := dt_cmp op_ge of_ge ha hb (nomark _)
end

/-! ### == and != of data -/
mutual
def toPy : D → PyData
  | .non => .none
  | .bl b => .bool b
  | .int i => .int i
  | .str x => .str x
  | .tup xs => .tuple (toPyL xs)
  | .lst xs => .list (toPyL xs)
  | .obj _ _ => .none
def toPyL : List D → List PyData
  | [] => []
  | d :: ds => toPy d :: toPyL ds
end
mutual
def noObj : D → Bool
  | .obj _ _ => false
  | .tup xs => noObjL xs
  | .lst xs => noObjL xs
  | _ => true
def noObjL : List D → Bool
  | [] => true
  | d :: ds => noObj d && noObjL ds
end
mutual
def eqD : D → D → Bool
  | .non, .non => true
  | .bl a, .bl b => a == b
  | .bl a, .int j => (if a then 1 else 0) == j
  | .int i, .bl b => i == (if b then 1 else 0)
  | .int i, .int j => i == j
  | .str a, .str b => a == b
  | .tup a, .tup b => eqDL a b
  | .lst a, .lst b => eqDL a b
  | _, _ => false
def eqDL : List D → List D → Bool
  | [], [] => true
  | x :: xs, y :: ys => eqD x y && eqDL xs ys
  | _, _ => false
end
mutual
theorem eqv_py : ∀ a b : D, noObj a = true → noObj b = true → PyData.eqv (toPy a) (toPy b) = eqD a b
  | .tup xs, b, ha, hb => by
    cases b <;> simp only [toPy, PyData.eqv, eqD]
    · rename_i ys
      exact eqvL_py xs ys (by simpa [noObj] using ha) (by simpa [noObj] using hb)
  | .lst xs, b, ha, hb => by
    cases b <;> simp only [toPy, PyData.eqv, eqD]
    · rename_i ys
      exact eqvL_py xs ys (by simpa [noObj] using ha) (by simpa [noObj] using hb)
  | .obj c fs, b, ha, hb => by simp [noObj] at ha
  | .non, b, ha, hb => by cases b <;> first | (simp [noObj] at hb; done) | simp only [toPy, PyData.eqv, eqD]
  | .bl x, b, ha, hb => by cases b <;> first | (simp [noObj] at hb; done) | simp only [toPy, PyData.eqv, eqD]
  | .int i, b, ha, hb => by cases b <;> first | (simp [noObj] at hb; done) | simp only [toPy, PyData.eqv, eqD]
  | .str z, b, ha, hb => by cases b <;> first | (simp [noObj] at hb; done) | simp only [toPy, PyData.eqv, eqD]
theorem eqvL_py : ∀ xs ys : List D, noObjL xs = true → noObjL ys = true → PyData.eqvAll (toPyL xs) (toPyL ys) = eqDL xs ys
  | [], ys, ha, hb => by cases ys <;> simp only [toPyL, PyData.eqvAll, eqDL]
  | x :: xs, [], ha, hb => by simp only [toPyL, PyData.eqvAll, eqDL]
  | x :: xs, y :: ys, ha, hb => by
    simp only [noObjL, Bool.and_eq_true] at ha hb
    simp only [toPyL, PyData.eqvAll, eqDL]
    rw [eqv_py x y ha.1 hb.1, eqvL_py xs ys ha.2 hb.2]
end
def okE (d : D) : Bool := noObj d && SeqAt.shaped (toPy d)
def fEq (a b : D) : R Sl := if (okE a && okE b) = true then .ok (.fr (.bl (eqD a b))) else .st
def fNe (a b : D) : R Sl := if (okE a && okE b) = true then .ok (.fr (.bl (!eqD a b))) else .st
section
variable {K : PySem.W.Frag} {g : G0} {H : Hp} {Z : Av}
mutual
theorem Rep.dp : ∀ (d : D) (v : V), noObj d = true → Rep K g H Z d v → Dp K H v (toPy d)
  | .non, v, _, h => by rw [Rep.non_.mp h]; exact .non
  | .bl b, v, _, h => by rw [Rep.bl_.mp h]; exact .bl b
  | .int i, v, _, h => by rw [Rep.int_.mp h]; exact .int i
  | .str x, v, _, h => by rw [Rep.str_.mp h]; exact .str x
  | .tup xs, v, n, h => by
    obtain ⟨a, vs, e, t, r⟩ := Rep.tup_.mp h
    subst e
    exact .tup t.sqT (RepL.dp xs vs (by simpa [noObj] using n) r)
  | .lst xs, v, n, h => by
    obtain ⟨a, vs, e, t, r⟩ := Rep.lst_.mp h
    subst e
    exact .lst t.sq (RepL.dp xs vs (by simpa [noObj] using n) r)
  | .obj c fs, v, n, h => by simp [noObj] at n
theorem RepL.dp : ∀ (ds : List D) (vs : List V), noObjL ds = true → RepL K g H Z ds vs → DpAll K H vs (toPyL ds)
  | [], vs, _, h => by rw [RepL.nil_.mp h]; exact .nil
  | d :: ds, vs, n, h => by
    obtain ⟨v, r, e, h1, h2⟩ := RepL.cons_.mp h
    subst e
    simp only [noObjL, Bool.and_eq_true] at n
    exact .cons (Rep.dp d v n.1 h1) (RepL.dp ds r n.2 h2)
end
theorem RepB.dp {d : D} {v : V} (n : noObj d = true) (h : RepB K g H Z d v) : Dp K H v (toPy d) := by
  rcases h with h | ⟨xs, a, vs, e1, e2, e3, r⟩
  · exact Rep.dp d v n h
  · subst e1 e2
    exact .lst (SqL.of e3) (RepL.dp xs vs (by simpa [noObj] using n) r)
theorem of_eq : OpF K (rEqD K) fEq := by
  intro g W H Z σ x y v u Q dom rx ry hp
  unfold fEq at hp
  split at hp
  · rename_i hm
    simp only [okE, Bool.and_eq_true] at hm
    refine ⟨toPy x, toPy y, rx.dp hm.1.1, ry.dp hm.2.1, hm.1.2, hm.2.2, ?_⟩
    rw [eqv_py x y hm.1.1 hm.2.1]
    exact hp _ H (Same.refl _) (Rep.bl_.mpr rfl)
  · exact hp.elim
theorem of_ne : OpF K (rNeD K) fNe := by
  intro g W H Z σ x y v u Q dom rx ry hp
  unfold fNe at hp
  split at hp
  · rename_i hm
    simp only [okE, Bool.and_eq_true] at hm
    refine ⟨toPy x, toPy y, rx.dp hm.1.1, ry.dp hm.2.1, hm.1.2, hm.2.2, ?_⟩
    rw [eqv_py x y hm.1.1 hm.2.1]
    exact hp _ H (Same.refl _) (Rep.bl_.mpr rfl)
  · exact hp.elim
end
section
variable {g : G0} {x : L2.St → Prop} {W : WX} {X : Cx} {a b e : Expr} {es : List Expr} {pos p : Pos} {ma mb : B}
theorem de_eq (hu : X.A.units + 64 < cLine) (ha : PBd g x W X a ma) (hb : PBd g x W X b mb) : PEd g x W X (.Compare a [.Eq] [b] pos) (mBin fEq ma mb) := de_cmp (op_eqD hu) of_eq ha hb (nomark _)
theorem de_ne (hu : X.A.units + 64 < cLine) (ha : PBd g x W X a ma) (hb : PBd g x W X b mb) : PEd g x W X (.Compare a [.NotEq] [b] pos) (mBin fNe ma mb) := de_cmp (op_neD hu) of_ne ha hb (nomark _)
theorem dt_eq (hu : X.A.units + 64 < cLine) (ha : PBd g x W X a ma) (hb : PBd g x W X b mb) : PTd g x W X (.Compare a [.Eq] [b] pos) (mTest (mB (mBin fEq ma mb))) := dt_cmp (op_eqD hu) of_eq ha hb (nomark _)
theorem dt_ne (hu : X.A.units + 64 < cLine) (ha : PBd g x W X a ma) (hb : PBd g x W X b mb) : PTd g x W X (.Compare a [.NotEq] [b] pos) (mTest (mB (mBin fNe ma mb))) := dt_cmp (op_neD hu) of_ne ha hb (nomark _)
end
end DL
set_option Elab.async false
set_option linter.all false
set_option maxRecDepth 100000
namespace DL
open PySem PySem.Spec L2
open PyProof.Rows hiding St

/-! ### methods of a tuple that the program made -/
section
variable {X : Cx} {o e : Expr} {es : List Expr} {to : TE} {t : TA} {name : Str} {apos cpos : Pos} {T id : String} {r : V → List V → Hp → VK → Prop}
theorem Tu.obj {pins : List (Addr × Obj)} {σ : L2.St} {H : Hp} {s : Shared} {a : Addr} {vs : List V} (I : Inv X pins σ H s) (h : Tu X.K H a vs) : ∃ ob, s.heap.get? a = some ob ∧ ob.cls = .type "tuple" ∧ ob.dict = none := by
  rcases h with ⟨ob, e, c, d⟩ | ⟨ob, its, n, hk, c, d, _⟩
  · exact ⟨ob, (I.hok a _ e).1, c, d⟩
  · exact ⟨ob, I.kIn a ob hk, c, d⟩
theorem pe_bmT (pa : PlainAttrs "tuple") (slot : Slot "tuple" name id) (hty : typeOf (.builtin id) = pure (.type "method_descriptor")) (hm : MtR X id r) (ho : PE X o to) (ha : PA X (e :: es) t)
    (hbase : attributeBase o name X.env (eval o X.env) = eval o X.env := by rfl)
    (hfew : ((backTo cpos (starEach (e :: es) X.env)).all (fun x => !x.1) && (backToKw cpos (keywordEach [] X.env)).all (fun x => x.1.isSome)
      && decide ((e :: es).length + ([] : List Keyword).length + (if ([] : List Keyword).isEmpty then 0 else 1) < 30)) = true := by rfl)
    (hline : (apos.endLine == cpos.line) = true := by rfl) (hs : starEach (e :: es) X.env = (false, eval e X.env) :: starEach es X.env := by rfl) (hplain : (backTo cpos (starEach es X.env)).any (·.1) = false := by rfl) :
    PE X (.Call (.Attribute o name apos) (e :: es) [] cpos) (fun σ H Q => to σ H fun v H1 => (∃ a ws, v = .ref a ∧ Tu X.K H1 a ws) ∧ t σ H1 fun xs H2 => r v xs H2 Q) := by
  refine ⟨fun pins s σ H Q I h => ?_⟩
  refine wpAny_Call_method_late hbase hfew hline rfl (thn (ho.run pins s σ H _ I h) fun v s1 ⟨y, H1, I1, r1, ⟨a, ws, ey, tu⟩, q1⟩ => ?_)
  subst ey
  cases r1
  obtain ⟨ob, h1, h2, h3⟩ := tu.obj I1
  refine ⟨"tuple", id, pa, slot, hty, ⟨ob, h1, h2⟩, fun b e => ⟨ob, by cases e; exact h1, h3⟩, ?_⟩
  have hA := ha.run cpos pins s1 σ H1 _ I1 q1
  rw [hs] at hA ⊢
  refine Calls.callWith_builtin (by show (false || (backTo cpos (starEach es X.env)).any (·.1)) = false; rw [hplain] <;> rfl) (Calls.evalArgs_plain ?_)
  exact thn hA fun us s2 ⟨vs, H2, I2, r2, q2⟩ => hm pins s2 σ H2 (.ref a) vs _ us Q I2 rfl r2 q2
/-- t.index(x) of flat items -/
theorem mt_tupIndex : MtR X "tuple.index" (fun x xs H Q => ∃ (a : Addr) (ys : List V) (y : V) (j : Nat) (z : V), x = V.ref a ∧ xs = [y] ∧ SqT X.K H a ys ∧ flatV y = true ∧ ys.all flatV = true ∧ ys[j]? = some z ∧ eqV z y = true ∧
    (∀ (m : Nat) (z' : V), m < j → ys[m]? = some z' → eqV z' y = false) ∧ Q (.int (j : Nat)) H) := by
  intro pins s σ H x xs v us Q I rx rxs h
  obtain ⟨a, ys, y, j, z, rfl, rfl, hq, fy, fys, hz, hzj, hno, q⟩ := h
  cases rx
  obtain ⟨uy, rfl, ry⟩ := vals1 rxs
  obtain ⟨its, rv, ⟨⟨cls, dd, data, sl⟩, ho, hc, n, hd⟩, hlen⟩ := I.tuple hq
  simp only at hc hd
  subst hc hd
  obtain ⟨u, hu, ru⟩ := rv.get hz
  obtain ⟨hjl, hje⟩ := List.getElem?_eq_some_iff.mp hu
  have hvl := rv.length
  refine call_meets PySem.F.slot_tuple_index ⟨_, ho, rfl⟩ PySem.F.entry_tuple_index (PySem.F.args_tuple_index_2 _ _)
    (TI.tuple_indexAt a its.toArray n dd sl uy (eqU y) j (by simpa using hjl) ?_ fun m hm hmj => ?_) ⟨ho, fun w hw => mem_eqAt ry fy rv fys w (by simpa using hw), ⟨.int (j : Nat), H, I.tok _, ⟨_, rfl⟩, q⟩⟩
  · have e1 : its.toArray[j] = u := by simpa using hje
    rw [e1, eqU_of ru (flat_at fys hz)]
    exact hzj
  · have hml : m < its.length := by simpa using hm
    have hy' : ys[m]? = some ys[m] := List.getElem?_eq_getElem (by omega)
    obtain ⟨u2, hu2, ru2⟩ := rv.get hy'
    obtain ⟨_, hme⟩ := List.getElem?_eq_some_iff.mp hu2
    have e1 : its.toArray[m] = u2 := by simpa using hme
    rw [e1, eqU_of ru2 (flat_at fys hy')]
    exact hno m _ hmj hy'
end

/-! ### lengths, places -/
def fLen : List D → R Sl
  | [.lst xs] => .ok (.fr (.int xs.length))
  | [.tup xs] => .ok (.fr (.int xs.length))
  | [.str z] => if z.length ≤ lim then .ok (.fr (.int z.length)) else .st
  | _ => .st
def atD (xs : List D) (i : Int) : R Sl := match ixD xs.length i with
  | some j => match xs[j]? with
    | some d => .ok (.fr d)
    | none => .st
  | none => .st
def fIx : D → D → R Sl
  | .lst xs, .int i => atD xs i
  | .tup xs, .int i => atD xs i
  | .str z, .int i => if z.length ≤ lim then match ixD z.cps.toList.length i with
    | some j => match z.cps.toList[j]? with
      | some c => .ok (.fr (.str ⟨#[c]⟩))
      | none => .st
    | none => .st else .st
  | _, _ => .st
section
variable {K : PySem.W.Frag} {g : G0} {H : Hp} {Z : Av}
theorem RepBL.one_ {d : D} {vs : List V} (h : RepBL K g H Z [d] vs) : ∃ v, vs = [v] ∧ RepB K g H Z d v := by
  obtain ⟨v, r, e, h1, h2⟩ := h
  have h2 : r = [] := h2
  subst h2
  exact ⟨v, e, h1⟩
theorem RepBL.two_ {d e : D} {vs : List V} (h : RepBL K g H Z [d, e] vs) : ∃ v u, vs = [v, u] ∧ RepB K g H Z d v ∧ RepB K g H Z e u := by
  obtain ⟨v, r, e1, h1, h2⟩ := h
  obtain ⟨u, e2, h3⟩ := RepBL.one_ h2
  subst e2
  exact ⟨v, u, e1, h1, h3⟩
theorem cf_len : CallF K (fun xs H Q => (∃ p ys, xs = [.ref p] ∧ (SqL K H p ys ∨ SqT K H p ys) ∧ Q (.int ys.length) H) ∨ ∃ z, xs = [.str z] ∧ z.length ≤ sizeLine ∧ Q (.int z.length) H) fLen := by
  intro g W H Z σ xs vs Q dom r hp
  unfold fLen at hp
  split at hp
  · obtain ⟨v, rfl, rv⟩ := r.one_
    obtain ⟨a, ws, rfl, t, rr⟩ := rv.lst_
    exact .inl ⟨a, ws, rfl, .inl t, by rw [← rr.length]; exact hp _ H (Same.refl _) (Rep.int_.mpr rfl)⟩
  · obtain ⟨v, rfl, rv⟩ := r.one_
    obtain ⟨a, ws, rfl, t, rr⟩ := rv.tup_
    exact .inl ⟨a, ws, rfl, .inr t.sqT, by rw [← rr.length]; exact hp _ H (Same.refl _) (Rep.int_.mpr rfl)⟩
  · obtain ⟨v, rfl, rv⟩ := r.one_
    split at hp
    · exact .inr ⟨_, by rw [rv.str_], limLine (by assumption), hp _ H (Same.refl _) (Rep.int_.mpr rfl)⟩
    · exact hp.elim
  · exact hp.elim
theorem atI_of {xs : List V} {i : Int} {j : Nat} {v : V} (h : ixD xs.length i = some j) (e : xs[j]? = some v) : atI xs i = some v := by
  have h' : ixN xs.length i = some j := h
  unfold atI
  rw [h']
  exact e
theorem atD_get {W : WX} {σ : L2.St} {Q : VK} {xs : List D} {vs : List V} {i : Int} (r : RepL K g H Z xs vs) (hp : PostE K g W Z σ H Q (atD xs i)) : ∃ v, atI vs i = some v ∧ Q v H := by
  unfold atD at hp
  split at hp
  · rename_i j hj
    split at hp
    · rename_i d hd
      obtain ⟨v, hv, q⟩ := r.get hd
      exact ⟨v, atI_of (by rw [← r.length]; exact hj) hv, hp _ H (Same.refl _) q⟩
    · exact hp.elim
  · exact hp.elim
theorem of_ix : OpF K (rIx K) fIx := by
  intro g W H Z σ x y v u Q dom rx ry hp
  unfold fIx at hp
  split at hp
  · obtain ⟨a, ws, rfl, t, rr⟩ := rx.lst_
    obtain ⟨w, h1, h2⟩ := atD_get rr hp
    exact .inl ⟨a, ws, _, w, rfl, ry.int_, t, h1, h2⟩
  · obtain ⟨a, ws, rfl, t, rr⟩ := rx.tup_
    obtain ⟨w, h1, h2⟩ := atD_get rr hp
    exact .inr (.inl ⟨a, ws, _, w, rfl, ry.int_, t.sqT, h1, h2⟩)
  · split at hp
    · rename_i z i hl
      split at hp
      · rename_i j hj
        split at hp
        · rename_i c hc
          refine .inr (.inr ⟨z, i, c, rx.str_, ry.int_, limLine hl, ?_, hp _ H (Same.refl _) (Rep.str_.mpr rfl)⟩)
          have h' : ixN z.cps.toList.length i = some j := hj
          unfold atI
          rw [h']
          exact hc
        · exact hp.elim
      · exact hp.elim
    · exact hp.elim
  · exact hp.elim
end
section
variable {g : G0} {x : L2.St → Prop} {W : WX} {X : Cx} {a b e : Expr} {es : List Expr} {pos p : Pos} {ma mb : B} {mr : En → R (List D)}
theorem de_len (hg : Gl X "len") (hm : X.mg "len" = none) (ha : PBAd g x W X (e :: es) mr) (he : starEach (e :: es) X.env = (false, eval e X.env) :: starEach es X.env := by rfl) (hpl : (backTo pos (starEach es X.env)).any (·.1) = false := by rfl) :
    PEd g x W X (.Call (.Name "len" p) (e :: es) [] pos) (mCall fLen mr) := de_callB (call_len_seq.or call_len_str) cf_len hg hm PySem.boot_len ha (by decide) (by decide) he hpl
theorem de_ix (ha : PBd g x W X a ma) (hb : PBd g x W X b mb) (hs : PlainIx b) : PEd g x W X (.Subscript a b pos) (mBin fIx ma mb) :=
  weakE (pe_ix ix_seq ha hb hs) fun σ H Q h => op2 of_ix h
end

/-! ### list(..), tuple(..), list(range(..)), abs, int, min, max, factorial -/
def fList : List D → R Sl
  | [.lst xs] => .ok (.ow xs)
  | [.tup xs] => .ok (.ow xs)
  | _ => .st
def fTuple : List D → R Sl
  | [.lst xs] => .ok (.fr (.tup xs))
  | [.tup xs] => .ok (.fr (.tup xs))
  | _ => .st
def fAbs : List D → R Sl
  | [.int i] => .ok (.fr (.int (if i < 0 then -i else i)))
  | _ => .st
def fInt : List D → R Sl
  | [.int i] => .ok (.fr (.int i))
  | [.bl b] => .ok (.fr (.int (if b then 1 else 0)))
  | _ => .st
def fMin : List D → R Sl
  | [.int i, .int j] => .ok (.fr (.int (if j < i then j else i)))
  | _ => .st
def fMax : List D → R Sl
  | [.int i, .int j] => .ok (.fr (.int (if j > i then j else i)))
  | _ => .st
def facN : Nat → Nat
  | 0 => 1
  | n + 1 => facN n * (n + 1)
def fFac : List D → R Sl
  | [.int i] => if 0 ≤ i ∧ i ≤ 1000 then .ok (.fr (.int (facN i.toNat))) else .st
  | _ => .st
def mListR1 (m : B) : M := fun env => (m env).bind fun d => match d with
  | .int n => if n ≤ 1000000 ∧ -1000000 ≤ n then .ok (.ow (rangeD 0 n.toNat)) else .st
  | _ => .st
section
variable {K : PySem.W.Frag} {g : G0} {H : Hp} {Z : Av}
theorem facN_eq : ∀ n : Nat, Builtin.Math.factorialNat n = facN n
  | 0 => by unfold Builtin.Math.factorialNat facN; first | rfl | simp
  | n + 1 => by rw [PySem.W.mc_fac_succ, facN_eq n]; rfl
theorem cf_list : CallF K (fun xs H Q => ∃ p ys, xs = [.ref p] ∧ (SqL K H p ys ∨ SqT K H p ys) ∧ ∀ l, H l = none → Q (.ref l) (upd H l (.lst ys))) fList := by
  intro g W H Z σ xs vs Q dom r hp
  unfold fList at hp
  split at hp
  · obtain ⟨v, rfl, rv⟩ := r.one_
    obtain ⟨a, ws, rfl, t, rr⟩ := rv.lst_
    exact ⟨a, ws, rfl, .inl t, fun l hl => post_ow hp hl rr⟩
  · obtain ⟨v, rfl, rv⟩ := r.one_
    obtain ⟨a, ws, rfl, t, rr⟩ := rv.tup_
    exact ⟨a, ws, rfl, .inr t.sqT, fun l hl => post_ow hp hl rr⟩
  · exact hp.elim
theorem call_tupleN {X : Cx} : CallR X (.type "tuple") (fun xs H Q => ∃ p ys, xs = [.ref p] ∧ ((SqL X.K H p ys ∧ NewT H ys Q) ∨ (SqT X.K H p ys ∧ Q (.ref p) H))) := by
  intro pins s σ H xs us Q I r h
  obtain ⟨p, ys, rfl, h⟩ := h
  obtain ⟨u, rfl, rx⟩ := vals1 r
  cases rx
  rcases h with ⟨hq, q⟩ | ⟨hq, q⟩
  · obtain ⟨its, r', pl, hz⟩ := I.list hq
    refine call_tuple_list pl.isList (fun h' kp => ?_) (by rw [List.size_toArray, ← r'.length]; exact hz)
    have I1 : Inv X pins σ H { s with heap := h' } := I.kept (t' := s.toks) kp
    exact newT (s := { s with heap := h' }) (t' := s.toks) I1 (fun b o e => Heap.get?_push_of_some _ e) (Nat.le_refl _) (Heap.get?_push_size _ rfl) r' hz q
  · obtain ⟨its, r', pl, hz⟩ := I.tuple hq
    exact call_tuple_same pl ⟨.ref p, H, I, rfl, q⟩
theorem cf_tuple : CallF K (fun xs H Q => ∃ p ys, xs = [.ref p] ∧ ((SqL K H p ys ∧ NewT H ys Q) ∨ (SqT K H p ys ∧ Q (.ref p) H))) fTuple := by
  intro g W H Z σ xs vs Q dom r hp
  unfold fTuple at hp
  split at hp
  · obtain ⟨v, rfl, rv⟩ := r.one_
    obtain ⟨a, ws, rfl, t, rr⟩ := rv.lst_
    exact ⟨a, ws, rfl, .inl ⟨t, post_tup hp rr⟩⟩
  · obtain ⟨v, rfl, rv⟩ := r.one_
    obtain ⟨a, ws, rfl, t, rr⟩ := rv.tup_
    exact ⟨a, ws, rfl, .inr ⟨t.sqT, hp _ H (Same.refl _) (Rep.tup_.mpr ⟨a, ws, rfl, t, rr⟩)⟩⟩
  · exact hp.elim
theorem cf_abs : CallF K (fun xs H Q => ∃ i, xs = [.int i] ∧ Q (.int (if i < 0 then -i else i)) H) fAbs := by
  intro g W H Z σ xs vs Q dom r hp
  unfold fAbs at hp
  split at hp
  · obtain ⟨v, rfl, rv⟩ := r.one_
    exact ⟨_, by rw [rv.int_], hp _ H (Same.refl _) (Rep.int_.mpr rfl)⟩
  · exact hp.elim
theorem cf_int : CallF K (fun xs H Q => (∃ i, xs = [.int i] ∧ Q (.int i) H) ∨ ∃ k, xs = [.bl k] ∧ Q (.int (if k then 1 else 0)) H) fInt := by
  intro g W H Z σ xs vs Q dom r hp
  unfold fInt at hp
  split at hp
  · obtain ⟨v, rfl, rv⟩ := r.one_
    exact .inl ⟨_, by rw [rv.int_], hp _ H (Same.refl _) (Rep.int_.mpr rfl)⟩
  · obtain ⟨v, rfl, rv⟩ := r.one_
    exact .inr ⟨_, by rw [rv.bl_], hp _ H (Same.refl _) (Rep.int_.mpr rfl)⟩
  · exact hp.elim
theorem cf_min : CallF K (fun xs H Q => ∃ i j, xs = [.int i, .int j] ∧ Q (.int (if j < i then j else i)) H) fMin := by
  intro g W H Z σ xs vs Q dom r hp
  unfold fMin at hp
  split at hp
  · obtain ⟨v, u, rfl, r1, r2⟩ := r.two_
    exact ⟨_, _, by rw [r1.int_, r2.int_], hp _ H (Same.refl _) (Rep.int_.mpr rfl)⟩
  · exact hp.elim
theorem cf_max : CallF K (fun xs H Q => ∃ i j, xs = [.int i, .int j] ∧ Q (.int (if j > i then j else i)) H) fMax := by
  intro g W H Z σ xs vs Q dom r hp
  unfold fMax at hp
  split at hp
  · obtain ⟨v, u, rfl, r1, r2⟩ := r.two_
    exact ⟨_, _, by rw [r1.int_, r2.int_], hp _ H (Same.refl _) (Rep.int_.mpr rfl)⟩
  · exact hp.elim
theorem call_fac {X : Cx} : CallR X (.builtin "math.factorial") (fun xs H Q => ∃ i, xs = [.int i] ∧ 0 ≤ i ∧ i ≤ 20000 ∧ Q (.int (facN i.toNat)) H) := by
  intro pins s σ H xs us Q I r h
  obtain ⟨i, rfl, h0, h1, q⟩ := h
  obtain ⟨u, rfl, t, rfl⟩ := vals1 r
  exact PySem.W.mc_factorial h0 h1 fun _ => ⟨.int (facN i.toNat), H, I.tok _, ⟨_, by rw [facN_eq]⟩, q⟩
theorem cf_fac : CallF K (fun xs H Q => ∃ i, xs = [.int i] ∧ 0 ≤ i ∧ i ≤ 20000 ∧ Q (.int (facN i.toNat)) H) fFac := by
  intro g W H Z σ xs vs Q dom r hp
  unfold fFac at hp
  split at hp
  · obtain ⟨v, rfl, rv⟩ := r.one_
    split at hp
    · rename_i hi
      exact ⟨_, by rw [rv.int_], hi.1, by omega, hp _ H (Same.refl _) (Rep.int_.mpr rfl)⟩
    · exact hp.elim
  · exact hp.elim
theorem rangeD_rg {lo hi : Int} : RepL K g H Z (rangeD lo (hi - lo).toNat) (rgV lo hi) := by
  unfold rangeD rgV
  generalize List.range (hi - lo).toNat = l
  induction l with
  | nil => exact RepL.nil_.mpr rfl
  | cons n l ih => exact RepL.cons_.mpr ⟨_, _, rfl, Rep.int_.mpr rfl, ih⟩
end
section
variable {g : G0} {x : L2.St → Prop} {W : WX} {X : Cx} {a b e : Expr} {es : List Expr} {pos p p2 pos2 : Pos} {ma mb : B} {mr : En → R (List D)}
theorem de_list (hg : Gl X "list") (hm : X.mg "list" = none) (ha : PBAd g x W X (e :: es) mr) (he : starEach (e :: es) X.env = (false, eval e X.env) :: starEach es X.env := by rfl) (hpl : (backTo pos (starEach es X.env)).any (·.1) = false := by rfl) :
    PEd g x W X (.Call (.Name "list" p) (e :: es) [] pos) (mCall fList mr) := de_callT call_list_of cf_list hg hm (by decide +kernel) ha (by decide) (by decide) he hpl
theorem de_tuple (hg : Gl X "tuple") (hm : X.mg "tuple" = none) (ha : PBAd g x W X (e :: es) mr) (he : starEach (e :: es) X.env = (false, eval e X.env) :: starEach es X.env := by rfl) (hpl : (backTo pos (starEach es X.env)).any (·.1) = false := by rfl) :
    PEd g x W X (.Call (.Name "tuple" p) (e :: es) [] pos) (mCall fTuple mr) := de_callT call_tupleN cf_tuple hg hm (by decide +kernel) ha (by decide) (by decide) he hpl
theorem de_abs (hg : Gl X "abs") (hm : X.mg "abs" = none) (ha : PBAd g x W X (e :: es) mr) (he : starEach (e :: es) X.env = (false, eval e X.env) :: starEach es X.env := by rfl) (hpl : (backTo pos (starEach es X.env)).any (·.1) = false := by rfl) :
    PEd g x W X (.Call (.Name "abs" p) (e :: es) [] pos) (mCall fAbs mr) := de_callB call_abs cf_abs hg hm (by decide +kernel) ha (by decide) (by decide) he hpl
theorem de_int1 (hg : Gl X "int") (hm : X.mg "int" = none) (ha : PBAd g x W X (e :: es) mr) (he : starEach (e :: es) X.env = (false, eval e X.env) :: starEach es X.env := by rfl) (hpl : (backTo pos (starEach es X.env)).any (·.1) = false := by rfl) :
    PEd g x W X (.Call (.Name "int" p) (e :: es) [] pos) (mCall fInt mr) := de_callT call_int1 cf_int hg hm (by decide +kernel) ha (by decide) (by decide) he hpl
theorem de_min (hc : X.calm = true) (hg : Gl X "min") (hm : X.mg "min" = none) (ha : PBAd g x W X (e :: es) mr) (he : starEach (e :: es) X.env = (false, eval e X.env) :: starEach es X.env := by rfl) (hpl : (backTo pos (starEach es X.env)).any (·.1) = false := by rfl) :
    PEd g x W X (.Call (.Name "min" p) (e :: es) [] pos) (mCall fMin mr) := de_callB (call_min2 hc) cf_min hg hm (by decide +kernel) ha (by decide) (by decide) he hpl
theorem de_max (hc : X.calm = true) (hg : Gl X "max") (hm : X.mg "max" = none) (ha : PBAd g x W X (e :: es) mr) (he : starEach (e :: es) X.env = (false, eval e X.env) :: starEach es X.env := by rfl) (hpl : (backTo pos (starEach es X.env)).any (·.1) = false := by rfl) :
    PEd g x W X (.Call (.Name "max" p) (e :: es) [] pos) (mCall fMax mr) := de_callB (call_max2 hc) cf_max hg hm (by decide +kernel) ha (by decide) (by decide) he hpl
/-- f(..), f a name of the module for a built-in function -/
theorem de_callM {r : List V → Hp → VK → Prop} {F : List D → R Sl} {id : String} {y : Str} (hc : CallR X (.builtin id) r) (hF : CallF X.K r F) (hg : Gl X y) (hm : X.mg y = some (.builtin id)) (ha : PBAd g x W X (e :: es) mr)
    (hdb : (y == ("__debug__" : Str)) = false := by decide) (he : starEach (e :: es) X.env = (false, eval e X.env) :: starEach es X.env := by rfl) (hpl : (backTo pos (starEach es X.env)).any (·.1) = false := by rfl) :
    PEd g x W X (.Call (.Name y p) (e :: es) [] pos) (mCall F mr) :=
  weakE (pe_callBfun hc hg hm ha hdb he hpl) fun σ H Q h => callF hF h
theorem de_listR1 (hc : X.calm = true) (hg : Gl X "list") (hm : X.mg "list" = none) (hg2 : Gl X "range") (hm2 : X.mg "range" = none) (ha : PBd g x W X a ma) (na : starEach [a] X.env = (false, eval a X.env) :: starEach [] X.env := by rfl)
    (na2 : starEach [.Call (.Name "range" p2) [a] [] pos2] X.env = (false, eval (.Call (.Name "range" p2) [a] [] pos2) X.env) :: starEach [] X.env := by rfl) : PEd g x W X (.Call (.Name "list" p) [.Call (.Name "range" p2) [a] [] pos2] [] pos) (mListR1 ma) :=
  weakE (pe_listRg hc hg hm (prg_1 hg2 hm2 ha na) na2) fun σ H Q ⟨env, Z, er, hp⟩ => useB er hp fun d v H1 e1 k1 r1 hp1 => by
    cases d with
    | int n =>
      have hp1 : PostE X.K g W Z σ H1 Q (if n ≤ 1000000 ∧ -1000000 ≤ n then .ok (.ow (rangeD 0 n.toNat)) else .st) := hp1
      split at hp1
      · rename_i hn
        refine ⟨n, r1.int_, ⟨by omega, by omega, by omega, by omega, by omega⟩, fun q hq => ?_⟩
        have rr : RepL X.K g H1 Z (rangeD 0 (n - 0).toNat) (rgV 0 n) := rangeD_rg
        rw [Int.sub_zero] at rr
        exact post_ow hp1 hq rr
      · exact hp1.elim
    | _ => exact hp1.elim
end
end DL
set_option Elab.async false
set_option linter.all false
set_option maxRecDepth 100000
namespace DL
open PySem PySem.Spec L2
open PyProof.Rows hiding St

/-! ### sorting -/
section
variable {α : Type}
def ins (le : α → α → Bool) (a : α) : List α → List α
  | [] => [a]
  | b :: l => if le a b = true then a :: b :: l else b :: ins le a l
def isort (le : α → α → Bool) : List α → List α
  | [] => []
  | a :: l => ins le a (isort le l)
open PySem.W in
theorem ins_mem {le : α → α → Bool} {a x : α} : ∀ {l : List α}, x ∈ ins le a l → x = a ∨ x ∈ l
  | [], h => by simp [ins] at h; exact .inl h
  | b :: l, h => by
    unfold ins at h
    split at h
    · rcases List.mem_cons.mp h with e | e
      · exact .inl e
      · exact .inr e
    · rcases List.mem_cons.mp h with e | e
      · exact .inr (by rw [e]; exact List.mem_cons_self)
      · rcases ins_mem e with e | e
        · exact .inl e
        · exact .inr (List.mem_cons_of_mem _ e)
open PySem.W in
theorem ins_sorted {le : α → α → Bool} (h : TotalLe le) {a : α} : ∀ {l : List α}, l.Pairwise (fun a b => le a b = true) → (ins le a l).Pairwise (fun a b => le a b = true)
  | [], _ => by simp [ins]
  | b :: l, q => by
    obtain ⟨q1, q2⟩ := List.pairwise_cons.mp q
    unfold ins
    split
    · rename_i hab
      refine List.pairwise_cons.mpr ⟨fun x hx => ?_, q⟩
      rcases List.mem_cons.mp hx with e | e
      · rw [e]; exact hab
      · exact h.trans _ _ _ hab (q1 x e)
    · rename_i hab
      have hba : le b a = true := (h.total a b).elim (fun e => absurd e hab) id
      refine List.pairwise_cons.mpr ⟨fun x hx => ?_, ins_sorted h q2⟩
      rcases ins_mem hx with e | e
      · rw [e]; exact hba
      · exact q1 x e
open PySem.W in
theorem ins_filter {le : α → α → Bool} (h : TotalLe le) {a c : α} : ∀ {l : List α}, (ins le a l).filter (sameRank le c) = (a :: l).filter (sameRank le c)
  | [] => rfl
  | b :: l => by
    unfold ins
    split
    · rfl
    · rename_i hab
      rw [List.filter_cons, ins_filter h, List.filter_cons, List.filter_cons, List.filter_cons]
      cases pa : sameRank le c a with
      | true =>
        have pb : sameRank le c b = false := by
          cases e : sameRank le c b with
          | false => rfl
          | true =>
            unfold sameRank at pa e
            rw [Bool.and_eq_true] at pa e
            exact absurd (h.trans _ _ _ pa.2 e.1) hab
        rw [pb]
        simp only [Bool.false_eq_true, if_false, if_true]
      | false =>
        simp only [Bool.false_eq_true, if_false]
open PySem.W in
theorem isort_eq {le : α → α → Bool} (h : TotalLe le) (l : List α) : isort le l = l.mergeSort le := by
  refine sort_unique h ?_ fun c => ?_
  · induction l with
    | nil => exact List.Pairwise.nil
    | cons a l ih => exact ins_sorted h ih
  · induction l with
    | nil => rfl
    | cons a l ih =>
      show (ins le a (isort le l)).filter _ = _
      rw [ins_filter h, List.filter_cons, List.filter_cons, ih]
end
def leD (a b : D) : Bool := PySem.W.dataLe false toPy a b
def isTupC : D → Bool
  | .tup (_ :: _) => true
  | _ => false
def noTN : D → Bool
  | .non => false
  | .tup _ => false
  | _ => true
def okSort (xs : List D) : Bool := (xs.all fun a => noObj a && decide ((toPy a).depth ≤ 60)) && (xs.all fun a => xs.all fun b => PySem.W.alike (toPy a) (toPy b)) && (xs.all isTupC || xs.all noTN) && decide (xs.length ≤ lim)
def fSorted : List D → R Sl
  | [.lst xs] => if okSort xs = true then .ok (.ow (isort leD xs)) else .st
  | [.tup xs] => if okSort xs = true then .ok (.ow (isort leD xs)) else .st
  | _ => .st
section
variable {K : PySem.W.Frag} {g : G0} {H : Hp} {Z : Av}
open PySem.W
theorem leD_total : TotalLe leD := (sortLe_total (PyProof.Rows.listOrd PyProof.Rows.itemOrd) false fun d => keyToks (toPy d) : TotalLe (dataLe false toPy))
theorem okSort_parts {xs : List D} (h : okSort xs = true) : (∀ a ∈ xs, noObj a = true ∧ (toPy a).depth ≤ 60) ∧ AllAlike (xs.map toPy) ∧ Sortable (xs.map toPy) ∧ xs.length ≤ lim := by
  unfold okSort at h
  simp only [Bool.and_eq_true, Bool.or_eq_true, List.all_eq_true, decide_eq_true_eq] at h
  obtain ⟨⟨⟨h1, h2⟩, h3⟩, h4⟩ := h
  refine ⟨h1, fun d hd d' hd' => ?_, ?_, h4⟩
  · obtain ⟨a, ha, rfl⟩ := List.mem_map.mp hd
    obtain ⟨b, hb, rfl⟩ := List.mem_map.mp hd'
    exact h2 a ha b hb
  · rcases h3 with h3 | h3
    · refine .inl fun d hd => ?_
      obtain ⟨a, ha, rfl⟩ := List.mem_map.mp hd
      have q := h3 a ha
      cases a with
      | tup ys => cases ys with
        | nil => cases q
        | cons y ys => exact ⟨toPy y, toPyL ys, by simp only [toPy, toPyL]⟩
      | _ => cases q
    · refine .inr fun d hd => ?_
      obtain ⟨a, ha, rfl⟩ := List.mem_map.mp hd
      have q := h3 a ha
      have o := (h1 a ha).1
      cases a <;> first | (cases q; done) | (simp [noObj] at o; done) | exact ⟨(by simp only [toPy]; intro z; cases z), fun xs => (by simp only [toPy]; intro z; cases z)⟩
theorem each_reps {X : Cx} {pins : List (Addr × Obj)} {σ : L2.St} {H : Hp} {s : Shared} (I : Inv X pins σ H s) : ∀ {ds : List D} {vs : List V} {us : List Value}, (∀ a ∈ ds, noObj a = true) → RepL X.K g H Z ds vs → Vals vs us →
    EachIs (fun u d => ∃ v, RelV v u ∧ Rep X.K g H Z d v) us ds ∧ EachIs (fun u d => ∃ as, Reads s.heap u (toPy d) as) us ds
  | [], vs, us, _, r, q => by
    rw [RepL.nil_.mp r] at q
    cases q
    exact ⟨.nil, .nil⟩
  | d :: ds, vs, us, n, r, q => by
    obtain ⟨v, ws, e, h1, h2⟩ := RepL.cons_.mp r
    subst e
    cases q with
    | cons r1 r2 =>
      obtain ⟨i1, i2⟩ := each_reps I (fun a ha => n a (List.mem_cons_of_mem _ ha)) h2 r2
      obtain ⟨as, rd⟩ := Dp.reads I (toPy d) v _ (Rep.dp d v (n d List.mem_cons_self) h1) r1
      exact ⟨.cons ⟨v, r1, h1⟩ i1, .cons ⟨as, rd⟩ i2⟩
theorem reps_each {R : Value → D → Prop} : ∀ {us : List Value} {ds : List D}, EachIs (fun u d => ∃ v, RelV v u ∧ Rep K g H Z d v) us ds → ∃ vs, Vals vs us ∧ RepL K g H Z ds vs
  | _, _, .nil => ⟨[], .nil, RepL.nil_.mpr rfl⟩
  | _, _, .cons ⟨v, h1, h2⟩ t => by
    obtain ⟨vs, q1, q2⟩ := reps_each (R := R) t
    exact ⟨v :: vs, .cons h1 q1, RepL.cons_.mpr ⟨v, vs, rfl, h2, q2⟩⟩
def rSortD (K : PySem.W.Frag) : List V → Hp → VK → Prop := fun vs H Q => ∃ (a : Addr) (ws : List V) (g : G0) (Z : Av) (ds : List D), vs = [.ref a] ∧ (SqL K H a ws ∨ SqT K H a ws) ∧ RepL K g H Z ds ws ∧ okSort ds = true ∧
  ∀ p ys, H p = none → RepL K g H Z (isort leD ds) ys → Q (.ref p) (upd H p (.lst ys))
theorem cr_sortD {X : Cx} (hu : X.A.units + 65 < cLine) : CallR X (.builtin "sorted") (rSortD X.K) := by
  intro pins s σ H xs us Q I r h
  obtain ⟨a, ws, g, Z, ds, rfl, hq, rr, ok, q⟩ := h
  obtain ⟨u, rfl, ru⟩ := vals1 r
  cases ru
  obtain ⟨o1, o2, o3, o4⟩ := okSort_parts ok
  have fin : ∀ {its : List Value}, Vals ws its → ∀ out : List Value, out.length = ds.length → EachIs (fun u d => ∃ v, RelV v u ∧ Rep X.K g H Z d v) out (ds.mergeSort (dataLe false toPy)) →
      EP X pins σ Q (.ref (s.heap.objs.size + 1)) { s with heap := sortedAll s.heap its (List.toArray out) } := fun {its} rv out hl e => by
    obtain ⟨ys, q1, q2⟩ := reps_each (R := fun _ _ => True) e
    obtain ⟨ep, he'⟩ := PyProof.Rows.sortedAll_at s.heap its (List.toArray out)
    have em : ds.mergeSort (dataLe false toPy) = isort leD ds := (isort_eq leD_total ds).symm
    rw [em] at q2
    exact ⟨.ref _, upd H (s.heap.objs.size + 1) (.lst ys), I.laid (t' := s.toks) (fun _ _ => PyProof.Rows.sortedAll_old) (Nat.le_succ _) ⟨by rw [q1.length, hl]; exact limLine o4, out, ep, q1, he'⟩, rfl, q _ ys (I.hok.fresh (Nat.le_succ _)) q2⟩
  have hdep : ∀ b, b ∈ ds → X.A.units + 2 + (toPy b).depth < cLine := fun b hb => by
    have := (o1 b hb).2
    omega
  rcases hq with hq | hq
  · obtain ⟨its, rv, pl, hz⟩ := I.list hq
    obtain ⟨e1, e2⟩ := each_reps I (fun a ha => (o1 a ha).1) rr rv
    exact sorted_data pl.isList e1 e2 o2 o3 (limLine o4) hdep (fin rv)
  · obtain ⟨its, rv, pl, hz⟩ := I.tuple hq
    obtain ⟨e1, e2⟩ := each_reps I (fun a ha => (o1 a ha).1) rr rv
    have hL : its.length ≤ sizeLine := by rw [← rv.length]; exact hz
    refine sorted_tup pl hL fun E' => ?_
    have er : EachIs (fun v b => ∃ as, Reads (sortingHeap (copyHeap s.heap its) (s.heap.objs.size + 1) its) v (toPy b) as) its ds := e2.mono fun _ _ ⟨as, r⟩ => ⟨as, PyProof.Rows.Reads.keeps (fun _ _ => sorting_copy_old) r⟩
    exact list_sort_vals (s := { s with heap := copyHeap s.heap its }) (copyHeap_at s.heap its)
      (SortsAt.data (A := X.A.in1.in1) (s := { s with heap := sortingHeap (copyHeap s.heap its) (s.heap.objs.size + 1) its }) (each_map (R := fun v d => ∃ as, Reads (sortingHeap (copyHeap s.heap its) (s.heap.objs.size + 1) its) v d as) toPy er) o2 o3
        (bound_map fun b hb => by have := hdep b hb; show X.A.units + 1 + 1 + _ < _; omega)) hL
      ⟨rfl, fin rv _ (by rw [sortVals_length false rfl]; exact e1.length) (sortVals_data false e1 er o2)⟩
theorem cf_sort : CallF K (rSortD K) fSorted := by
  intro g W H Z σ xs vs Q dom r hp
  unfold fSorted at hp
  split at hp
  · obtain ⟨v, rfl, rv⟩ := r.one_
    obtain ⟨a, ws, rfl, t, rr⟩ := rv.lst_
    split at hp
    · exact ⟨a, ws, g, Z, _, rfl, .inl t, rr, by assumption, fun p ys hn q => post_ow hp hn q⟩
    · exact hp.elim
  · obtain ⟨v, rfl, rv⟩ := r.one_
    obtain ⟨a, ws, rfl, t, rr⟩ := rv.tup_
    split at hp
    · exact ⟨a, ws, g, Z, _, rfl, .inr t.sqT, rr, by assumption, fun p ys hn q => post_ow hp hn q⟩
    · exact hp.elim
  · exact hp.elim
end
section
variable {g : G0} {x : L2.St → Prop} {W : WX} {X : Cx} {a b e : Expr} {es : List Expr} {pos p p2 pos2 : Pos} {ma mb : B} {mr : En → R (List D)}
theorem de_sorted (hu : X.A.units + 65 < cLine) (hg : Gl X "sorted") (hm : X.mg "sorted" = none) (ha : PBAd g x W X (e :: es) mr) (he : starEach (e :: es) X.env = (false, eval e X.env) :: starEach es X.env := by rfl) (hpl : (backTo pos (starEach es X.env)).any (·.1) = false := by rfl) :
    PEd g x W X (.Call (.Name "sorted" p) (e :: es) [] pos) (mCall fSorted mr) := de_callB (cr_sortD hu) cf_sort hg hm (by decide +kernel) ha (by decide) (by decide) he hpl
end

/-! ### slices -/
def sIxD (n d : Nat) : Option Int → Nat := HT.sIx n d
def cutD {α : Type} (xs : List α) (lo hi : Option Int) : List α := (xs.drop (HT.sIx xs.length 0 lo)).take (HT.sIx xs.length xs.length hi - HT.sIx xs.length 0 lo)
def fSl (d : D) (lo hi : Option Int) : R Sl := match d with
  | .tup xs => .ok (.fr (.tup (cutD xs lo hi)))
  | .lst xs => .ok (.ow (cutD xs lo hi))
  | .str z => if z.length ≤ lim then .ok (.fr (.str (cutS z lo hi))) else .st
  | _ => .st
def asI : D → R (Option Int)
  | .int i => .ok (some i)
  | _ => .st
abbrev BO := En → R (Option Int)
def oNone : BO := fun _ => .ok none
def oSome (m : B) : BO := fun env => (m env).bind asI
def mSl (m : B) (l u : BO) : M := fun env => (m env).bind fun d => (l env).bind fun lo => (u env).bind fun hi => fSl d lo hi
def rSlN (K : PySem.W.Frag) : V → Option Int → Option Int → Hp → VK → Prop := fun x lo hi H Q => ∃ a xs, x = .ref a ∧ SqT K H a xs ∧
  (HT.sIx xs.length 0 lo = 0 ∧ HT.sIx xs.length xs.length hi = xs.length → Q (.ref a) H) ∧ (¬ (HT.sIx xs.length 0 lo = 0 ∧ HT.sIx xs.length xs.length hi = xs.length) → NewT H (cutV xs lo hi) Q)

section
variable {X : Cx}
theorem sl_tupN : SlR X (rSlN X.K) := by
  intro pins s σ H x v vl vu lo hi sl Q I rx hs pl pu h
  obtain ⟨a, xs, rfl, hx, q1, q2⟩ := h
  cases rx
  obtain ⟨its, r, ht, hz⟩ := I.tuple hx
  have hlen : its.toArray.size = xs.length := by rw [List.size_toArray]; exact r.length.symm
  refine ⟨"tuple", _, PyProof.Rows.slot_tuple_getitem.lookup, ht.typeIs, ?_⟩
  by_cases hw : HT.sIx xs.length 0 lo = 0 ∧ HT.sIx xs.length xs.length hi = xs.length
  · exact getItem_tuple_whole ht hs pl pu (by rw [hlen]; exact hw) ⟨.ref a, H, I, rfl, q1 hw⟩
  · refine HT.getItem_tuple_cut ht hs pl pu (by rw [hlen]; exact hw) ?_ (by rw [hlen]; exact hz)
    rw [hlen]
    exact newT (t' := s.toks) I (fun b ob q => Heap.get?_push_of_some _ q) (Nat.le_refl _) (Heap.get?_push_size _ rfl) ((r.drop (HT.sIx xs.length 0 lo)).take (HT.sIx xs.length xs.length hi - HT.sIx xs.length 0 lo))
      (Nat.le_trans (cutV_length xs lo hi) hz) (q2 hw)
end
section
variable {K : PySem.W.Frag} {g : G0} {H : Hp} {Z : Av}
theorem cut_rep {xs : List D} {vs : List V} {lo hi : Option Int} (r : RepL K g H Z xs vs) : RepL K g H Z (cutD xs lo hi) (cutV vs lo hi) := by
  unfold cutD cutV
  rw [r.length]
  exact RepL.take _ (RepL.drop _ r)
theorem cut_whole {xs : List D} {lo hi : Option Int} (h : HT.sIx xs.length 0 lo = 0 ∧ HT.sIx xs.length xs.length hi = xs.length) : cutD xs lo hi = xs := by
  unfold cutD
  rw [h.1, h.2, List.drop_zero, Nat.sub_zero, List.take_length]
theorem slPost {W : WX} {σ : L2.St} {d : D} {v : V} {lo hi : Option Int} {Q : VK} (rx : RepB K g H Z d v) (hp : PostE K g W Z σ H Q (fSl d lo hi)) : (rSlN K v lo hi H Q ∨ rSlL K v lo hi H Q) ∨ rSlS v lo hi H Q := by
  cases d with
  | tup xs =>
    obtain ⟨a, ws, rfl, t, rr⟩ := rx.tup_
    have hl := rr.length
    refine .inl (.inl ⟨a, ws, rfl, t.sqT, fun hw => ?_, fun _ => post_tup hp (cut_rep rr)⟩)
    have e : fSl (.tup xs) lo hi = .ok (.fr (.tup xs)) := by
      show R.ok (Sl.fr (.tup (cutD xs lo hi))) = _
      rw [cut_whole (by rw [hl]; exact hw)]
    rw [e] at hp
    exact hp _ H (Same.refl _) (Rep.tup_.mpr ⟨a, ws, rfl, t, rr⟩)
  | lst xs =>
    obtain ⟨a, ws, rfl, t, rr⟩ := rx.lst_
    exact .inl (.inr ⟨a, ws, rfl, t, fun p hn => post_ow hp hn (cut_rep rr)⟩)
  | str z =>
    have hp : PostE K g W Z σ H Q (if z.length ≤ lim then .ok (.fr (.str (cutS z lo hi))) else .st) := hp
    split at hp
    · exact .inr ⟨z, rx.str_, limLine (by assumption), hp _ H (Same.refl _) (Rep.str_.mpr rfl)⟩
    · exact hp.elim
  | _ => exact hp.elim
end
section
variable {g : G0} {x : L2.St → Prop} {W : WX} {X : Cx} {a b e : Expr} {es : List Expr} {pos p p2 pos2 : Pos} {ma mb : B} {l u : BO}
def tO (K : PySem.W.Frag) (g : G0) (x : L2.St → Prop) (W : WX) (m : BO) : TO := fun σ H Q => ∃ env Z, ERel K g x Z env σ H ∧ match m env with
  | .ok o => ∀ H', Same H H' → Q o H'
  | .ex c p => ∀ H' dd, Same H H' → ExP K g H' Z p dd → W (.ref (g.cl c)) dd σ H'
  | .st => False
abbrev POd (g : G0) (x : L2.St → Prop) (W : WX) (X : Cx) (e : Option Expr) (m : BO) : Prop := PO X e (tO X.K g x W m)
theorem do_none : POd g x W X none oNone := ⟨fun pins s σ H Q I ⟨env, Z, er, hp⟩ => po_none.run pins s σ H Q I (hp H (Same.refl _))⟩
theorem do_some (h : PBd g x W X a ma) : POd g x W X (some a) (oSome ma) := ⟨fun pins s σ H Q I ⟨env, Z, er, hp⟩ => (po_some h).run pins s σ H Q I (by
  refine ⟨env, Z, er, ?_⟩
  unfold oSome at hp
  cases em : ma env with
  | ok d =>
    rw [em] at hp
    intro v H' k r
    cases d with
    | int i => exact ⟨i, r.int_, hp H' k⟩
    | _ => exact hp.elim
  | ex c p => rw [em] at hp; exact hp
  | st => rw [em] at hp; exact hp)⟩
theorem de_sl (he : PBd g x W X e ma) (hl : POd g x W X a' l) (hu : POd g x W X b' u) : PEd g x W X (.Subscript e (.Slice a' b' none p2) pos) (mSl ma l u) :=
  weakE (pe_slice ((sl_tupN.or sl_list).or sl_str) he hl hu) fun σ H Q ⟨env, Z, er, hp⟩ => useB er hp fun d v H1 e1 k1 r1 hp1 => by
    refine ⟨env, Z, er.mono k1, ?_⟩
    cases el : l env with
    | ok lo =>
      rw [el] at hp1
      intro H2 k2
      refine ⟨env, Z, er.mono (k1.trans k2), ?_⟩
      have hp2 : PostE X.K g W Z σ H2 Q ((u env).bind fun hi => fSl d lo hi) := PostE.later k2 hp1
      cases eu : u env with
      | ok hi =>
        rw [eu] at hp2
        intro H3 k3
        exact slPost (r1.mono (k2.trans k3)) (PostE.later k3 hp2)
      | ex c p => rw [eu] at hp2; exact hp2
      | st => rw [eu] at hp2; exact hp2
    | ex c p => rw [el] at hp1; exact hp1
    | st => rw [el] at hp1; exact hp1
end

/-! ### isinstance with a built-in class -/
inductive Ty where
  | int | bool | tuple | list | str
def Ty.nm : Ty → String
  | .int => "int"
  | .bool => "bool"
  | .tuple => "tuple"
  | .list => "list"
  | .str => "str"
def fIs (t : Ty) : D → R Sl
  | .int _ => .ok (.fr (.bl (match t with | .int => true | _ => false)))
  | .bl _ => .ok (.fr (.bl (match t with | .int => true | .bool => true | _ => false)))
  | .str _ => .ok (.fr (.bl (match t with | .str => true | _ => false)))
  | .tup _ => .ok (.fr (.bl (match t with | .tuple => true | _ => false)))
  | .lst _ => .ok (.fr (.bl (match t with | .list => true | _ => false)))
  | .non => .ok (.fr (.bl false))
  | _ => .st
section
variable {K : PySem.W.Frag} {g : G0} {H : Hp} {Z : Av}
theorem isi_rule {X : Cx} (t : Ty) {a : Expr} {pos p p2 : Pos} {ta : TE} (hg : Gl X "isinstance") (hm : X.mg "isinstance" = none) (hg2 : Gl X (Str.ofString t.nm)) (hm2 : X.mg (Str.ofString t.nm) = none) (ha : PE X a ta)
    (hv : bootBuiltins (Str.ofString t.nm) = some (.type t.nm)) (hn : (Str.ofString t.nm) ≠ "__name__") (hd : ((Str.ofString t.nm) == ("__debug__" : Str)) = false)
    (he : starEach [a, .Name (Str.ofString t.nm) p2] X.env = (false, eval a X.env) :: starEach [.Name (Str.ofString t.nm) p2] X.env) (he2 : starEach [.Name (Str.ofString t.nm) p2] X.env = (false, eval (.Name (Str.ofString t.nm) p2) X.env) :: starEach [] X.env) :
    PE X (.Call (.Name "isinstance" p) [a, .Name (Str.ofString t.nm) p2] [] pos) (fun σ H Q => ta σ H fun x H1 => rIsi X.K [x, .ty t.nm] H1 Q) := by
  have q : PA X [a, .Name (Str.ofString t.nm) p2] (tCons ta (tCons (tC (.ty t.nm)) tNil)) := pa_cons ha (pa_cons (pe_bltn (v := .ty t.nm) hg2 hm2 hv rfl hn hd) pa_nil he2) he
  exact pe_callB call_isi hg hm (by decide +kernel) q (by decide) (by decide) he (by rw [he2]; rfl)
theorem tyX_tu {a : Addr} {vs : List V} (h : Tu K H a vs) : TyX K H (.ref a) (.type "tuple") := by
  rcases h with ⟨o, e, _⟩ | ⟨o, its, n, e, c, _⟩
  · exact .fTuple e
  · exact .kTuple e c
theorem tyX_rd {a : Addr} {vs : List V} (h : SqL K H a vs) : TyX K H (.ref a) (.type "list") := by
  rcases h with (e | ⟨o, e⟩) | ⟨o, its, n, e, c, _⟩
  · exact .base (.lst e)
  · exact .base (.frz e)
  · exact .kList e c
theorem uf_is (t : Ty) : UnF K (fun x H Q => rIsi K [x, .ty t.nm] H Q) (fIs t) := by
  intro g W H Z σ x v Q dom rx hp
  have fin : ∀ {n : String} {b : Bool}, kitB n t.nm = some b → TyX K H v (.type n) → Q (.bl b) H → rIsi K [v, .ty t.nm] H Q := fun {n b} hk ty q => ⟨v, .ty t.nm, .type n, .type t.nm, b, rfl, .ty _, ty, kit_ty hk, q⟩
  cases x with
  | non => rw [rx.non_] at fin ⊢; cases t <;> exact fin (n := "NoneType") (by decide +kernel) (.base .non) (hp _ H (Same.refl _) (Rep.bl_.mpr rfl))
  | bl b => rw [rx.bl_] at fin ⊢; cases t <;> exact fin (n := "bool") (by decide +kernel) (.base (.bl b)) (hp _ H (Same.refl _) (Rep.bl_.mpr rfl))
  | int b => rw [rx.int_] at fin ⊢; cases t <;> exact fin (n := "int") (by decide +kernel) (.base (.int b)) (hp _ H (Same.refl _) (Rep.bl_.mpr rfl))
  | str b => rw [rx.str_] at fin ⊢; cases t <;> exact fin (n := "str") (by decide +kernel) (.base (.str b)) (hp _ H (Same.refl _) (Rep.bl_.mpr rfl))
  | tup xs =>
    obtain ⟨a, ws, rfl, tu, rr⟩ := rx.tup_
    cases t <;> exact fin (n := "tuple") (by decide +kernel) (tyX_tu tu) (hp _ H (Same.refl _) (Rep.bl_.mpr rfl))
  | lst xs =>
    obtain ⟨a, ws, rfl, rd, rr⟩ := rx.lst_
    cases t <;> exact fin (n := "list") (by decide +kernel) (tyX_rd rd) (hp _ H (Same.refl _) (Rep.bl_.mpr rfl))
  | obj c fs => exact hp.elim
end
section
variable {g : G0} {x : L2.St → Prop} {W : WX} {X : Cx} {a b e : Expr} {es : List Expr} {pos p p2 pos2 : Pos} {ma mb : B}
theorem de_isi (t : Ty) (hg : Gl X "isinstance") (hm : X.mg "isinstance" = none) (hg2 : Gl X (Str.ofString t.nm)) (hm2 : X.mg (Str.ofString t.nm) = none) (ha : PBd g x W X a ma)
    (hv : bootBuiltins (Str.ofString t.nm) = some (.type t.nm) := by decide +kernel) (hn : (Str.ofString t.nm) ≠ "__name__" := by decide) (hd : ((Str.ofString t.nm) == ("__debug__" : Str)) = false := by decide)
    (he : starEach [a, .Name (Str.ofString t.nm) p2] X.env = (false, eval a X.env) :: starEach [.Name (Str.ofString t.nm) p2] X.env := by rfl) (he2 : starEach [.Name (Str.ofString t.nm) p2] X.env = (false, eval (.Name (Str.ofString t.nm) p2) X.env) :: starEach [] X.env := by rfl) :
    PEd g x W X (.Call (.Name "isinstance" p) [a, .Name (Str.ofString t.nm) p2] [] pos) (mUn (fIs t) ma) :=
  weakE (isi_rule t hg hm hg2 hm2 ha hv hn hd he he2) fun σ H Q ⟨env, Z, er, hp⟩ => useB er hp fun d v H1 e1 k1 r1 hp1 => uf_is t g W H1 Z σ _ _ _ (dom_mono k1 er.dom) r1 hp1
end

/-! ### xs.index(x), t.index(x) -/
def flatD : D → Bool
  | .non => true
  | .bl _ => true
  | .int _ => true
  | .str _ => true
  | _ => false
def fIdxAux (x : D) : List D → Nat → Option Nat
  | [], _ => none
  | d :: ds, n => if eqD d x = true then some n else fIdxAux x ds (n + 1)
def fTupIdx (t x : D) : R Sl := match t with
  | .tup xs => if (flatD x && xs.all flatD) = true then match fIdxAux x xs 0 with
    | some j => .ok (.fr (.int j))
    | none => .st else .st
  | _ => .st
def fLstIdx (t x : D) : R Sl := match t with
  | .lst xs => if (okE (.lst xs) && okE x) = true then match fIdxAux x xs 0 with
    | some j => .ok (.fr (.int j))
    | none => .st else .st
  | _ => .st
def mTupIdx (mo me : B) : M := fun env => (mo env).bind fun t => match t with
  | .tup xs => (me env).bind fun x => fTupIdx (.tup xs) x
  | _ => .st
theorem idx_at {x : D} : ∀ {xs : List D} {n j : Nat}, fIdxAux x xs n = some j → n ≤ j ∧ ∃ d, xs[j - n]? = some d ∧ eqD d x = true ∧ ∀ m e, m < j - n → xs[m]? = some e → eqD e x = false
  | [], n, j, h => by cases h
  | d :: ds, n, j, h => by
    unfold fIdxAux at h
    split at h
    · cases h
      rename_i he
      exact ⟨Nat.le_refl _, d, by rw [Nat.sub_self]; rfl, he, fun m e hm => by omega⟩
    · rename_i he
      obtain ⟨h1, c, h2, h3, h4⟩ := idx_at h
      have ej : j - n = (j - (n + 1)) + 1 := by omega
      refine ⟨by omega, c, by rw [ej]; exact h2, h3, fun m e hm hq => ?_⟩
      cases m with
      | zero =>
        cases hq
        exact Bool.eq_false_iff.mpr he
      | succ m => exact h4 m e (by omega) hq
section
variable {K : PySem.W.Frag} {g : G0} {H : Hp} {Z : Av}
theorem flat_rep {d : D} {v : V} (f : flatD d = true) (r : Rep K g H Z d v) : flatV v = true := by
  cases d with
  | non => rw [Rep.non_.mp r]; rfl
  | bl b => rw [Rep.bl_.mp r]; rfl
  | int b => rw [Rep.int_.mp r]; rfl
  | str b => rw [Rep.str_.mp r]; rfl
  | _ => cases f
theorem flat_eq {d e : D} {v u : V} (f : flatD d = true) (f' : flatD e = true) (r : Rep K g H Z d v) (r' : Rep K g H Z e u) : eqV v u = eqD d e := by
  cases d with
  | non => rw [Rep.non_.mp r]; cases e <;> first | (cases f'; done) | (first | rw [Rep.non_.mp r'] | rw [Rep.bl_.mp r'] | rw [Rep.int_.mp r'] | rw [Rep.str_.mp r']) <;> simp only [eqV, eqD]
  | bl b => rw [Rep.bl_.mp r]; cases e <;> first | (cases f'; done) | (first | rw [Rep.non_.mp r'] | rw [Rep.bl_.mp r'] | rw [Rep.int_.mp r'] | rw [Rep.str_.mp r']) <;> simp only [eqV, eqD]
  | int b => rw [Rep.int_.mp r]; cases e <;> first | (cases f'; done) | (first | rw [Rep.non_.mp r'] | rw [Rep.bl_.mp r'] | rw [Rep.int_.mp r'] | rw [Rep.str_.mp r']) <;> simp only [eqV, eqD]
  | str b => rw [Rep.str_.mp r]; cases e <;> first | (cases f'; done) | (first | rw [Rep.non_.mp r'] | rw [Rep.bl_.mp r'] | rw [Rep.int_.mp r'] | rw [Rep.str_.mp r']) <;> simp only [eqV, eqD]
  | _ => cases f
theorem flat_all : ∀ {ds : List D} {vs : List V}, ds.all flatD = true → RepL K g H Z ds vs → vs.all flatV = true
  | [], vs, _, r => by rw [RepL.nil_.mp r]; rfl
  | d :: ds, vs, f, r => by
    obtain ⟨v, ws, e, h1, h2⟩ := RepL.cons_.mp r
    subst e
    simp only [List.all_cons, Bool.and_eq_true] at f ⊢
    exact ⟨flat_rep f.1 h1, flat_all f.2 h2⟩
theorem flatB {d : D} {v : V} (f : flatD d = true) (r : RepB K g H Z d v) : Rep K g H Z d v := by
  rcases r with r | ⟨xs, _, _, e, _⟩
  · exact r
  · subst e; cases f
theorem RepL.get' : ∀ {ds : List D} {vs : List V} {i : Nat} {v : V}, RepL K g H Z ds vs → vs[i]? = some v → ∃ d, ds[i]? = some d ∧ Rep K g H Z d v := fun {ds vs i v} r e => by
  have hl : i < ds.length := by rw [r.length]; exact (List.getElem?_eq_some_iff.mp e).1
  obtain ⟨w, hw, q⟩ := r.get (List.getElem?_eq_getElem hl)
  rw [e] at hw
  cases hw
  exact ⟨_, List.getElem?_eq_getElem hl, q⟩
theorem all_get {ds : List D} {i : Nat} {d : D} (f : ds.all flatD = true) (h : ds[i]? = some d) : flatD d = true := List.all_eq_true.mp f d (List.mem_of_getElem? h)
end
section
variable {g : G0} {x : L2.St → Prop} {W : WX} {X : Cx} {o e : Expr} {pos apos cpos : Pos} {mo me : B}
theorem de_tupIdx (ho : PBd g x W X o mo) (he : PBd g x W X e me) (hbase : attributeBase o "index" X.env (eval o X.env) = eval o X.env := by rfl) (hline : (apos.endLine == cpos.line) = true := by rfl)
    (hse : starEach [e] X.env = [(false, eval e X.env)] := by rfl) : PEd g x W X (.Call (.Attribute o "index" apos) [e] [] cpos) (mTupIdx mo me) :=
  weakE (pe_bmT PySem.F.plainAttrs_tuple PySem.F.slot_tuple_index PySem.F.type_tuple_index mt_tupIndex ho (pa_cons he pa_nil hse) hbase (by rw [hse]; rfl) hline hse rfl) fun σ H Q ⟨env, Z, er, hp⟩ =>
    useB er hp fun d v H1 e1 k1 r1 hp1 => by
      cases d with
      | tup xs =>
        obtain ⟨a, ws, rfl, tu, rr⟩ := r1.tup_
        refine ⟨⟨a, ws, rfl, tu⟩, ?_⟩
        refine useB (er.mono k1) hp1 fun d2 v2 H2 e2 k2 r2 hp2 => ?_
        have hp2 : PostE X.K g W Z σ H2 Q (if (flatD d2 && xs.all flatD) = true then match fIdxAux d2 xs 0 with
          | some j => .ok (.fr (.int j))
          | none => .st else .st) := hp2
        split at hp2
        · rename_i hf
          rw [Bool.and_eq_true] at hf
          split at hp2
          · rename_i j hj
            obtain ⟨_, c, h2, h3, h4⟩ := idx_at hj
            rw [Nat.sub_zero] at h2 h4
            have rr2 : RepL X.K g H2 Z xs ws := RepL.mono (.same_ k2) _ _ rr
            obtain ⟨z, hz, qz⟩ := rr2.get h2
            have rx := flatB hf.1 r2
            refine ⟨a, ws, v2, j, z, rfl, rfl, ((Kp.same_ (Z := Z) k2).tu tu).sqT, flat_rep hf.1 rx, flat_all hf.2 rr2, hz, ?_, fun m z' hm hz' => ?_, hp2 _ H2 (Same.refl _) (Rep.int_.mpr rfl)⟩
            · rw [flat_eq (all_get hf.2 h2) hf.1 qz rx]; exact h3
            · obtain ⟨d', hd', q'⟩ := rr2.get' hz'
              rw [flat_eq (all_get hf.2 hd') hf.1 q' rx]
              exact h4 m d' hm hd'
          · exact hp2.elim
        · exact hp2.elim
      | _ => exact hp1.elim
end
end DL
set_option Elab.async false
set_option linter.all false
set_option maxRecDepth 100000
namespace DL
open PySem PySem.Spec L2
open PyProof.Rows hiding St

/-! ### enumerate(list or tuple) -/
section
open PySem AutoSeq1
set_option maxHeartbeats 1000000 in
theorem enum_new1 {v : Value} {o : Obj} {G : Heap → Prop} (Bg : Begins v o G) :
    Meets (Builtin.«enumerate.__new__» ⟨[.type "enumerate", v], []⟩) (fun _ R s => G s.heap ∧
      R (.ok (.ret (.ref (s.heap.push o).objs.size))) { s with heap := (s.heap.push o).push { cls := .type "enumerate", data := .fields #[.none, .bool false, .ref s.heap.objs.size, rawInt 0, .none, .none] } }) :=
  .of_wp fun prog w A R s h => by
    obtain ⟨hp, gs, dr, tk, os⟩ := s
    obtain ⟨h1, h⟩ := h
    have hsub := sub_enumerate
    have nx : ∀ {A' : Around} {E : Value → Shared → Prop} {Q : Value → Shared → Prop}, Q (.ref hp.objs.size) ⟨hp.push o, gs, dr, tk, os⟩ → wpAny (model prog w) A' (pyIter v) Q E ⟨hp, gs, dr, tk, os⟩ :=
      fun q => Bg.iter prog w _ _ ⟨hp, gs, dr, tk, os⟩ _ h1 q
    wp_walk using nx
    refine wpAny_stack_any fun st => wpAny_pure ?_
    split
    · rename_i cc _ _ _ _ _
      cases (cc == Value.type "enumerate") <;> (wp_walk using nx; exact ⟨_, rfl, h⟩)
    · wp_walk using nx
      exact ⟨_, rfl, h⟩
theorem enum_call {prog : Program} {w : World} {A : Around} {E : Value → Shared → Prop} {s : Shared} {v : Value} {o : Obj} {G : Heap → Prop} {Q : Value → Shared → Prop} (Bg : Begins v o G) (h1 : G s.heap)
    (h : ∀ h', IsEnum h' (s.heap.objs.size + 1) s.heap.objs.size 0 .none → h'.get? s.heap.objs.size = some o → h'.objs.size = s.heap.objs.size + 2 → (∀ b o, s.heap.get? b = some o → h'.get? b = some o) → Q (.ref (s.heap.objs.size + 1)) { s with heap := h' }) :
    wpAny (model prog w) A (call (.type "enumerate") [v]) Q E s := by
  refine callType_new F.called_enumerate (by decide) (F.typeCall_enumerate_1 _) (F.newCall_enumerate_1 _) (fun obj => F.args_object_init_2 obj _) F.entry_enumerate_new (enum_new1 Bg) ⟨h1, ?_⟩
  have hz : (s.heap.push o).objs.size = s.heap.objs.size + 1 := Heap.size_push ..
  show _ ∧ _
  rw [hz]
  have he : IsEnum ((s.heap.push o).push { cls := .type "enumerate", data := .fields #[.none, .bool false, .ref s.heap.objs.size, rawInt 0, .none, .none] }) (s.heap.objs.size + 1) s.heap.objs.size 0 .none := by
    have q := Heap.get?_push_size (s.heap.push o) (o := { cls := .type "enumerate", data := .fields #[.none, .bool false, .ref s.heap.objs.size, rawInt 0, .none, .none] }) rfl
    rw [hz] at q
    exact q
  exact ⟨⟨_, he, rfl⟩, h _ he (Heap.get?_push_of_some _ (Heap.get?_push_size _ Bg.free)) (by rw [Heap.size_push, hz]) fun b o x => Heap.get?_push_of_some _ (Heap.get?_push_of_some _ x)⟩
end
/-- the items of what sq tells, each in a new pair with its number -/
def ItE (sq : Hp → List V → Prop) : It :=
  ⟨fun i H => ∃ (xs : List V) (x : V), sq H xs ∧ xs[i]? = some x, fun i H v H' => ∃ (T : Addr) (o : Obj) (x : V), v = .ref T ∧ H T = none ∧ o.cls = .type "tuple" ∧ o.dict = none ∧ H' = upd H T (.frz o (.tup [.int (i : Nat), x])) ∧ ∀ xs, sq H xs → xs[i]? = some x,
    fun i H => ∃ xs : List V, sq H xs ∧ xs.length ≤ i⟩
section
variable {P : Program} {w : World} {K : PySem.W.Frag} {elts : List Expr} {kk : Nat} {tpos : Pos}
theorem enum_new_ok {X : Cx} {pins : List (Addr × Obj)} {s : Shared} {σ : L2.St} {H : Hp} {e it : Addr} {i : Nat} {x : V} {u : Value} {tk : Nat} {t : Tok} {h' : Heap} (I : Inv X pins σ H s) (hf : ∀ b ∈ [e, it], FpOk X pins H b)
    (hT : h'.get? s.heap.objs.size = some { cls := .type "tuple", data := .seq #[.int i t, u] }) (ru : RelV x u) (hk : ∀ b o, b ∉ [e, it] → s.heap.get? b = some o → h'.get? b = some o) :
    Inv X pins σ (upd H s.heap.objs.size (.frz { cls := .type "tuple", data := .seq #[.int i t, u] } (.tup [.int (i : Nat), x]))) { s with heap := h', toks := tk } := by
  have new : ObjOk X.prog X.w (upd H s.heap.objs.size (.frz { cls := .type "tuple", data := .seq #[.int i t, u] } (.tup [.int (i : Nat), x]))) h' s.heap.objs.size (.frz { cls := .type "tuple", data := .seq #[.int i t, u] } (.tup [.int (i : Nat), x])) :=
    ⟨hT, by show 2 ≤ sizeLine; decide, [.int i t, u], .cons ⟨_, rfl⟩ (.cons ru .nil), ⟨_, hT, rfl, _, rfl⟩⟩
  exact I.turnedNew (ch := [e, it]) hk hf (Nat.le_refl _) new
theorem turn_enumT (a e it : Addr) : Turn P w K (.Tuple elts kk tpos) (ItE fun H xs => SqT K H a xs) [e, it] e (fun i h => (∃ old, IsEnum h e it ((i : Nat) : Int) old) ∧ h.IsTupleIter it a i ∧ e ≠ it) where
  mem := by simp
  obj := fun i h st b hb => by
    obtain ⟨⟨old, he⟩, ⟨o, ho, hc, hd⟩, _⟩ := st
    rcases (show b = e ∨ b = it by simpa using hb) with z | z
    · rw [z]; exact ⟨_, he, fun v q => nomatch q⟩
    · rw [z]; exact ⟨o, ho, fun v q => by rw [hd] at q; cases q⟩
  keep := fun i h h' st k => let ⟨⟨old, he⟩, hi, hne⟩ := st; ⟨⟨old, k e (by simp) _ he⟩, hi.at fun o q => k it (by simp) o q, hne⟩
  item := by
    intro X hP hw hK hc i pins s σ H E I hf st hg
    subst hP hw hK
    obtain ⟨⟨old, he⟩, hit, hne⟩ := st
    obtain ⟨xs, x, hq, hx⟩ := hg
    obtain ⟨its, rv, p, hz⟩ := I.tuple hq
    obtain ⟨u, hu, ru⟩ := rv.get hx
    have hlt : i < its.toArray.size := by rw [List.size_toArray]; exact (List.getElem?_eq_some_iff.mp hu).1
    have nat : a ≠ it := fun z => by
      obtain ⟨o1, h1, c1, _⟩ := p
      obtain ⟨o2, h2, c2, _⟩ := hit
      rw [z, h2] at h1
      cases h1
      rw [c2] at c1
      injection c1 with q
      exact absurd q (by decide)
    have nae : e ≠ a := fun z => by
      obtain ⟨o1, h1, c1, _⟩ := p
      have h2 : s.heap.get? e = _ := he
      rw [z, h1] at h2
      cases h2
      injection c1 with q
      exact absurd q (by decide)
    have hel : e < s.heap.objs.size := Heap.lt_size he
    have hil : it < s.heap.objs.size := by obtain ⟨_, q, _⟩ := hit; exact Heap.lt_size q
    refine wpAny_pyNext_enum_itemD (Draws.tuple (A := X.A.in1) (show X.A.in1.handled = none from I.ok.hd hc) it a nat its.toArray) he ⟨hit, p⟩ hlt hne (by simp [hne, nae]) fun y h' tk hP ho hs' hT hsz hk => ?_
    have ey : y = u := by
      have hP : its.toArray[i]? = some y := hP
      rw [List.getElem?_toArray, hu] at hP
      exact (Option.some.inj hP).symm
    subst ey
    refine ⟨_, rfl, wpAny_letOwnedTupleGo_enum (s := { s with heap := h', toks := tk + 1 }) ho fun h'' he' sb => ?_⟩
    have hT2 := (sb.2 _ (Nat.ne_of_gt hel)).trans hT
    have I1 := enum_new_ok (tk := tk + 1) I hf hT2 ru fun b ob hb q => (sb.2 b (fun z => hb (by simp [z]))).trans (hk b ob (fun z => hb (by simp [z])) (fun z => hb (by simp [z])) q)
    refine ⟨.ref s.heap.objs.size, _, I1, rfl, ⟨_, _, x, rfl, I.hok.fresh (Nat.le_refl _), rfl, rfl, rfl, fun ys hy => by rw [I.tuple_inj hy hq]; exact hx⟩, ⟨⟨y, ?_⟩, hs'.1.at fun o q => (sb.2 it (Ne.symm hne)).trans q, hne⟩, fun b hb => ?_⟩
    · have e1 : ((i + 1 : Nat) : Int) = (i : Int) + 1 := by omega
      rw [e1]; exact he'
    · have hb' : b < s.heap.objs.size := by
        rcases (show b = e ∨ b = it by simpa using hb) with z | z
        · rw [z]; exact hel
        · rw [z]; exact hil
      rw [upd_ne (Nat.ne_of_lt hb')]
      exact (hf b hb).1
  done := by
    intro X hP hw hK hc i pins s σ H E I hf st hg
    subst hP hw hK
    obtain ⟨⟨old, he⟩, hit, hne⟩ := st
    obtain ⟨xs, hq, hx⟩ := hg
    obtain ⟨its, rv, p, hz⟩ := I.tuple hq
    obtain ⟨f0, f1, f2, f3, f4, f5⟩ := hf it (by simp)
    have hl := rv.length
    have hT : s.TypeIs (.ref e) "enumerate" := ⟨_, he, rfl⟩
    unfold pyNext
    refine wpAny_bind (wpAny_attempt (wpAny_callSpecial?_slot (name := Str.ofString "__next__") hT F.slot_enumerate_next (wpAny_call_entry F.slot_enumerate_next hT F.entry_enumerate_next ?_ (F.args_enumerate_next_1 _))))
    show wpAny _ _ (field (.ref e) 2 >>= _) _ _ _
    refine wpAny_bind (wpAny_field he rfl (x := .ref it) rfl ?_)
    refine wpAny_bind (wpAny_nextOf_tuple_end (show X.A.in1.handled = none from I.ok.hd hc) hit p (by rw [List.getElem?_toArray]; exact List.getElem?_eq_none (by omega)) fun h' y eb hy => ?_)
    obtain ⟨oy, hoy, hcy⟩ := hy
    refine wpAny_bind (wpAny_isInstance (T := "StopIteration") (b := true) ⟨oy, hoy, hcy⟩ isSubtype_stop ?_)
    exact wpAny_pure ⟨rfl, I.turned (t' := s.toks) (fun b o hb q => eb b o hb q) f0 f1 f3 f4 f5⟩
  self := fun A i s Q E st h => let ⟨⟨_, he⟩, _⟩ := st; wpAny_pyIter_enum he h

theorem turn_enumL (a e it : Addr) : Turn P w K (.Tuple elts kk tpos) (ItE fun H xs => SqL K H a xs) [e, it] e (fun i h => (∃ old, IsEnum h e it ((i : Nat) : Int) old) ∧ h.IsListIter it a i ∧ e ≠ it) where
  mem := by simp
  obj := fun i h st b hb => by
    obtain ⟨⟨old, he⟩, ⟨o, ho, hc, hd⟩, _⟩ := st
    rcases (show b = e ∨ b = it by simpa using hb) with z | z
    · rw [z]; exact ⟨_, he, fun v q => nomatch q⟩
    · rw [z]; exact ⟨o, ho, fun v q => by rw [hd] at q; cases q⟩
  keep := fun i h h' st k => let ⟨⟨old, he⟩, hi, hne⟩ := st; ⟨⟨old, k e (by simp) _ he⟩, hi.at fun o q => k it (by simp) o q, hne⟩
  item := by
    intro X hP hw hK hc i pins s σ H E I hf st hg
    subst hP hw hK
    obtain ⟨⟨old, he⟩, hit, hne⟩ := st
    obtain ⟨xs, x, hq, hx⟩ := hg
    obtain ⟨its, rv, p, hz⟩ := I.list hq
    obtain ⟨u, hu, ru⟩ := rv.get hx
    have hel : e < s.heap.objs.size := Heap.lt_size he
    have hil : it < s.heap.objs.size := by obtain ⟨_, q, _⟩ := hit; exact Heap.lt_size q
    refine wpAny_pyNext_enum_item he hit p.isList (x := u) (by simpa using hu) hne fun h' ho hit' hT hsz hk => ?_
    refine ⟨_, rfl, wpAny_letOwnedTupleGo_enum (s := { s with heap := h', toks := s.toks + 1 }) ho fun h'' he' sb => ?_⟩
    have hT2 := (sb.2 _ (Nat.ne_of_gt hel)).trans hT
    have I1 := enum_new_ok (tk := s.toks + 1) I hf hT2 ru fun b ob hb q => (sb.2 b (fun z => hb (by simp [z]))).trans (hk b ob (fun z => hb (by simp [z])) (fun z => hb (by simp [z])) q)
    refine ⟨.ref s.heap.objs.size, _, I1, rfl, ⟨_, _, x, rfl, I.hok.fresh (Nat.le_refl _), rfl, rfl, rfl, fun ys hy => by rw [I.list_inj hy hq]; exact hx⟩, ⟨⟨u, ?_⟩, hit'.at fun o q => (sb.2 it (Ne.symm hne)).trans q, hne⟩, fun b hb => ?_⟩
    · have e1 : ((i + 1 : Nat) : Int) = (i : Int) + 1 := by omega
      rw [e1]; exact he'
    · have hb' : b < s.heap.objs.size := by
        rcases (show b = e ∨ b = it by simpa using hb) with z | z
        · rw [z]; exact hel
        · rw [z]; exact hil
      rw [upd_ne (Nat.ne_of_lt hb')]
      exact (hf b hb).1
  done := by
    intro X hP hw hK hc i pins s σ H E I hf st hg
    subst hP hw hK
    obtain ⟨⟨old, he⟩, hit, hne⟩ := st
    obtain ⟨xs, hq, hx⟩ := hg
    obtain ⟨its, rv, p, hz⟩ := I.list hq
    obtain ⟨f0, f1, f2, f3, f4, f5⟩ := hf it (by simp)
    have hl := rv.length
    exact wpAny_pyNext_enum_end (I.ok.hd hc) he hit p.isList (by simp; omega) fun h' eb => ⟨rfl, I.turned (t' := s.toks) (fun b o hb q => eb b o hb q) f0 f1 f3 f4 f5⟩
  self := fun A i s Q E st h => let ⟨⟨_, he⟩, _⟩ := st; wpAny_pyIter_enum he h
end
section
variable {X : Cx} {e : Expr} {te : TE} {p pos tpos : Pos} {elts : List Expr} {kk : Nat}
theorem pi_enumA (hg : Gl X "enumerate") (hm : X.mg "enumerate" = none) (he : PE X e te) (hs : starEach [e] X.env = (false, eval e X.env) :: starEach [] X.env := by rfl) :
    PI X (.Tuple elts kk tpos) (.Call (.Name "enumerate" p) [e] [] pos) (fun σ H R => te σ H fun v H1 => ∃ a xs, v = .ref a ∧ ((SqL X.K H1 a xs ∧ R (ItE fun H xs => SqL X.K H a xs) H1) ∨ (SqT X.K H1 a xs ∧ R (ItE fun H xs => SqT X.K H a xs) H1))) := by
  refine ⟨fun pins s σ H R I h => ?_⟩
  refine Call_ (ld_blt I hg hm PyProof.Rows.boot_enumerate (PyProof.Rows.callWith_type1 (args_cons (thn (he.run pins s σ H _ I h) fun u s1 ⟨v, H1, I1, r1, q1⟩ => args_nil ?_) hs) hs rfl))
  obtain ⟨a, xs, ev, hq⟩ := q1
  subst ev
  cases r1
  have fp : ∀ b ∈ [s1.heap.objs.size + 1, s1.heap.objs.size], FpOk X pins H1 b := fun b hb => by
    have hle : s1.heap.objs.size ≤ b := by
      rcases (show b = s1.heap.objs.size + 1 ∨ b = s1.heap.objs.size by simpa using hb) with z | z
      · rw [z]; exact Nat.le_add_right _ _
      · rw [z]; exact Nat.le_refl _
    exact I1.fpOk hle (I1.hok.fresh hle)
  rcases hq with ⟨hq, q⟩ | ⟨hq, q⟩
  · obtain ⟨its, rv, p', hz⟩ := I1.list hq
    refine enum_call (begins_list a its.toArray) p'.isList fun h' he ho hsz hk => wpAny_pyIter_enum he ?_
    have I2 : Inv X pins σ H1 { s1 with heap := h' } := I1.kept (t' := s1.toks) hk
    exact ⟨s1.heap.objs.size + 1, [s1.heap.objs.size + 1, s1.heap.objs.size], _, _, H1, rfl, I2, turn_enumL a (s1.heap.objs.size + 1) s1.heap.objs.size, ⟨⟨.none, he⟩, ⟨_, ho, rfl, rfl⟩, Nat.succ_ne_self _⟩, fp, q⟩
  · obtain ⟨its, rv, p', hz⟩ := I1.tuple hq
    refine enum_call (begins_tuple a its.toArray) (show s1.heap.IsTuple a its.toArray from p') fun h' he ho hsz hk => wpAny_pyIter_enum he ?_
    have I2 : Inv X pins σ H1 { s1 with heap := h' } := I1.kept (t' := s1.toks) hk
    exact ⟨s1.heap.objs.size + 1, [s1.heap.objs.size + 1, s1.heap.objs.size], _, _, H1, rfl, I2, turn_enumT a (s1.heap.objs.size + 1) s1.heap.objs.size, ⟨⟨.none, he⟩, ⟨_, ho, rfl, rfl⟩, Nat.succ_ne_self _⟩, fp, q⟩
end
def enumD (n : Nat) : List D → List D
  | [] => []
  | d :: ds => .tup [.int n, d] :: enumD (n + 1) ds
def mEnum (m : M) : En → R (List D) := fun env => (m env).bind fun s => (asSeq s.d).bind fun xs => .ok (enumD 0 xs)
theorem enumD_get : ∀ {xs : List D} {n i : Nat} {d : D}, (enumD n xs)[i]? = some d → ∃ c, xs[i]? = some c ∧ d = .tup [.int ((n + i : Nat) : Int), c]
  | [], n, i, d, h => by simp [enumD] at h
  | x :: xs, n, 0, d, h => by
    unfold enumD at h
    simp at h
    exact ⟨x, rfl, h.symm⟩
  | x :: xs, n, i + 1, d, h => by
    unfold enumD at h
    obtain ⟨c, h1, h2⟩ := enumD_get (by simpa using h)
    exact ⟨c, by simpa using h1, by rw [h2, show n + 1 + i = n + (i + 1) by omega]⟩
theorem enumD_length : ∀ {xs : List D} {n : Nat}, (enumD n xs).length = xs.length
  | [], n => rfl
  | x :: xs, n => by unfold enumD; rw [List.length_cons, List.length_cons, enumD_length]
section
variable {K : PySem.W.Frag} {g : G0} {Z : Av} {H : Hp}
theorem walk_enum {sq : Hp → List V → Prop} {ds : List D} {vs : List V} (r : RepL K g H Z ds vs) (hs : ∀ H', Kp H Z H' (fun _ => False) → sq H' vs) : Walk K g Z H (ItE sq) (enumD 0 ds) where
  go := fun i d H' e k => by
    obtain ⟨c, h1, _⟩ := enumD_get e
    obtain ⟨v, h3, _⟩ := r.get h1
    exact ⟨vs, v, hs H' k, h3⟩
  yld := fun i d H' v H'' e k y => by
    obtain ⟨T, o, x, rfl, hn, oc, od, rfl, hy⟩ := y
    obtain ⟨c, h1, h2⟩ := enumD_get e
    obtain ⟨u, h3, q⟩ := r.get h1
    have e4 := hy vs (hs H' k)
    rw [h3] at e4
    cases e4
    refine ⟨same_upd hn, fun Z' k2 hz => ?_⟩
    rw [h2, Nat.zero_add]
    exact Rep.tup_.mpr ⟨T, _, rfl, .inl ⟨o, upd_same, oc, od⟩, RepL.cons_.mpr ⟨_, _, rfl, Rep.int_.mpr rfl, .one (Rep.mono k2 _ _ q)⟩⟩
  stop := fun i H' l k => ⟨vs, hs H' k, by rw [enumD_length] at l; rw [← r.length]; exact l⟩
end
section
variable {g : G0} {x : L2.St → Prop} {W : WX} {X : Cx} {e : Expr} {p pos tpos : Pos} {elts : List Expr} {kk : Nat} {m : M}
theorem di_enum (hg : Gl X "enumerate") (hm : X.mg "enumerate" = none) (he : PEd g x W X e m) (hs : starEach [e] X.env = (false, eval e X.env) :: starEach [] X.env := by rfl) : PId g x W X (.Tuple elts kk tpos) (.Call (.Name "enumerate" p) [e] [] pos) (mEnum m) :=
  weakI (pi_enumA hg hm he hs) fun σ H Rn ⟨env, Z, er, hp⟩ => by
    refine use er ?_
    unfold mEnum at hp
    cases em : m env with
    | ok s =>
      rw [em] at hp
      have hp : PostI X.K g W Z σ H Rn ((asSeq s.d).bind fun xs => .ok (enumD 0 xs)) := hp
      intro v H' k r
      cases ed : s.d with
      | lst xs =>
        rw [ed] at hp r
        obtain ⟨a, vs, ev, rd, rr⟩ := Rep.lst_.mp r
        exact ⟨a, vs, ev, .inl ⟨rd.sq, hp _ H' k (walk_enum rr fun H2 k2 => (k2.ls rd).sq)⟩⟩
      | tup xs =>
        rw [ed] at hp r
        obtain ⟨a, vs, ev, tu, rr⟩ := Rep.tup_.mp r
        exact ⟨a, vs, ev, .inr ⟨tu.sqT, hp _ H' k (walk_enum rr fun H2 k2 => (k2.tu tu).sqT)⟩⟩
      | _ => rw [ed] at hp; exact hp.elim
    | ex c p => rw [em] at hp; exact hp
    | st => rw [em] at hp; exact hp.elim
end

/-! ### xs.append(ys.pop(k)); a, b = divmod(x, y) -/
section
variable {g : G0} {x : L2.St → Prop} {W : WX} {X : Cx} {ek : Expr} {pos apos cpos apos2 cpos2 p p2 : Pos} {mk : B} {y z : Str}
theorem ds_appPop (i j : Nat) (hN : X.N[i]? = some y) (hv : Vis X.env.scope y) (hd : (y == ("__debug__" : Str)) = false) (hcd : (y == ("__classdict__" : Str)) = false)
    (hN2 : X.N[j]? = some z) (hv2 : Vis X.env.scope z) (hd2 : (z == ("__debug__" : Str)) = false) (hcd2 : (z == ("__classdict__" : Str)) = false) (hk : PBd g x W X ek mk)
    (hb1 : attributeBase (.Name y p) "append" X.env (eval (.Name y p) X.env) = eval (.Name y p) X.env) (hb2 : attributeBase (.Name z p2) "pop" X.env (eval (.Name z p2) X.env) = eval (.Name z p2) X.env)
    (hl1 : (apos.endLine == cpos.line) = true) (hl2 : (apos2.endLine == cpos2.line) = true) (hs2 : starEach [ek] X.env = [(false, eval ek X.env)])
    (hs1 : starEach [.Call (.Attribute (.Name z p2) "pop" apos2) [ek] [] cpos2] X.env = [(false, eval (.Call (.Attribute (.Name z p2) "pop" apos2) [ek] [] cpos2) X.env)])
    (hs : swapsWith (.Call (.Attribute (.Name y p) "append" apos) [.Call (.Attribute (.Name z p2) "pop" apos2) [ek] [] cpos2] [] cpos) none pos.line X.env = pure false) :
    PSd g x W X (.Expr (.Call (.Attribute (.Name y p) "append" apos) [.Call (.Attribute (.Name z p2) "pop" apos2) [ek] [] cpos2] [] cpos) pos) (sAppPop i j mk) :=
  weakS (ps_expr (pe_bm PySem.F.plainAttrs_list PySem.F.slot_list_append PySem.F.type_list_append mt_append (pe_var hN hv hd hcd)
    (pa_cons (pe_bm PySem.F.plainAttrs_list PySem.F.slot_list_pop PySem.F.type_list_pop mt_popAt (pe_var hN2 hv2 hd2 hcd2) (pa_cons hk pa_nil hs2) hb2 (by rw [hs2]; rfl) hl2 hs2 rfl) pa_nil hs1) hb1 (by rw [hs1]; rfl) hl1 hs1 rfl) hs) fun D σ H ⟨env, A, H0, r, hp⟩ => by
    unfold sAppPop at hp
    split at hp
    · rename_i xs ys e1 e2
      obtain ⟨v, f1, a, vs, ev, za, pa, ra⟩ := r.er.at_ i _ e1
      obtain ⟨u, f2, b, ws, eu, zb, pb, rb⟩ := r.er.at_ j _ e2
      subst ev eu
      refine ⟨.ref a, f1, .inl ⟨rfl, vs, SqL.of pa⟩, .ref b, f2, .inl ⟨rfl, ws, SqL.of pb⟩, env, zz A env σ, r.er, ?_⟩
      cases ek : mk env with
      | ok kd =>
        rw [ek] at hp
        intro w H1 k q
        cases kd with
        | int n =>
          have hp : PostS X.K g x W A H0 D (match ixD ys.length n with
            | some l => match ys[l]? with
              | some d => if i ≠ j ∧ xs.length < lim ∧ -1000000 ≤ n ∧ n ≤ 1000000 then .nx ((env.set j (some (.ow (ys.eraseIdx l)))).set i (some (.ow (xs ++ [d])))) else .st
              | none => .st
            | none => .st) := hp
          split at hp
          · rename_i l hl
            split at hp
            · rename_i d hd
              split at hp
              · rename_i hc
                obtain ⟨nij, hlim, h1, h2⟩ := hc
                have nab : a ≠ b := fun q => nij (r.dist i j xs ys a e1 e2 f1 (by rw [q]; exact f2))
                have r1 := r.later k
                have rb1 := RepL.mono (.same_ (Z := zz A env σ) k) _ _ rb
                have ra1 := RepL.mono (.same_ (Z := zz A env σ) k) _ _ ra
                obtain ⟨vd, hvd, qd⟩ := rb1.get hd
                have hix : ixN ws.length n = some l := by rw [← rb.length]; exact hl
                refine ⟨b, ws, n, l, vd, rfl, by rw [q.int_], k _ _ pb, by omega, by omega, (ixN_seq hix).1, hvd, ?_⟩
                refine ⟨a, vs, vd, rfl, rfl, by rw [upd_ne nab]; exact k _ _ pa, by rw [← ra.length]; exact limLine' hlim, ?_⟩
                have r2 := r1.mut e2 f2 (rb1.eraseIdx l)
                have e1' : (env.set j (some (.ow (ys.eraseIdx l))))[i]? = some (some (.ow xs)) := by rw [List.getElem?_set_ne (Ne.symm nij)]; exact e1
                have kz : Kp H1 (zz A env σ) (upd H1 b (.lst (ws.eraseIdx l))) (zz A (env.set j (some (.ow (ys.eraseIdx l)))) σ) := by
                  have hj : j < env.length := (List.getElem?_eq_some_iff.mp e2).1
                  refine ⟨fun c o e n => by rw [upd_ne (fun q => n (by rw [q]; exact zb))]; exact e, fun c o ts e => ?_, fun c _ n z => n ?_⟩
                  · rw [upd_ne]
                    · exact e
                    · intro q
                      rw [q, k _ _ pb] at e
                      cases e
                  · rcases z with z | ⟨m, us, g1, g2⟩
                    · exact .inl z
                    · rcases set_get g1 with ⟨jm, _, _⟩ | ⟨_, g1⟩
                      · subst jm; exact .inr ⟨j, ys, e2, g2⟩
                      · exact .inr ⟨m, us, g1, g2⟩
                exact hp σ _ (r2.mut e1' f1 ((RepL.mono kz _ _ ra1).append (.one (Rep.mono kz _ _ qd))))
              · exact hp.elim
            · exact hp.elim
          · exact hp.elim
        | _ => exact hp.elim
      | ex c p => rw [ek] at hp; exact fun H' dd k q => hp σ H' dd (r.later k) (exA q)
      | st => rw [ek] at hp; exact hp
    · exact hp.elim
end
theorem call_divmodN {X : Cx} : CallR X (.builtin "divmod") (fun xs H Q => ∃ i j, xs = [.int i, .int j] ∧ CDiv i j ∧ NewT H [.int (i / j), .int (i % j)] Q) := by
  intro pins s σ H xs us Q I r h
  obtain ⟨i, j, rfl, ⟨h1, h2⟩, q⟩ := h
  obtain ⟨u, w', rfl, ⟨t, rfl⟩, ⟨t', rfl⟩⟩ := vals2 r
  refine divmod_int (by omega) ?_ (.inl (PyProof.noPylong_small (by omega)))
  rw [Int.fdiv_eq_ediv_of_nonneg i (by omega), Int.fmod_eq_emod_of_nonneg i (by omega)]
  exact newT (vs := [V.int (i / j), V.int (i % j)]) (us := [.int (i / j) s.toks, .int (i % j) (s.toks + 1)]) I (fun b o e => Heap.get?_push_of_some _ e) (Nat.le_refl _) (Heap.get?_push_size _ rfl) (.cons ⟨_, rfl⟩ (.cons ⟨_, rfl⟩ .nil)) (by show 2 ≤ sizeLine; rw [sizeLine_eq]; decide) q
def fDivmod : List D → R Sl
  | [.int a, .int b] => if 0 < b ∧ b < 1073741824 then .ok (.fr (.tup [.int (a / b), .int (a % b)])) else .st
  | _ => .st
theorem cf_divmod {K : PySem.W.Frag} : CallF K (fun xs H Q => ∃ i j, xs = [.int i, .int j] ∧ CDiv i j ∧ NewT H [.int (i / j), .int (i % j)] Q) fDivmod := by
  intro g W H Z σ xs vs Q dom r hp
  unfold fDivmod at hp
  split at hp
  · obtain ⟨v, u, rfl, r1, r2⟩ := r.two_
    split at hp
    · rename_i hb
      exact ⟨_, _, by rw [r1.int_, r2.int_], hb, post_tup hp (RepL.cons_.mpr ⟨_, _, rfl, Rep.int_.mpr rfl, .one (Rep.int_.mpr rfl)⟩)⟩
    · exact hp.elim
  · exact hp.elim
section
variable {g : G0} {x : L2.St → Prop} {W : WX} {X : Cx} {e : Expr} {es : List Expr} {pos p : Pos} {mr : En → R (List D)}
theorem de_divmod (hg : Gl X "divmod") (hm : X.mg "divmod" = none) (ha : PBAd g x W X (e :: es) mr) (he : starEach (e :: es) X.env = (false, eval e X.env) :: starEach es X.env := by rfl) (hpl : (backTo pos (starEach es X.env)).any (·.1) = false := by rfl) :
    PEd g x W X (.Call (.Name "divmod" p) (e :: es) [] pos) (mCall fDivmod mr) := de_callB call_divmodN cf_divmod hg hm (by decide +kernel) ha (by decide) (by decide) he hpl
end
end DL
set_option Elab.async false
set_option linter.all false
set_option maxRecDepth 100000
namespace DL
open PySem PySem.Spec L2
open PyProof.Rows hiding St

/-! ### f-strings -/
def fFmt : D → R Sl
  | .str y => if y.length ≤ lim then .ok (.fr (.str y)) else .st
  | .int i => if i.natAbs.log2 < 1920 then .ok (.fr (.str (toString i))) else .st
  | _ => .st
def mJ : List B → Str → En → R Str
  | [], acc, _ => .ok acc
  | m :: ms, acc, env => (m env).bind fun d => match d with
    | .str y => if (acc ++ y).length ≤ lim then mJ ms (acc ++ y) env else .st
    | _ => .st
def mJoin (ms : List B) : M := fun env => (mJ ms Str.empty env).bind fun z => .ok (.fr (.str z))
inductive PJd (g : G0) (x : L2.St → Prop) (W : WX) (X : Cx) : List Expr → List B → Prop where
  | nil : PJd g x W X [] []
  | cons {e : Expr} {m : B} {es : List Expr} {ms : List B} (h : PBd g x W X e m) (r : PJd g x W X es ms) : PJd g x W X (e :: es) (m :: ms)
section
variable {g : G0} {x : L2.St → Prop} {W : WX} {X : Cx} {e v1 v2 : Expr} {rest : List Expr} {pos p : Pos} {m : B} {ms : List B}
theorem de_fmt (he : PBd g x W X e m) : PEd g x W X (.FormattedValue e (-1) none pos) (mUn fFmt m) :=
  weakE (pe_fmt he) fun σ H Q ⟨env, Z, er, hp⟩ => useB er hp fun d v H1 e1 k1 r1 hp1 => by
    cases d with
    | str y =>
      simp only [fFmt] at hp1
      split at hp1
      · exact .inl ⟨y, r1.str_, limLine (by assumption), hp1 _ H1 (Same.refl _) (Rep.str_.mpr rfl)⟩
      · exact hp1.elim
    | int i =>
      simp only [fFmt] at hp1
      split at hp1
      · exact .inr ⟨i, r1.int_, by assumption, hp1 _ H1 (Same.refl _) (Rep.str_.mpr rfl)⟩
      · exact hp1.elim
    | _ => exact hp1.elim
theorem pj_of {es : List Expr} (h : PJd g x W X es ms) : PJ X es (ms.map fun m => tB X.K g x W m) := by
  induction h with
  | nil => exact .nil
  | cons h r ih => exact .cons h ih
theorem tjs_ok {K : PySem.W.Frag} : ∀ (ms : List B) (acc : Str) (env : En) (Z : Av) (σ : L2.St) (H : Hp) (Q : Str → Hp → Prop), ERel K g x Z env σ H →
    (match mJ ms acc env with | .ok z => ∀ H', Same H H' → Q z H' | .ex c p => ∀ H' dd, Same H H' → ExP K g H' Z p dd → W (.ref (g.cl c)) dd σ H' | .st => False) → tJs (ms.map fun m => tB K g x W m) acc σ H Q
  | [], acc, env, Z, σ, H, Q, er, hp => hp H (Same.refl _)
  | m :: ms, acc, env, Z, σ, H, Q, er, hp => by
    refine ⟨env, Z, er, ?_⟩
    unfold mJ at hp
    cases em : m env with
    | ok d =>
      rw [em] at hp
      intro v H1 k r
      cases d with
      | str y =>
        have hp : (match (if (acc ++ y).length ≤ lim then mJ ms (acc ++ y) env else .st) with | .ok z => ∀ H', Same H H' → Q z H' | .ex c p => ∀ H' dd, Same H H' → ExP K g H' Z p dd → W (.ref (g.cl c)) dd σ H' | .st => False) := hp
        split at hp
        all_goals (rename_i eq; split at eq <;> first | cases eq | skip)
        all_goals first
          | (refine ⟨y, r.str_, limLine (by assumption), tjs_ok ms (acc ++ y) env Z σ H1 Q (er.mono k) ?_⟩
             rw [eq]
             first
               | exact fun H2 k2 => hp H2 (k.trans k2)
               | exact fun H2 dd k2 q => hp H2 dd (k.trans k2) q)
          | exact hp.elim
      | _ => exact hp.elim
    | ex c p => rw [em] at hp; exact hp
    | st => rw [em] at hp; exact hp
theorem de_joined (h : PJd g x W X (v1 :: v2 :: rest) ms) : PEd g x W X (.JoinedStr (v1 :: v2 :: rest) pos) (mJoin ms) :=
  weakE (pe_joined (pj_of h)) fun σ H Q ⟨env, Z, er, hp⟩ => by
    refine tjs_ok ms Str.empty env Z σ H _ er ?_
    unfold mJoin at hp
    cases ej : mJ ms Str.empty env with
    | ok z => rw [ej] at hp; exact fun H' k => hp _ H' k (Rep.str_.mpr rfl)
    | ex c p => rw [ej] at hp; exact hp
    | st => rw [ej] at hp; exact hp
end

/-! ### isinstance of the caught error -/
section
variable {g : G0} {W : WX} {X : Cx} {a Dc : Addr} {oe : Obj} {pn : List (Addr × Obj)} {i : Nat} {n y : Str} {p p2 p3 pos : Pos}
theorem de_isE {c : V} {cv : Value} {b : Bool} (C : ExcC X.K Dc) (hz : Zc (.ref Dc) none oe) (hf : ∃ vs, oe.data = .fields vs) (hk : PySem.W.kitOne X.K (.ref Dc) cv = some b) (hcv : ∀ u, RelV c u → u = cv)
    (hg : Gl (X.suite a ((a, oe) :: pn)) "isinstance") (hm : X.mg "isinstance" = none) (hc : PE (X.suite a ((a, oe) :: pn)) (.Name y p3) (tC c))
    (hN : X.N[i]? = some n) (hv : Vis X.env.scope n) (hd : (n == ("__debug__" : Str)) = false) (hcd : (n == ("__classdict__" : Str)) = false)
    (he : starEach [.Name n p2, .Name y p3] X.env = (false, eval (.Name n p2) X.env) :: starEach [.Name y p3] X.env) (he2 : starEach [.Name y p3] X.env = (false, eval (.Name y p3) X.env) :: starEach [] X.env) :
    PEd g (xS a i) W (X.suite a ((a, oe) :: pn)) (.Call (.Name "isinstance" p) [.Name n p2, .Name y p3] [] pos) (mC (.bl b)) := by
  have q : PA (X.suite a ((a, oe) :: pn)) [.Name n p2, .Name y p3] (tCons (tVar i) (tCons (tC c) tNil)) := pa_cons (pe_var (X := X.suite a ((a, oe) :: pn)) hN hv hd hcd) (pa_cons hc pa_nil he2) he
  refine weakE (pe_callB (call_isE C hz hf) hg hm (by decide +kernel) q (by decide) (by decide) he (by rw [show starEach [.Name y p3] (X.suite a ((a, oe) :: pn)).env = (false, eval (.Name y p3) X.env) :: starEach [] X.env from he2]; rfl)) fun σ H Q ⟨env, Z, er, hp⟩ => ?_
  exact ⟨.ref a, er.ex, c, cv, b, rfl, hcv, hk, hp _ H (Same.refl _) (Rep.bl_.mpr rfl)⟩
end
end DL
set_option linter.all false
set_option maxRecDepth 100000
set_option maxHeartbeats 4000000
namespace DL
open PySem PySem.Spec L2
open PyProof.Rows hiding St
section
variable {g : G0} {x : L2.St → Prop} {W : WX} {X : Cx}
theorem dss_st {ss : List Stmt} : PSsd g x W X ss (fun _ => .st) := weakSs pss_never fun _ _ _ ⟨_, _, _, _, h⟩ => h
def sup (p : Pl) (m : MS) : MS := match p with
  | none => m
  | some _ => fun _ => .st
theorem sup_case {ss : List Stmt} {m : MS} {p : Pl} {d : Option Addr} {C : Value} {oe : Obj} (hpd : p = none → d = none) (hz : Zc C d oe) (h : Zc C none oe → PSsd g x W X ss m) : PSsd g x W X ss (sup p m) := by
  cases p with
  | none => have := hpd rfl; subst this; exact h hz
  | some v => exact dss_st
end
section
variable {g : G0} {W : WX} {X : Cx} {a Dc : Addr} {oe : Obj} {pn : List (Addr × Obj)} {i : Nat} {n y : Str} {p p2 p3 pos : Pos}
theorem de_isEc {c : Addr} {b : Bool} (C : ExcC X.K Dc) (hz : Zc (.ref Dc) none oe) (hf : ∃ vs, oe.data = .fields vs) (hk : PySem.W.kitOne X.K (.ref Dc) (.ref c) = some b)
    (hg : Gl (X.suite a ((a, oe) :: pn)) "isinstance") (hm : X.mg "isinstance" = none) (hg2 : Gl (X.suite a ((a, oe) :: pn)) y) (hm2 : X.mg y = some (.ref c))
    (hN : X.N[i]? = some n) (hv : Vis X.env.scope n) (hd : (n == ("__debug__" : Str)) = false) (hcd : (n == ("__classdict__" : Str)) = false) (hdy : (y == ("__debug__" : Str)) = false)
    (he : starEach [.Name n p2, .Name y p3] X.env = (false, eval (.Name n p2) X.env) :: starEach [.Name y p3] X.env) (he2 : starEach [.Name y p3] X.env = (false, eval (.Name y p3) X.env) :: starEach [] X.env) :
    PEd g (xS a i) W (X.suite a ((a, oe) :: pn)) (.Call (.Name "isinstance" p) [.Name n p2, .Name y p3] [] pos) (mC (.bl b)) :=
  de_isE (c := .ref c) C hz hf hk (fun _ h => h) hg hm (pe_glob hg2 hm2 rfl hdy) hN hv hd hcd he he2
theorem de_isEb {t : String} {b : Bool} (C : ExcC X.K Dc) (hz : Zc (.ref Dc) none oe) (hf : ∃ vs, oe.data = .fields vs) (hk : PySem.W.kitOne X.K (.ref Dc) (.type t) = some b)
    (hg : Gl (X.suite a ((a, oe) :: pn)) "isinstance") (hm : X.mg "isinstance" = none) (hg2 : Gl (X.suite a ((a, oe) :: pn)) y) (hm2 : X.mg y = none) (hbt : bootBuiltins y = some (.type t))
    (hN : X.N[i]? = some n) (hv : Vis X.env.scope n) (hd : (n == ("__debug__" : Str)) = false) (hcd : (n == ("__classdict__" : Str)) = false) (hdy : (y == ("__debug__" : Str)) = false) (hny : y ≠ "__name__")
    (he : starEach [.Name n p2, .Name y p3] X.env = (false, eval (.Name n p2) X.env) :: starEach [.Name y p3] X.env) (he2 : starEach [.Name y p3] X.env = (false, eval (.Name y p3) X.env) :: starEach [] X.env) :
    PEd g (xS a i) W (X.suite a ((a, oe) :: pn)) (.Call (.Name "isinstance" p) [.Name n p2, .Name y p3] [] pos) (mC (.bl b)) :=
  de_isE (c := .ty t) C hz hf hk (fun _ h => h) hg hm (pe_bltn hg2 hm2 hbt rfl hny hdy) hN hv hd hcd he he2
end
theorem repl_ints {K : PySem.W.Frag} {g : G0} {H : Hp} {Z : Av} : ∀ ns : List Int, RepL K g H Z (ns.map D.int) (ns.map V.int)
  | [] => by unfold RepL; rfl
  | n :: r => by
    show RepL K g H Z (D.int n :: r.map D.int) (V.int n :: r.map V.int)
    unfold RepL
    exact ⟨_, _, rfl, by unfold Rep; rfl, repl_ints r⟩
theorem prom_of {K : PySem.W.Frag} {g : G0} {f : Fn} {ns : List Int} {a : Addr} {vs : List V} {H : Hp} {Q : VK} {E : XK} (e : vs = [.ref a]) (hs : SqL K H a (ns.map V.int)) (hf : f [.lst (ns.map .int)] = .ok (.fr (.bl true))) (k : ∀ H', Q (.bl true) H') : Prom K g f vs H Q E := by
  subst e
  refine ⟨fun _ => False, [.lst (ns.map .int)], fun _ z => z.elim, ?_, ?_⟩
  · unfold RepL
    refine ⟨_, _, rfl, Rep.lst_.mpr ⟨a, _, rfl, ?_, repl_ints ns⟩, by unfold RepL; rfl⟩
    rcases hs with h | h
    · exact .inl ⟨fun z => z, h⟩
    · exact .inr h
  · rw [hf]
    intro v H' _ r
    have := Rep.bl_.mp r
    subst this
    exact k _
open PySem.W in
theorem kit_own {K : Frag} {t : Value} {C : Addr} {b : Bool} (hd : hasDictIn K C = true) (ht : typeIn K (.ref C) = some (.type "type")) (he : subIn K t (.ref C) = some b) (hs : subIn K (.ref C) (.ref C) = some true) : kitOne K t (.ref C) = some b := by
  unfold kitOne
  by_cases e : t = .ref C
  · subst e
    rw [hs] at he
    cases he
    rw [if_pos (beq_self_eq_true _)]
  · rw [if_neg (by rwa [beq_iff_eq])]
    obtain ⟨cd, hc, _⟩ := any_some hd
    show (if ((clsIn K C).isSome && typeIn K (.ref C) == some (.type "type")) = true then subIn K t (.ref C) else none) = some b
    rw [if_pos (by rw [hc, ht] <;> rfl)]
    exact he
open PySem.W in
theorem kit_blt {K : Frag} {C : Addr} {T : String} {b : Bool} (hm : kitMeta T = true) (he : subIn K (.ref C) (.type T) = some b) : kitOne K (.ref C) (.type T) = some b := by
  unfold kitOne
  rw [if_neg (by rw [beq_iff_eq]; intro q; cases q)]
  show (if kitMeta T = true then subIn K (.ref C) (.type T) else none) = some b
  rw [if_pos hm]
  exact he
end DL
set_option Elab.async false
set_option linter.all false
set_option maxRecDepth 100000
set_option maxHeartbeats 4000000
namespace DL
open PySem PySem.Spec L2
open PyProof.Rows hiding St

/-! ### is None -/
def isNon : D → Bool
  | .non => true
  | _ => false
def fIsN : D → D → R Sl
  | d, .non => .ok (.fr (.bl (isNon d)))
  | _, _ => .st
def fNotN : D → D → R Sl
  | d, .non => .ok (.fr (.bl (!isNon d)))
  | _, _ => .st
section
variable {K : PySem.W.Frag} {g : G0} {H : Hp} {Z : Av}
theorem RepB.isNon {d : D} {v : V} (h : RepB K g H Z d v) : decide (v = .non) = isNon d := by
  rcases h with h | ⟨xs, a, vs, e1, e2, _, _⟩
  · cases d with
    | non => rw [Rep.non_.mp h]; rfl
    | bl b => rw [Rep.bl_.mp h]; rfl
    | int i => rw [Rep.int_.mp h]; rfl
    | str y => rw [Rep.str_.mp h]; rfl
    | tup xs => obtain ⟨a, vs, e, _⟩ := Rep.tup_.mp h; rw [e]; rfl
    | lst xs => obtain ⟨a, vs, e, _⟩ := Rep.lst_.mp h; rw [e]; rfl
    | obj c fs =>
      unfold Rep at h
      obtain ⟨a, dx, vs, e, _⟩ := h
      rw [e]; rfl
  · subst e1 e2; rfl
theorem RepB.non' {v : V} (h : RepB K g H Z .non v) : v = .non := by
  rcases h with h | ⟨xs, a, vs, e1, _⟩
  · exact Rep.non_.mp h
  · cases e1
theorem of_isN : OpF K (fun x y H Q => y = .non ∧ Q (.bl (decide (x = .non))) H) fIsN := by
  intro g W H Z σ x y v u Q dom rx ry hp
  cases y <;> first | exact hp.elim | skip
  refine ⟨ry.non', ?_⟩
  rw [rx.isNon]
  exact hp _ H (Same.refl _) (Rep.bl_.mpr rfl)
theorem of_notN : OpF K (fun x y H Q => y = .non ∧ Q (.bl (!decide (x = .non))) H) fNotN := by
  intro g W H Z σ x y v u Q dom rx ry hp
  cases y <;> first | exact hp.elim | skip
  refine ⟨ry.non', ?_⟩
  rw [rx.isNon]
  exact hp _ H (Same.refl _) (Rep.bl_.mpr rfl)
end

/-! ### in -/
def rInT (K : PySem.W.Frag) (n : Bool) : R2 := fun x y H Q => ∃ d ds, Dp K H x d ∧ (Dp K H y (.list ds) ∨ Dp K H y (.tuple ds)) ∧ SeqAt.shaped d = true ∧ SeqAt.shaped (.list ds) = true ∧ Q (.bl (if n = true then !ds.any fun z => PyData.eqv z d else ds.any fun z => PyData.eqv z d)) H
section
variable {X : Cx}
theorem op_inA (hu : X.A.units + 65 < cLine) : OpR X (compareOp .In) (rInT X.K false) := by
  intro pins s σ H x y v u Q I rx ry h
  obtain ⟨d, ds, hd, he, sd, se, q⟩ := h
  obtain ⟨as, r1⟩ := Dp.reads I d x v hd rx
  have q : Q (.bl (ds.any fun z => PyData.eqv z d)) H := q
  rcases he with he | he
  · obtain ⟨bs, r2⟩ := Dp.reads I (.list ds) y u he ry
    exact SeqAt.in_list_reads r2 r1 (SeqAt.canLay_of_shaped se) (SeqAt.canLay_of_shaped sd) (room_in_shaped sd hu) ⟨.bl _, H, I, rfl, q⟩
  · obtain ⟨bs, r2⟩ := Dp.reads I (.tuple ds) y u he ry
    exact SeqAt.in_tuple_reads r2 r1 (SeqAt.canLay_of_shaped se) (SeqAt.canLay_of_shaped sd) (room_in_shaped sd hu) ⟨.bl _, H, I, rfl, q⟩
theorem op_ninA (hu : X.A.units + 65 < cLine) : OpR X (compareOp .NotIn) (rInT X.K true) := by
  intro pins s σ H x y v u Q I rx ry h
  obtain ⟨d, ds, hd, he, sd, se, q⟩ := h
  obtain ⟨as, r1⟩ := Dp.reads I d x v hd rx
  have q : Q (.bl (!ds.any fun z => PyData.eqv z d)) H := q
  rcases he with he | he
  · obtain ⟨bs, r2⟩ := Dp.reads I (.list ds) y u he ry
    exact SeqAt.notIn_list_reads r2 r1 (SeqAt.canLay_of_shaped se) (SeqAt.canLay_of_shaped sd) (room_in_shaped sd hu) ⟨.bl _, H, I, rfl, q⟩
  · obtain ⟨bs, r2⟩ := Dp.reads I (.tuple ds) y u he ry
    exact SeqAt.notIn_tuple_reads r2 r1 (SeqAt.canLay_of_shaped se) (SeqAt.canLay_of_shaped sd) (room_in_shaped sd hu) ⟨.bl _, H, I, rfl, q⟩
end
def seqOf : D → Option (List D)
  | .lst ys => some ys
  | .tup ys => some ys
  | _ => none
def inD (x : D) (ys : List D) : Bool := ys.any fun y => eqD y x
def fInA (n : Bool) (x y : D) : R Sl := match seqOf y with
  | some ys => if (okE x && okE (.lst ys)) = true then .ok (.fr (.bl (if n = true then !inD x ys else inD x ys))) else .st
  | none => .st
def fIn : D → D → R Sl := fInA false
def fNotIn : D → D → R Sl := fInA true
theorem any_eqv {x : D} (hx : noObj x = true) : ∀ ys : List D, noObjL ys = true → ((toPyL ys).any fun z => PyData.eqv z (toPy x)) = inD x ys
  | [], _ => by simp [toPyL, inD]
  | y :: ys, h => by
    simp only [noObjL, Bool.and_eq_true] at h
    have ih := any_eqv hx ys h.2
    unfold inD at ih ⊢
    simp only [toPyL, List.any_cons, ih, eqv_py y x h.1 hx]
section
variable {K : PySem.W.Frag} {g : G0} {H : Hp} {Z : Av}
theorem of_inA (n : Bool) : OpF K (rInT K n) (fInA n) := by
  intro g W H Z σ x y v u Q dom rx ry hp
  unfold fInA at hp
  cases es : seqOf y with
  | none => rw [es] at hp; exact hp.elim
  | some ys =>
    rw [es] at hp
    have hp : PostE K g W Z σ H Q (if (okE x && okE (.lst ys)) = true then .ok (.fr (.bl (if n = true then !inD x ys else inD x ys))) else .st) := hp
    split at hp
    · rename_i hm
      simp only [okE, Bool.and_eq_true] at hm
      have nl : noObjL ys = true := by simpa [noObj] using hm.2.1
      have tl : toPy (.lst ys) = .list (toPyL ys) := by simp [toPy]
      refine ⟨toPy x, toPyL ys, rx.dp hm.1.1, ?_, hm.1.2, by rw [← tl]; exact hm.2.2, ?_⟩
      · cases y with
        | lst zs =>
          cases es
          have q := ry.dp hm.2.1
          rw [tl] at q
          exact .inl q
        | tup zs =>
          cases es
          have q := ry.dp (d := .tup ys) (by simpa [noObj] using nl)
          rw [show toPy (.tup ys) = .tuple (toPyL ys) by simp [toPy]] at q
          exact .inr q
        | _ => cases es
      · rw [any_eqv hm.1.1 ys nl]
        exact hp _ H (Same.refl _) (Rep.bl_.mpr rfl)
    · exact hp.elim
end
section
variable {g : G0} {x : L2.St → Prop} {W : WX} {X : Cx} {a b c e : Expr} {es : List Expr} {pos p : Pos} {ma mb mc : B}
theorem de_isN (ha : PBd g x W X a ma) (hb : PBd g x W X b mb) : PEd g x W X (.Compare a [.Is] [b] pos) (mBin fIsN ma mb) := de_cmp op_isN of_isN ha hb (nomark _)
theorem de_notN (ha : PBd g x W X a ma) (hb : PBd g x W X b mb) : PEd g x W X (.Compare a [.IsNot] [b] pos) (mBin fNotN ma mb) := de_cmp op_notN of_notN ha hb (nomark _)
theorem dt_isN (ha : PBd g x W X a ma) (hb : PBd g x W X b mb) : PTd g x W X (.Compare a [.Is] [b] pos) (mTest (mB (mBin fIsN ma mb))) := dt_cmp op_isN of_isN ha hb (nomark _)
theorem dt_notN (ha : PBd g x W X a ma) (hb : PBd g x W X b mb) : PTd g x W X (.Compare a [.IsNot] [b] pos) (mTest (mB (mBin fNotN ma mb))) := dt_cmp op_notN of_notN ha hb (nomark _)
theorem de_in (hu : X.A.units + 65 < cLine) (ha : PBd g x W X a ma) (hb : PBd g x W X b mb) (hm : behindInMarks .In b = false := by rfl) : PEd g x W X (.Compare a [.In] [b] pos) (mBin fIn ma mb) := de_cmp (op_inA hu) (of_inA false) ha hb hm
theorem de_nin (hu : X.A.units + 65 < cLine) (ha : PBd g x W X a ma) (hb : PBd g x W X b mb) (hm : behindInMarks .NotIn b = false := by rfl) : PEd g x W X (.Compare a [.NotIn] [b] pos) (mBin fNotIn ma mb) := de_cmp (op_ninA hu) (of_inA true) ha hb hm
theorem dt_in (hu : X.A.units + 65 < cLine) (ha : PBd g x W X a ma) (hb : PBd g x W X b mb) (hm : behindInMarks .In b = false := by rfl) : PTd g x W X (.Compare a [.In] [b] pos) (mTest (mB (mBin fIn ma mb))) := dt_cmp (op_inA hu) (of_inA false) ha hb hm
theorem dt_nin (hu : X.A.units + 65 < cLine) (ha : PBd g x W X a ma) (hb : PBd g x W X b mb) (hm : behindInMarks .NotIn b = false := by rfl) : PTd g x W X (.Compare a [.NotIn] [b] pos) (mTest (mB (mBin fNotIn ma mb))) := dt_cmp (op_ninA hu) (of_inA true) ha hb hm

/-! ### two comparisons in a row -/
def mChain (F G : D → D → R Sl) (ma mb mc : B) : M := fun env => (ma env).bind fun u => (mb env).bind fun v => (F u v).bind fun s => (asB s.d).bind fun k => if k = true then (mc env).bind fun w => G v w else .ok (.fr (.bl false))
theorem chainOk {r r' : R2} {F G : D → D → R Sl} (hF : OpF X.K r F) (hG : OpF X.K r' G) {σ : L2.St} {H : Hp} {Q : VK} (h : tM X.K g x W (mChain F G ma mb mc) σ H Q) : tChain r r' (tB X.K g x W ma) (tB X.K g x W mb) (tB X.K g x W mc) σ H Q := by
  obtain ⟨env, Z, er, hp⟩ := h
  refine useB er hp fun s v H1 e1 k1 r1 hp1 => ?_
  refine useB (er.mono k1) hp1 fun s2 u H2 e2 k2 r2 hp2 => ?_
  have er2 := (er.mono k1).mono k2
  refine hF g W H2 Z σ _ _ _ _ _ (dom_mono (k1.trans k2) er.dom) (r1.mono k2) r2 ?_
  cases ef : F s s2 with
  | ok t =>
    rw [ef] at hp2
    have hp2 : PostE X.K g W Z σ H2 Q ((asB t.d).bind fun k => if k = true then (mc env).bind fun w => G s2 w else .ok (.fr (.bl false))) := hp2
    cases t with
    | ow xs => exact hp2.elim
    | fr d =>
      cases d with
      | bl b =>
        intro z H3 k3 rz
        refine ⟨b, Rep.bl_.mp rz, ?_⟩
        cases b with
        | false =>
          have hp3 : PostE X.K g W Z σ H2 Q (.ok (.fr (.bl false))) := hp2
          rw [if_neg Bool.false_ne_true]
          exact hp3 _ H3 k3 (Rep.bl_.mpr rfl)
        | true =>
          have hp3 : PostE X.K g W Z σ H2 Q ((mc env).bind fun w => G s2 w) := hp2
          rw [if_pos rfl]
          refine useB (er2.mono k3) (hp3.later k3) fun w w' H4 e4 k4 r4 hp4 => ?_
          exact hG g W H4 Z σ _ _ _ _ _ (dom_mono (k3.trans k4) er2.dom) (r2.mono (k3.trans k4)) r4 hp4
      | _ => exact hp2.elim
  | ex c p => rw [ef] at hp2; exact hp2
  | st => rw [ef] at hp2; exact hp2
theorem de_chain {op op' : CmpOp} {r r' : R2} {F G : D → D → R Sl} (ho : OpR X (compareOp op) r) (hF : OpF X.K r F) (ho' : OpR X (compareOp op') r') (hG : OpF X.K r' G) (ha : PBd g x W X a ma) (hb : PBd g x W X b mb) (hc : PBd g x W X c mc)
    (hm : lastMarks [op, op'] [b, c] = false := by with_unfolding_all rfl) : PEd g x W X (.Compare a [op, op'] [b, c] pos) (mChain F G ma mb mc) :=
  weakE (pe_chain ho ho' ha hb hc hm) fun σ H Q h => chainOk hF hG h
theorem dt_chain {op op' : CmpOp} {r r' : R2} {F G : D → D → R Sl} (ho : OpR X (compareOp op) r) (hF : OpF X.K r F) (ho' : OpR X (compareOp op') r') (hG : OpF X.K r' G) (ha : PBd g x W X a ma) (hb : PBd g x W X b mb) (hc : PBd g x W X c mc)
    (hm : lastMarks [op, op'] [b, c] = false := by with_unfolding_all rfl) : PTd g x W X (.Compare a [op, op'] [b, c] pos) (mTest (mB (mChain F G ma mb mc))) :=
  weakT (pt_chain ho ho' ha hb hc hm) fun σ H Q h => by
    have q := chainOk hF hG (toTestM h)
    exact q
end
end DL
set_option Elab.async false
set_option linter.all false
set_option maxRecDepth 100000
set_option maxHeartbeats 4000000
namespace DL
open PySem PySem.Spec L2
open PyProof.Rows hiding St

/-! ### a def that calls itself: the first level promises nothing -/
theorem FD.none {P : Program} {w : World} {K : PySem.W.Frag} {mg : Str → Option Value} {base : Heap} {g : G0} {y qual : Str} {st : Stmt} {a : Addr} {fd : FuncData} {ps : List Str} (k : Nat) (F : Fun K y qual st a fd) (hm : mg y = some (.ref a)) (hb : Binds K fd ps []) :
    FD P w K mg base g k y ps (fun _ => .st) :=
  ⟨a, fd, hm, F.kp, hb, ⟨fun _ _ _ _ ⟨_, _, _, _, hp⟩ => hp.elim, fun _ _ _ _ _ _ _ _ _ _ _ _ _ ⟨_, _, _, _, hp⟩ => hp.elim⟩⟩
def recF (n slots : Nat) (m : Fn → MS) : Nat → Fn
  | 0 => fun _ => .st
  | k + 1 => runF n slots (m (recF n slots m k))

/-! ### xs + ys, lists of any kind -/
section
variable {prog : Program} {w : World} {A : Around} {E : Value → Shared → Prop} {s : Shared}
theorem cat_list {l b : Addr} {xs ys : Array Value} {Q : Value → Shared → Prop} (hl : PlainL s.heap l xs) (hb : PlainL s.heap b ys) (hz : xs.size + ys.size ≤ sizeLine)
    (h : Q (.ref s.heap.objs.size) { s with heap := s.heap.push { cls := .type "list", data := .seq (xs ++ ys) } }) : wpAny (model prog w) A (binaryOp .Add (.ref l) (.ref b)) Q E s := by
  obtain ⟨o, n, e, hc, hd, hda⟩ := hl
  obtain ⟨o2, n2, e2, hc2, hd2, hda2⟩ := hb
  refine concat_meets (S := fun _ R s => s.heap.get? l = some o ∧ s.heap.get? b = some o2 ∧ R (.ok (.ret (Value.ref s.heap.objs.size))) { s with heap := s.heap.push { cls := .type "list", data := .seq (xs ++ ys) }, toks := s.toks }) ⟨_, e, hc⟩ ⟨_, e2, hc2⟩ noFill_list_add seq_list_add F.slot_list_add F.entry_list_add (F.args_list_add_2 _ _) ?_ ⟨e, e2, h⟩
  exact .of_wp fun prog w A R s h => by
    obtain ⟨hp, g, d, tk, os⟩ := s
    obtain ⟨hl, hb, h⟩ := h
    have f3 := sub_list_list
    unfold Builtin.«list.__add__»
    refine wpAny_bind (m := slotArgs "__add__" 1 _) (wpAny_pure ?_)
    refine wpAny_bind (wpAny_isInstance (T := "list") (b := true) ⟨o2, hb, hc2⟩ sub_list_list ?_)
    rw [if_neg (by simp)]
    refine wpAny_bind (listItems_at hl hda (wpAny_bind (listItems_at hb hda2 ?_)))
    exact wpAny_bind (wpAny_newObj_type (wpAny_pure ⟨_, rfl, h⟩) (by show (xs ++ ys).size ≤ sizeLine; rw [Array.size_append]; exact hz))
end

section
variable {X : Cx}
def rCatL (K : PySem.W.Frag) : R2 := fun x y H Q => ∃ l b xs zs, x = .ref l ∧ y = .ref b ∧ SqL K H l xs ∧ SqL K H b zs ∧ xs.length + zs.length ≤ sizeLine ∧ ∀ p, H p = none → Q (.ref p) (upd H p (.lst (xs ++ zs)))
theorem op_catL : OpR X (binaryOp .Add) (rCatL X.K) := by
  intro pins s σ H x y v u Q I rx ry h
  obtain ⟨l, b, xs, zs, e1, e2, ha, hb, hz, q⟩ := h
  subst e1 e2
  cases rx
  cases ry
  obtain ⟨its, r, p1, _⟩ := I.list ha
  obtain ⟨its2, r2, p2, _⟩ := I.list hb
  refine cat_list p1 p2 (by rw [List.size_toArray, List.size_toArray, ← r.length, ← r2.length]; exact hz) ?_
  have ea : its.toArray ++ its2.toArray = (its ++ its2).toArray := by simp
  rw [ea]
  exact ⟨.ref _, _, I.lnew (t' := s.toks) (r.append r2) (by rw [List.length_append]; exact hz), rfl, q _ I.fresh⟩
end
def fAddL : D → D → R Sl
  | .lst a, .lst b => if a.length + b.length ≤ lim then .ok (.ow (a ++ b)) else .st
  | x, y => fAdd x y
theorem RepB.lst' {K : PySem.W.Frag} {g : G0} {H : Hp} {Z : Av} {xs : List D} {v : V} (h : RepB K g H Z (.lst xs) v) : ∃ a vs, v = .ref a ∧ SqL K H a vs ∧ RepL K g H Z xs vs := by
  rcases h with h | ⟨ys, a, vs, e1, e2, e3, r⟩
  · obtain ⟨a, vs, e, q, r⟩ := Rep.lst_.mp h
    exact ⟨a, vs, e, q.sq, r⟩
  · cases e1
    exact ⟨a, vs, e2, SqL.of e3, r⟩
theorem of_addL {K : PySem.W.Frag} : OpF K (fun x y H Q => ((rI0 (fun i j => .int (i + j)) x y H Q ∨ ∃ i j, x = .str i ∧ y = .str j ∧ i.length + j.length ≤ sizeLine ∧ Q (.str (i ++ j)) H) ∨ rCatN K x y H Q) ∨ rCatL K x y H Q) fAddL := by
  intro g W H Z σ x y v u Q dom rx ry hp
  by_cases c : ∃ a b, x = .lst a ∧ y = .lst b
  · obtain ⟨a, b, e1, e2⟩ := c
    subst e1 e2
    have hp : PostE K g W Z σ H Q (if a.length + b.length ≤ lim then .ok (.ow (a ++ b)) else .st) := hp
    split at hp
    · rename_i hl
      obtain ⟨l, vs, e1, q1, r1⟩ := rx.lst'
      obtain ⟨l2, ws, e2, q2, r2⟩ := ry.lst'
      refine .inr ⟨l, l2, vs, ws, e1, e2, q1, q2, by rw [← r1.length, ← r2.length]; exact limLine hl, fun p h => post_ow hp h (r1.append r2)⟩
    · exact hp.elim
  · refine .inl (of_add g W H Z σ x y v u Q dom rx ry ?_)
    have e : fAddL x y = fAdd x y := by
      cases x <;> cases y <;> first | rfl | exact absurd ⟨_, _, rfl, rfl⟩ c
    rw [← e]
    exact hp
section
variable {g : G0} {x : L2.St → Prop} {W : WX} {X : Cx} {a b : Expr} {pos : Pos} {ma mb : B}
theorem de_addL (ha : PBd g x W X a ma) (hb : PBd g x W X b mb) : PEd g x W X (.BinOp a .Add b pos) (mBin fAddL ma mb) := de_op (((op_add.or op_add_str).or op_catN).or op_catL) of_addL ha hb
end
end DL
set_option Elab.async false
set_option linter.all false
set_option maxRecDepth 100000
set_option maxHeartbeats 4000000
namespace DL
open PySem PySem.Spec L2
open PyProof.Rows hiding St
/-! ### slices that go backwards, step -1 -/
def backN (n : Nat) (lo hi : Option Int) : Int × Nat := ((Builtin.Slice.sliceAdjust lo hi (-1) n).1, Builtin.Slice.slicePlaces (Builtin.Slice.sliceAdjust lo hi (-1) n).1 (Builtin.Slice.sliceAdjust lo hi (-1) n).2 (-1))
def backIx (n : Nat) (lo hi : Option Int) : List Nat := (List.range (backN n lo hi).2).map fun (k : Nat) => ((backN n lo hi).1 + (k : Int) * (-1)).toNat
def pick {α : Type} (xs : List α) (is : List Nat) : List α := is.filterMap (xs[·]?)
section
variable {prog : Program} {w : World} {A : Around} {E : Value → Shared → Prop} {s : Shared}
theorem applied_back {sl : Addr} {vl vu : Value} {t : Tok} {lo hi : Option Int} {n : Nat} {Q : Int × Int × Nat → Shared → Prop} (hs : s.heap.IsSliceOf sl vl vu (.int (-1) t)) (pl : IsPart vl lo) (pu : IsPart vu hi)
    (h : Q ((backN n lo hi).1, -1, (backN n lo hi).2) s) : wpAny (model prog w) A (Builtin.Slice.sliceApplied (.ref sl) (pure (n : Int))) Q E s := by
  obtain ⟨os, hos, hcs, hds⟩ := hs
  unfold Builtin.Slice.sliceApplied Builtin.Slice.sliceFields
  refine wpAny_bind (wpAny_bind (wpAny_field hos hds (x := vl) rfl (wpAny_bind (wpAny_field hos hds (x := vu) rfl (wpAny_bind (wpAny_field hos hds (x := .int (-1) t) rfl (wpAny_pure ?_)))))))
  refine wpAny_bind (PyProof.Rows.slicePart_int ?_)
  show wpAny _ _ (if ((-1 : Int) == 0) = true then _ else _) _ _ s
  rw [if_neg (by decide)]
  exact wpAny_bind (HT.slicePart_ pl (wpAny_bind (HT.slicePart_ pu (wpAny_bind (wpAny_pure (wpAny_pure h))))))
theorem getItem_back {t sl : Addr} {items : Array Value} {vl vu : Value} {k : Tok} {lo hi : Option Int} {Q : Value → Shared → Prop} (ht : IsTup s.heap t items) (hs : s.heap.IsSliceOf sl vl vu (.int (-1) k)) (pl : IsPart vl lo) (pu : IsPart vu hi)
    (hz : (pick items.toList (backIx items.size lo hi)).length ≤ sizeLine)
    (h : Q (.ref s.heap.objs.size) { s with heap := s.heap.push { cls := .type "tuple", data := .seq (pick items.toList (backIx items.size lo hi)).toArray } }) : wpAny (model prog w) A (getItem (.ref t) (.ref sl)) Q E s := by
  have e : ((List.range (backN items.size lo hi).2).filterMap fun (m : Nat) => items[((backN items.size lo hi).1 + (m : Int) * (-1)).toNat]?).toArray = (pick items.toList (backIx items.size lo hi)).toArray := by
    unfold pick backIx
    rw [List.filterMap_map]
    congr 1
    refine congrArg (fun f => List.filterMap f (List.range (backN items.size lo hi).2)) (funext fun m => ?_)
    show items[((backN items.size lo hi).1 + (m : Int) * (-1)).toNat]? = items.toList[((backN items.size lo hi).1 + (m : Int) * (-1)).toNat]?
    rw [Array.getElem?_toList]
  have hok : sizeOk (.seq (pick items.toList (backIx items.size lo hi)).toArray) := by
    show (pick items.toList (backIx items.size lo hi)).toArray.size ≤ sizeLine
    rw [List.size_toArray]
    exact hz
  obtain ⟨os, hos, hcs, hds⟩ := id hs
  have hTs : s.TypeIs (.ref sl) "slice" := ⟨os, hos, hcs⟩
  unfold getItem
  try with_reducible refine wpAny_holding ?_
  first | refine wpAny_bind (wpAny_pure ?_) | skip
  refine wpAny_bind (wpAny_sequenceKey ht.typeIs (by decide) ?_)
  refine wpAny_bind (wpAny_callSpecial?_slot (name := Str.ofString "__getitem__") ht.typeIs PyProof.Rows.slot_tuple_getitem
    (wpAny_call_entry PyProof.Rows.slot_tuple_getitem ht.typeIs entry_tuple_getitem ?_ (args_tuple_getitem _ _)))
  show wpAny _ _ (Builtin.Tuple.tupleItemsOf (.ref t) >>= _) _ _ s
  refine wpAny_bind (tupleItemsOf_ ht ?_)
  refine wpAny_bind (wpAny_typeOf hTs ?_)
  rw [if_pos (by decide)]
  refine wpAny_bind (applied_back hs pl pu ?_)
  have hno : ¬ (((backN items.size lo hi).1 == 0 && (-1 : Int) == 1 && (backN items.size lo hi).2 == items.size) = true) := by
    intro q
    rw [Bool.and_eq_true, Bool.and_eq_true] at q
    exact absurd (eq_of_beq q.1.2) (by decide)
  show wpAny _ _ (if ((backN items.size lo hi).1 == 0 && (-1 : Int) == 1 && (backN items.size lo hi).2 == items.size) = true then _ else _) _ _ s
  rw [if_neg hno, e]
  first
    | exact wpAny_bind (m := Builtin.Tuple.tupleExact _) (wpAny_newObj_type (wpAny_pure ⟨_, rfl, wpAny_pure h⟩) hok)
    | exact wpAny_bind (m := Builtin.Tuple.tupleExact _) (wpAny_newObj_type (wpAny_bind (wpAny_pure (wpAny_pure ⟨_, rfl, wpAny_pure h⟩))) hok)
    | exact wpAny_bind (wpAny_bind (m := Builtin.Tuple.tupleExact _) (wpAny_newObj_type (wpAny_pure (wpAny_pure ⟨_, rfl, wpAny_pure h⟩)) hok))
    | exact wpAny_bind (wpAny_bind (m := Builtin.Tuple.tupleExact _) (wpAny_newObj_type (wpAny_pure ⟨_, rfl, wpAny_pure h⟩) hok))
end
theorem pick_vals {xs : List V} {us : List Value} (r : Vals xs us) : ∀ is : List Nat, Vals (pick xs is) (pick us is)
  | [] => .nil
  | i :: is => by
    have ih := pick_vals r is
    unfold pick at ih ⊢
    rw [List.filterMap_cons, List.filterMap_cons]
    cases e : xs[i]? with
    | none =>
      have l : us[i]? = none := List.getElem?_eq_none (by have := List.getElem?_eq_none_iff.mp e; rw [← r.length]; exact this)
      rw [l]
      exact ih
    | some v =>
      obtain ⟨u, hu, ru⟩ := r.get e
      rw [hu]
      exact .cons ru ih
theorem pick_rep {K : PySem.W.Frag} {g : G0} {H : Hp} {Z : Av} {xs : List D} {vs : List V} (r : RepL K g H Z xs vs) : ∀ is : List Nat, RepL K g H Z (pick xs is) (pick vs is)
  | [] => RepL.nil_.mpr rfl
  | i :: is => by
    have ih := pick_rep r is
    unfold pick at ih ⊢
    rw [List.filterMap_cons, List.filterMap_cons]
    cases e : xs[i]? with
    | none =>
      have l : vs[i]? = none := List.getElem?_eq_none (by have := List.getElem?_eq_none_iff.mp e; rw [← r.length]; exact this)
      rw [l]
      exact ih
    | some v =>
      obtain ⟨u, hu, ru⟩ := r.get e
      rw [hu]
      exact RepL.cons_.mpr ⟨_, _, rfl, ru, ih⟩

def listIx (n : Nat) (lo hi : Option Int) : List Nat := sliceRange (sliceBounds lo hi (some (-1)) n).1 (sliceBounds lo hi (some (-1)) n).2.1 (sliceBounds lo hi (some (-1)) n).2.2
theorem pick_arr (items : Array Value) (lo hi : Option Int) : slicePick items lo hi (some (-1)) = (pick items.toList (listIx items.size lo hi)).toArray := by
  unfold slicePick pick listIx
  congr 1
  refine congrArg (fun f => List.filterMap f _) (funext fun m => ?_)
  rw [Array.getElem?_toList]
theorem pick_length {α : Type} (xs : List α) (is : List Nat) : (pick xs is).length ≤ is.length := List.length_filterMap_le _ _
def fSlB (d : D) (lo hi : Option Int) : R Sl := match d with
  | .tup xs => if (backIx xs.length lo hi).length ≤ lim then .ok (.fr (.tup (pick xs (backIx xs.length lo hi)))) else .st
  | .lst xs => if (listIx xs.length lo hi).length ≤ lim then .ok (.ow (pick xs (listIx xs.length lo hi))) else .st
  | _ => .st
def asM1 : Option Int → R Unit
  | some i => if i = -1 then .ok () else .st
  | none => .st
def mSlB (m : B) (l u st : BO) : M := fun env => (m env).bind fun d => (l env).bind fun lo => (u env).bind fun hi => (st env).bind fun c => (asM1 c).bind fun _ => fSlB d lo hi
/-- what the slice is: the step is -1 -/
def rBk (K : PySem.W.Frag) : V → Option Int → Option Int → Hp → VK → Prop := fun x lo hi H Q => ∃ a xs, x = .ref a ∧
  ((SqT K H a xs ∧ (backIx xs.length lo hi).length ≤ sizeLine ∧ NewT H (pick xs (backIx xs.length lo hi)) Q) ∨ (SqL K H a xs ∧ (listIx xs.length lo hi).length ≤ sizeLine ∧ ∀ p, H p = none → Q (.ref p) (upd H p (.lst (pick xs (listIx xs.length lo hi))))))
def tSlB (r : V → Option Int → Option Int → Hp → VK → Prop) (te : TE) (tl th ts : TO) : TE := fun σ H Q => te σ H fun x H1 => tl σ H1 fun l H2 => th σ H2 fun u H3 => ts σ H3 fun c H4 => c = some (-1) ∧ r x l u H4 Q
section
variable {X : Cx} {e : Expr} {te : TE} {lo hi st : Option Expr} {tl th ts : TO} {pos p2 : Pos}
theorem pe_sliceB {es : Expr} (he : PE X e te) (hl : PO X lo tl) (hu : PO X hi th) (hst : PO X (some es) ts) : PE X (.Subscript e (.Slice lo hi (some es) p2) pos) (tSlB (rBk X.K) te tl th ts) := by
  refine ⟨fun pins s σ H Q I h => ?_⟩
  refine Subscript_ (thn (he.run pins s σ H _ I h) fun v s1 ⟨x, H1, I1, r1, q1⟩ => ?_)
  refine wpAny_Slice (thn (hl.run pins s1 σ H1 _ I1 q1) fun vl s2 ⟨l, H2, I2, pl, q2⟩ => thn (hu.run pins s2 σ H2 _ I2 q2) fun vu s3 ⟨u, H3, I3, pu, q3⟩ => thn (hst.run pins s3 σ H3 _ I3 q3) fun vk s4 ⟨c, H4, I4, pk, ec, a, xs, ex, q4⟩ => ?_)
  subst ec ex
  cases pk with
  | int i k =>
    have I5 : Inv X pins σ H4 { s4 with heap := s4.heap.push { cls := .type "slice", data := .fields #[vl, vu, .int (-1) k] } } := I4.kept (t' := s4.toks) fun b ob q => Heap.get?_push_of_some _ q
    obtain rfl : v = .ref a := r1
    show wpAny (model X.prog X.w) X.A (subscriptTail e (.Slice lo hi (some es) p2) (.ref a) (.ref s4.heap.objs.size)) (EP X pins σ Q) X.xe { s4 with heap := s4.heap.push { cls := .type "slice", data := .fields #[vl, vu, .int (-1) k] } }
    rcases q4 with ⟨hx, hz, q⟩ | ⟨hx, hz, q⟩
    · obtain ⟨its, r, ht, _⟩ := I5.tuple hx
      have hlen : its.toArray.size = xs.length := by rw [List.size_toArray]; exact r.length.symm
      have pv := pick_vals r (backIx xs.length l u)
      have zl : (pick xs (backIx xs.length l u)).length ≤ sizeLine := Nat.le_trans (pick_length _ _) hz
      refine tail_any (ops := [.ref a, .ref s4.heap.objs.size]) ht.typeIs PyProof.Rows.slot_tuple_getitem.lookup (getItem_back ht (Heap.IsSliceOf.new ..) pl pu ?_ ?_) (by with_unfolding_all rfl)
      · show (pick its (backIx its.toArray.size l u)).length ≤ sizeLine
        rw [hlen, ← pv.length]
        exact zl
      · show EP X pins σ Q _ { s4 with heap := (s4.heap.push { cls := .type "slice", data := .fields #[vl, vu, .int (-1) k] }).push { cls := .type "tuple", data := .seq (pick its (backIx its.toArray.size l u)).toArray } }
        rw [hlen]
        exact newT (s := { s4 with heap := s4.heap.push { cls := .type "slice", data := .fields #[vl, vu, .int (-1) k] } }) (t' := s4.toks) I5 (fun b ob q => Heap.get?_push_of_some _ q) (Nat.le_refl _) (Heap.get?_push_size _ rfl) pv zl q
    · obtain ⟨its, r, ht, hz2⟩ := I5.list hx
      have hlen : its.toArray.size = xs.length := by rw [List.size_toArray]; exact r.length.symm
      have pv := pick_vals r (listIx xs.length l u)
      have zl : (pick xs (listIx xs.length l u)).length ≤ sizeLine := Nat.le_trans (pick_length _ _) hz
      refine tail_any (ops := [.ref a, .ref s4.heap.objs.size]) ht.isList.typeIs slot_list_getitem.lookup (wpAny_getItem_list_slice ht.isList (Heap.IsSliceOf.new ..) pl pu (.int (-1) k) (by decide) ?_ (by rw [hlen]; exact hz2)) (by with_unfolding_all rfl)
      rw [pick_arr, hlen]
      exact ⟨.ref _, _, Inv.lnew (s := { s4 with heap := s4.heap.push { cls := .type "slice", data := .fields #[vl, vu, .int (-1) k] } }) (t' := s4.toks) I5 pv zl, rfl, q _ I5.fresh⟩
end

theorem slBPost {K : PySem.W.Frag} {g : G0} {H : Hp} {Z : Av} {W : WX} {σ : L2.St} {d : D} {v : V} {lo hi : Option Int} {Q : VK} (rx : RepB K g H Z d v) (hp : PostE K g W Z σ H Q (fSlB d lo hi)) : rBk K v lo hi H Q := by
  cases d with
  | tup xs =>
    obtain ⟨a, ws, e, t, rr⟩ := rx.tup_
    have hl := rr.length
    have hp : PostE K g W Z σ H Q (if (backIx xs.length lo hi).length ≤ lim then .ok (.fr (.tup (pick xs (backIx xs.length lo hi)))) else .st) := hp
    split at hp
    · rename_i c
      refine ⟨a, ws, e, .inl ⟨t.sqT, by rw [← hl]; exact limLine c, ?_⟩⟩
      rw [← hl]
      exact post_tup hp (pick_rep rr _)
    · exact hp.elim
  | lst xs =>
    obtain ⟨a, ws, e, t, rr⟩ := rx.lst'
    have hl := rr.length
    have hp : PostE K g W Z σ H Q (if (listIx xs.length lo hi).length ≤ lim then .ok (.ow (pick xs (listIx xs.length lo hi))) else .st) := hp
    split at hp
    · rename_i c
      refine ⟨a, ws, e, .inr ⟨t, by rw [← hl]; exact limLine c, fun p hn => ?_⟩⟩
      rw [← hl]
      exact post_ow hp hn (pick_rep rr _)
    · exact hp.elim
  | _ => exact hp.elim
section
variable {g : G0} {x : L2.St → Prop} {W : WX} {X : Cx} {e es : Expr} {a' b' : Option Expr} {pos p2 : Pos} {ma : B} {l u c : BO}
theorem de_slB (he : PBd g x W X e ma) (hl : POd g x W X a' l) (hu : POd g x W X b' u) (hc : POd g x W X (some es) c) : PEd g x W X (.Subscript e (.Slice a' b' (some es) p2) pos) (mSlB ma l u c) :=
  weakE (pe_sliceB he hl hu hc) fun σ H Q ⟨env, Z, er, hp⟩ => useB er hp fun d v H1 e1 k1 r1 hp1 => by
    refine ⟨env, Z, er.mono k1, ?_⟩
    cases el : l env with
    | ok lo =>
      rw [el] at hp1
      intro H2 k2
      refine ⟨env, Z, er.mono (k1.trans k2), ?_⟩
      have hp2 : PostE X.K g W Z σ H2 Q ((u env).bind fun hi => (c env).bind fun c => (asM1 c).bind fun _ => fSlB d lo hi) := PostE.later k2 hp1
      cases eu : u env with
      | ok hi =>
        rw [eu] at hp2
        intro H3 k3
        refine ⟨env, Z, er.mono ((k1.trans k2).trans k3), ?_⟩
        have hp3 : PostE X.K g W Z σ H3 Q ((c env).bind fun c => (asM1 c).bind fun _ => fSlB d lo hi) := PostE.later k3 hp2
        cases ec : c env with
        | ok o =>
          rw [ec] at hp3
          intro H4 k4
          have hp4 : PostE X.K g W Z σ H4 Q ((asM1 o).bind fun _ => fSlB d lo hi) := PostE.later k4 hp3
          cases o with
          | none => exact hp4.elim
          | some i =>
            have hp4 : PostE X.K g W Z σ H4 Q ((if i = -1 then R.ok () else .st).bind fun _ => fSlB d lo hi) := hp4
            by_cases ci : i = -1
            · rw [if_pos ci] at hp4
              exact ⟨by rw [ci], slBPost (r1.mono ((k2.trans k3).trans k4)) hp4⟩
            · rw [if_neg ci] at hp4
              exact hp4.elim
        | ex c p => rw [ec] at hp3; exact hp3
        | st => rw [ec] at hp3; exact hp3
      | ex c p => rw [eu] at hp2; exact hp2
      | st => rw [eu] at hp2; exact hp2
    | ex c p => rw [el] at hp1; exact hp1
    | st => rw [el] at hp1; exact hp1
end
end DL
set_option Elab.async false
set_option linter.all false
set_option maxRecDepth 100000
set_option maxHeartbeats 4000000
namespace DL
open PySem PySem.Spec L2
open PyProof.Rows hiding St
/-! ### comprehensions with two fors -/
def compL2 (as : D → En → Option En) (t : En → R Bool) (mi1 : En → R (List D)) (as1 : D → En → Option En) (t1 : En → R Bool) (me : M) (vs1 : List Nat) (env : En) : List D → R (List D)
  | [] => .ok []
  | d :: ds => match as d env with
    | none => .st
    | some e1 => (t e1).quiet.bind fun b => if b = true then (mi1 e1).quiet.bind fun xs1 => (compL as1 t1 me (wipeE e1 vs1) xs1).bind fun r1 => (compL2 as t mi1 as1 t1 me vs1 env ds).bind fun r2 => .ok (r1 ++ r2) else compL2 as t mi1 as1 t1 me vs1 env ds
def mComp2 (mi : En → R (List D)) (pt : Pt) (t : En → R Bool) (mi1 : En → R (List D)) (pt1 : Pt) (t1 : En → R Bool) (me : M) (vs vs1 : List Nat) : M := fun env => (mi env).bind fun xs =>
  (compL2 pt.go t mi1 pt1.go t1 me vs1 (wipeE env vs) xs).quiet.bind fun r => if r.length ≤ lim then .ok (.ow r) else .st
/-- the heap without the list that is being made -/
def mn (L : Addr) (H : Hp) : Hp := fun b => if b = L then none else H b
theorem mn_ne {L b : Addr} {H : Hp} (h : b ≠ L) : mn L H b = H b := if_neg h
theorem mn_some {L b : Addr} {H : Hp} {o : HO} (h : mn L H b = some o) : b ≠ L ∧ H b = some o := by
  unfold mn at h
  split at h
  · cases h
  · exact ⟨by assumption, h⟩
section
variable {K : PySem.W.Frag} {g : G0} {x : L2.St → Prop} {W : WX} {Z Z2 : Av} {env e1 : En} {σ : L2.St} {G H H' : Hp} {L : Addr}
def zb (Z : Av) (L : Addr) : Av := fun b => Z b ∨ b = L
theorem kp_show : Kp (mn L H) Z H (zb Z L) :=
  ⟨fun a o e _ => (mn_some e).2, fun a o xs e => (mn_some e).2, fun a n nz z => z.elim nz fun q => n (by unfold mn; rw [if_pos q])⟩
theorem kp_hide {acc : List V} (hL : H L = some (.lst acc)) : Kp H (zb Z L) (mn L H) Z :=
  ⟨fun a o e n => by rw [mn_ne fun q => n (.inr q)]; exact e, fun a o xs e => by
    rw [mn_ne fun q => by rw [q, hL] at e; cases e]
    exact e, fun a _ n z => n (.inl z)⟩
theorem same_mn (h : ∀ a o, a ≠ L → H a = some o → H' a = some o) : Same (mn L H) (mn L H') := fun a o e => by
  obtain ⟨n, e⟩ := mn_some e
  rw [mn_ne n]
  exact h a o n e
theorem ERel.show_ {acc : List V} (er : ERel K g T Z env σ (mn L H)) (hL : H L = some (.lst acc)) : ERel K g T (zb Z L) env σ H := by
  refine ⟨fun a z => z.elim (fun z => ?_) (fun q => by rw [q, hL]; simp), trivial, er.len, fun i s e => ?_⟩
  · have n := er.dom a z
    cases e : mn L H a with
    | none => exact absurd e n
    | some o => rw [(mn_some e).2]; simp
  · obtain ⟨v, e2, q⟩ := er.at_ i s e
    exact ⟨v, e2, q.kp kp_show (fun a z => .inl z) fun a o _ e => (mn_some e).2⟩
theorem gAll_okG {vs : List Nat} : ∀ (is : List Nat) (ds : List D) (ws : List V) (env : En) (σ : L2.St) (Q : L2.St → Hp → Prop), (∀ i ∈ is, i ∈ vs) → ERel K g T Z env σ G → RepL K g G Z ds ws → ds.length = is.length →
    (∀ σ', wipe σ' vs = wipe σ vs → ERel K g T Z (setAll is ds env) σ' G → Q σ' H) → gAll is ws σ H Q
  | [], [], ws, env, σ, Q, _, r, rr, l, h => ⟨RepL.nil_.mp rr, h σ rfl r⟩
  | i :: is, d :: ds, ws, env, σ, Q, sub, r, rr, l, h => by
    obtain ⟨v, w, ev, h1, h2⟩ := RepL.cons_.mp rr
    refine ⟨v, w, ev, gAll_okG is ds w _ _ Q (fun j hj => sub j (List.mem_cons_of_mem _ hj)) (r.setFr (i := i) h1) h2 (by simpa using l) fun σ' e er => h σ' (by rw [e, wipe_set (sub i List.mem_cons_self)]) er⟩
  | [], d :: ds, ws, env, σ, Q, _, r, rr, l, h => by simp at l
  | i :: is, [], ws, env, σ, Q, _, r, rr, l, h => by simp at l
theorem Pt.okG {vs : List Nat} {pt : Pt} {d : D} {v : V} {Q : L2.St → Hp → Prop} (kp : Kp G Z H Z2) (sub : ∀ i ∈ pt.slots, i ∈ vs) (r : ERel K g T Z env σ G) (q : Rep K g G Z d v) (h : pt.go d env = some e1)
    (k : ∀ σ', wipe σ' vs = wipe σ vs → ERel K g T Z e1 σ' G → Q σ' H) : pt.tg K v σ H Q := by
  cases pt with
  | nm i => cases h; exact k _ (wipe_set (sub i (by simp [Pt.slots]))) (r.setFr q)
  | tp is =>
    cases d with
    | tup ds =>
      have h : (if ds.length = is.length then some (setAll is ds env) else none) = some e1 := h
      split at h
      · rename_i l
        cases h
        obtain ⟨a, ws, ev, sq, rr⟩ := Rep.tup_.mp q
        exact ⟨a, ws, ev, (kp.tu sq).sqT, by rw [← rr.length]; exact l, gAll_okG is ds ws env σ Q sub r rr l k⟩
      · cases h
    | _ => cases h
/-- the inner walk: from the list as it is to the list with what the walk adds -/
theorem innerOk {pt1 : Pt} {t1 : En → R Bool} {me : M} {vs1 : List Nat} {xs1 ds0 r1 rest total : List D} {J1 : It} {H1 H4 : Hp} {acc0 : List V} {Nx : Hp → Prop} (sub1 : ∀ i ∈ pt1.slots, i ∈ vs1) (lt : total.length ≤ lim)
    (hn : H1 L = none) (er : ERel K g T Z e1 σ (mn L H4)) (wk : Walk K g (zb Z L) H4 J1 xs1) (s1 : Same H1 H4) (hL : H4 L = some (.lst acc0)) (ha : RepL K g H4 (zb Z L) ds0 acc0)
    (hc : compL pt1.go t1 me (wipeE e1 vs1) xs1 = .ok r1) (ht : total = ds0 ++ (r1 ++ rest))
    (hx : ∀ H' acc, Same H1 H' → H' L = some (.lst acc) → RepL K g H' (zb Z L) (ds0 ++ r1) acc → Nx H') :
    ∃ W1 : Nat → Nat → Hp → Prop, (∃ m, W1 0 m H4) ∧ ∀ j k H, W1 j k H →
      (J1.stop j H ∧ Nx H) ∨ (J1.go j H ∧ ∃ Nx1 : Hp → Prop, (∀ H', Nx1 H' → ∃ k', k' < k ∧ W1 (j + 1) k' H') ∧ ∀ x H', J1.yld j H x H' → pt1.tg K x (wipe σ vs1) H' fun σ3 H5 => wipe σ3 vs1 = wipe σ vs1 ∧ tT K g T W0 t1 σ3 H5 fun b H6 =>
        if b = true then tM K g T W0 me σ3 H6 fun y H7 => ∃ acc, H7 L = some (.lst acc) ∧ acc.length < sizeLine ∧ Nx1 (upd H7 L (.lst (acc ++ [y]))) else Nx1 H6) := by
  let In : Nat → Hp → Prop := fun j H' => Same H1 H' ∧ (∀ a o, a ≠ L → H4 a = some o → H' a = some o) ∧ ∃ acc dsj rj, H' L = some (.lst acc) ∧ RepL K g H' (zb Z L) (ds0 ++ dsj) acc ∧ compL pt1.go t1 me (wipeE e1 vs1) (xs1.drop j) = .ok rj ∧ r1 = dsj ++ rj
  refine ⟨fun j k H' => k = xs1.length - j ∧ j ≤ xs1.length ∧ In j H', ⟨xs1.length, rfl, Nat.zero_le _, s1, fun a o _ e => e, acc0, [], r1, hL, by rw [List.append_nil]; exact ha, hc, rfl⟩, ?_⟩
  rintro j k H' ⟨rfl, hj, s2, sb, acc, dsj, rj, hD, hacc, hcj, hr⟩
  have kp : Kp H4 (zb Z L) H' (fun _ => False) := ⟨fun a o e n => sb a o (fun q => n (.inr q)) e, fun a o us e => sb a _ (fun q => by rw [q, hL] at e; cases e) e, fun _ _ _ z => z⟩
  by_cases hl : j < xs1.length
  · obtain ⟨d, ed, edr⟩ := drop_get hl
    rw [edr] at hcj
    unfold compL at hcj
    refine .inr ⟨wk.go j d H' ed kp, fun H2 => In (j + 1) H2, fun H2 h2 => ⟨xs1.length - (j + 1), by omega, rfl, hl, h2⟩, fun v H2 y => ?_⟩
    obtain ⟨k2, rep⟩ := wk.yld j d H' v H2 ed kp y
    have hD2 : H2 L = some (.lst acc) := k2 _ _ hD
    have s3 : Same H1 H2 := s2.trans k2
    have sb2 : ∀ a o, a ≠ L → H4 a = some o → H2 a = some o := fun a o n e => k2 _ _ (sb a o n e)
    have kz : Kp H4 (zb Z L) H2 (zb Z L) := ⟨fun a o e n => sb2 a o (fun q => n (.inr q)) e, fun a o us e => sb2 a _ (fun q => by rw [q, hL] at e; cases e) e, fun _ _ n => n⟩
    have er2 : ERel K g T Z e1 σ (mn L H2) := er.mono (same_mn sb2)
    have dom1 : ∀ a, zb Z L a → H' a ≠ none := ((er.mono (same_mn sb)).show_ hD).dom
    cases ea : pt1.go d (wipeE e1 vs1) with
    | none => rw [ea] at hcj; cases hcj
    | some e3 =>
      rw [ea] at hcj
      have hcj : ((t1 e3).quiet.bind fun b => if b = true then (me e3).quiet.bind fun s => (compL pt1.go t1 me (wipeE e1 vs1) (xs1.drop (j + 1))).bind fun r => .ok (s.d :: r) else compL pt1.go t1 me (wipeE e1 vs1) (xs1.drop (j + 1))) = .ok rj := hcj
      refine Pt.okG (G := mn L H2) (Z := Z) (Z2 := zb Z L) kp_show sub1 (er2.wipe vs1) (Rep.mono (kp_hide hD2) _ _ (rep _ kz dom1)) ea fun σ3 ws er3 => ?_
      refine ⟨by rw [ws, wipe_wipe], e3, zb Z L, er3.show_ hD2, ?_⟩
      cases et : t1 e3 with
      | ex c p => rw [et] at hcj; cases hcj
      | st => rw [et] at hcj; cases hcj
      | ok b =>
        rw [et] at hcj
        have hcj : (if b = true then (me e3).quiet.bind fun s => (compL pt1.go t1 me (wipeE e1 vs1) (xs1.drop (j + 1))).bind fun r => .ok (s.d :: r) else compL pt1.go t1 me (wipeE e1 vs1) (xs1.drop (j + 1))) = .ok rj := hcj
        intro H5 k3
        have hD5 : H5 L = some (.lst acc) := k3 _ _ hD2
        cases b with
        | false => exact ⟨s3.trans k3, fun a o n e => k3 _ _ (sb2 a o n e), acc, dsj, rj, hD5, RepL.mono (.same_ (k2.trans k3)) _ _ hacc, hcj, hr⟩
        | true =>
          rw [if_pos rfl] at hcj ⊢
          refine use (Z := zb Z L) ((er3.show_ hD2).mono k3) ?_
          cases em : me e3 with
          | ex c p => rw [em] at hcj; cases hcj
          | st => rw [em] at hcj; cases hcj
          | ok s =>
            rw [em] at hcj
            have hcj : ((compL pt1.go t1 me (wipeE e1 vs1) (xs1.drop (j + 1))).bind fun r => R.ok (s.d :: r)) = .ok rj := hcj
            cases ec2 : compL pt1.go t1 me (wipeE e1 vs1) (xs1.drop (j + 1)) with
            | ex c p => rw [ec2] at hcj; cases hcj
            | st => rw [ec2] at hcj; cases hcj
            | ok r2 =>
              rw [ec2] at hcj
              cases hcj
              intro y H7 k4 q
              have hD7 : H7 L = some (.lst acc) := k4 _ _ hD5
              have zL : zb Z L L := Or.inr rfl
              have km : Kp H7 (zb Z L) (upd H7 L (.lst (acc ++ [y]))) (zb Z L) :=
                ⟨fun b o e n => by rw [upd_ne (fun q => n (by rw [q]; exact zL))]; exact e, fun b o us tt => by
                  have nb : b ≠ L := fun q => by
                    subst q
                    rw [hD7] at tt
                    cases tt
                  rw [upd_ne nb]
                  exact tt, fun b _ n => n⟩
              have hlen : acc.length < lim := by
                have e1 := hacc.length
                have e2 : total.length = (ds0 ++ dsj).length + (r2.length + 1 + rest.length) := by
                  rw [ht, hr]
                  simp only [List.length_append, List.length_cons]
                  omega
                omega
              refine ⟨acc, hD7, limLine' hlen, fun b o e => ?_, fun b o n e => ?_, acc ++ [y], dsj ++ [s.d], r2, upd_same, ?_, ec2, by rw [hr, List.append_assoc]; rfl⟩
              · rw [upd_ne (ne_of_none e hn)]
                exact k4 _ _ (k3 _ _ (s3 b o e))
              · rw [upd_ne n]
                exact k4 _ _ (k3 _ _ (sb2 b o n e))
              · rw [← List.append_assoc]
                exact RepL.mono km _ _ ((RepL.mono (.same_ ((k2.trans k3).trans k4)) _ _ hacc).append (.one q))
  · have ej : j = xs1.length := by omega
    subst ej
    rw [List.drop_length] at hcj
    cases hcj
    rw [List.append_nil] at hr
    subst hr
    exact .inl ⟨wk.stop _ H' (Nat.le_refl _) kp, hx H' acc s2 hD hacc⟩
end
section
variable {K : PySem.W.Frag} {g : G0} {x : L2.St → Prop} {W : WX} {Z : Av} {σ : L2.St} {H : Hp}
/-- what a comprehension with two fors reads -/
theorem lc2Ok {mi mi1 : En → R (List D)} {pt pt1 : Pt} {t t1 : En → R Bool} {me : M} {vs vs1 : List Nat} {Q : VK} (sub : ∀ i ∈ pt.slots, i ∈ vs) (sub1 : ∀ i ∈ pt1.slots, i ∈ vs1) (h : tM K g x W (mComp2 mi pt t mi1 pt1 t1 me vs vs1) σ H Q) :
    tLc2 (tI K g x W mi) (pt.tg K) (tT K g T W0 t) (tI K g T W0 mi1) (pt1.tg K) (tT K g T W0 t1) (tM K g T W0 me) vs vs1 σ H Q := by
  obtain ⟨env, Z, er, hp⟩ := h
  refine ⟨env, Z, er, ?_⟩
  unfold mComp2 at hp
  cases ei : mi env with
  | ex c p => rw [ei] at hp; exact hp
  | st => rw [ei] at hp; exact hp
  | ok xs =>
    rw [ei] at hp
    have hp : PostE K g W Z σ H Q ((compL2 pt.go t mi1 pt1.go t1 me vs1 (wipeE env vs) xs).quiet.bind fun r => if r.length ≤ lim then .ok (.ow r) else .st) := hp
    cases ec : (compL2 pt.go t mi1 pt1.go t1 me vs1 (wipeE env vs) xs).quiet with
    | ex c p => exact absurd ec (by intro q; cases e : compL2 pt.go t mi1 pt1.go t1 me vs1 (wipeE env vs) xs <;> rw [e] at q <;> cases q)
    | st => rw [ec] at hp; exact hp.elim
    | ok total =>
      rw [ec] at hp
      have hp : PostE K g W Z σ H Q (if total.length ≤ lim then .ok (.ow total) else .st) := hp
      split at hp
      case isFalse => exact hp.elim
      rename_i hlim
      have ec := quiet_ok ec
      intro J H1 k walk L hL
      have er1 := er.mono k
      refine ⟨fun i m H' => m = xs.length - i ∧ i ≤ xs.length ∧ Same H1 H' ∧ ∃ acc ds0 r, H' L = some (.lst acc) ∧ RepL K g H' (zb Z L) ds0 acc ∧ compL2 pt.go t mi1 pt1.go t1 me vs1 (wipeE env vs) (xs.drop i) = .ok r ∧ total = ds0 ++ r,
        ⟨xs.length, rfl, Nat.zero_le _, same_upd hL, [], [], total, upd_same, RepL.nil_.mpr rfl, ec, rfl⟩, ?_⟩
      rintro i m H' ⟨rfl, hi, s1, acc, ds0, r, hD, hacc, hc, ht⟩
      have kp : Kp H1 Z H' Z := .same_ s1
      by_cases hl : i < xs.length
      · obtain ⟨d, ed, edr⟩ := drop_get hl
        rw [edr] at hc
        unfold compL2 at hc
        refine .inr ⟨walk.go i d H' ed kp.toF, fun H2 => Same H1 H2 ∧ ∃ acc ds0 r, H2 L = some (.lst acc) ∧ RepL K g H2 (zb Z L) ds0 acc ∧ compL2 pt.go t mi1 pt1.go t1 me vs1 (wipeE env vs) (xs.drop (i + 1)) = .ok r ∧ total = ds0 ++ r, fun H2 h2 => ⟨xs.length - (i + 1), by omega, rfl, hl, h2⟩, fun v H2 y => ?_⟩
        obtain ⟨k2, rep⟩ := walk.yld i d H' v H2 ed kp.toF y
        have s2 : Same H1 H2 := s1.trans k2
        have hD2 : H2 L = some (.lst acc) := k2 _ _ hD
        have sm : Same H1 (mn L H2) := fun a o e => by
          rw [mn_ne (ne_of_none e hL)]
          exact s2 a o e
        have erm : ERel K g x Z env σ (mn L H2) := er1.mono sm
        have q1 : Rep K g H2 Z d v := rep Z (.same_ s2) fun a z => dom_mono s1 er1.dom a z
        have q2 : Rep K g H2 (zb Z L) d v := rep _ (.of s2 fun b n z => z.elim id fun e => absurd hL (by rw [← e]; exact n)) fun a z => z.elim (fun z => dom_mono s1 er1.dom a z) fun e => by rw [e, hD]; simp
        cases ea : pt.go d (wipeE env vs) with
        | none => rw [ea] at hc; cases hc
        | some e1 =>
          rw [ea] at hc
          have hc : ((t e1).quiet.bind fun b => if b = true then (mi1 e1).quiet.bind fun xs1 => (compL pt1.go t1 me (wipeE e1 vs1) xs1).bind fun r1 => (compL2 pt.go t mi1 pt1.go t1 me vs1 (wipeE env vs) (xs.drop (i + 1))).bind fun r2 => .ok (r1 ++ r2) else compL2 pt.go t mi1 pt1.go t1 me vs1 (wipeE env vs) (xs.drop (i + 1))) = .ok r := hc
          refine Pt.okG (G := mn L H2) (Z := Z) (Z2 := zb Z L) kp_show sub (erm.wipe vs) (Rep.mono (kp_hide hD2) _ _ q2) ea fun σ2 ws er2 => ?_
          refine ⟨by rw [ws, wipe_wipe], e1, zb Z L, er2.show_ hD2, ?_⟩
          cases et : t e1 with
          | ex c p => rw [et] at hc; cases hc
          | st => rw [et] at hc; cases hc
          | ok b =>
            rw [et] at hc
            have hc : (if b = true then (mi1 e1).quiet.bind fun xs1 => (compL pt1.go t1 me (wipeE e1 vs1) xs1).bind fun r1 => (compL2 pt.go t mi1 pt1.go t1 me vs1 (wipeE env vs) (xs.drop (i + 1))).bind fun r2 => .ok (r1 ++ r2) else compL2 pt.go t mi1 pt1.go t1 me vs1 (wipeE env vs) (xs.drop (i + 1))) = .ok r := hc
            intro H3 k3
            have hD3 : H3 L = some (.lst acc) := k3 _ _ hD2
            have hacc3 : RepL K g H3 (zb Z L) ds0 acc := RepL.mono (.same_ (k2.trans k3)) _ _ hacc
            cases b with
            | false => exact ⟨s2.trans k3, acc, ds0, r, hD3, hacc3, hc, ht⟩
            | true =>
              rw [if_pos rfl] at hc ⊢
              have er3 : ERel K g T Z e1 σ2 (mn L H3) := er2.mono (same_mn fun a o _ e => k3 a o e)
              refine ⟨e1, zb Z L, er3.show_ hD3, ?_⟩
              cases em : mi1 e1 with
              | ex c p => rw [em] at hc; cases hc
              | st => rw [em] at hc; cases hc
              | ok xs1 =>
                rw [em] at hc
                have hc : ((compL pt1.go t1 me (wipeE e1 vs1) xs1).bind fun r1 => (compL2 pt.go t mi1 pt1.go t1 me vs1 (wipeE env vs) (xs.drop (i + 1))).bind fun r2 => R.ok (r1 ++ r2)) = .ok r := hc
                cases ec1 : compL pt1.go t1 me (wipeE e1 vs1) xs1 with
                | ex c p => rw [ec1] at hc; cases hc
                | st => rw [ec1] at hc; cases hc
                | ok r1 =>
                  rw [ec1] at hc
                  have hc : ((compL2 pt.go t mi1 pt1.go t1 me vs1 (wipeE env vs) (xs.drop (i + 1))).bind fun r2 => R.ok (r1 ++ r2)) = .ok r := hc
                  cases ec2 : compL2 pt.go t mi1 pt1.go t1 me vs1 (wipeE env vs) (xs.drop (i + 1)) with
                  | ex c p => rw [ec2] at hc; cases hc
                  | st => rw [ec2] at hc; cases hc
                  | ok r2 =>
                    rw [ec2] at hc
                    cases hc
                    intro J1 H4 k4 wk
                    exact innerOk sub1 hlim hL (er3.mono (same_mn fun a o _ e => k4 a o e)) wk ((s2.trans k3).trans k4) (k4 _ _ hD3) (RepL.mono (.same_ k4) _ _ hacc3) ec1 ht fun H5 acc5 s5 d5 a5 => ⟨s5, acc5, ds0 ++ r1, r2, d5, a5, rfl, by rw [ht, List.append_assoc]⟩
      · have ei : i = xs.length := by omega
        subst ei
        rw [List.drop_length] at hc
        cases hc
        rw [List.append_nil] at ht
        subst ht
        exact .inl ⟨walk.stop _ H' (Nat.le_refl _) kp.toF, hp L acc H' (k.trans s1) (k.free hL) hD hacc⟩
end
section
variable {g : G0} {x : L2.St → Prop} {W : WX} {X : Cx} {elt tg iter tg1 iter1 : Expr} {ifs ifs1 : List Expr} {scope : Scope} {own : List (Str × Nat)} {vs1 : List Nat} {pos : Pos} {mi mi1 : En → R (List D)} {pt pt1 : Pt} {t t1 : En → R Bool} {me : M}
theorem de_lc2 (hc : X.calm = true) (hN : X.N.Nodup) (hi : PId g x W X tg iter mi) (ok : BlkOk X.N X.env.scope scope own) (hv : ∀ i ∈ vs1, i ∈ own.map (·.2)) (sub : ∀ i ∈ pt.slots, i ∈ own.map (·.2)) (sub1 : ∀ i ∈ pt1.slots, i ∈ vs1)
    (hg : ∀ (s : Shared) (H : Hp) (C : Addr) (cl : List (Str × Addr)) (fp : List Addr), PG (X.blk s H scope (compEnvC scope cl C X.env) fp) tg (pt.tg X.K))
    (ht : ∀ (s : Shared) (H : Hp) (C : Addr) (cl : List (Str × Addr)) (fp : List Addr), PTsd g T W0 (X.blk s H scope (compEnvC scope cl C X.env) fp) ifs t)
    (hi1 : ∀ (s : Shared) (H : Hp) (C : Addr) (cl : List (Str × Addr)) (fp : List Addr), PId g T W0 (X.blk s H scope (compEnvC scope cl C X.env) fp) tg1 iter1 mi1)
    (hg1 : ∀ (s : Shared) (H : Hp) (C : Addr) (cl : List (Str × Addr)) (fp : List Addr), PG (X.blk s H scope (compEnvC scope cl C X.env) fp) tg1 (pt1.tg X.K))
    (ht1 : ∀ (s : Shared) (H : Hp) (C : Addr) (cl : List (Str × Addr)) (fp : List Addr), PTsd g T W0 (X.blk s H scope (compEnvC scope cl C X.env) fp) ifs1 t1)
    (he : ∀ (s : Shared) (H : Hp) (C : Addr) (cl : List (Str × Addr)) (fp : List Addr), PEd g T W0 (X.blk s H scope (compEnvC scope cl C X.env) fp) elt me) (hs : ∀ x, foldedSetIterable iter X.env x = pure x := by intro _; rfl) (hs1 : ∀ env x, foldedSetIterable iter1 env x = pure x := by intro _ _; rfl) :
    PEd g x W X (.ListComp elt [⟨tg, iter, ifs, 0⟩, ⟨tg1, iter1, ifs1, 0⟩] scope pos) (mComp2 mi pt t mi1 pt1 t1 me (own.map (·.2)) vs1) :=
  weakE (pe_lc2 hc hN hi ok hv hg ht hi1 hg1 ht1 he hs hs1) fun σ H Q h => lc2Ok sub sub1 h
theorem ds_setLc2 {i : Nat} {y : Str} {py spos : Pos} (hx : ∀ σ, x σ) (hc : X.calm = true) (hN : X.N.Nodup) (hy : X.N[i]? = some y) (hyl : X.env.scope.names.lookup y = some .local)
    (hsw : swapsWith (.ListComp elt [⟨tg, iter, ifs, 0⟩, ⟨tg1, iter1, ifs1, 0⟩] scope pos) (some (.Name y py)) spos.line X.env = pure true) (hi : PId g x W X tg iter mi) (ok : BlkOk X.N X.env.scope scope own) (hv : ∀ i ∈ vs1, i ∈ own.map (·.2)) (sub : ∀ i ∈ pt.slots, i ∈ own.map (·.2)) (sub1 : ∀ i ∈ pt1.slots, i ∈ vs1)
    (hg : ∀ (s : Shared) (H : Hp) (C : Addr) (cl : List (Str × Addr)) (fp : List Addr), PG (X.blk s H scope (compEnvC scope cl C X.env) fp) tg (pt.tg X.K))
    (ht : ∀ (s : Shared) (H : Hp) (C : Addr) (cl : List (Str × Addr)) (fp : List Addr), PTsd g T W0 (X.blk s H scope (compEnvC scope cl C X.env) fp) ifs t)
    (hi1 : ∀ (s : Shared) (H : Hp) (C : Addr) (cl : List (Str × Addr)) (fp : List Addr), PId g T W0 (X.blk s H scope (compEnvC scope cl C X.env) fp) tg1 iter1 mi1)
    (hg1 : ∀ (s : Shared) (H : Hp) (C : Addr) (cl : List (Str × Addr)) (fp : List Addr), PG (X.blk s H scope (compEnvC scope cl C X.env) fp) tg1 (pt1.tg X.K))
    (ht1 : ∀ (s : Shared) (H : Hp) (C : Addr) (cl : List (Str × Addr)) (fp : List Addr), PTsd g T W0 (X.blk s H scope (compEnvC scope cl C X.env) fp) ifs1 t1)
    (he : ∀ (s : Shared) (H : Hp) (C : Addr) (cl : List (Str × Addr)) (fp : List Addr), PEd g T W0 (X.blk s H scope (compEnvC scope cl C X.env) fp) elt me) (hs : ∀ x, foldedSetIterable iter X.env x = pure x := by intro _; rfl) (hs1 : ∀ env x, foldedSetIterable iter1 env x = pure x := by intro _ _; rfl) :
    PSd g x W X (.Assign [.Name y py] (.ListComp elt [⟨tg, iter, ifs, 0⟩, ⟨tg1, iter1, ifs1, 0⟩] scope pos) spos) (sSet i (mComp2 mi pt t mi1 pt1 t1 me (own.map (·.2)) vs1)) :=
  weakS (ps_setLc2 hc hN hy hyl hsw hi ok hv hg ht hi1 hg1 ht1 he hs hs1) fun D σ H ⟨env, A, H0, r, hp⟩ => lc2Ok sub sub1
    (runE (f := fun s => .nx (env.set i (some s))) r hp (fun d v H' _ k q hp => hp _ _ (r.setFr hx k q)) fun xs a vs H' _ k n p q hp => hp _ _ (r.setOw hx k n p q))
end
end DL
set_option Elab.async false
set_option linter.all false
set_option maxRecDepth 100000
set_option maxHeartbeats 4000000
namespace DL
open PySem PySem.Spec L2
open PyProof.Rows hiding St
/-! ### zip of two tuples or two lists, each pair a tuple that is known to be plain -/
def ItF (sa sb : Hp → List V → Prop) : It :=
  ⟨fun i H => ∃ (xs ys : List V) (x y : V), sa H xs ∧ sb H ys ∧ xs[i]? = some x ∧ ys[i]? = some y,
    fun i H v H' => ∃ (at_ : Addr) (ob : Obj) (l r : V), v = .ref at_ ∧ H at_ = none ∧ ob.cls = .type "tuple" ∧ ob.dict = none ∧ H' = upd H at_ (.frz ob (.tup [l, r])) ∧ (∀ xs, sa H xs → xs[i]? = some l) ∧ ∀ ys, sb H ys → ys[i]? = some r,
    fun i H => ∃ xs ys : List V, sa H xs ∧ sb H ys ∧ (xs.length ≤ i ∨ ys.length ≤ i)⟩
section
variable {P : Program} {w : World} {K : PySem.W.Frag} {elts : List Expr} {kk : Nat} {tpos : Pos} {a b z ti to i1 i2 : Addr}
theorem five {c : Addr} (h : c ∈ [z, ti, to, i1, i2]) : c = z ∨ c = ti ∨ c = to ∨ c = i1 ∨ c = i2 := by simpa using h
theorem pair_new {X : Cx} {pins : List (Addr × Obj)} {s : Shared} {σ : L2.St} {H : Hp} {l r : V} {u u2 : Value} {h' : Heap} {ch : List Addr} (I : Inv X pins σ H s) (hf : ∀ c ∈ ch, FpOk X pins H c)
    (hT : h'.get? s.heap.objs.size = some { cls := .type "tuple", data := .seq #[u, u2] }) (ru : RelV l u) (ru2 : RelV r u2) (hk : ∀ c o, c ∉ ch → s.heap.get? c = some o → h'.get? c = some o) :
    Inv X pins σ (upd H s.heap.objs.size (.frz { cls := .type "tuple", data := .seq #[u, u2] } (.tup [l, r]))) { s with heap := h', toks := s.toks } :=
  I.turnedNew (ch := ch) hk hf (Nat.le_refl _) ⟨hT, by show 2 ≤ sizeLine; decide, [u, u2], .cons ru (.cons ru2 .nil), ⟨_, hT, rfl, _, rfl⟩⟩
theorem turn_zipFT (D : ZipApart z ti to i1 i2 a b) : Turn P w K (.Tuple elts kk tpos) (ItF (fun H xs => SqT K H a xs) fun H ys => SqT K H b ys) [z, ti, to, i1, i2] z
    (fun i h => IsZip h z ti to .none ∧ IsPair h ti (.ref i1) (.ref i2) ∧ (∃ x y, IsPair h to x y) ∧ h.IsTupleIter i1 a i ∧ h.IsTupleIter i2 b i) where
  mem := (RZ.turn_zipT (P := P) (w := w) (K := K) (elts := elts) (kk := kk) (tpos := tpos) D).mem
  obj := (RZ.turn_zipT (P := P) (w := w) (K := K) (elts := elts) (kk := kk) (tpos := tpos) D).obj
  keep := (RZ.turn_zipT (P := P) (w := w) (K := K) (elts := elts) (kk := kk) (tpos := tpos) D).keep
  done := (RZ.turn_zipT (P := P) (w := w) (K := K) (elts := elts) (kk := kk) (tpos := tpos) D).done
  self := (RZ.turn_zipT (P := P) (w := w) (K := K) (elts := elts) (kk := kk) (tpos := tpos) D).self
  item := by
    intro X eP ew eK hc i pins s σ H E I hf ⟨oz, oti, ⟨p0, q0, oto⟩, n1, n2⟩ ⟨xs, ys, l, r, sx, sy, gl, gr⟩
    subst eP ew eK
    obtain ⟨us, va, ta, _⟩ := I.tuple sx
    obtain ⟨us2, vb, tb, _⟩ := I.tuple sy
    obtain ⟨u, gu, ru⟩ := va.get gl
    obtain ⟨u2, gu2, ru2⟩ := vb.get gr
    have lz : z < s.heap.objs.size := Heap.lt_size oz
    refine RZ.pyNext_zipT_item D oz oti oto n1 n2 ta tb (x := u) (y := u2) (by simpa using gu) (by simpa using gu2) fun h1 z1 to1 m1 m2 nt _ hk => ⟨_, rfl, wpAny_letOwnedTupleGo_zip (s := { s with heap := h1 }) z1 fun h2 z2 sb => ?_⟩
    have I1 := pair_new (ch := [z, ti, to, i1, i2]) (h' := h2) I hf ((sb.2 _ (Nat.ne_of_gt lz)).trans nt) ru ru2 fun c o hb q => by
      have n : c ≠ z ∧ c ≠ ti ∧ c ≠ to ∧ c ≠ i1 ∧ c ≠ i2 := by simpa using hb
      exact (sb.2 c n.1).trans (hk c o n.1 n.2.2.1 n.2.2.2.1 n.2.2.2.2 q)
    refine ⟨.ref s.heap.objs.size, _, I1, rfl, ⟨_, _, l, r, rfl, I.hok.fresh (Nat.le_refl _), rfl, rfl, rfl, fun zs q => by rw [I.tuple_inj q sx]; exact gl, fun zs q => by rw [I.tuple_inj q sy]; exact gr⟩,
      ⟨z2, (sb.2 _ D.TIz).trans (hk _ _ D.TIz D.TITO D.TIi1 D.TIi2 oti), ⟨u, u2, (sb.2 _ D.TOz).trans to1⟩, m1.at fun o q => (sb.2 _ D.i1z).trans q, m2.at fun o q => (sb.2 _ D.i2z).trans q⟩, fun c hcm => ?_⟩
    have lt : c < s.heap.objs.size := by
      obtain ⟨_, k1, _⟩ := n1
      obtain ⟨_, k2, _⟩ := n2
      rcases five hcm with q | q | q | q | q <;> rw [q]
      · exact lz
      · exact Heap.lt_size oti
      · exact Heap.lt_size oto
      · exact Heap.lt_size k1
      · exact Heap.lt_size k2
    rw [upd_ne (Nat.ne_of_lt lt)]
    exact (hf c hcm).1
theorem turn_zipFL (D : ZipApart z ti to i1 i2 a b) : Turn P w K (.Tuple elts kk tpos) (ItF (fun H xs => SqL K H a xs) fun H ys => SqL K H b ys) [z, ti, to, i1, i2] z
    (fun i h => IsZip h z ti to .none ∧ IsPair h ti (.ref i1) (.ref i2) ∧ (∃ x y, IsPair h to x y) ∧ h.IsListIter i1 a i ∧ h.IsListIter i2 b i) where
  mem := (turn_zip (P := P) (w := w) (K := K) (elts := elts) (kk := kk) (tpos := tpos) D).mem
  obj := (turn_zip (P := P) (w := w) (K := K) (elts := elts) (kk := kk) (tpos := tpos) D).obj
  keep := (turn_zip (P := P) (w := w) (K := K) (elts := elts) (kk := kk) (tpos := tpos) D).keep
  done := (turn_zip (P := P) (w := w) (K := K) (elts := elts) (kk := kk) (tpos := tpos) D).done
  self := (turn_zip (P := P) (w := w) (K := K) (elts := elts) (kk := kk) (tpos := tpos) D).self
  item := by
    intro X eP ew eK hc i pins s σ H E I hf ⟨oz, oti, ⟨p0, q0, oto⟩, n1, n2⟩ ⟨xs, ys, l, r, sx, sy, gl, gr⟩
    subst eP ew eK
    obtain ⟨us, va, ta, _⟩ := I.list sx
    obtain ⟨us2, vb, tb, _⟩ := I.list sy
    obtain ⟨u, gu, ru⟩ := va.get gl
    obtain ⟨u2, gu2, ru2⟩ := vb.get gr
    have lz : z < s.heap.objs.size := Heap.lt_size oz
    refine wpAny_pyNext_zip_item D oz oti oto n1 n2 ta.isList tb.isList (x := u) (y := u2) (by simpa using gu) (by simpa using gu2) fun h1 z1 to1 m1 m2 nt _ hk => ⟨_, rfl, wpAny_letOwnedTupleGo_zip (s := { s with heap := h1 }) z1 fun h2 z2 sb => ?_⟩
    have I1 := pair_new (ch := [z, ti, to, i1, i2]) (h' := h2) I hf ((sb.2 _ (Nat.ne_of_gt lz)).trans nt) ru ru2 fun c o hb q => by
      have n : c ≠ z ∧ c ≠ ti ∧ c ≠ to ∧ c ≠ i1 ∧ c ≠ i2 := by simpa using hb
      exact (sb.2 c n.1).trans (hk c o n.1 n.2.2.1 n.2.2.2.1 n.2.2.2.2 q)
    refine ⟨.ref s.heap.objs.size, _, I1, rfl, ⟨_, _, l, r, rfl, I.hok.fresh (Nat.le_refl _), rfl, rfl, rfl, fun zs q => by rw [I.list_inj q sx]; exact gl, fun zs q => by rw [I.list_inj q sy]; exact gr⟩,
      ⟨z2, (sb.2 _ D.TIz).trans (hk _ _ D.TIz D.TITO D.TIi1 D.TIi2 oti), ⟨u, u2, (sb.2 _ D.TOz).trans to1⟩, m1.at fun o q => (sb.2 _ D.i1z).trans q, m2.at fun o q => (sb.2 _ D.i2z).trans q⟩, fun c hcm => ?_⟩
    have lt : c < s.heap.objs.size := by
      obtain ⟨_, k1, _⟩ := n1
      obtain ⟨_, k2, _⟩ := n2
      rcases five hcm with q | q | q | q | q <;> rw [q]
      · exact lz
      · exact Heap.lt_size oti
      · exact Heap.lt_size oto
      · exact Heap.lt_size k1
      · exact Heap.lt_size k2
    rw [upd_ne (Nat.ne_of_lt lt)]
    exact (hf c hcm).1
end
section
variable {X : Cx} {e e2 : Expr} {ta : TA} {p pos tpos : Pos} {elts : List Expr} {kk : Nat}
theorem pi_zipF (hg : Gl X "zip") (hm : X.mg "zip" = none) (ha : PA X [e, e2] ta)
    (hs : starEach [e, e2] X.env = (false, eval e X.env) :: starEach [e2] X.env := by rfl) (hpl : (backTo pos (starEach [e2] X.env)).any (·.1) = false := by rfl) :
    PI X (.Tuple elts kk tpos) (.Call (.Name "zip" p) [e, e2] [] pos) (fun σ H R => ta σ H fun vs H1 => ∃ a b xs ys, vs = [.ref a, .ref b] ∧
      ((SqL X.K H1 a xs ∧ SqL X.K H1 b ys ∧ R (ItF (fun H xs => SqL X.K H a xs) fun H ys => SqL X.K H b ys) H1) ∨ (SqT X.K H1 a xs ∧ SqT X.K H1 b ys ∧ R (ItF (fun H xs => SqT X.K H a xs) fun H ys => SqT X.K H b ys) H1))) := by
  refine ⟨fun pins s σ H R I h => Call_ (ld_blt I hg hm PyProof.Rows.boot_zip (PyProof.Rows.callWith_type1 (thn (ha.run pos pins s σ H _ I h) fun us s1 ⟨vs, H1, I1, rr, a, b, xs, ys, ev, q1⟩ => ?_) hs hpl))⟩
  subst ev
  obtain ⟨u, u2, eu, ra, rb⟩ := vals2 rr
  subst eu
  obtain rfl : u = .ref a := ra
  obtain rfl : u2 = .ref b := rb
  have fp : ∀ c ∈ [s1.heap.objs.size + 4, s1.heap.objs.size + 2, s1.heap.objs.size + 3, s1.heap.objs.size, s1.heap.objs.size + 1], FpOk X pins H1 c := fun c hc => by
    have le : s1.heap.objs.size ≤ c := by
      rcases five hc with q | q | q | q | q <;> rw [q]
      · exact Nat.le_add_right _ _
      · exact Nat.le_add_right _ _
      · exact Nat.le_add_right _ _
      · exact Nat.le_refl _
      · exact Nat.le_add_right _ _
    exact I1.fpOk le (I1.hok.fresh le)
  rcases q1 with ⟨sx, sy, q⟩ | ⟨sx, sy, q⟩
  · obtain ⟨us, _, ta, _⟩ := I1.list sx
    obtain ⟨us2, _, tb, _⟩ := I1.list sy
    refine call_zip_2 ta.isList tb.isList fun h' oz oti oto n1 n2 _ hk => wpAny_pyIter_zip oz ?_
    exact ⟨_, [s1.heap.objs.size + 4, s1.heap.objs.size + 2, s1.heap.objs.size + 3, s1.heap.objs.size, s1.heap.objs.size + 1], _, _, H1, rfl, I1.kept (t' := s1.toks) hk, turn_zipFL (PySem.W.ktu_apart s1.heap.objs.size a b ta.lt tb.lt), ⟨oz, oti, ⟨_, _, oto⟩, n1, n2⟩, fp, q⟩
  · obtain ⟨us, _, ta, _⟩ := I1.tuple sx
    obtain ⟨us2, _, tb, _⟩ := I1.tuple sy
    have la : a < s1.heap.objs.size := by obtain ⟨o, k, _⟩ := ta; exact Heap.lt_size k
    have lb : b < s1.heap.objs.size := by obtain ⟨o, k, _⟩ := tb; exact Heap.lt_size k
    refine RZ.call_zipT (show s1.heap.IsTuple a us.toArray from ta) (show s1.heap.IsTuple b us2.toArray from tb) fun h' oz oti oto n1 n2 _ hk => wpAny_pyIter_zip oz ?_
    exact ⟨_, [s1.heap.objs.size + 4, s1.heap.objs.size + 2, s1.heap.objs.size + 3, s1.heap.objs.size, s1.heap.objs.size + 1], _, _, H1, rfl, I1.kept (t' := s1.toks) hk, turn_zipFT (PySem.W.ktu_apart s1.heap.objs.size a b la lb), ⟨oz, oti, ⟨_, _, oto⟩, n1, n2⟩, fp, q⟩
end
def zipD : List D → List D → List D
  | x :: xs, y :: ys => .tup [x, y] :: zipD xs ys
  | _, _ => []
def zipR : List D → R (List D)
  | [.lst xs, .lst ys] => .ok (zipD xs ys)
  | [.tup xs, .tup ys] => .ok (zipD xs ys)
  | _ => .st
theorem zipR_cases (ds : List D) : (∃ xs ys, ds = [.lst xs, .lst ys] ∧ zipR ds = .ok (zipD xs ys)) ∨ (∃ xs ys, ds = [.tup xs, .tup ys] ∧ zipR ds = .ok (zipD xs ys)) ∨ zipR ds = .st := by
  unfold zipR
  split
  · exact .inl ⟨_, _, rfl, rfl⟩
  · exact .inr (.inl ⟨_, _, rfl, rfl⟩)
  · exact .inr (.inr rfl)
def mZip (mr : En → R (List D)) : En → R (List D) := fun env => (mr env).bind zipR
theorem zipD_get : ∀ {xs ys : List D} {i : Nat} {d : D}, (zipD xs ys)[i]? = some d → ∃ a b, xs[i]? = some a ∧ ys[i]? = some b ∧ d = .tup [a, b]
  | x :: xs, y :: ys, 0, d, h => by
    unfold zipD at h
    simp at h
    exact ⟨x, y, rfl, rfl, h.symm⟩
  | x :: xs, y :: ys, i + 1, d, h => by
    unfold zipD at h
    obtain ⟨a, b, h1, h2, h3⟩ := zipD_get (by simpa using h)
    exact ⟨a, b, by simpa using h1, by simpa using h2, h3⟩
  | [], ys, i, d, h => by simp [zipD] at h
  | x :: xs, [], i, d, h => by simp [zipD] at h
theorem zipD_length : ∀ (xs ys : List D), (zipD xs ys).length = min xs.length ys.length
  | x :: xs, y :: ys => by unfold zipD; rw [List.length_cons, List.length_cons, List.length_cons, zipD_length xs ys]; omega
  | [], ys => by simp [zipD]
  | x :: xs, [] => by simp [zipD]
section
variable {K : PySem.W.Frag} {g : G0} {Z : Av} {H : Hp}
theorem walk_zipF {sa sb : Hp → List V → Prop} {ds es : List D} {vs ws : List V} (r : RepL K g H Z ds vs) (r2 : RepL K g H Z es ws) (hs : ∀ H', Kp H Z H' (fun _ => False) → sa H' vs) (hs2 : ∀ H', Kp H Z H' (fun _ => False) → sb H' ws) : Walk K g Z H (ItF sa sb) (zipD ds es) where
  go := fun i d H' e k => by
    obtain ⟨a, b, h1, h2, _⟩ := zipD_get e
    obtain ⟨v, h3, _⟩ := r.get h1
    obtain ⟨v2, h4, _⟩ := r2.get h2
    exact ⟨vs, ws, v, v2, hs H' k, hs2 H' k, h3, h4⟩
  yld := fun i d H' v H'' e k y => by
    obtain ⟨at_, o, l, q, rfl, hn, oc, od, rfl, y1, y2⟩ := y
    obtain ⟨a, b, h1, h2, h3⟩ := zipD_get e
    obtain ⟨v1, g1, p1⟩ := r.get h1
    obtain ⟨v2, g2, p2⟩ := r2.get h2
    have e1 := y1 vs (hs H' k)
    rw [g1] at e1
    cases e1
    have e2 := y2 ws (hs2 H' k)
    rw [g2] at e2
    cases e2
    refine ⟨same_upd hn, fun Z' k2 hz => ?_⟩
    rw [h3]
    exact Rep.tup_.mpr ⟨at_, _, rfl, .inl ⟨o, upd_same, oc, od⟩, RepL.cons_.mpr ⟨_, _, rfl, Rep.mono k2 _ _ p1, .one (Rep.mono k2 _ _ p2)⟩⟩
  stop := fun i H' l k => ⟨vs, ws, hs H' k, hs2 H' k, by rw [zipD_length, r.length, r2.length] at l; omega⟩
end
section
variable {g : G0} {x : L2.St → Prop} {W : WX} {X : Cx} {e e2 : Expr} {p pos tpos : Pos} {elts : List Expr} {kk : Nat} {mr : En → R (List D)}
theorem di_zip (hg : Gl X "zip") (hm : X.mg "zip" = none) (ha : PAd g x W X [e, e2] mr)
    (hs : starEach [e, e2] X.env = (false, eval e X.env) :: starEach [e2] X.env := by rfl) (hpl : (backTo pos (starEach [e2] X.env)).any (·.1) = false := by rfl) : PId g x W X (.Tuple elts kk tpos) (.Call (.Name "zip" p) [e, e2] [] pos) (mZip mr) :=
  weakI (pi_zipF hg hm ha hs hpl) fun σ H Rn ⟨env, Z, er, hp⟩ => by
    refine ⟨env, Z, er, ?_⟩
    unfold mZip at hp
    cases em : mr env with
    | ok ds =>
      rw [em] at hp
      have hp : PostI X.K g W Z σ H Rn (zipR ds) := hp
      intro vs H' k r
      rcases zipR_cases ds with ⟨xs, ys, ed, ez⟩ | ⟨xs, ys, ed, ez⟩ | ez
      · rw [ez] at hp
        subst ed
        obtain ⟨v, _, e1, q1, r2⟩ := RepL.cons_.mp r
        obtain ⟨v2, _, e3, q2, r3⟩ := RepL.cons_.mp r2
        have e4 := RepL.nil_.mp r3
        subst e1 e3 e4
        obtain ⟨a, us, e5, rd, rr⟩ := Rep.lst_.mp q1
        obtain ⟨b, ws, e6, rd2, rr2⟩ := Rep.lst_.mp q2
        subst e5 e6
        exact ⟨a, b, us, ws, rfl, .inl ⟨rd.sq, rd2.sq, hp _ H' k (walk_zipF rr rr2 (fun H2 k2 => (k2.ls rd).sq) fun H2 k2 => (k2.ls rd2).sq)⟩⟩
      · rw [ez] at hp
        subst ed
        obtain ⟨v, _, e1, q1, r2⟩ := RepL.cons_.mp r
        obtain ⟨v2, _, e3, q2, r3⟩ := RepL.cons_.mp r2
        have e4 := RepL.nil_.mp r3
        subst e1 e3 e4
        obtain ⟨a, us, e5, rd, rr⟩ := Rep.tup_.mp q1
        obtain ⟨b, ws, e6, rd2, rr2⟩ := Rep.tup_.mp q2
        subst e5 e6
        exact ⟨a, b, us, ws, rfl, .inr ⟨rd.sqT, rd2.sqT, hp _ H' k (walk_zipF rr rr2 (fun H2 k2 => (k2.tu rd).sqT) fun H2 k2 => (k2.tu rd2).sqT)⟩⟩
      · rw [ez] at hp
        exact hp.elim
    | ex c p => rw [em] at hp; exact hp
    | st => rw [em] at hp; exact hp.elim
end
end DL
set_option Elab.async false
set_option linter.all false
set_option maxRecDepth 100000
set_option maxHeartbeats 4000000
namespace DL
open PySem PySem.Spec L2
open PyProof.Rows hiding St
/-! ### xs.append(xs.pop(k)), xs.reverse() -/
def sRot (i : Nat) (mk : B) : MS := fun env => match env[i]? with
  | some (some (.ow xs)) => match mk env with
    | .ok k => match k with
      | .int n => match ixD xs.length n with
        | some l => match xs[l]? with
          | some d => if xs.length < lim ∧ -1000000 ≤ n ∧ n ≤ 1000000 then .nx ((env.set i (some (.ow (xs.eraseIdx l)))).set i (some (.ow (xs.eraseIdx l ++ [d])))) else .st
          | none => .st
        | none => .st
      | _ => .st
    | .ex c p => .ex c p env
    | .st => .st
  | _ => .st
def sRev (i : Nat) : MS := fun env => match env[i]? with
  | some (some (.ow xs)) => .nx (env.set i (some (.ow xs.reverse)))
  | _ => .st
section
variable {g : G0} {x : L2.St → Prop} {W : WX} {X : Cx} {ek : Expr} {pos apos cpos apos2 cpos2 p p2 : Pos} {mk : B} {y : Str}
theorem RepL.rev {K : PySem.W.Frag} {H : Hp} {Z : Av} : ∀ {ds : List D} {vs : List V}, RepL K g H Z ds vs → RepL K g H Z ds.reverse vs.reverse
  | [], vs, h => by
    have e := RepL.nil_.mp h
    subst e
    exact RepL.nil_.mpr rfl
  | d :: ds, vs, h => by
    obtain ⟨v, r, e, h1, h2⟩ := RepL.cons_.mp h
    subst e
    rw [List.reverse_cons, List.reverse_cons]
    exact (RepL.rev h2).append (.one h1)
theorem ds_rot (i : Nat) (hN : X.N[i]? = some y) (hv : Vis X.env.scope y) (hd : (y == ("__debug__" : Str)) = false) (hcd : (y == ("__classdict__" : Str)) = false) (hk : PBd g x W X ek mk)
    (hb1 : attributeBase (.Name y p) "append" X.env (eval (.Name y p) X.env) = eval (.Name y p) X.env) (hb2 : attributeBase (.Name y p2) "pop" X.env (eval (.Name y p2) X.env) = eval (.Name y p2) X.env)
    (hl1 : (apos.endLine == cpos.line) = true) (hl2 : (apos2.endLine == cpos2.line) = true) (hs2 : starEach [ek] X.env = [(false, eval ek X.env)])
    (hs1 : starEach [.Call (.Attribute (.Name y p2) "pop" apos2) [ek] [] cpos2] X.env = [(false, eval (.Call (.Attribute (.Name y p2) "pop" apos2) [ek] [] cpos2) X.env)])
    (hs : swapsWith (.Call (.Attribute (.Name y p) "append" apos) [.Call (.Attribute (.Name y p2) "pop" apos2) [ek] [] cpos2] [] cpos) none pos.line X.env = pure false) :
    PSd g x W X (.Expr (.Call (.Attribute (.Name y p) "append" apos) [.Call (.Attribute (.Name y p2) "pop" apos2) [ek] [] cpos2] [] cpos) pos) (sRot i mk) :=
  weakS (ps_expr (pe_bm PySem.F.plainAttrs_list PySem.F.slot_list_append PySem.F.type_list_append mt_append (pe_var hN hv hd hcd)
    (pa_cons (pe_bm PySem.F.plainAttrs_list PySem.F.slot_list_pop PySem.F.type_list_pop mt_popAt (pe_var hN hv hd hcd) (pa_cons hk pa_nil hs2) hb2 (by rw [hs2]; rfl) hl2 hs2 rfl) pa_nil hs1) hb1 (by rw [hs1]; rfl) hl1 hs1 rfl) hs) fun D σ H ⟨env, A, H0, r, hp⟩ => by
    unfold sRot at hp
    split at hp
    · rename_i xs e1
      obtain ⟨v, f1, a, vs, ev, za, pa, ra⟩ := r.er.at_ i _ e1
      subst ev
      refine ⟨.ref a, f1, .inl ⟨rfl, vs, SqL.of pa⟩, .ref a, f1, .inl ⟨rfl, vs, SqL.of pa⟩, env, zz A env σ, r.er, ?_⟩
      cases ek : mk env with
      | ok kd =>
        rw [ek] at hp
        intro w H1 k q
        cases kd with
        | int n =>
          have hp : PostS X.K g x W A H0 D (match ixD xs.length n with
            | some l => match xs[l]? with
              | some d => if xs.length < lim ∧ -1000000 ≤ n ∧ n ≤ 1000000 then .nx ((env.set i (some (.ow (xs.eraseIdx l)))).set i (some (.ow (xs.eraseIdx l ++ [d])))) else .st
              | none => .st
            | none => .st) := hp
          split at hp
          · rename_i l hl
            split at hp
            · rename_i d hd
              split at hp
              · rename_i hc
                obtain ⟨hlim, h1, h2⟩ := hc
                have ra1 := RepL.mono (.same_ (Z := zz A env σ) k) _ _ ra
                obtain ⟨vd, hvd, qd⟩ := ra1.get hd
                have hix : ixN vs.length n = some l := by rw [← ra.length]; exact hl
                have r2 := (r.later k).mut e1 f1 (ra1.eraseIdx l)
                have hi : i < env.length := (List.getElem?_eq_some_iff.mp e1).1
                have e1' : (env.set i (some (.ow (xs.eraseIdx l))))[i]? = some (some (.ow (xs.eraseIdx l))) := List.getElem?_set_self hi
                have kz : Kp H1 (zz A env σ) (upd H1 a (.lst (vs.eraseIdx l))) (zz A (env.set i (some (.ow (xs.eraseIdx l)))) σ) := by
                  refine ⟨fun c o e n => by rw [upd_ne (fun q => n (by rw [q]; exact za))]; exact e, fun c o ts e => ?_, fun c _ n z => n ?_⟩
                  · rw [upd_ne]
                    · exact e
                    · intro q
                      rw [q, k _ _ pa] at e
                      cases e
                  · rcases z with z | ⟨m, us, g1, g2⟩
                    · exact .inl z
                    · rcases set_get g1 with ⟨jm, _, _⟩ | ⟨_, g1⟩
                      · subst jm; exact .inr ⟨i, xs, e1, g2⟩
                      · exact .inr ⟨m, us, g1, g2⟩
                have le : (vs.eraseIdx l).length ≤ vs.length := List.length_eraseIdx_le _ _
                refine ⟨a, vs, n, l, vd, rfl, by rw [q.int_], k _ _ pa, by omega, by omega, (ixN_seq hix).1, hvd, ?_⟩
                refine ⟨a, vs.eraseIdx l, vd, rfl, rfl, upd_same, Nat.lt_of_le_of_lt le (by rw [← ra.length]; exact limLine' hlim), ?_⟩
                exact hp σ _ (r2.mut e1' f1 ((RepL.mono kz _ _ (ra1.eraseIdx l)).append (.one (Rep.mono kz _ _ qd))))
              · exact hp.elim
            · exact hp.elim
          · exact hp.elim
        | _ => exact hp.elim
      | ex c p => rw [ek] at hp; exact fun H' dd k q => hp σ H' dd (r.later k) (exA q)
      | st => rw [ek] at hp; exact hp
    · exact hp.elim
theorem ds_rev (i : Nat) (hN : X.N[i]? = some y := by rfl) (hv : Vis X.env.scope y := by first | exact Or.inl rfl | exact Or.inr (Or.inl rfl) | exact Or.inr (Or.inr rfl)) (hd : (y == ("__debug__" : Str)) = false := by decide) (hcd : (y == ("__classdict__" : Str)) = false := by decide)
    (hb : attributeBase (.Name y p) "reverse" X.env (eval (.Name y p) X.env) = eval (.Name y p) X.env := by rfl) (hl : (apos.endLine == cpos.line) = true := by rfl)
    (hs : swapsWith (.Call (.Attribute (.Name y p) "reverse" apos) [] [] cpos) none pos.line X.env = pure false := by rfl) : PSd g x W X (.Expr (.Call (.Attribute (.Name y p) "reverse" apos) [] [] cpos) pos) (sRev i) :=
  weakS (ps_expr (pe_bm0 PySem.F.plainAttrs_list PySem.F.slot_list_reverse PySem.F.type_list_reverse mt_reverse (pe_var hN hv hd hcd) hb hl) hs) fun D σ H ⟨env, A, H0, r, hp⟩ => by
    unfold sRev at hp
    split at hp
    · rename_i xs e1
      obtain ⟨v, f1, a, vs, ev, za, pa, ra⟩ := r.er.at_ i _ e1
      subst ev
      exact ⟨.ref a, f1, .inl ⟨rfl, vs, SqL.of pa⟩, a, vs, rfl, rfl, pa, hp σ _ (r.mut e1 f1 ra.rev)⟩
    · exact hp.elim
end
end DL
set_option Elab.async false
set_option linter.all false
set_option maxRecDepth 100000
set_option maxHeartbeats 4000000
namespace DL
open PySem PySem.Spec L2
open PyProof.Rows hiding St
/-! ### xs.index(y), a tuple or a list -/
theorem toPyL_get : ∀ (xs : List D) (i : Nat), (toPyL xs)[i]? = (xs[i]?).map toPy
  | [], i => by simp [toPyL]
  | x :: xs, 0 => by simp [toPyL]
  | x :: xs, i + 1 => by
    have e := toPyL_get xs i
    simp only [toPyL, List.getElem?_cons_succ]
    exact e
theorem noObjL_get : ∀ {xs : List D} {i : Nat} {d : D}, noObjL xs = true → xs[i]? = some d → noObj d = true
  | x :: xs, 0, d, h, e => by
    simp only [noObjL, Bool.and_eq_true] at h
    cases e
    exact h.1
  | x :: xs, i + 1, d, h, e => by
    simp only [noObjL, Bool.and_eq_true] at h
    exact noObjL_get h.2 (by simpa using e)
  | [], i, d, h, e => by simp at e
theorem PE.or {X : Cx} {e : Expr} {t u : TE} (h : PE X e t) (h' : PE X e u) : PE X e (fun σ H Q => t σ H Q ∨ u σ H Q) :=
  ⟨fun pins s σ H Q I q => q.elim (h.run pins s σ H Q I) (h'.run pins s σ H Q I)⟩
def mLstIdx (mo me : B) : M := fun env => (mo env).bind fun t => match t with
  | .lst xs => (me env).bind fun x => fLstIdx (.lst xs) x
  | _ => .st
def mIdx (mo me : B) : M := fun env => (mo env).bind fun t => match t with
  | .tup xs => (me env).bind fun x => fTupIdx (.tup xs) x
  | .lst xs => (me env).bind fun x => fLstIdx (.lst xs) x
  | _ => .st
section
variable {g : G0} {x : L2.St → Prop} {W : WX} {X : Cx} {o e : Expr} {pos apos cpos : Pos} {mo me : B}
theorem de_lstIdx (hu : X.A.units + 65 < cLine) (ho : PBd g x W X o mo) (he : PBd g x W X e me) (hbase : attributeBase o "index" X.env (eval o X.env) = eval o X.env := by rfl) (hline : (apos.endLine == cpos.line) = true := by rfl)
    (hse : starEach [e] X.env = [(false, eval e X.env)] := by rfl) : PEd g x W X (.Call (.Attribute o "index" apos) [e] [] cpos) (mLstIdx mo me) :=
  weakE (pe_bm PySem.F.plainAttrs_list PySem.F.slot_list_index PySem.F.type_list_index (mt_indexD hu) ho (pa_cons he pa_nil hse) hbase (by rw [hse]; rfl) hline hse rfl) fun σ H Q ⟨env, Z, er, hp⟩ =>
    useB er hp fun d v H1 e1 k1 r1 hp1 => by
      cases d with
      | lst xs =>
        obtain ⟨a, vs, ev, sq, rr⟩ := r1.lst'
        have hp1 : PostE X.K g W Z σ H1 Q ((me env).bind fun y => fLstIdx (.lst xs) y) := hp1
        subst ev
        refine ⟨.inl ⟨rfl, vs, sq⟩, ?_⟩
        refine useB (er.mono k1) hp1 fun y u H2 e2 k2 r2 hp2 => ?_
        have hp2 : PostE X.K g W Z σ H2 Q (if (okE (.lst xs) && okE y) = true then match fIdxAux y xs 0 with
          | some j => .ok (.fr (.int j))
          | none => .st else .st) := hp2
        split at hp2
        · rename_i hm
          simp only [okE, Bool.and_eq_true] at hm
          split at hp2
          · rename_i j hj
            obtain ⟨_, c, h2, h3, h4⟩ := idx_at hj
            rw [Nat.sub_zero] at h2 h4
            have nl : noObjL xs = true := by simpa [noObj] using hm.1.1
            have tl : toPy (.lst xs) = .list (toPyL xs) := by simp [toPy]
            have dl : Dp X.K H2 (V.ref a) (.list (toPyL xs)) := by
              rw [← tl]
              exact (r1.mono k2).dp hm.1.1
            refine ⟨a, u, toPy y, toPyL xs, j, toPy c, rfl, rfl, dl, r2.dp hm.2.1, by rw [← tl]; exact hm.1.2, hm.2.2, by rw [toPyL_get, h2]; rfl, ?_, fun m z' lm hz' => ?_, hp2 _ H2 (Same.refl _) (Rep.int_.mpr rfl)⟩
            · rw [eqv_py c y (noObjL_get nl h2) hm.2.1]
              exact h3
            · rw [toPyL_get] at hz'
              cases em : xs[m]? with
              | none => rw [em] at hz'; cases hz'
              | some b =>
                rw [em] at hz'
                cases hz'
                rw [eqv_py b y (noObjL_get nl em) hm.2.1]
                exact h4 m b lm em
          · exact hp2.elim
        · exact hp2.elim
      | _ => exact hp1.elim
theorem de_idx (hu : X.A.units + 65 < cLine) (ho : PBd g x W X o mo) (he : PBd g x W X e me) (hbase : attributeBase o "index" X.env (eval o X.env) = eval o X.env := by rfl) (hline : (apos.endLine == cpos.line) = true := by rfl)
    (hse : starEach [e] X.env = [(false, eval e X.env)] := by rfl) : PEd g x W X (.Call (.Attribute o "index" apos) [e] [] cpos) (mIdx mo me) :=
  weakE (PE.or (de_tupIdx ho he hbase hline hse) (de_lstIdx hu ho he hbase hline hse)) fun σ H Q ⟨env, Z, er, hp⟩ => by
    unfold mIdx at hp
    cases em : mo env with
    | ok t =>
      rw [em] at hp
      cases t with
      | lst xs => exact .inr ⟨env, Z, er, by unfold mLstIdx; rw [em]; exact hp⟩
      | tup xs => exact .inl ⟨env, Z, er, by unfold mTupIdx; rw [em]; exact hp⟩
      | _ => exact hp.elim
    | ex c p => exact .inl ⟨env, Z, er, by unfold mTupIdx; rw [em]; rw [em] at hp; exact hp⟩
    | st => rw [em] at hp; exact hp.elim
end
end DL
set_option Elab.async false
set_option linter.all false
set_option maxRecDepth 100000
set_option maxHeartbeats 4000000
namespace DL
open PySem PySem.Spec L2
open PyProof.Rows hiding St
/-! ### a call that is lent lists: it answers a flat value, so that it keeps none of them -/
def lent (F : List D → R Sl) : List D → R Sl := fun ds => match F ds with
  | .ok (.fr d) => if flatD d = true then .ok (.fr d) else .st
  | .ex c none => .ex c none
  | _ => .st
section
variable {K : PySem.W.Frag} {g : G0} {H : Hp} {Z : Av}
theorem RepB.all {d : D} {v : V} (h : RepB K g H Z d v) : Rep K g H (fun _ => False) d v := by
  have kz : Kp H Z H (fun _ => False) := ⟨fun _ _ e _ => e, fun _ _ _ e => e, fun _ _ _ z => z⟩
  rcases h with h | ⟨xs, a, vs, e1, e2, e3, r⟩
  · exact Rep.mono kz _ _ h
  · subst e1 e2
    exact Rep.lst_.mpr ⟨a, vs, rfl, .inl ⟨fun z => z, .inl e3⟩, RepL.mono kz _ _ r⟩
theorem flat_z {d : D} {v : V} {Z' : Av} (f : flatD d = true) (h : Rep K g H Z d v) : Rep K g H Z' d v := by
  cases d with
  | non => exact Rep.non_.mpr (Rep.non_.mp h)
  | bl b => exact Rep.bl_.mpr (Rep.bl_.mp h)
  | int i => exact Rep.int_.mpr (Rep.int_.mp h)
  | str y => exact Rep.str_.mpr (Rep.str_.mp h)
  | _ => cases f
theorem RepBL.all : ∀ {ds : List D} {vs : List V}, RepBL K g H Z ds vs → RepL K g H (fun _ => False) ds vs
  | [], vs, h => by
    unfold RepBL at h
    exact RepL.nil_.mpr h
  | d :: ds, vs, h => by
    unfold RepBL at h
    obtain ⟨v, r, e, h1, h2⟩ := h
    exact RepL.cons_.mpr ⟨v, r, e, h1.all, RepBL.all h2⟩
end
section
variable {g : G0} {x : L2.St → Prop} {W : WX} {X : Cx} {e : Expr} {es : List Expr} {mr : En → R (List D)} {pos p : Pos}
theorem de_fnB {k : Nat} {y : Str} {ps : List Str} {f : Fn} (F : FD X.prog X.w X.K X.mg X.base g k y ps f) (hr : Room k X.A) (tk : Takes X W) (hg : Gl X y) (ha : PBAd g x W X (e :: es) mr)
    (hdb : (y == ("__debug__" : Str)) = false := by decide) (he : starEach (e :: es) X.env = (false, eval e X.env) :: starEach es X.env := by rfl) (hpl : (backTo pos (starEach es X.env)).any (·.1) = false := by rfl) :
    PEd g x W X (.Call (.Name y p) (e :: es) [] pos) (mCall (lent f) mr) := by
  obtain ⟨a, fd, hm, hk, hb, hF⟩ := F.ex
  exact weakE (pe_callS hF hr hg hm hk hb (fun σ => passAt tk σ) ha hdb he hpl) fun σ H Q ⟨env, Z, er, hp⟩ =>
    useBL er hp fun ds vs H1 e1 k1 r1 hp1 => by
      refine ⟨fun _ => False, ds, fun _ z => z.elim, r1.all, ?_⟩
      unfold lent at hp1
      cases ef : f ds with
      | ok s =>
        rw [ef] at hp1
        cases s with
        | ow xs => exact hp1.elim
        | fr d =>
          have hp1 : PostE X.K g W Z σ H1 Q (if flatD d = true then .ok (.fr d) else .st) := hp1
          split at hp1
          · rename_i fl
            exact fun v H' k r => hp1 v H' k (flat_z fl r)
          · exact hp1.elim
      | ex c p =>
        rw [ef] at hp1
        cases p with
        | none => exact hp1
        | some q => exact hp1.elim
      | st => rw [ef] at hp1; exact hp1.elim
end
end DL
set_option Elab.async false
set_option linter.all false
set_option maxRecDepth 100000
set_option maxHeartbeats 4000000
namespace DL
open PySem PySem.Spec L2
open PyProof.Rows hiding St
/-! ### defs with defaults -/
/-- the def y, called without its last parameters: dD stand for them -/
structure FDd (P : Program) (w : World) (K : PySem.W.Frag) (mg : Str → Option Value) (base : Heap) (g : G0) (k : Nat) (y : Str) (ps : List Str) (dD : List D) (f : Fn) : Prop where
  ex : ∃ a fd dvs ds, mg y = some (.ref a) ∧ PySem.W.keepIn K (.ref a) = true ∧ Vals dvs ds ∧ Binds K fd ps ds ∧ (∀ (H : Hp) (Z : Av), RepL K g H Z dD dvs) ∧ FnOk P w K mg base (L2.CX P w) k a fd ps (Prom K g f)
theorem FDd.mono {P : Program} {w : World} {K : PySem.W.Frag} {mg : Str → Option Value} {base : Heap} {g : G0} {j k : Nat} {y : Str} {ps : List Str} {dD : List D} {f : Fn} (F : FDd P w K mg base g j y ps dD f) (h : j ≤ k) : FDd P w K mg base g k y ps dD f := by
  obtain ⟨a, fd, dvs, ds, h1, h2, h3, h4, h5, h6⟩ := F.ex
  exact ⟨a, fd, dvs, ds, h1, h2, h3, h4, h5, h6.mono h⟩
section
variable {g : G0} {x : L2.St → Prop} {W : WX} {X : Cx} {e : Expr} {es : List Expr} {mr : En → R (List D)} {pos p : Pos}
theorem de_fnD {k : Nat} {y : Str} {ps : List Str} {dD : List D} {f : Fn} (F : FDd X.prog X.w X.K X.mg X.base g k y ps dD f) (hr : Room k X.A) (tk : Takes X W) (hg : Gl X y) (ha : PAd g x W X (e :: es) mr)
    (hdb : (y == ("__debug__" : Str)) = false := by decide) (he : starEach (e :: es) X.env = (false, eval e X.env) :: starEach es X.env := by rfl) (hpl : (backTo pos (starEach es X.env)).any (·.1) = false := by rfl) :
    PEd g x W X (.Call (.Name y p) (e :: es) [] pos) (mCall (fun ds => f (ds ++ dD)) mr) := by
  obtain ⟨a, fd, dvs, vs0, hm, hk, hv, hb, hrep, hF⟩ := F.ex
  exact weakE (pe_callSD hF hr hg hm hk hb hv (fun σ => passAt tk σ) ha hdb he hpl) fun σ H Q ⟨env, Z, er, hp⟩ =>
    useA er hp fun ds vs H1 e1 k1 r1 hp1 => ⟨Z, ds ++ dD, dom_mono k1 er.dom, r1.append (hrep _ _), postW hp1⟩
end
section
variable {P : Program} {w : World} {K : PySem.W.Frag} {mg : Str → Option Value} {base : Heap} {g : G0}
/-- the def of FunD keeps its meaning -/
theorem okD0 {y qual : Str} {params : Arguments} {bd : List Stmt} {scope : Scope} {dvs : List V} {kws : List (Str × V)} {a : Addr} {fd : FuncData} {N ps : List Str} {k : Nat} (F : FunD K y qual params bd scope dvs kws a fd) (S : FnScope N ps scope) (m : MS)
    (body : ∀ (cdv : Value) (A : Around) (outer : List Env) (s : Shared) (H : Hp) (E : XK), Room k (A.deeper (envOfC qual scope s.heap.objs.size a cdv)) →
      PSsd g T (fun c d _ H => E c d H) (cxOf (L2.CX P w) P w K mg base N qual scope a cdv A outer s H E) bd m) : FnOk P w K mg base (L2.CX P w) (k + 1) a fd ps (Prom K g (runF ps.length N.length m)) := by
  have hl : ps.length ≤ N.length := by have := congrArg List.length S.pre; rw [List.length_take] at this; omega
  have len : ∀ vs H Q E, Prom K g (runF ps.length N.length m) vs H Q E → vs.length = ps.length := fun vs H Q E ⟨Z, ds, dom, r, hp⟩ => by
    unfold runF at hp
    split at hp
    · rw [← r.length]; assumption
    · exact hp.elim
  refine F.ok S len fun cdv A outer s H vs Q E hr hsp => ?_
  have lv := len _ _ _ _ hsp
  obtain ⟨Z, ds, dom, r, hp⟩ := hsp
  refine ⟨_, body cdv A outer s H E hr, ?_⟩
  have ld : ds.length = ps.length := by rw [r.length, lv]
  unfold runF at hp
  rw [if_pos ld] at hp
  have zZ : ∀ b, zz Z (env0 ps.length N.length ds) (L2.start N vs) b → Z b := by
    rintro b (z | ⟨i, xs, e1, e2⟩)
    · exact z
    · have e1 := env0_get e1
      rw [List.getElem?_map] at e1
      cases ed : ds[i]? with
      | none => rw [ed] at e1; cases e1
      | some d => rw [ed] at e1; cases e1
  have noow : ∀ (i : Nat) (xs : List D), (env0 ps.length N.length ds)[i]? = some (some (Sl.ow xs)) → False := fun i xs e1 => by
    have e1 := env0_get e1
    rw [List.getElem?_map] at e1
    cases ed : ds[i]? with
    | none => rw [ed] at e1; cases e1
    | some d => rw [ed] at e1; cases e1
  have hlen : (env0 ps.length N.length ds).length = (L2.start N vs).length := by
    unfold env0 L2.start
    rw [List.length_append, List.length_append, List.length_map, List.length_map, List.length_replicate, List.length_replicate, lv, ld]
  have sr : SRel K g T Z H (env0 ps.length N.length ds) (L2.start N vs) H := by
    refine ⟨⟨fun b z => dom b (zZ b z), trivial, hlen, fun i s e1 => ?_⟩, Same.refl _, dom, fun i xs a e1 _ => (noow i xs e1).elim, fun i j xs ys a e1 _ _ _ => (noow i xs e1).elim, hlen⟩
    obtain ⟨v, e2, q⟩ := repl_map r (env0_get e1)
    refine ⟨v, ?_, ?_⟩
    · unfold L2.start
      rw [List.getElem?_append_left]
      · exact e2
      · exact (List.getElem?_eq_some_iff.mp e2).1
    · cases s with
      | fr d => exact Rep.mono (.of (Same.refl _) fun b _ z => zZ b z) _ _ q
      | ow xs => exact (noow i xs e1).elim
  refine ⟨env0 ps.length N.length ds, Z, H, sr, ?_⟩
  cases e : m (env0 ps.length N.length ds) with
  | nx e' => rw [e] at hp; exact fun σ' H' q => hp .non H' q.same (Rep.non_.mpr rfl)
  | rt s => rw [e] at hp; cases s <;> exact hp
  | ex c p e' => rw [e] at hp; exact fun σ' H' dd q z => hp H' dd q.same z
  | bk e' => rw [e] at hp; exact hp.elim
  | ct e' => rw [e] at hp; exact hp.elim
  | st => rw [e] at hp; exact hp.elim
theorem okD {y qual : Str} {params : Arguments} {bd : List Stmt} {scope : Scope} {dvs : List V} {kws : List (Str × V)} {a : Addr} {fd : FuncData} {N ps : List Str} {k : Nat} {dD : List D} (F : FunD K y qual params bd scope dvs kws a fd) (S : FnScope N ps scope) (hm : mg y = some (.ref a)) (hb : Binds K fd ps [])
    (hb2 : ∃ ds, Vals dvs ds ∧ Binds K fd ps ds) (hrep : ∀ (H : Hp) (Z : Av), RepL K g H Z dD dvs) (m : MS)
    (body : ∀ (cdv : Value) (A : Around) (outer : List Env) (s : Shared) (H : Hp) (E : XK), Room k (A.deeper (envOfC qual scope s.heap.objs.size a cdv)) →
      PSsd g T (fun c d _ H => E c d H) (cxOf (L2.CX P w) P w K mg base N qual scope a cdv A outer s H E) bd m) :
    FD P w K mg base g (k + 1) y ps (runF ps.length N.length m) ∧ FDd P w K mg base g (k + 1) y ps dD (runF ps.length N.length m) := by
  have ok := okD0 F S m body
  obtain ⟨ds, h1, h2⟩ := hb2
  exact ⟨⟨a, fd, hm, F.kp, hb, ok⟩, ⟨a, fd, dvs, ds, hm, F.kp, h1, h2, hrep, ok⟩⟩
end
end DL
set_option Elab.async false
set_option linter.all false
set_option maxRecDepth 100000
set_option maxHeartbeats 4000000
namespace DL
open PySem PySem.Spec L2
open PyProof.Rows hiding St
/-! ### bits -/
def fBitAnd : D → D → R Sl
  | .int a, .int b => .ok (.fr (.int (Builtin.bitAnd a b)))
  | _, _ => .st
def fBitOr : D → D → R Sl
  | .int a, .int b => .ok (.fr (.int (Builtin.bitOr a b)))
  | _, _ => .st
def fBitXor : D → D → R Sl
  | .int a, .int b => .ok (.fr (.int (Builtin.bitXor a b)))
  | _, _ => .st
section
variable {K : PySem.W.Frag}
theorem of_band : OpF K (rI0 fun i j => .int (Builtin.bitAnd i j)) fBitAnd := by
  intro g W H Z σ x y v u Q dom rx ry hp
  cases x <;> cases y <;> first | exact hp.elim | skip
  rw [rx.int_, ry.int_]
  exact ⟨_, _, rfl, rfl, hp _ H (Same.refl _) (Rep.int_.mpr rfl)⟩
theorem of_bor : OpF K (rI0 fun i j => .int (Builtin.bitOr i j)) fBitOr := by
  intro g W H Z σ x y v u Q dom rx ry hp
  cases x <;> cases y <;> first | exact hp.elim | skip
  rw [rx.int_, ry.int_]
  exact ⟨_, _, rfl, rfl, hp _ H (Same.refl _) (Rep.int_.mpr rfl)⟩
theorem of_bxor : OpF K (rI0 fun i j => .int (Builtin.bitXor i j)) fBitXor := by
  intro g W H Z σ x y v u Q dom rx ry hp
  cases x <;> cases y <;> first | exact hp.elim | skip
  rw [rx.int_, ry.int_]
  exact ⟨_, _, rfl, rfl, hp _ H (Same.refl _) (Rep.int_.mpr rfl)⟩
end
section
variable {g : G0} {x : L2.St → Prop} {W : WX} {X : Cx} {a b : Expr} {pos : Pos} {ma mb : B}
theorem de_band (ha : PBd g x W X a ma) (hb : PBd g x W X b mb) : PEd g x W X (.BinOp a .BitAnd b pos) (mBin fBitAnd ma mb) := de_op op_and of_band ha hb
theorem de_bor (ha : PBd g x W X a ma) (hb : PBd g x W X b mb) : PEd g x W X (.BinOp a .BitOr b pos) (mBin fBitOr ma mb) := de_op op_or of_bor ha hb
theorem de_bxor (ha : PBd g x W X a ma) (hb : PBd g x W X b mb) : PEd g x W X (.BinOp a .BitXor b pos) (mBin fBitXor ma mb) := de_op op_xor of_bxor ha hb
end
end DL
set_option Elab.async false
set_option linter.all false
set_option maxRecDepth 100000
set_option maxHeartbeats 4000000
namespace DL
open PySem PySem.Spec L2
open PyProof.Rows hiding St
/-! ### all, any, sum of a list -/
def asBL : List D → Option (List Bool)
  | [] => some []
  | .bl b :: r => (asBL r).map (b :: ·)
  | _ => none
def asIL : List D → Option (List Int)
  | [] => some []
  | .int b :: r => (asIL r).map (b :: ·)
  | _ => none
def fAll : List D → R Sl
  | [.lst ds] => match asBL ds with
    | some bs => .ok (.fr (.bl (bs.all id)))
    | none => .st
  | _ => .st
def fAny : List D → R Sl
  | [.lst ds] => match asBL ds with
    | some bs => .ok (.fr (.bl (bs.any id)))
    | none => .st
  | _ => .st
def fSum : List D → R Sl
  | [.lst ds] => match asIL ds with
    | some ns => .ok (.fr (.int ns.sum))
    | none => .st
  | _ => .st
section
variable {K : PySem.W.Frag} {g : G0} {H : Hp} {Z : Av}
theorem asBL_rep : ∀ {ds : List D} {vs : List V} {bs : List Bool}, asBL ds = some bs → RepL K g H Z ds vs → vs = bs.map V.bl
  | [], vs, bs, h, r => by
    cases h
    exact RepL.nil_.mp r
  | d :: ds, vs, bs, h, r => by
    cases d with
    | bl b =>
      have h : (asBL ds).map (b :: ·) = some bs := h
      cases e : asBL ds with
      | none => rw [e] at h; cases h
      | some cs =>
        rw [e] at h
        cases h
        obtain ⟨v, w, ev, h1, h2⟩ := RepL.cons_.mp r
        rw [ev, Rep.bl_.mp h1, asBL_rep e h2]
        rfl
    | _ => cases h
theorem asIL_rep : ∀ {ds : List D} {vs : List V} {bs : List Int}, asIL ds = some bs → RepL K g H Z ds vs → vs = bs.map V.int
  | [], vs, bs, h, r => by
    cases h
    exact RepL.nil_.mp r
  | d :: ds, vs, bs, h, r => by
    cases d with
    | int b =>
      have h : (asIL ds).map (b :: ·) = some bs := h
      cases e : asIL ds with
      | none => rw [e] at h; cases h
      | some cs =>
        rw [e] at h
        cases h
        obtain ⟨v, w, ev, h1, h2⟩ := RepL.cons_.mp r
        rw [ev, Rep.int_.mp h1, asIL_rep e h2]
        rfl
    | _ => cases h
theorem cf_all : CallF K (rAll K) fAll := by
  intro g W H Z σ xs vs Q dom r hp
  unfold fAll at hp
  split at hp
  · rename_i ds
    obtain ⟨v, rfl, rv⟩ := r.one_
    obtain ⟨a, ws, rfl, t, rr⟩ := rv.lst_
    split at hp
    · rename_i bs e
      have ew := asBL_rep e rr
      subst ew
      exact ⟨a, bs, rfl, t, hp _ H (Same.refl _) (Rep.bl_.mpr rfl)⟩
    · exact hp.elim
  · exact hp.elim
theorem cf_any : CallF K (rAny K) fAny := by
  intro g W H Z σ xs vs Q dom r hp
  unfold fAny at hp
  split at hp
  · rename_i ds
    obtain ⟨v, rfl, rv⟩ := r.one_
    obtain ⟨a, ws, rfl, t, rr⟩ := rv.lst_
    split at hp
    · rename_i bs e
      have ew := asBL_rep e rr
      subst ew
      exact ⟨a, bs, rfl, t, hp _ H (Same.refl _) (Rep.bl_.mpr rfl)⟩
    · exact hp.elim
  · exact hp.elim
theorem cf_sum : CallF K (rSum K) fSum := by
  intro g W H Z σ xs vs Q dom r hp
  unfold fSum at hp
  split at hp
  · rename_i ds
    obtain ⟨v, rfl, rv⟩ := r.one_
    obtain ⟨a, ws, rfl, t, rr⟩ := rv.lst_
    split at hp
    · rename_i bs e
      have ew := asIL_rep e rr
      subst ew
      exact ⟨a, bs, rfl, t, hp _ H (Same.refl _) (Rep.int_.mpr rfl)⟩
    · exact hp.elim
  · exact hp.elim
end
section
variable {g : G0} {x : L2.St → Prop} {W : WX} {X : Cx} {e : Expr} {es : List Expr} {mr : En → R (List D)} {pos p : Pos}
theorem de_all (hc : X.calm = true) (hg : Gl X "all") (hm : X.mg "all" = none) (ha : PBAd g x W X (e :: es) mr) (he : starEach (e :: es) X.env = (false, eval e X.env) :: starEach es X.env := by rfl) (hpl : (backTo pos (starEach es X.env)).any (·.1) = false := by rfl) :
    PEd g x W X (.Call (.Name "all" p) (e :: es) [] pos) (mCall fAll mr) := de_callB (cr_all hc) cf_all hg hm (by decide +kernel) ha (by decide) (by decide) he hpl
theorem de_any (hc : X.calm = true) (hg : Gl X "any") (hm : X.mg "any" = none) (ha : PBAd g x W X (e :: es) mr) (he : starEach (e :: es) X.env = (false, eval e X.env) :: starEach es X.env := by rfl) (hpl : (backTo pos (starEach es X.env)).any (·.1) = false := by rfl) :
    PEd g x W X (.Call (.Name "any" p) (e :: es) [] pos) (mCall fAny mr) := de_callB (cr_any hc) cf_any hg hm (by decide +kernel) ha (by decide) (by decide) he hpl
theorem de_sum (hc : X.calm = true) (hg : Gl X "sum") (hm : X.mg "sum" = none) (ha : PBAd g x W X (e :: es) mr) (he : starEach (e :: es) X.env = (false, eval e X.env) :: starEach es X.env := by rfl) (hpl : (backTo pos (starEach es X.env)).any (·.1) = false := by rfl) :
    PEd g x W X (.Call (.Name "sum" p) (e :: es) [] pos) (mCall fSum mr) := de_callB (cr_sum hc) cf_sum hg hm (by decide +kernel) ha (by decide) (by decide) he hpl
end

/-! ### type(x) is T -/
def tyN : D → String
  | .non => "NoneType"
  | .bl _ => "bool"
  | .int _ => "int"
  | .str _ => "str"
  | .tup _ => "tuple"
  | .lst _ => "list"
  | .obj _ _ => ""
def fTyIs (t : Ty) : D → R Sl
  | .obj _ _ => .st
  | d => .ok (.fr (.bl (decide (tyN d = t.nm))))
section
variable {K : PySem.W.Frag}
theorem uf_ty (t : Ty) : UnF K (fun x H Q => rTyp K [x] H fun z H2 => ∃ m n, z = .ty m ∧ V.ty t.nm = .ty n ∧ Q (.bl (decide (m = n))) H2) (fTyIs t) := by
  intro g W H Z σ x v Q dom rx hp
  have fin : ∀ {n : String}, TyB K H v n → Q (.bl (decide (n = t.nm))) H → (rTyp K [v] H fun z H2 => ∃ m n, z = .ty m ∧ V.ty t.nm = .ty n ∧ Q (.bl (decide (m = n))) H2) := fun {n} ty q => ⟨v, n, rfl, ty, n, t.nm, rfl, rfl, q⟩
  cases x with
  | non => rw [rx.non_] at fin ⊢; exact fin .non (hp _ H (Same.refl _) (Rep.bl_.mpr rfl))
  | bl b => rw [rx.bl_] at fin ⊢; exact fin (.bl b) (hp _ H (Same.refl _) (Rep.bl_.mpr rfl))
  | int b => rw [rx.int_] at fin ⊢; exact fin (.int b) (hp _ H (Same.refl _) (Rep.bl_.mpr rfl))
  | str b => rw [rx.str_] at fin ⊢; exact fin (.str b) (hp _ H (Same.refl _) (Rep.bl_.mpr rfl))
  | tup xs =>
    obtain ⟨a, ws, e, tu, rr⟩ := rx.tup_
    subst e
    exact fin (.tup tu.sqT) (hp _ H (Same.refl _) (Rep.bl_.mpr rfl))
  | lst xs =>
    obtain ⟨a, ws, e, rd, rr⟩ := rx.lst_
    subst e
    exact fin (.lst rd) (hp _ H (Same.refl _) (Rep.bl_.mpr rfl))
  | obj c fs => exact hp.elim
end
section
variable {g : G0} {x : L2.St → Prop} {W : WX} {X : Cx} {a : Expr} {pos p p2 pos2 : Pos} {ma : B}
theorem de_tyIs (t : Ty) (hg : Gl X "type") (hm : X.mg "type" = none) (hg2 : Gl X (Str.ofString t.nm)) (hm2 : X.mg (Str.ofString t.nm) = none) (ha : PBd g x W X a ma)
    (hv : bootBuiltins (Str.ofString t.nm) = some (.type t.nm) := by decide +kernel) (hn : (Str.ofString t.nm) ≠ "__name__" := by decide) (hd : ((Str.ofString t.nm) == ("__debug__" : Str)) = false := by decide)
    (he : starEach [a] X.env = (false, eval a X.env) :: starEach [] X.env := by rfl) :
    PEd g x W X (.Compare (.Call (.Name "type" p) [a] [] pos) [.Is] [.Name (Str.ofString t.nm) p2] pos2) (mUn (fTyIs t) ma) :=
  weakE (pe_cmpR op_isTy (pe_callTy call_type1 hg hm (by decide +kernel) (pa_cons ha pa_nil he) (by decide) (by decide) he rfl) (pe_bltn (v := .ty t.nm) hg2 hm2 hv rfl hn hd) (nomark _)) fun σ H Q ⟨env, Z, er, hp⟩ =>
    useB er hp fun d v H1 e1 k1 r1 hp1 => uf_ty t g W H1 Z σ _ _ _ (dom_mono k1 er.dom) r1 hp1
end
end DL
set_option Elab.async false
set_option linter.all false
set_option maxRecDepth 100000
set_option maxHeartbeats 4000000
namespace DL
open PySem PySem.Spec L2
open PyProof.Rows hiding St
/-! ### xs.pop() -/
def sPop (i : Nat) : MS := fun env => match env[i]? with
  | some (some (.ow xs)) => match xs[xs.length - 1]? with
    | some _ => .nx (env.set i (some (.ow xs.dropLast)))
    | none => .st
  | _ => .st
section
variable {K : PySem.W.Frag} {g : G0} {H : Hp} {Z : Av}
theorem RepL.dropLast {ds : List D} {vs : List V} (h : RepL K g H Z ds vs) : RepL K g H Z ds.dropLast vs.dropLast := by
  rw [List.dropLast_eq_take, List.dropLast_eq_take, h.length]
  exact RepL.take _ h
end
section
variable {g : G0} {x : L2.St → Prop} {W : WX} {X : Cx} {pos apos cpos p : Pos} {y : Str}
theorem ds_pop (i : Nat) (hN : X.N[i]? = some y := by rfl) (hv : Vis X.env.scope y := by first | exact Or.inl rfl | exact Or.inr (Or.inl rfl) | exact Or.inr (Or.inr rfl)) (hd : (y == ("__debug__" : Str)) = false := by decide) (hcd : (y == ("__classdict__" : Str)) = false := by decide)
    (hb : attributeBase (.Name y p) "pop" X.env (eval (.Name y p) X.env) = eval (.Name y p) X.env := by rfl) (hl : (apos.endLine == cpos.line) = true := by rfl)
    (hs : swapsWith (.Call (.Attribute (.Name y p) "pop" apos) [] [] cpos) none pos.line X.env = pure false := by rfl) : PSd g x W X (.Expr (.Call (.Attribute (.Name y p) "pop" apos) [] [] cpos) pos) (sPop i) :=
  weakS (ps_expr (pe_bm0 PySem.F.plainAttrs_list PySem.F.slot_list_pop PySem.F.type_list_pop mt_pop (pe_var hN hv hd hcd) hb hl) hs) fun D σ H ⟨env, A, H0, r, hp⟩ => by
    unfold sPop at hp
    split at hp
    · rename_i xs e1
      obtain ⟨v, f1, a, vs, ev, za, pa, ra⟩ := r.er.at_ i _ e1
      subst ev
      split at hp
      · rename_i d hd
        obtain ⟨u, hu, q⟩ := ra.get hd
        rw [ra.length] at hu
        exact ⟨.ref a, f1, .inl ⟨rfl, vs, SqL.of pa⟩, a, vs, u, rfl, rfl, pa, hu, hp σ _ (r.mut e1 f1 ra.dropLast)⟩
      · exact hp.elim
    · exact hp.elim
end
end DL
set_option Elab.async false
set_option linter.all false
set_option maxRecDepth 100000
set_option maxHeartbeats 4000000
namespace DL
open PySem PySem.Spec L2
open PyProof.Rows hiding St
/-! ### sep.join(xs), s.startswith(t) -/
def asSL : List D → Option (List Str)
  | [] => some []
  | .str b :: r => (asSL r).map (b :: ·)
  | _ => none
theorem asSL_rep {K : PySem.W.Frag} {g : G0} {H : Hp} {Z : Av} : ∀ {ds : List D} {vs : List V} {bs : List Str}, asSL ds = some bs → RepL K g H Z ds vs → vs = bs.map V.str
  | [], vs, bs, h, r => by
    cases h
    exact RepL.nil_.mp r
  | d :: ds, vs, bs, h, r => by
    cases d with
    | str b =>
      have h : (asSL ds).map (b :: ·) = some bs := h
      cases e : asSL ds with
      | none => rw [e] at h; cases h
      | some cs =>
        rw [e] at h
        cases h
        obtain ⟨v, w, ev, h1, h2⟩ := RepL.cons_.mp r
        rw [ev, Rep.str_.mp h1, asSL_rep e h2]
        rfl
    | _ => cases h
def fJoinL (a : Str) (ds : List D) : R Sl := match asSL ds with
  | some ys => if (ys.map (·.length)).sum + ys.length * a.length ≤ 1000000 then .ok (.fr (.str (Txt.join a ys))) else .st
  | none => .st
def fJoinD (a : Str) : D → R Sl
  | .lst ds => fJoinL a ds
  | .tup ds => fJoinL a ds
  | _ => .st
def mJoinS (mo me : B) : M := fun env => (mo env).bind fun s => match s with
  | .str a => (me env).bind fun d => fJoinD a d
  | _ => .st
def mStarts (mo me : B) : M := fun env => (mo env).bind fun s => match s with
  | .str a => (me env).bind fun d => match d with
    | .str b => .ok (.fr (.bl (Txt.startswith a b)))
    | _ => .st
  | _ => .st
section
variable {g : G0} {x : L2.St → Prop} {W : WX} {X : Cx} {o e : Expr} {pos apos cpos : Pos} {mo me : B}
theorem de_join (ho : PBd g x W X o mo) (he : PBd g x W X e me) (hb : attributeBase o "join" X.env (eval o X.env) = eval o X.env := by rfl) (hl : (apos.endLine == pos.line) = true := by rfl) (hs : starEach [e] X.env = [(false, eval e X.env)] := by rfl) :
    PEd g x W X (.Call (.Attribute o "join" apos) [e] [] pos) (mJoinS mo me) :=
  weakE (pe_join ho he hs hb hl) fun σ H Q ⟨env, Z, er, hp⟩ => useB er hp fun d v H1 e1 k1 r1 hp1 => by
    cases d with
    | str a =>
      have ev := r1.str_
      subst ev
      refine ⟨⟨a, rfl⟩, ?_⟩
      have hp1 : PostE X.K g W Z σ H1 Q ((me env).bind fun d => fJoinD a d) := hp1
      refine useB (er.mono k1) hp1 fun d2 v2 H2 e2 k2 r2 hp2 => ?_
      cases d2 with
      | lst ds =>
        obtain ⟨p, ws, ev, sq, rr⟩ := r2.lst'
        have hp2 : PostE X.K g W Z σ H2 Q (match asSL ds with
          | some ys => if (ys.map (·.length)).sum + ys.length * a.length ≤ 1000000 then .ok (.fr (.str (Txt.join a ys))) else .st
          | none => .st) := hp2
        split at hp2
        · rename_i ys ey
          split at hp2
          · rename_i hz
            have ew := asSL_rep ey rr
            subst ew ev
            exact ⟨a, p, ys, rfl, rfl, .inl sq, by omega, hp2 _ H2 (Same.refl _) (Rep.str_.mpr rfl)⟩
          · exact hp2.elim
        · exact hp2.elim
      | tup ds =>
        obtain ⟨p, ws, ev, tu, rr⟩ := r2.tup_
        have hp2 : PostE X.K g W Z σ H2 Q (match asSL ds with
          | some ys => if (ys.map (·.length)).sum + ys.length * a.length ≤ 1000000 then .ok (.fr (.str (Txt.join a ys))) else .st
          | none => .st) := hp2
        split at hp2
        · rename_i ys ey
          split at hp2
          · rename_i hz
            have ew := asSL_rep ey rr
            subst ew ev
            exact ⟨a, p, ys, rfl, rfl, .inr tu.sqT, by omega, hp2 _ H2 (Same.refl _) (Rep.str_.mpr rfl)⟩
          · exact hp2.elim
        · exact hp2.elim
      | _ => exact hp2.elim
    | _ => exact hp1.elim
theorem de_starts (ho : PBd g x W X o mo) (he : PBd g x W X e me) (hbase : attributeBase o "startswith" X.env (eval o X.env) = eval o X.env := by rfl) (hline : (apos.endLine == cpos.line) = true := by rfl) (hse : starEach [e] X.env = [(false, eval e X.env)] := by rfl) :
    PEd g x W X (.Call (.Attribute o "startswith" apos) [e] [] cpos) (mStarts mo me) :=
  weakE (pe_bm PySem.F.plainAttrs_str PySem.F.slot_str_startswith PySem.F.type_str_startswith mt_startswith ho (pa_cons he pa_nil hse) hbase (by rw [hse]; rfl) hline hse rfl) fun σ H Q ⟨env, Z, er, hp⟩ => useB er hp fun d v H1 e1 k1 r1 hp1 => by
    cases d with
    | str a =>
      have ev := r1.str_
      subst ev
      refine ⟨rfl, ?_⟩
      have hp1 : PostE X.K g W Z σ H1 Q ((me env).bind fun d => match d with
        | .str b => .ok (.fr (.bl (Txt.startswith a b)))
        | _ => .st) := hp1
      refine useB (er.mono k1) hp1 fun d2 v2 H2 e2 k2 r2 hp2 => ?_
      cases d2 with
      | str b =>
        have ev := r2.str_
        subst ev
        exact ⟨a, b, rfl, rfl, hp2 _ H2 (Same.refl _) (Rep.bl_.mpr rfl)⟩
      | _ => exact hp2.elim
    | _ => exact hp1.elim
end
end DL
set_option Elab.async false
set_option linter.all false
set_option maxRecDepth 100000
set_option maxHeartbeats 4000000
namespace DL
open PySem PySem.Spec L2
open PyProof.Rows hiding St
/-! ### str(n), str(text) -/
def fStr : List D → R Sl
  | [.int i] => if i.natAbs.log2 < 1920 then .ok (.fr (.str (toString i))) else .st
  | [.str a] => .ok (.fr (.str a))
  | _ => .st
section
variable {K : PySem.W.Frag}
theorem cf_str : CallF K (fun xs H Q => (∃ i, xs = [.int i] ∧ i.natAbs.log2 < 1920 ∧ Q (.str (toString i)) H) ∨ ∃ a, xs = [.str a] ∧ Q (.str a) H) fStr := by
  intro g W H Z σ xs vs Q dom r hp
  unfold fStr at hp
  split at hp
  · rename_i i
    obtain ⟨v, ev, rv⟩ := r.one_
    subst ev
    split at hp
    · exact .inl ⟨i, by rw [rv.int_], by assumption, hp _ H (Same.refl _) (Rep.str_.mpr rfl)⟩
    · exact hp.elim
  · rename_i a
    obtain ⟨v, ev, rv⟩ := r.one_
    subst ev
    exact .inr ⟨a, by rw [rv.str_], hp _ H (Same.refl _) (Rep.str_.mpr rfl)⟩
  · exact hp.elim
end
section
variable {g : G0} {x : L2.St → Prop} {W : WX} {X : Cx} {e : Expr} {es : List Expr} {mr : En → R (List D)} {pos p : Pos}
theorem de_str1 (hg : Gl X "str") (hm : X.mg "str" = none) (ha : PBAd g x W X (e :: es) mr) (he : starEach (e :: es) X.env = (false, eval e X.env) :: starEach es X.env := by rfl) (hpl : (backTo pos (starEach es X.env)).any (·.1) = false := by rfl) :
    PEd g x W X (.Call (.Name "str" p) (e :: es) [] pos) (mCall fStr mr) := de_callT (call_str_int.or SkE.call_str_str) cf_str hg hm (by decide +kernel) ha (by decide) (by decide) he hpl
end
end DL
set_option Elab.async false
set_option linter.all false
set_option maxRecDepth 100000
namespace DL
open PySem PySem.Spec L2
open PyProof.Rows hiding St
/-! ### powers and shifts -/
def smallE (i j : Int) : Bool := decide (0 ≤ j) && decide (j ≤ 1000000) && decide (i.natAbs < 2 ^ 64)
def fPow : D → D → R Sl
  | .int a, .int b => if smallE a b = true then .ok (.fr (.int (a ^ b.toNat))) else .st
  | _, _ => .st
def fShl : D → D → R Sl
  | .int a, .int b => if smallE a b = true then .ok (.fr (.int (a * 2 ^ b.toNat))) else .st
  | _, _ => .st
def fShr : D → D → R Sl
  | .int a, .int b => if 0 ≤ b then .ok (.fr (.int (a / 2 ^ b.toNat))) else .st
  | _, _ => .st
theorem smallE_of {i j : Int} (h : smallE i j = true) : CPow i j := by
  unfold smallE at h
  rw [Bool.and_eq_true, Bool.and_eq_true, decide_eq_true_iff, decide_eq_true_iff, decide_eq_true_iff] at h
  exact ⟨h.1.1, h.1.2, h.2⟩
section
variable {K : PySem.W.Frag}
theorem of_pow : OpF K (rI CPow fun i j => .int (i ^ j.toNat)) fPow := by
  intro g W H Z σ x y v u Q dom rx ry hp
  cases x <;> cases y <;> first | exact hp.elim | skip
  rename_i i j
  have hp : PostE K g W Z σ H Q (if smallE i j = true then .ok (.fr (.int (i ^ j.toNat))) else .st) := hp
  split at hp
  · rename_i h
    rw [rx.int_, ry.int_]
    exact ⟨_, _, rfl, rfl, smallE_of h, hp _ H (Same.refl _) (Rep.int_.mpr rfl)⟩
  · exact hp.elim
theorem of_shl : OpF K (rI CPow fun i j => .int (i * 2 ^ j.toNat)) fShl := by
  intro g W H Z σ x y v u Q dom rx ry hp
  cases x <;> cases y <;> first | exact hp.elim | skip
  rename_i i j
  have hp : PostE K g W Z σ H Q (if smallE i j = true then .ok (.fr (.int (i * 2 ^ j.toNat))) else .st) := hp
  split at hp
  · rename_i h
    rw [rx.int_, ry.int_]
    exact ⟨_, _, rfl, rfl, smallE_of h, hp _ H (Same.refl _) (Rep.int_.mpr rfl)⟩
  · exact hp.elim
theorem of_shr : OpF K (rI (fun _ j => 0 ≤ j) fun i j => .int (i / 2 ^ j.toNat)) fShr := by
  intro g W H Z σ x y v u Q dom rx ry hp
  cases x <;> cases y <;> first | exact hp.elim | skip
  rename_i i j
  have hp : PostE K g W Z σ H Q (if 0 ≤ j then .ok (.fr (.int (i / 2 ^ j.toNat))) else .st) := hp
  split at hp
  · rename_i h
    rw [rx.int_, ry.int_]
    exact ⟨_, _, rfl, rfl, h, hp _ H (Same.refl _) (Rep.int_.mpr rfl)⟩
  · exact hp.elim
end
section
variable {g : G0} {x : L2.St → Prop} {W : WX} {X : Cx} {a b : Expr} {pos : Pos} {ma mb : B}
theorem de_pow (ha : PBd g x W X a ma) (hb : PBd g x W X b mb) : PEd g x W X (.BinOp a .Pow b pos) (mBin fPow ma mb) := de_op op_pow of_pow ha hb
theorem de_shl (ha : PBd g x W X a ma) (hb : PBd g x W X b mb) : PEd g x W X (.BinOp a .LShift b pos) (mBin fShl ma mb) := de_op op_shl of_shl ha hb
theorem de_shr (ha : PBd g x W X a ma) (hb : PBd g x W X b mb) : PEd g x W X (.BinOp a .RShift b pos) (mBin fShr ma mb) := de_op op_shr of_shr ha hb
end
/-! ### reversed(list or tuple) -/
def mRevS (m : M) : En → R (List D) := fun env => (m env).bind fun s => (asSeq s.d).bind fun xs => .ok xs.reverse
theorem rev_get {α : Type} {xs : List α} {i : Nat} {d : α} (h : xs.reverse[i]? = some d) : i < xs.length ∧ xs[xs.length - 1 - i]? = some d := by
  have hl : i < xs.length := by
    have := (List.getElem?_eq_some_iff.mp h).1
    simpa using this
  rw [List.getElem?_reverse hl] at h
  exact ⟨hl, h⟩
section
variable {K : PySem.W.Frag} {g : G0} {H : Hp} {Z : Av}
theorem walk_revL {a : Addr} {ds : List D} {vs : List V} (h : Ls K H Z a vs) (r : RepL K g H Z ds vs) : Walk K g Z H (Itv K a vs.length) ds.reverse where
  go := fun i d H' e k => by
    obtain ⟨hl, e2⟩ := rev_get e
    obtain ⟨v, e3, _⟩ := r.get e2
    rw [r.length] at hl e3
    exact ⟨hl, vs, v, (k.ls h).sq, e3⟩
  yld := fun i d H' v H'' e k y => by
    obtain ⟨rfl, y⟩ := y
    obtain ⟨hl, e2⟩ := rev_get e
    obtain ⟨w, e3, q⟩ := r.get e2
    have := y vs (k.ls h).sq
    rw [r.length] at e3
    rw [e3] at this
    cases this
    exact ⟨Same.refl _, fun Z' k2 _ => Rep.mono k2 _ _ q⟩
  stop := fun i H' l k => by rw [List.length_reverse, r.length] at l; exact l
theorem walk_revT {a : Addr} {ds : List D} {vs : List V} (h : Tu K H a vs) (r : RepL K g H Z ds vs) : Walk K g Z H (RT.ItvT K a vs.length) ds.reverse where
  go := fun i d H' e k => by
    obtain ⟨hl, e2⟩ := rev_get e
    obtain ⟨v, e3, _⟩ := r.get e2
    rw [r.length] at hl e3
    exact ⟨hl, vs, v, (k.tu h).sqT, e3⟩
  yld := fun i d H' v H'' e k y => by
    obtain ⟨rfl, y⟩ := y
    obtain ⟨hl, e2⟩ := rev_get e
    obtain ⟨w, e3, q⟩ := r.get e2
    have := y vs (k.tu h).sqT
    rw [r.length] at e3
    rw [e3] at this
    cases this
    exact ⟨Same.refl _, fun Z' k2 _ => Rep.mono k2 _ _ q⟩
  stop := fun i H' l k => by rw [List.length_reverse, r.length] at l; exact l
end
section
variable {g : G0} {x : L2.St → Prop} {W : WX} {X : Cx} {e tg : Expr} {p pos : Pos} {m : M}
theorem di_revS (hg : Gl X "reversed") (hm : X.mg "reversed" = none) (he : PEd g x W X e m) (hs : starEach [e] X.env = (false, eval e X.env) :: starEach [] X.env := by rfl) : PId g x W X tg (.Call (.Name "reversed" p) [e] [] pos) (mRevS m) :=
  weakI (RT.pi_revA hg hm he hs) fun σ H Rn ⟨env, Z, er, hp⟩ => by
    refine use er ?_
    unfold mRevS at hp
    cases em : m env with
    | ok s =>
      rw [em] at hp
      have hp : PostI X.K g W Z σ H Rn ((asSeq s.d).bind fun xs => .ok xs.reverse) := hp
      intro v H' k r
      cases ed : s.d with
      | lst xs =>
        rw [ed] at hp r
        obtain ⟨a, vs, ev, rd, rr⟩ := Rep.lst_.mp r
        exact ⟨a, vs, ev, .inl ⟨rd.sq, hp _ H' k (walk_revL rd rr)⟩⟩
      | tup xs =>
        rw [ed] at hp r
        obtain ⟨a, vs, ev, tu, rr⟩ := Rep.tup_.mp r
        exact ⟨a, vs, ev, .inr ⟨tu.sqT, hp _ H' k (walk_revT tu rr)⟩⟩
      | non => rw [ed] at hp; exact hp.elim
      | bl b => rw [ed] at hp; exact hp.elim
      | int i => rw [ed] at hp; exact hp.elim
      | str z => rw [ed] at hp; exact hp.elim
      | obj c fs => rw [ed] at hp; exact hp.elim
    | ex c pl => rw [em] at hp; exact hp
    | st => rw [em] at hp; exact hp.elim
end
end DL
set_option Elab.async false
set_option linter.all false
set_option maxRecDepth 100000
namespace DL
open PySem PySem.Spec L2 StX
open PyProof.Rows hiding St
/-! ### defs with a star parameter: what is left over is a tuple -/
/-- the def's meaning of all that a call hands over -/
def starF (n : Nat) (f : Fn) : Fn := fun ds => if n ≤ ds.length ∧ ds.length ≤ lim then f (ds.take n ++ [.tup (ds.drop n)]) else .st
structure FDs (P : Program) (w : World) (K : PySem.W.Frag) (mg : Str → Option Value) (base : Heap) (g : G0) (k : Nat) (y : Str) (f : Fn) : Prop where
  ex : ∃ a, mg y = some (.ref a) ∧ PySem.W.keepIn K (.ref a) = true ∧ FnR P w K mg base (L2.CX P w) k a (Prom K g f)
theorem FDs.mono {P : Program} {w : World} {K : PySem.W.Frag} {mg : Str → Option Value} {base : Heap} {g : G0} {j k : Nat} {y : Str} {f : Fn} (F : FDs P w K mg base g j y f) (h : j ≤ k) : FDs P w K mg base g k y f := by
  obtain ⟨a, h1, h2, h3⟩ := F.ex
  exact ⟨a, h1, h2, h3.mono h⟩
section
variable {CX : CXT} {P : Program} {w : World} {K : PySem.W.Frag} {mg : Str → Option Value} {base : Heap} {k : Nat} {f : Addr} {name qual : Str} {params : Arguments} {body : List Stmt} {scope : Scope} {dV kV doc pm cdv ct oc : Value} {an od : Option Addr}
  {osl : Array (Option Value)} {N ps : List Str} {sp : Sp}
/-- as the library's, but the new tuple is tracked with its object -/
theorem fn_starF {pv : Str} (lk : K.lookup f = some ⟨oc, od, .func (PySem.W.fnOf name qual params body scope dV kV doc pm an cdv ct), osl⟩) (hcd : PySem.W.codeIn K cdv qual = true) (S : FnScope N (ps ++ [pv]) scope) (hCX : CXUp CX)
    (hb : ∀ us rest : List Value, us.length = ps.length → bindArgs (PySem.W.fnOf name qual params body scope dV kV doc pm an cdv ct) ⟨us ++ rest, []⟩ = (newTuple rest >>= fun t => pure (ps.zip us ++ [(pv, t)])))
    (hbody : ∀ (A : Around) (outer : List Env) (s : Shared) (H : Hp) (vs : List V) (Q : VK) (E : XK), Room k (A.deeper (envOfC qual scope s.heap.objs.size f cdv)) → sp vs H Q E →
      ∃ t, PSs (cxOf CX P w K mg base N qual scope f cdv A outer s H E) body t ∧ t { nx := fun _ H' => Q .non H', rt := Q } (start N vs) H) :
    FnR P w K mg base CX (k + 1) f (fun vs H Q E => ∃ ws rest, vs = ws ++ rest ∧ ws.length = ps.length ∧ rest.length ≤ sizeLine ∧ ∀ (p : Addr) (o : Obj), H p = Option.none → o.cls = .type "tuple" → o.dict = none → sp (ws ++ [V.ref p]) (upd H p (.frz o (.tup rest))) Q E) := by
  intro A outer s H us vs Q E hr e0 r ⟨ws, rest, ev, hl, hz, hq⟩
  subst ev
  obtain ⟨u1, u2, eu, r1, r2⟩ := vals_split r
  subst eu
  have fresh : H s.heap.objs.size = Option.none := e0.hok.fresh (Nat.le_refl _)
  have l1 : u1.length = ps.length := by rw [← r1.length, hl]
  have l2 : u2.length ≤ sizeLine := by rw [← r2.length]; exact hz
  refine run_bnd lk hcd S hr e0 (G := fun xs H2 => ∃ (p : Addr) (o : Obj), H p = Option.none ∧ o.cls = .type "tuple" ∧ o.dict = none ∧ xs = ws ++ [V.ref p] ∧ H2 = upd H p (.frz o (.tup rest))) (fun A' Ex Q' h => ?_) fun s2 H2 xs g hr' => ?_
  · rw [hb u1 u2 l1]
    refine wpAny_bind (wpAny_newTuple (wpAny_pure ?_) l2)
    have at0 : (s.heap.push ({ cls := .type "tuple", data := .seq u2.toArray } : Obj)).get? s.heap.objs.size = some ({ cls := .type "tuple", data := .seq u2.toArray } : Obj) := Heap.get?_push_size _ rfl
    have laid : ObjOk P w (upd H s.heap.objs.size (.frz ({ cls := .type "tuple", data := .seq u2.toArray } : Obj) (.tup rest))) (s.heap.push ({ cls := .type "tuple", data := .seq u2.toArray } : Obj)) s.heap.objs.size (.frz ({ cls := .type "tuple", data := .seq u2.toArray } : Obj) (.tup rest)) := ⟨at0, hz, u2, r2, ⟨_, at0, rfl, _, rfl⟩⟩
    have un := un_laid (fs := frs outer) (s := s) (o := ({ cls := .type "tuple", data := .seq u2.toArray } : Obj)) (u := .frz ({ cls := .type "tuple", data := .seq u2.toArray } : Obj) (.tup rest)) fresh
    have z := h _ _ (ws ++ [V.ref s.heap.objs.size]) (u1 ++ [Value.ref s.heap.objs.size]) (env0_laid e0 laid) un rfl (fun e s' => hCX outer s H _ _ E e s' un (fun b o q => Heap.get?_push_of_some _ q) rfl) (r1.append (.cons rfl .nil))
      (by rw [List.length_append, List.length_append, hl] <;> rfl) ⟨_, _, fresh, rfl, rfl, rfl, rfl⟩
    rw [List.zip_append l1.symm] at z
    exact z
  · obtain ⟨p, o, np, oc, od, ex, eH⟩ := g
    subst ex eH
    exact hbody A outer s2 _ _ Q E hr' (hq p o np oc od)
end
section
variable {P : Program} {w : World} {K : PySem.W.Frag} {mg : Str → Option Value} {base : Heap} {g : G0}
theorem okS {y qual pv : Str} {params : Arguments} {bd : List Stmt} {scope : Scope} {dV kV doc pm cdv ct oc : Value} {an od : Option Addr} {osl : Array (Option Value)} {a : Addr} {N ps : List Str} {k : Nat}
    (lk : K.lookup a = some ⟨oc, od, .func (PySem.W.fnOf y qual params bd scope dV kV doc pm an cdv ct), osl⟩) (hcd : PySem.W.codeIn K cdv qual = true) (kp : PySem.W.keepIn K (.ref a) = true) (S : FnScope N (ps ++ [pv]) scope) (hm : mg y = some (.ref a))
    (hb : ∀ us rest : List Value, us.length = ps.length → bindArgs (PySem.W.fnOf y qual params bd scope dV kV doc pm an cdv ct) ⟨us ++ rest, []⟩ = (newTuple rest >>= fun t => pure (ps.zip us ++ [(pv, t)]))) (m : MS)
    (body : ∀ (cdv : Value) (A : Around) (outer : List Env) (s : Shared) (H : Hp) (E : XK), Room k (A.deeper (envOfC qual scope s.heap.objs.size a cdv)) →
      PSsd g T (fun c d _ H => E c d H) (cxOf (L2.CX P w) P w K mg base N qual scope a cdv A outer s H E) bd m) : FDs P w K mg base g (k + 1) y (starF ps.length (runF (ps.length + 1) N.length m)) := by
  refine ⟨a, hm, kp, ?_⟩
  have hl : (ps ++ [pv]).length ≤ N.length := by have := congrArg List.length S.pre; rw [List.length_take] at this; omega
  refine FnR.imp (fn_starF (CX := L2.CX P w) (sp := fun vs H Q E => vs.length = ps.length + 1 ∧ Prom K g (runF (ps.length + 1) N.length m) vs H Q E) lk hcd S cxUp hb fun A outer s H vs Q E hr hsp => ?_) fun vs H Q E ⟨Z, ds, dom, r, hp⟩ => ?_
  · obtain ⟨lv, Z, ds, dom, r, hp⟩ := hsp
    refine ⟨_, body cdv A outer s H E hr, ?_⟩
    have ld : ds.length = ps.length + 1 := by rw [r.length, lv]
    unfold runF at hp
    rw [if_pos ld] at hp
    have zZ : ∀ b, zz Z (env0 (ps.length + 1) N.length ds) (L2.start N vs) b → Z b := by
      rintro b (z | ⟨i, xs, e1, e2⟩)
      · exact z
      · have e1 := env0_get e1
        rw [List.getElem?_map] at e1
        cases ed : ds[i]? with
        | none => rw [ed] at e1; cases e1
        | some d => rw [ed] at e1; cases e1
    have noow : ∀ (i : Nat) (xs : List D), (env0 (ps.length + 1) N.length ds)[i]? = some (some (Sl.ow xs)) → False := fun i xs e1 => by
      have e1 := env0_get e1
      rw [List.getElem?_map] at e1
      cases ed : ds[i]? with
      | none => rw [ed] at e1; cases e1
      | some d => rw [ed] at e1; cases e1
    have hlen : (env0 (ps.length + 1) N.length ds).length = (L2.start N vs).length := by
      unfold env0 L2.start
      rw [List.length_append, List.length_append, List.length_map, List.length_map, List.length_replicate, List.length_replicate, lv, ld]
    have sr : SRel K g T Z H (env0 (ps.length + 1) N.length ds) (L2.start N vs) H := by
      refine ⟨⟨fun b z => dom b (zZ b z), trivial, hlen, fun i s e1 => ?_⟩, Same.refl _, dom, fun i xs a e1 _ => (noow i xs e1).elim, fun i j xs ys a e1 _ _ _ => (noow i xs e1).elim, hlen⟩
      obtain ⟨v, e2, q⟩ := repl_map r (env0_get e1)
      refine ⟨v, ?_, ?_⟩
      · unfold L2.start
        rw [List.getElem?_append_left]
        · exact e2
        · exact (List.getElem?_eq_some_iff.mp e2).1
      · cases s with
        | fr d => exact Rep.mono (.of (Same.refl _) fun b _ z => zZ b z) _ _ q
        | ow xs => exact (noow i xs e1).elim
    refine ⟨env0 (ps.length + 1) N.length ds, Z, H, sr, ?_⟩
    cases e : m (env0 (ps.length + 1) N.length ds) with
    | nx e' => rw [e] at hp; exact fun σ' H' q => hp .non H' q.same (Rep.non_.mpr rfl)
    | rt s => rw [e] at hp; cases s <;> exact hp
    | ex c p e' => rw [e] at hp; exact fun σ' H' dd q z => hp H' dd q.same z
    | bk e' => rw [e] at hp; exact hp.elim
    | ct e' => rw [e] at hp; exact hp.elim
    | st => rw [e] at hp; exact hp.elim
  · unfold starF at hp
    split at hp
    · rename_i h
      have vl := r.length
      refine ⟨vs.take ps.length, vs.drop ps.length, (List.take_append_drop _ _).symm, by rw [List.length_take]; omega, by rw [List.length_drop]; exact limLine (by omega), fun p o np oc od => ?_⟩
      have rt := RepL.take ps.length r
      have rd := RepL.drop ps.length r
      refine ⟨by rw [List.length_append, List.length_take]; simp; omega, Z, _, fun b z => ?_, (RepL.mono (.same_ (same_upd np)) _ _ rt).append (.one (rtup_new np oc od rd)), ?_⟩
      · have := dom b z
        rw [upd_ne (fun e => this (by rw [e]; exact np))]
        exact this
      · exact PostE.later (σ := []) (same_upd np) hp
    · exact hp.elim
end
section
variable {g : G0} {x : L2.St → Prop} {W : WX} {X : Cx} {e : Expr} {es : List Expr} {mr : En → R (List D)} {pos p : Pos}
theorem de_fnS {k : Nat} {y : Str} {f : Fn} (F : FDs X.prog X.w X.K X.mg X.base g k y f) (hr : Room k X.A) (tk : Takes X W) (hg : Gl X y) (ha : PAd g x W X (e :: es) mr)
    (hdb : (y == ("__debug__" : Str)) = false := by decide) (he : starEach (e :: es) X.env = (false, eval e X.env) :: starEach es X.env := by rfl) (hpl : (backTo pos (starEach es X.env)).any (·.1) = false := by rfl) :
    PEd g x W X (.Call (.Name y p) (e :: es) [] pos) (mCall f mr) := by
  obtain ⟨a, hm, hk, hF⟩ := F.ex
  have rule : PE X (.Call (.Name y p) (e :: es) [] pos) (tCallS (Prom X.K g f) (WE W) (tA X.K g x W mr)) := by
    refine ⟨fun pins s σ H Q I h => ?_⟩
    refine wpAny_Call_Name_kw (ld_glob I hg hm ?_ hdb)
    refine PySem.W.callWith_K (h₀ := X.base) I.ok.mod.kin hk (thn (ha.run pos pins s σ H _ I h) fun us s1 ⟨vs, H1, I1, r, q⟩ => ⟨I1.kIn, ?_⟩) he hpl
    refine wpAny_call (codeAny_mono (hF X.A X.stack s1 H1 us vs Q (WE W σ) hr I1.env0 r q) fun r s' hq => ?_)
    cases r with
    | error e => exact passAt tk σ pins H1 s1 e s' I1 hq
    | ok fl =>
      cases fl with
      | ret u => exact I1.after hq
      | next => exact False.elim hq
      | brk => exact False.elim hq
      | cont => exact False.elim hq
  exact weakE rule fun σ H Q ⟨env, Z, er, hp⟩ =>
    useA er hp fun ds vs H1 e1 k1 r1 hp1 => ⟨Z, ds, dom_mono k1 er.dom, r1, postW hp1⟩
end
end DL
set_option Elab.async false
set_option linter.all false
set_option maxRecDepth 100000
namespace DL
open PySem PySem.Spec L2
open PyProof.Rows hiding St
/-! ### y = [.. for x in xs], xs an owned list that is changed later on: the result holds no list -/
mutual
def noL : D → Bool
  | .lst _ => false
  | .obj _ _ => false
  | .tup xs => noLL xs
  | _ => true
def noLL : List D → Bool
  | [] => true
  | d :: ds => noL d && noLL ds
end
section
variable {K : PySem.W.Frag} {g : G0} {H : Hp} {Z Z' : Av}
mutual
theorem Rep.noZ : ∀ (d : D) (v : V), noL d = true → Rep K g H Z d v → Rep K g H Z' d v
  | .non, v, _, h => by unfold Rep at h ⊢; exact h
  | .bl b, v, _, h => by unfold Rep at h ⊢; exact h
  | .int i, v, _, h => by unfold Rep at h ⊢; exact h
  | .str x, v, _, h => by unfold Rep at h ⊢; exact h
  | .tup xs, v, n, h => by
    unfold Rep at h ⊢
    obtain ⟨a, vs, e, s, r⟩ := h
    exact ⟨a, vs, e, s, RepL.noZ xs vs (by simpa [noL] using n) r⟩
  | .lst xs, v, n, _ => by simp [noL] at n
  | .obj c fs, v, n, _ => by simp [noL] at n
theorem RepL.noZ : ∀ (ds : List D) (vs : List V), noLL ds = true → RepL K g H Z ds vs → RepL K g H Z' ds vs
  | [], vs, _, h => by unfold RepL at h ⊢; exact h
  | d :: ds, vs, n, h => by
    unfold RepL at h ⊢
    simp only [noLL, Bool.and_eq_true] at n
    obtain ⟨v, r, e, h1, h2⟩ := h
    exact ⟨v, r, e, Rep.noZ d v n.1 h1, RepL.noZ ds r n.2 h2⟩
end
end
def sThaw (js : List Nat) (i : Nat) (m : M) : MS := fun env => match m (frz js env) with
  | .ok (.fr d) => if noL d = true then .nx (env.set i (some (.fr d))) else .st
  | .ok (.ow xs) => if noLL xs = true then .nx (env.set i (some (.ow xs))) else .st
  | _ => .st
section
variable {g : G0} {x : L2.St → Prop} {W : WX} {X : Cx} {tg iter elt : Expr} {ifs : List Expr} {scope : Scope} {pos : Pos} {mi : En → R (List D)} {pt : Pt} {t : En → R Bool} {me : M} {own : List (Str × Nat)}
theorem ds_thawLc {i : Nat} {y : Str} {py spos : Pos} (js : List Nat) (hx : ∀ σ, x σ) (hc : X.calm = true) (hN : X.N.Nodup) (hy : X.N[i]? = some y) (hyl : X.env.scope.names.lookup y = some .local)
    (hsw : swapsWith (.ListComp elt [⟨tg, iter, ifs, 0⟩] scope pos) (some (.Name y py)) spos.line X.env = pure true) (hi : PId g x W X tg iter mi) (ok : BlkOk X.N X.env.scope scope own) (sub : ∀ i ∈ pt.slots, i ∈ own.map (·.2))
    (hg : ∀ (s : Shared) (H : Hp) (C : Addr) (cl : List (Str × Addr)) (fp : List Addr), PG (X.blk s H scope (compEnvC scope cl C X.env) fp) tg (pt.tg X.K))
    (ht : ∀ (s : Shared) (H : Hp) (C : Addr) (cl : List (Str × Addr)) (fp : List Addr), PTsd g T W0 (X.blk s H scope (compEnvC scope cl C X.env) fp) ifs t)
    (he : ∀ (s : Shared) (H : Hp) (C : Addr) (cl : List (Str × Addr)) (fp : List Addr), PEd g T W0 (X.blk s H scope (compEnvC scope cl C X.env) fp) elt me) (hs : ∀ x, foldedSetIterable iter X.env x = pure x := by intro _; rfl) :
    PSd g x W X (.Assign [.Name y py] (.ListComp elt [⟨tg, iter, ifs, 0⟩] scope pos) spos) (sThaw js i (mComp mi pt t me (own.map (·.2)))) :=
  weakS (ps_setLc hc hN hy hyl hsw hi ok hg ht he hs) fun D σ H ⟨env, A, H0, r, hp⟩ => lcOk sub (by
    refine ⟨DL.frz js env, _, (r.frz js).er, ?_⟩
    unfold sThaw at hp
    cases e : mComp mi pt t me (own.map (·.2)) (DL.frz js env) with
    | ok s =>
      rw [e] at hp
      cases s with
      | fr d =>
        have hp : PostS X.K g x W A H0 D (if noL d = true then .nx (env.set i (some (.fr d))) else .st) := hp
        split at hp
        · rename_i n
          exact fun v H' k q => hp _ _ (r.setFr hx k (Rep.noZ _ _ n q))
        · exact hp.elim
      | ow xs =>
        have hp : PostS X.K g x W A H0 D (if noLL xs = true then .nx (env.set i (some (.ow xs))) else .st) := hp
        split at hp
        · rename_i n
          exact fun a vs H' k nn p q => hp _ _ (r.setOw hx k nn p (RepL.noZ _ _ n q))
        · exact hp.elim
    | ex c p => rw [e] at hp; exact hp.elim
    | st => rw [e] at hp; exact hp.elim)
end
end DL
set_option Elab.async false
set_option linter.all false
set_option maxRecDepth 100000
namespace DL
open PySem PySem.Spec L2 StX
open PyProof.Rows hiding St
/-! ### [.., *e]: the items of a tuple or list, put in -/
def mStar (m : M) (mr : En → R (List D)) : En → R (List D) := fun env => (m env).bind fun s => (asSeq s.d).bind fun xs => (mr env).bind fun ys => .ok (xs ++ ys)
section
variable {g : G0} {x : L2.St → Prop} {W : WX} {X : Cx} {e : Expr} {es : List Expr} {p : Pos} {m : M} {mr : En → R (List D)}
theorem da_star (he : PEd g x W X e m) (hr : PAd g x W X es mr) (hs : starEach (.Starred e p :: es) X.env = (true, eval e X.env) :: starEach es X.env := by rfl) : PAd g x W X (.Starred e p :: es) (mStar m mr) := by
  refine weakA (pa_star he hr hs) fun σ H Q ⟨env, Z, er, hp⟩ => use1A er hp fun s v H1 e1 k1 r1 hp1 => ?_
  cases ed : s.d with
  | lst xs =>
    rw [ed] at hp1 r1
    obtain ⟨a, vs, ev, rd, rr⟩ := Rep.lst_.mp r1
    exact ⟨a, vs, ev, .inr rd.sq, useAA (er.mono k1) hp1 fun ds ws H2 e2 k2 r2 hp2 => hp2 _ H2 (Same.refl _) ((RepL.mono (.same_ k2) _ _ rr).append r2)⟩
  | tup xs =>
    rw [ed] at hp1 r1
    obtain ⟨a, vs, ev, tu, rr⟩ := Rep.tup_.mp r1
    exact ⟨a, vs, ev, .inl tu.sqT, useAA (er.mono k1) hp1 fun ds ws H2 e2 k2 r2 hp2 => hp2 _ H2 (Same.refl _) ((RepL.mono (.same_ k2) _ _ rr).append r2)⟩
  | non => rw [ed] at hp1; exact hp1.elim
  | bl b => rw [ed] at hp1; exact hp1.elim
  | int i => rw [ed] at hp1; exact hp1.elim
  | str z => rw [ed] at hp1; exact hp1.elim
  | obj c fs => rw [ed] at hp1; exact hp1.elim
end
end DL
set_option Elab.async false
set_option linter.all false
set_option maxRecDepth 100000
set_option maxHeartbeats 4000000
/-! zip of a list with a tuple, and of a tuple with a list: one walk for two sides of any kind -/
namespace DL
open PySem PySem.Spec L2
open PyProof.Rows hiding St
/-- one side of a zip: the iterator `it` over the row at `l`, how it stands before turn i, and what a turn does -/
structure Side (P : Program) (w : World) (it l : Addr) (pos : Nat → Heap → Prop) (src : Heap → Prop) (row : Array Value) : Prop where
  keepIt : ∀ {i h h' c}, pos i h → it ≠ c → Heap.ExtBut c h h' → pos i h'
  keepSrc : ∀ {h h' c}, src h → l ≠ c → Heap.ExtBut c h h' → src h'
  atIt : ∀ {i h h'}, pos i h → (∀ o, h.get? it = some o → h'.get? it = some o) → pos i h'
  live : ∀ {i h}, pos i h → it < h.objs.size
  out : ∀ {A : Around} {i s x} {Q : Value → Shared → Prop} {E : Value → Shared → Prop}, pos i s.heap → src s.heap → row[i]? = some x →
    (∀ h', pos (i + 1) h' → Heap.SameBut it s.heap h' → Q x { s with heap := h' }) → wpAny (model P w) A (Builtin.SmallTypes.nextOf (.ref it)) Q E s
  fin : ∀ {A : Around} {i s} {Q : Value → Shared → Prop} {E : Value → Shared → Prop}, A.handled = none → pos i s.heap → src s.heap → row[i]? = none →
    (∀ h' e, Heap.ExtBut it s.heap h' → (∃ o, h'.get? e = some o ∧ o.cls = .type "StopIteration") → E (.ref e) { s with heap := h' }) → wpAny (model P w) A (Builtin.SmallTypes.nextOf (.ref it)) Q E s
theorem side_list {P : Program} {w : World} (it l : Addr) (row : Array Value) : Side P w it l (fun i h => h.IsListIter it l i) (fun h => h.IsList l row) row where
  keepIt := fun p n k => p.extBut k n
  keepSrc := fun p n k => p.extBut k n
  atIt := fun p k => p.at k
  live := fun ⟨_, k, _⟩ => Heap.lt_size k
  out := fun p q g k => wpAny_nextOf_list_item p q g k
  fin := fun hh p q g k => wpAny_nextOf_list_end hh p q g k
theorem side_tuple {P : Program} {w : World} (it l : Addr) (row : Array Value) : Side P w it l (fun i h => h.IsTupleIter it l i) (fun h => h.IsTuple l row) row where
  keepIt := fun p n k => p.extBut k n
  keepSrc := fun p n k => p.extBut k n
  atIt := fun p k => p.at k
  live := fun ⟨_, k, _⟩ => Heap.lt_size k
  out := fun p q g k => RZ.nextOf_tuple_item p q g k
  fin := fun hh p q g k => RZ.nextOf_tuple_end hh p q g k

section
variable {P : Program} {w : World} {A : Around} {E : Value → Shared → Prop} {s : Shared} {z ti to i1 i2 a b : Addr} {p1 p2 : Nat → Heap → Prop} {r1 r2 : Heap → Prop} {xs ys : Array Value} {k : Nat} {u0 v0 : Value}
theorem sides_item {x y : Value} {Q : Value → Shared → Prop} (D : ZipApart z ti to i1 i2 a b) (S1 : Side P w i1 a p1 r1 xs) (S2 : Side P w i2 b p2 r2 ys)
    (oz : IsZip s.heap z ti to .none) (oti : IsPair s.heap ti (.ref i1) (.ref i2)) (oto : IsPair s.heap to u0 v0) (n1 : p1 k s.heap) (n2 : p2 k s.heap) (q1 : r1 s.heap) (q2 : r2 s.heap)
    (gx : xs[k]? = some x) (gy : ys[k]? = some y)
    (fin : ∀ h', IsZip h' z ti to (rawInt s.heap.objs.size) → IsPair h' to x y → p1 (k + 1) h' → p2 (k + 1) h' → IsPair h' s.heap.objs.size x y →
      (∀ c o, c ≠ z → c ≠ to → c ≠ i1 → c ≠ i2 → s.heap.get? c = some o → h'.get? c = some o) → Q (.ref s.heap.objs.size) { s with heap := h' }) :
    wpAny (model P w) A (Builtin.«zip.__next__» ⟨[.ref z], []⟩) (fun r s' => ∃ v, r = .done (.ret v) ∧ Q v s') E s := by
  show wpAny _ _ (field (.ref z) 2 >>= _) _ _ _
  refine wpAny_bind (wpAny_field oz rfl (x := .bool false) rfl ?_)
  show wpAny _ _ (field (.ref z) 3 >>= _) _ _ _
  refine wpAny_bind (wpAny_field oz rfl (x := .ref ti) rfl (wpAny_bind (wpAny_seqItems oti rfl ?_)))
  show wpAny _ _ (Builtin.SmallTypes.ownedTupleIsFree (.ref z) >>= _) _ _ _
  refine wpAny_bind ?_
  unfold Builtin.SmallTypes.ownedTupleIsFree
  refine wpAny_bind (wpAny_field oz rfl (x := .none) rfl (wpAny_pure ?_))
  simp only [if_true]
  refine wpAny_bind (wpAny_rule (wpAny_bind (wpAny_field oz rfl (x := .ref to) rfl (wpAny_bind (wpAny_setField_rec oz (by simp) fun ha za ka => ?_)))))
  have za : IsZip ha z ti to .ellipsis := za
  refine wpAny_bind ?_
  simp only [List.zipIdx_cons, List.zipIdx_nil, List.forIn_cons, List.forIn_nil]
  -- the first side
  have n1a := S1.keepIt n1 D.i1z ka.extBut
  have q1a := S1.keepSrc q1 D.l1z ka.extBut
  have n2a := S2.keepIt n2 D.i2z ka.extBut
  have q2a := S2.keepSrc q2 D.l2z ka.extBut
  have toa : IsPair ha to u0 v0 := ka.extBut _ _ D.TOz oto
  refine wpAny_bind (wpAny_bind (wpAny_onRaise ?_))
  show wpAny _ _ (Builtin.SmallTypes.nextOf (.ref i1) >>= _) _ _ _
  refine wpAny_bind (S1.out (s := { s with heap := ha }) n1a q1a gx fun hb n1b kb => wpAny_pure ?_)
  have tob : IsPair hb to u0 v0 := kb.extBut _ _ D.TOi1 toa
  have n2b := S2.keepIt n2a D.i12.symm kb.extBut
  have q2b := S2.keepSrc q2a D.l2i1 kb.extBut
  have zb : IsZip hb z ti to .ellipsis := kb.extBut _ _ D.i1z.symm za
  refine wpAny_bind (wpAny_seqItems tob rfl (wpAny_bind (wpAny_updateSeq_pair tob fun hc toc kc => ?_)))
  have toc : IsPair hc to x v0 := toc
  have n1c := S1.keepIt n1b D.TOi1.symm kc.extBut
  have n2c := S2.keepIt n2b D.TOi2.symm kc.extBut
  have q2c := S2.keepSrc q2b D.l2TO kc.extBut
  have zc : IsZip hc z ti to .ellipsis := kc.extBut _ _ D.TOz.symm zb
  -- the second side
  refine wpAny_bind (wpAny_letGo (wpAny_pure (wpAny_bind (wpAny_bind (wpAny_onRaise ?_)))))
  show wpAny _ _ (Builtin.SmallTypes.nextOf (.ref i2) >>= _) _ _ _
  refine wpAny_bind (S2.out (s := { s with heap := hc }) n2c q2c gy fun hd n2d kd => wpAny_pure ?_)
  have tod : IsPair hd to x v0 := kd.extBut _ _ D.TOi2 toc
  have n1d := S1.keepIt n1c D.i12 kd.extBut
  have zd : IsZip hd z ti to .ellipsis := kd.extBut _ _ D.i2z.symm zc
  refine wpAny_bind (wpAny_seqItems tod rfl (wpAny_bind (wpAny_updateSeq_pair tod fun he toe ke => ?_)))
  have toe : IsPair he to x y := toe
  have n1e := S1.keepIt n1d D.TOi1.symm ke.extBut
  have n2e := S2.keepIt n2d D.TOi2.symm ke.extBut
  have ze : IsZip he z ti to .ellipsis := ke.extBut _ _ D.TOz.symm zd
  have size : he.objs.size = s.heap.objs.size := by rw [ke.1, kd.1, kc.1, kb.1, ka.1]
  have old : ∀ c o, c ≠ z → c ≠ to → c ≠ i1 → c ≠ i2 → s.heap.get? c = some o → he.get? c = some o := fun c o d1 d2 d3 d4 e =>
    ke.extBut _ _ d2 (kd.extBut _ _ d4 (kc.extBut _ _ d2 (kb.extBut _ _ d3 (ka.extBut _ _ d1 e))))
  -- the new pair
  refine wpAny_bind (wpAny_letGo (wpAny_pure (wpAny_pure (wpAny_bind (wpAny_seqItems toe rfl (wpAny_bind (wpAny_newTuple ?_)))))))
  show wpAny _ _ (Builtin.SmallTypes.ownedTupleHandOut (.ref z) (.ref he.objs.size) >>= _) _ _ _
  refine wpAny_bind ?_
  unfold Builtin.SmallTypes.ownedTupleHandOut
  have zf : IsZip (he.push { cls := .type "tuple", data := .seq #[x, y] }) z ti to .ellipsis := Heap.get?_push_of_some _ ze
  refine wpAny_bind (wpAny_setField_rec zf (by simp) fun hg zg kg => ?_)
  have zg : IsZip hg z ti to (rawInt he.objs.size) := zg
  refine wpAny_setField_rec zg (by simp) fun hi zi ki => ?_
  have zi : IsZip hi z ti to (rawInt he.objs.size) := zi
  have lz : z < he.objs.size := Heap.lt_size ze
  have up : ∀ c o, c ≠ z → he.get? c = some o → hi.get? c = some o := fun c o d e => ki.extBut _ _ d (kg.extBut _ _ d (Heap.get?_push_of_some _ e))
  have new : IsPair hi he.objs.size x y := ki.extBut _ _ (Nat.ne_of_gt lz) (kg.extBut _ _ (Nat.ne_of_gt lz) (Heap.get?_push_size _ rfl))
  refine wpAny_pure ⟨_, rfl, ?_⟩
  show Q (.ref he.objs.size) _
  rw [size] at zi new ⊢
  exact fin hi zi (up _ _ D.TOz toe) (S1.atIt n1e fun o e => up _ o D.i1z e) (S2.atIt n2e fun o e => up _ o D.i2z e) new fun c o d1 d2 d3 d4 e => up c o d1 (old c o d1 d2 d3 d4 e)
theorem sides_end {Q : Fin → Shared → Prop} (hh : A.handled = none) (D : ZipApart z ti to i1 i2 a b) (S1 : Side P w i1 a p1 r1 xs) (S2 : Side P w i2 b p2 r2 ys)
    (oz : IsZip s.heap z ti to .none) (oti : IsPair s.heap ti (.ref i1) (.ref i2)) (oto : IsPair s.heap to u0 v0) (n1 : p1 k s.heap) (n2 : p2 k s.heap) (q1 : r1 s.heap) (q2 : r2 s.heap)
    (over : xs[k]? = none ∨ ys[k]? = none)
    (fin : ∀ h' e, (∀ c o, c ≠ z → c ≠ to → c ≠ i1 → c ≠ i2 → s.heap.get? c = some o → h'.get? c = some o) → (∃ o, h'.get? e = some o ∧ o.cls = .type "StopIteration") → E (.ref e) { s with heap := h' }) :
    wpAny (model P w) A (Builtin.«zip.__next__» ⟨[.ref z], []⟩) Q E s := by
  show wpAny _ _ (field (.ref z) 2 >>= _) _ _ _
  refine wpAny_bind (wpAny_field oz rfl (x := .bool false) rfl ?_)
  show wpAny _ _ (field (.ref z) 3 >>= _) _ _ _
  refine wpAny_bind (wpAny_field oz rfl (x := .ref ti) rfl (wpAny_bind (wpAny_seqItems oti rfl ?_)))
  show wpAny _ _ (Builtin.SmallTypes.ownedTupleIsFree (.ref z) >>= _) _ _ _
  refine wpAny_bind ?_
  unfold Builtin.SmallTypes.ownedTupleIsFree
  refine wpAny_bind (wpAny_field oz rfl (x := .none) rfl (wpAny_pure ?_))
  simp only [if_true]
  refine wpAny_bind (wpAny_rule (wpAny_bind (wpAny_field oz rfl (x := .ref to) rfl (wpAny_bind (wpAny_setField_rec oz (by simp) fun ha za ka => ?_)))))
  have za : IsZip ha z ti to .ellipsis := za
  refine wpAny_bind ?_
  simp only [List.zipIdx_cons, List.zipIdx_nil, List.forIn_cons, List.forIn_nil]
  have n1a := S1.keepIt n1 D.i1z ka.extBut
  have q1a := S1.keepSrc q1 D.l1z ka.extBut
  refine wpAny_bind (wpAny_bind (wpAny_onRaise ?_))
  show wpAny _ _ (Builtin.SmallTypes.nextOf (.ref i1) >>= _) _ _ _
  have apart : ∀ {h : Heap} {e : Addr}, IsZip h z ti to .ellipsis → (∃ o, h.get? e = some o ∧ o.cls = .type "StopIteration") → e ≠ z := fun hz ⟨o, ho, hc⟩ q => by
    subst q
    rw [hz] at ho
    cases ho
    simp at hc
  cases gx : xs[k]? with
  | none =>
    refine wpAny_bind (S1.fin (s := { s with heap := ha }) hh n1a q1a gx fun hb e kb ⟨o, ho, hc⟩ => ?_)
    have zb : IsZip hb z ti to .ellipsis := kb _ _ D.i1z.symm za
    exact wpAny_setField_rec zb (by simp) fun hd _ kd => fin hd e (fun c o d1 _ d3 _ g => kd.extBut _ _ d1 (kb _ _ d3 (ka.extBut _ _ d1 g))) ⟨o, kd.extBut _ _ (apart zb ⟨o, ho, hc⟩) ho, hc⟩
  | some x =>
    have gy : ys[k]? = none := over.resolve_left (by rw [gx]; exact nofun)
    have n2a := S2.keepIt n2 D.i2z ka.extBut
    have q2a := S2.keepSrc q2 D.l2z ka.extBut
    have toa : IsPair ha to u0 v0 := ka.extBut _ _ D.TOz oto
    refine wpAny_bind (S1.out (s := { s with heap := ha }) n1a q1a gx fun hb n1b kb => wpAny_pure ?_)
    have tob : IsPair hb to u0 v0 := kb.extBut _ _ D.TOi1 toa
    have n2b := S2.keepIt n2a D.i12.symm kb.extBut
    have q2b := S2.keepSrc q2a D.l2i1 kb.extBut
    have zb : IsZip hb z ti to .ellipsis := kb.extBut _ _ D.i1z.symm za
    refine wpAny_bind (wpAny_seqItems tob rfl (wpAny_bind (wpAny_updateSeq_pair tob fun hc toc kc => ?_)))
    have n2c := S2.keepIt n2b D.TOi2.symm kc.extBut
    have q2c := S2.keepSrc q2b D.l2TO kc.extBut
    have zc : IsZip hc z ti to .ellipsis := kc.extBut _ _ D.TOz.symm zb
    refine wpAny_bind (wpAny_letGo (wpAny_pure (wpAny_bind (wpAny_bind (wpAny_onRaise ?_)))))
    show wpAny _ _ (Builtin.SmallTypes.nextOf (.ref i2) >>= _) _ _ _
    refine wpAny_bind (S2.fin (s := { s with heap := hc }) hh n2c q2c gy fun hd e kd ⟨o, ho, hc'⟩ => ?_)
    have zd : IsZip hd z ti to .ellipsis := kd _ _ D.i2z.symm zc
    exact wpAny_setField_rec zd (by simp) fun he _ ke => fin he e (fun c o d1 d2 d3 d4 g => ke.extBut _ _ d1 (kd _ _ d4 (kc.extBut _ _ d2 (kb.extBut _ _ d3 (ka.extBut _ _ d1 g))))) ⟨o, ke.extBut _ _ (apart zd ⟨o, ho, hc'⟩) ho, hc'⟩
theorem sides_next {x y : Value} {Q : Option Value → Shared → Prop} (D : ZipApart z ti to i1 i2 a b) (S1 : Side P w i1 a p1 r1 xs) (S2 : Side P w i2 b p2 r2 ys)
    (oz : IsZip s.heap z ti to .none) (oti : IsPair s.heap ti (.ref i1) (.ref i2)) (oto : IsPair s.heap to u0 v0) (n1 : p1 k s.heap) (n2 : p2 k s.heap) (q1 : r1 s.heap) (q2 : r2 s.heap)
    (gx : xs[k]? = some x) (gy : ys[k]? = some y)
    (fin : ∀ h', IsZip h' z ti to (rawInt s.heap.objs.size) → IsPair h' to x y → p1 (k + 1) h' → p2 (k + 1) h' → IsPair h' s.heap.objs.size x y →
      (∀ c o, c ≠ z → c ≠ to → c ≠ i1 → c ≠ i2 → s.heap.get? c = some o → h'.get? c = some o) → Q (some (.ref s.heap.objs.size)) { s with heap := h' }) :
    wpAny (model P w) A (pyNext (.ref z)) Q E s := by
  have t : s.TypeIs (.ref z) "zip" := ⟨_, oz, rfl⟩
  unfold pyNext
  refine wpAny_bind (wpAny_attempt (wpAny_callSpecial?_slot (name := Str.ofString "__next__") t F.slot_zip_next (wpAny_call_entry F.slot_zip_next t F.entry_zip_next ?_ (F.args_zip_next_1 _))))
  exact sides_item D S1 S2 oz oti oto n1 n2 q1 q2 gx gy fun h' e1 e2 e3 e4 e5 e6 => wpAny_pure (fin h' e1 e2 e3 e4 e5 e6)
theorem sides_over {Q : Option Value → Shared → Prop} (hh : A.handled = none) (D : ZipApart z ti to i1 i2 a b) (S1 : Side P w i1 a p1 r1 xs) (S2 : Side P w i2 b p2 r2 ys)
    (oz : IsZip s.heap z ti to .none) (oti : IsPair s.heap ti (.ref i1) (.ref i2)) (oto : IsPair s.heap to u0 v0) (n1 : p1 k s.heap) (n2 : p2 k s.heap) (q1 : r1 s.heap) (q2 : r2 s.heap)
    (over : xs[k]? = none ∨ ys[k]? = none) (fin : ∀ h', (∀ c o, c ≠ z → c ≠ to → c ≠ i1 → c ≠ i2 → s.heap.get? c = some o → h'.get? c = some o) → Q none { s with heap := h' }) :
    wpAny (model P w) A (pyNext (.ref z)) Q E s := by
  have t : s.TypeIs (.ref z) "zip" := ⟨_, oz, rfl⟩
  unfold pyNext
  refine wpAny_bind (wpAny_attempt (wpAny_callSpecial?_slot (name := Str.ofString "__next__") t F.slot_zip_next (wpAny_call_entry F.slot_zip_next t F.entry_zip_next ?_ (F.args_zip_next_1 _))))
  refine sides_end hh D S1 S2 oz oti oto n1 n2 q1 q2 over fun h' e hk ⟨o, ho, hc⟩ => ?_
  exact wpAny_bind (wpAny_isInstance (T := "StopIteration") (b := true) ⟨o, ho, hc⟩ isSubtype_stop (wpAny_pure (fin _ hk)))
end
/-! the call zip(list, tuple) -/
abbrev zm1 (h : Heap) (a : Addr) : Heap := h.push { cls := .type "list_iterator", data := .fields #[.ref a, .int 0 0] }
abbrev zm2 (h : Heap) (a b : Addr) : Heap := (zm1 h a).push { cls := .type "tuple_iterator", data := .fields #[.ref b, .int 0 0] }
abbrev zm3 (h : Heap) (a b : Addr) : Heap := (zm2 h a b).push { cls := .type "tuple", data := .seq #[.ref h.objs.size, .ref (zm1 h a).objs.size] }
abbrev zm4 (h : Heap) (a b : Addr) : Heap := (zm3 h a b).push { cls := .type "tuple", data := .seq #[.none, .none] }
abbrev zm5 (h : Heap) (a b : Addr) : Heap := (zm4 h a b).push { cls := .type "zip", data := .fields #[.none, .bool false, .bool false, .ref (zm2 h a b).objs.size, .ref (zm3 h a b).objs.size] }
theorem meets_zm (a b : Addr) (xs ys : Array Value) :
    Meets (Builtin.«zip.__new__» ⟨[.type "zip", .ref a, .ref b], []⟩) (fun _ R s => s.heap.IsList a xs ∧ s.heap.IsTuple b ys ∧ R (.ok (.ret (.ref (zm4 s.heap a b).objs.size))) { s with heap := zm5 s.heap a b }) :=
  .of_wp fun prog w A R s h => by
    obtain ⟨hp, g, d, tk, os⟩ := s
    obtain ⟨qa, qb, h⟩ := h
    have sub := sub_zip
    have la : Heap.IsList (Shared.heap ⟨hp, g, d, tk, os⟩) a xs := qa
    have lb : Heap.IsTuple (Shared.heap ⟨hp.push { cls := .type "list_iterator", data := .fields #[.ref a, .int 0 0] }, g, d, tk, os⟩) b ys := Heap.IsTuple.push qb _
    wp_walk using wpAny_pyIter_list la, wpAny_pyIter_tuple lb
    exact ⟨_, rfl, h⟩
theorem call_zm {P : Program} {w : World} {A : Around} {E : Value → Shared → Prop} {s : Shared} {a b : Addr} {xs ys : Array Value} {Q : Value → Shared → Prop} (qa : s.heap.IsList a xs) (qb : s.heap.IsTuple b ys)
    (fin : ∀ h', IsZip h' (s.heap.objs.size + 4) (s.heap.objs.size + 2) (s.heap.objs.size + 3) .none → IsPair h' (s.heap.objs.size + 2) (.ref s.heap.objs.size) (.ref (s.heap.objs.size + 1)) →
      IsPair h' (s.heap.objs.size + 3) .none .none → h'.IsListIter s.heap.objs.size a 0 → h'.IsTupleIter (s.heap.objs.size + 1) b 0 →
      (∀ c o, s.heap.get? c = some o → h'.get? c = some o) → Q (.ref (s.heap.objs.size + 4)) { s with heap := h' }) :
    wpAny (model P w) A (call (.type "zip") [.ref a, .ref b]) Q E s := by
  refine callType_new F.called_zip (by decide) (F.typeCall_zip_2 _ _) (F.newCall_zip_2 _ _) (fun o => F.args_object_init_3 o _ _) F.entry_zip_new (meets_zm a b xs ys) ⟨qa, qb, ?_⟩
  have z1 : (zm1 s.heap a).objs.size = s.heap.objs.size + 1 := Heap.size_push ..
  have z2 : (zm2 s.heap a b).objs.size = s.heap.objs.size + 2 := by rw [Heap.size_push, z1]
  have z3 : (zm3 s.heap a b).objs.size = s.heap.objs.size + 3 := by rw [Heap.size_push, z2]
  have z4 : (zm4 s.heap a b).objs.size = s.heap.objs.size + 4 := by rw [Heap.size_push, z3]
  have pu : ∀ (h : Heap) (n : Obj) (c : Addr) (o : Obj), h.get? c = some o → (h.push n).get? c = some o := fun h n c o e => Heap.get?_push_of_some _ e
  have f5 : (zm5 s.heap a b).get? (zm4 s.heap a b).objs.size = some _ := Heap.get?_push_size _ rfl
  have f4 : (zm5 s.heap a b).get? (zm3 s.heap a b).objs.size = some _ := pu _ _ _ _ (Heap.get?_push_size _ rfl)
  have f3 : (zm5 s.heap a b).get? (zm2 s.heap a b).objs.size = some _ := pu _ _ _ _ (pu _ _ _ _ (Heap.get?_push_size _ rfl))
  have f2 : (zm5 s.heap a b).get? (zm1 s.heap a).objs.size = some _ := pu _ _ _ _ (pu _ _ _ _ (pu _ _ _ _ (Heap.get?_push_size _ rfl)))
  have f1 : (zm5 s.heap a b).get? s.heap.objs.size = some _ := pu _ _ _ _ (pu _ _ _ _ (pu _ _ _ _ (pu _ _ _ _ (Heap.get?_push_size _ rfl))))
  show _ ∧ _
  rw [z2, z3, z4] at f5
  rw [z1, z2] at f3
  rw [z3] at f4
  rw [z1] at f2
  rw [z4]
  exact ⟨⟨_, f5, rfl⟩, fin _ f5 f3 f4 ⟨_, f1, rfl, rfl⟩ ⟨_, f2, rfl, rfl⟩ fun c o e => pu _ _ _ _ (pu _ _ _ _ (pu _ _ _ _ (pu _ _ _ _ (pu _ _ _ _ e))))⟩
section
variable {P : Program} {w : World} {K : PySem.W.Frag} {elts : List Expr} {kk : Nat} {tpos : Pos} {a b z ti to i1 i2 : Addr}
theorem turn_zm (D : ZipApart z ti to i1 i2 a b) : Turn P w K (.Tuple elts kk tpos) (ItF (fun H xs => SqL K H a xs) fun H ys => SqT K H b ys) [z, ti, to, i1, i2] z
    (fun i h => IsZip h z ti to .none ∧ IsPair h ti (.ref i1) (.ref i2) ∧ (∃ x y, IsPair h to x y) ∧ h.IsListIter i1 a i ∧ h.IsTupleIter i2 b i) where
  mem := List.mem_cons_self ..
  obj := fun i h ⟨oz, oti, ⟨_, _, oto⟩, ⟨o1, e1, _, d1⟩, ⟨o2, e2, _, d2⟩⟩ c hc => by
    rcases five hc with q | q | q | q | q <;> rw [q]
    · exact ⟨_, oz, fun v q => nomatch q⟩
    · exact ⟨_, oti, fun v q => nomatch q⟩
    · exact ⟨_, oto, fun v q => nomatch q⟩
    · refine ⟨o1, e1, fun v q => ?_⟩
      rw [d1] at q
      cases q
    · refine ⟨o2, e2, fun v q => ?_⟩
      rw [d2] at q
      cases q
  keep := fun i h h' ⟨oz, oti, ⟨p, q, oto⟩, n1, n2⟩ k => by
    have m : ∀ c ∈ [z, ti, to, i1, i2], ∀ o, h.get? c = some o → h'.get? c = some o := k
    exact ⟨m z (by simp) _ oz, m ti (by simp) _ oti, ⟨p, q, m to (by simp) _ oto⟩, n1.at fun o e => m i1 (by simp) o e, n2.at fun o e => m i2 (by simp) o e⟩
  self := fun A i s Q E st h => wpAny_pyIter_zip st.1 h
  done := by
    intro X eP ew eK hc i pins s σ H E I hf ⟨oz, oti, ⟨p0, q0, oto⟩, n1, n2⟩ ⟨xs, ys, sx, sy, over⟩
    subst eP ew eK
    obtain ⟨us, va, ta, _⟩ := I.list sx
    obtain ⟨us2, vb, tb, _⟩ := I.tuple sy
    have over' : us.toArray[i]? = none ∨ us2.toArray[i]? = none := by
      have e1 := va.length
      have e2 := vb.length
      rcases over with q | q
      · exact .inl (by simp; omega)
      · exact .inr (by simp; omega)
    refine sides_over (I.ok.hd hc) D (side_list i1 a us.toArray) (side_tuple i2 b us2.toArray) oz oti oto n1 n2 ta.isList tb over' fun h' hk => ⟨rfl, I.turnedL (t' := s.toks) (ch := [z, ti, to, i1, i2]) (fun c o hb q => ?_) hf⟩
    have n : c ≠ z ∧ c ≠ ti ∧ c ≠ to ∧ c ≠ i1 ∧ c ≠ i2 := by simpa using hb
    exact hk c o n.1 n.2.2.1 n.2.2.2.1 n.2.2.2.2 q
  item := by
    intro X eP ew eK hc i pins s σ H E I hf ⟨oz, oti, ⟨p0, q0, oto⟩, n1, n2⟩ ⟨xs, ys, l, r, sx, sy, gl, gr⟩
    subst eP ew eK
    obtain ⟨us, va, ta, _⟩ := I.list sx
    obtain ⟨us2, vb, tb, _⟩ := I.tuple sy
    obtain ⟨u, gu, ru⟩ := va.get gl
    obtain ⟨u2, gu2, ru2⟩ := vb.get gr
    have lz : z < s.heap.objs.size := Heap.lt_size oz
    refine sides_next D (side_list i1 a us.toArray) (side_tuple i2 b us2.toArray) oz oti oto n1 n2 ta.isList tb (x := u) (y := u2) (by simpa using gu) (by simpa using gu2) fun h1 z1 to1 m1 m2 nt hk => ⟨_, rfl, wpAny_letOwnedTupleGo_zip (s := { s with heap := h1 }) z1 fun h2 z2 sb => ?_⟩
    have I1 := pair_new (ch := [z, ti, to, i1, i2]) (h' := h2) I hf ((sb.2 _ (Nat.ne_of_gt lz)).trans nt) ru ru2 fun c o hb q => by
      have n : c ≠ z ∧ c ≠ ti ∧ c ≠ to ∧ c ≠ i1 ∧ c ≠ i2 := by simpa using hb
      exact (sb.2 c n.1).trans (hk c o n.1 n.2.2.1 n.2.2.2.1 n.2.2.2.2 q)
    refine ⟨.ref s.heap.objs.size, _, I1, rfl, ⟨_, _, l, r, rfl, I.hok.fresh (Nat.le_refl _), rfl, rfl, rfl, fun zs q => by rw [I.list_inj q sx]; exact gl, fun zs q => by rw [I.tuple_inj q sy]; exact gr⟩,
      ⟨z2, (sb.2 _ D.TIz).trans (hk _ _ D.TIz D.TITO D.TIi1 D.TIi2 oti), ⟨u, u2, (sb.2 _ D.TOz).trans to1⟩, m1.at fun o q => (sb.2 _ D.i1z).trans q, m2.at fun o q => (sb.2 _ D.i2z).trans q⟩, fun c hcm => ?_⟩
    have lt : c < s.heap.objs.size := by
      obtain ⟨_, k1, _⟩ := n1
      obtain ⟨_, k2, _⟩ := n2
      rcases five hcm with q | q | q | q | q <;> rw [q]
      · exact lz
      · exact Heap.lt_size oti
      · exact Heap.lt_size oto
      · exact Heap.lt_size k1
      · exact Heap.lt_size k2
    rw [upd_ne (Nat.ne_of_lt lt)]
    exact (hf c hcm).1
end
section
variable {X : Cx} {e e2 : Expr} {ta : TA} {p pos tpos : Pos} {elts : List Expr} {kk : Nat}
theorem pi_zm (hg : Gl X "zip") (hm : X.mg "zip" = none) (ha : PA X [e, e2] ta)
    (hs : starEach [e, e2] X.env = (false, eval e X.env) :: starEach [e2] X.env := by rfl) (hpl : (backTo pos (starEach [e2] X.env)).any (·.1) = false := by rfl) :
    PI X (.Tuple elts kk tpos) (.Call (.Name "zip" p) [e, e2] [] pos) (fun σ H R => ta σ H fun vs H1 => ∃ a b xs ys, vs = [.ref a, .ref b] ∧ SqL X.K H1 a xs ∧ SqT X.K H1 b ys ∧ R (ItF (fun H xs => SqL X.K H a xs) fun H ys => SqT X.K H b ys) H1) := by
  refine ⟨fun pins s σ H R I h => Call_ (ld_blt I hg hm PyProof.Rows.boot_zip (PyProof.Rows.callWith_type1 (thn (ha.run pos pins s σ H _ I h) fun us s1 ⟨vs, H1, I1, rr, a, b, xs, ys, ev, sx, sy, q⟩ => ?_) hs hpl))⟩
  subst ev
  obtain ⟨u, u2, eu, ra, rb⟩ := vals2 rr
  subst eu
  obtain rfl : u = .ref a := ra
  obtain rfl : u2 = .ref b := rb
  have fp : ∀ c ∈ [s1.heap.objs.size + 4, s1.heap.objs.size + 2, s1.heap.objs.size + 3, s1.heap.objs.size, s1.heap.objs.size + 1], FpOk X pins H1 c := fun c hc => by
    have le : s1.heap.objs.size ≤ c := by
      rcases five hc with q | q | q | q | q <;> rw [q]
      · exact Nat.le_add_right _ _
      · exact Nat.le_add_right _ _
      · exact Nat.le_add_right _ _
      · exact Nat.le_refl _
      · exact Nat.le_add_right _ _
    exact I1.fpOk le (I1.hok.fresh le)
  obtain ⟨us, _, ta, _⟩ := I1.list sx
  obtain ⟨us2, _, tb, _⟩ := I1.tuple sy
  have lb : b < s1.heap.objs.size := by obtain ⟨o, k, _⟩ := tb; exact Heap.lt_size k
  refine call_zm ta.isList (show s1.heap.IsTuple b us2.toArray from tb) fun h' oz oti oto n1 n2 hk => wpAny_pyIter_zip oz ?_
  exact ⟨_, [s1.heap.objs.size + 4, s1.heap.objs.size + 2, s1.heap.objs.size + 3, s1.heap.objs.size, s1.heap.objs.size + 1], _, _, H1, rfl, I1.kept (t' := s1.toks) hk, turn_zm (PySem.W.ktu_apart s1.heap.objs.size a b ta.lt lb), ⟨oz, oti, ⟨_, _, oto⟩, n1, n2⟩, fp, q⟩
end
/-- zip of a list with a tuple -/
def zipM : List D → R (List D)
  | [.lst xs, .tup ys] => .ok (zipD xs ys)
  | _ => .st
theorem zipM_cases (ds : List D) : (∃ xs ys, ds = [.lst xs, .tup ys] ∧ zipM ds = .ok (zipD xs ys)) ∨ zipM ds = .st := by
  unfold zipM
  split
  · exact .inl ⟨_, _, rfl, rfl⟩
  · exact .inr rfl
def mZipM (mr : En → R (List D)) : En → R (List D) := fun env => (mr env).bind zipM
section
variable {g : G0} {x : L2.St → Prop} {W : WX} {X : Cx} {e e2 : Expr} {p pos tpos : Pos} {elts : List Expr} {kk : Nat} {mr : En → R (List D)}
theorem di_zipM (hg : Gl X "zip") (hm : X.mg "zip" = none) (ha : PAd g x W X [e, e2] mr)
    (hs : starEach [e, e2] X.env = (false, eval e X.env) :: starEach [e2] X.env := by rfl) (hpl : (backTo pos (starEach [e2] X.env)).any (·.1) = false := by rfl) : PId g x W X (.Tuple elts kk tpos) (.Call (.Name "zip" p) [e, e2] [] pos) (mZipM mr) :=
  weakI (pi_zm hg hm ha hs hpl) fun σ H Rn ⟨env, Z, er, hp⟩ => by
    refine ⟨env, Z, er, ?_⟩
    unfold mZipM at hp
    cases em : mr env with
    | ok ds =>
      rw [em] at hp
      have hp : PostI X.K g W Z σ H Rn (zipM ds) := hp
      intro vs H' k r
      rcases zipM_cases ds with ⟨xs, ys, ed, ez⟩ | ez
      · rw [ez] at hp
        subst ed
        obtain ⟨v, _, e1, q1, r2⟩ := RepL.cons_.mp r
        obtain ⟨v2, _, e3, q2, r3⟩ := RepL.cons_.mp r2
        have e4 := RepL.nil_.mp r3
        subst e1 e3 e4
        obtain ⟨a, us, e5, rd, rr⟩ := Rep.lst_.mp q1
        obtain ⟨b, ws, e6, rd2, rr2⟩ := Rep.tup_.mp q2
        subst e5 e6
        exact ⟨a, b, us, ws, rfl, rd.sq, rd2.sqT, hp _ H' k (walk_zipF rr rr2 (fun H2 k2 => (k2.ls rd).sq) fun H2 k2 => (k2.tu rd2).sqT)⟩
      · rw [ez] at hp
        exact hp.elim
    | ex c p => rw [em] at hp; exact hp
    | st => rw [em] at hp; exact hp.elim
end
end DL
set_option Elab.async false
set_option linter.all false
set_option maxRecDepth 100000
namespace DL
open PySem PySem.Spec L2
open PyProof.Rows hiding St

/-! ### objects that do not change: attributes, constants of the class, methods -/
def fFld (tab : Nat → Option Nat) : D → R Sl
  | .obj c fs => match tab c with
    | some i => match fs[i]? with
      | some d => .ok (.fr d)
      | none => .st
    | none => .st
  | _ => .st
def fCon (tab : Nat → Option D) : D → R Sl
  | .obj c _ => match tab c with
    | some d => .ok (.fr d)
    | none => .st
  | _ => .st
/-- the attribute f stands at place i of the objects of class c -/
structure FldC (K : PySem.W.Frag) (g : G0) (f : Str) (c i : Nat) : Prop where
  cls : Cls K (g.cl c)
  na : NoAttr K (g.cl c) f
  nd : (g.fl c).Nodup
  at_ : (g.fl c)[i]? = some f
theorem lookup_zip : ∀ {ns : List Str} {vs : List V} {i : Nat} {f : Str} {v : V}, ns.Nodup → ns.length = vs.length → ns[i]? = some f → vs[i]? = some v → (ns.zip vs).lookup f = some v
  | [], vs, i, f, v, _, _, h, _ => by simp at h
  | n :: ns, [], i, f, v, _, h, _, _ => by cases h
  | n :: ns, u :: vs, 0, f, v, nd, hl, h1, h2 => by
    simp only [List.getElem?_cons_zero, Option.some.injEq] at h1 h2
    subst h1 h2
    rw [List.zip_cons_cons, List.lookup_cons]
    simp
  | n :: ns, u :: vs, i + 1, f, v, nd, hl, h1, h2 => by
    rw [List.getElem?_cons_succ] at h1 h2
    have hne : f ≠ n := fun e => (List.nodup_cons.mp nd).1 (by rw [← e]; exact List.mem_of_getElem? h1)
    rw [List.zip_cons_cons, List.lookup_cons, show (f == n) = false from beq_eq_false_iff_ne.mpr hne]
    exact lookup_zip (List.nodup_cons.mp nd).2 (by simpa using hl) h1 h2
theorem lookup_zip_none : ∀ {ns : List Str} {vs : List V} {f : Str}, f ∉ ns → (ns.zip vs).lookup f = none
  | [], vs, f, _ => by simp
  | n :: ns, [], f, _ => by simp
  | n :: ns, u :: vs, f, h => by
    rw [List.zip_cons_cons, List.lookup_cons, show (f == n) = false from beq_eq_false_iff_ne.mpr fun e => h (by rw [e]; exact List.mem_cons_self)]
    exact lookup_zip_none fun m => h (List.mem_cons_of_mem _ m)
theorem RepB.obj_ {K : PySem.W.Frag} {g : G0} {H : Hp} {Z : Av} {c : Nat} {fs : List D} {v : V} (h : RepB K g H Z (.obj c fs) v) : Rep K g H Z (.obj c fs) v := h.elim id fun ⟨_, _, _, e, _⟩ => by cases e
section
variable {g : G0} {x : L2.St → Prop} {W : WX} {X : Cx} {a e : Expr} {es : List Expr} {pos apos : Pos} {ma : B} {mo : M} {mr : En → R (List D)} {f : Str}
theorem de_fld {tab : Nat → Option Nat} (h : ∀ c i, tab c = some i → FldC X.K g f c i) (ha : PBd g x W X a ma) (hb : attributeBase a f X.env (eval a X.env) = eval a X.env := by rfl) : PEd g x W X (.Attribute a f pos) (mUn (fFld tab) ma) :=
  weakE (pe_fld ha hb) fun σ H Q ⟨env, Z, er, hp⟩ => useB er hp fun d v H1 e1 k1 r1 hp1 => by
    unfold fFld at hp1
    cases d with
    | obj c fs =>
      cases et : tab c with
      | none => simp only [et] at hp1; exact hp1.elim
      | some i =>
        simp only [et] at hp1
        cases ef : fs[i]? with
        | none => simp only [ef] at hp1; exact hp1.elim
        | some d =>
          simp only [ef] at hp1
          obtain ⟨p, dx, vs, ev, nz, hH, hl, rr⟩ := Rep.obj_.mp r1.obj_
          obtain ⟨u, hu, ru⟩ := rr.get ef
          have F := h c i et
          exact ⟨p, _, dx, _, u, ev, hH, F.cls, F.na, lookup_zip F.nd hl F.at_ hu, hp1 u H1 (Same.refl _) ru⟩
    | _ => exact hp1.elim
/-- a constant of the class -/
structure ConC (K : PySem.W.Frag) (g : G0) (f : Str) (c : Nat) (d : D) : Prop where
  cls : Cls K (g.cl c)
  con : ∃ v u, Con K (g.cl c) f v u ∧ ∀ (H : Hp) (Z : Av), Rep K g H Z d v
  nf : f ∉ g.fl c
theorem de_con {tab : Nat → Option D} (h : ∀ c d, tab c = some d → ConC X.K g f c d) (ha : PBd g x W X a ma) (hb : attributeBase a f X.env (eval a X.env) = eval a X.env := by rfl) : PEd g x W X (.Attribute a f pos) (mUn (fCon tab) ma) :=
  weakE (pe_con ha hb) fun σ H Q ⟨env, Z, er, hp⟩ => useB er hp fun d v H1 e1 k1 r1 hp1 => by
    unfold fCon at hp1
    cases d with
    | obj c fs =>
      cases et : tab c with
      | none => simp only [et] at hp1; exact hp1.elim
      | some d =>
        simp only [et] at hp1
        obtain ⟨p, dx, vs, ev, nz, hH, hl, rr⟩ := Rep.obj_.mp r1.obj_
        have C := h c d et
        obtain ⟨u, cv, con, rep⟩ := C.con
        exact ⟨p, _, dx, _, u, cv, ev, hH, C.cls, con, lookup_zip_none C.nf, hp1 u H1 (Same.refl _) (rep _ _)⟩
    | _ => exact hp1.elim
end

/-! ### calls of methods -/
section
variable {X : Cx} {CX : CXT} {E : St → XK} {m : Str} {p pos apos : Pos} {e o : Expr} {es : List Expr} {ta : TE} {t : TA}
def tMethV (X : Cx) (CX : CXT) (m : Str) (E : St → XK) (ta : TE) (t : TA) : TE := fun σ H Q => ta σ H fun x H1 => ∃ a C dx fs f fd ps sp k, x = .ref a ∧ H1 a = some (.ins C dx fs) ∧ Cls X.K C ∧ Meth X.K C m f ∧
  FnOk X.prog X.w X.K X.mg X.base CX k f fd ps sp ∧ Room k X.A ∧ Binds X.K fd ps [] ∧ fs.lookup m = none ∧ t σ H1 fun vs H2 => sp (x :: vs) H2 Q (E σ)
theorem pe_methV {pl : Sem Bool} (he : PE X o ta) (hx : ∀ σ, PassesAt CX X σ (E σ)) (ha : PA X (e :: es) t)
    (hst : starEach (e :: es) X.env = (false, eval e X.env) :: starEach es X.env := by rfl) (hpl : (backTo pos (starEach (e :: es) X.env)).any (·.1) = false := by rfl)
    (hpl2 : (backTo pos (starEach es X.env)).any (·.1) = false := by rfl)
    (ht : eval (.Call (.Attribute o m apos) (e :: es) [] pos) X.env = (do
      let ov ← eval o X.env
      standAt apos.atName
      let (f, first) ← holding [ov] (getMethod ov m pl)
      callWith pos f first (backTo pos (starEach (e :: es) X.env)) (backToKw pos (keywordEach [] X.env))) := by rfl) :
    PE X (.Call (.Attribute o m apos) (e :: es) [] pos) (tMethV X CX m E ta t) := by
  refine ⟨fun pins s σ H Q I h => ?_⟩
  refine PySem.W.methodCall_KW (pl := pl) (thn (he.run pins s σ H _ I h) fun u s1 ⟨x, H1, I1, rx, a, C, dx, fs, f, fd, ps, sp, k, ex, ea, c, hm, F, hr, hb, l, q⟩ => ?_) ht
  subst ex
  obtain rfl : u = Value.ref a := rx
  refine getmeth_ok I1 ea c hm l ?_
  refine PySem.W.callWith_K (first := [.ref a]) (h₀ := X.base) I.ok.mod.kin hm.kp (thn (ha.run pos pins s1 σ H1 _ I1 q) fun us s2 ⟨vs, H2, I2, r, q2⟩ => ⟨I2.kIn, ?_⟩) hst hpl2
  exact run_fnS (us := .ref a :: us) (vs := .ref a :: vs) F hr hb (hx σ) I2 (.cons rfl r) q2
theorem pe_methV0 {pl : Sem Bool} (he : PE X o ta) (hx : ∀ σ, PassesAt CX X σ (E σ))
    (ht : eval (.Call (.Attribute o m apos) [] [] pos) X.env = (do
      let ov ← eval o X.env
      standAt apos.atName
      let (f, first) ← holding [ov] (getMethod ov m pl)
      callWith pos f first (backTo pos (starEach [] X.env)) (backToKw pos (keywordEach [] X.env))) := by rfl) :
    PE X (.Call (.Attribute o m apos) [] [] pos) (tMethV X CX m E ta tNil) := by
  refine ⟨fun pins s σ H Q I h => ?_⟩
  refine PySem.W.methodCall_KW (pl := pl) (thn (he.run pins s σ H _ I h) fun u s1 ⟨x, H1, I1, rx, a, C, dx, fs, f, fd, ps, sp, k, ex, ea, c, hm, F, hr, hb, l, q⟩ => ?_) ht
  subst ex
  obtain rfl : u = Value.ref a := rx
  refine getmeth_ok I1 ea c hm l ?_
  exact PySem.W.callWith_K0 (first := [.ref a]) I1.kIn hm.kp (run_fnS (us := [.ref a]) (vs := [.ref a]) F hr hb (hx σ) I1 (.cons rfl .nil) q)
end
/-- the method m of the objects of class c keeps f -/
structure MD (P : Program) (w : World) (K : PySem.W.Frag) (mg : Str → Option Value) (base : Heap) (g : G0) (k : Nat) (m : Str) (c : Nat) (f : Fn) : Prop where
  ex : ∃ a fd ps, Cls K (g.cl c) ∧ Meth K (g.cl c) m a ∧ m ∉ g.fl c ∧ Binds K fd ps [] ∧ FnOk P w K mg base (L2.CX P w) k a fd ps (Prom K g f)
theorem MD.mono {P : Program} {w : World} {K : PySem.W.Frag} {mg : Str → Option Value} {base : Heap} {g : G0} {j k : Nat} {m : Str} {c : Nat} {f : Fn} (F : MD P w K mg base g j m c f) (h : j ≤ k) : MD P w K mg base g k m c f := by
  obtain ⟨a, fd, ps, h1, h2, h3, h4, h5⟩ := F.ex
  exact ⟨a, fd, ps, h1, h2, h3, h4, h5.mono h⟩
def mMeth (tab : Nat → Option Fn) (mo : M) (mr : En → R (List D)) : M := fun env => (mo env).bind fun o => match o.d with
  | .obj c fs => match tab c with
    | some f => (mr env).bind fun xs => f (.obj c fs :: xs)
    | none => .st
  | _ => .st
section
variable {g : G0} {x : L2.St → Prop} {W : WX} {X : Cx} {o e : Expr} {es : List Expr} {pos apos : Pos} {mo : M} {mr : En → R (List D)} {m : Str} {k : Nat} {tab : Nat → Option Fn}
theorem meth_run {σ : L2.St} {H : Hp} {Q : VK} {mr : En → R (List D)} {t : TA} (hM : ∀ c f, tab c = some f → MD X.prog X.w X.K X.mg X.base g k m c f) (hr : Room k X.A)
    (ht : ∀ σ H (q : List V → Hp → Prop), tA X.K g x W mr σ H q → t σ H q) (h : tM X.K g x W (mMeth tab mo mr) σ H Q) : tMethV X (L2.CX X.prog X.w) m (WE W) (tM X.K g x W mo) t σ H Q := by
  obtain ⟨env, Z, er, hp⟩ := h
  refine use1 (m := mo) (f := fun o => match o.d with
    | .obj c fs => match tab c with
      | some f => (mr env).bind fun xs => f (.obj c fs :: xs)
      | none => .st
    | _ => .st) er hp fun s v H1 e1 k1 r1 hp1 => ?_
  cases ed : s.d with
  | obj c fs =>
    simp only [ed] at hp1
    rw [ed] at r1
    cases et : tab c with
    | none => simp only [et] at hp1; exact hp1.elim
    | some f =>
      simp only [et] at hp1
      obtain ⟨p, dx, vs, ev, nz, hH, hl, rr⟩ := Rep.obj_.mp r1
      obtain ⟨a, fd, ps, h1, h2, h3, h4, h5⟩ := (hM c f et).ex
      refine ⟨p, _, dx, _, a, fd, ps, _, k, ev, hH, h1, h2, h5, hr, h4, lookup_zip_none h3, ht _ _ _ ?_⟩
      exact useA (er.mono k1) hp1 fun ds ws H2 e2 k2 r2 hp2 => ⟨Z, .obj c fs :: ds, dom_mono (k1.trans k2) er.dom, RepL.cons_.mpr ⟨v, ws, rfl, Rep.mono (.same_ k2) _ _ r1, r2⟩, postW hp2⟩
  | _ => simp only [ed] at hp1; exact hp1.elim
theorem de_meth {pl : Sem Bool} (hM : ∀ c f, tab c = some f → MD X.prog X.w X.K X.mg X.base g k m c f) (hr : Room k X.A) (tk : Takes X W) (ho : PEd g x W X o mo) (ha : PAd g x W X (e :: es) mr)
    (hst : starEach (e :: es) X.env = (false, eval e X.env) :: starEach es X.env := by rfl) (hpl : (backTo pos (starEach (e :: es) X.env)).any (·.1) = false := by rfl)
    (hpl2 : (backTo pos (starEach es X.env)).any (·.1) = false := by rfl)
    (ht : eval (.Call (.Attribute o m apos) (e :: es) [] pos) X.env = (do
      let ov ← eval o X.env
      standAt apos.atName
      let (f, first) ← holding [ov] (getMethod ov m pl)
      callWith pos f first (backTo pos (starEach (e :: es) X.env)) (backToKw pos (keywordEach [] X.env))) := by rfl) :
    PEd g x W X (.Call (.Attribute o m apos) (e :: es) [] pos) (mMeth tab mo mr) :=
  weakE (pe_methV (E := WE W) ho (fun σ => passAt tk σ) ha hst hpl hpl2 ht) fun σ H Q h => meth_run hM hr (fun _ _ _ h => h) h
theorem de_meth0 {pl : Sem Bool} (hM : ∀ c f, tab c = some f → MD X.prog X.w X.K X.mg X.base g k m c f) (hr : Room k X.A) (tk : Takes X W) (ho : PEd g x W X o mo)
    (ht : eval (.Call (.Attribute o m apos) [] [] pos) X.env = (do
      let ov ← eval o X.env
      standAt apos.atName
      let (f, first) ← holding [ov] (getMethod ov m pl)
      callWith pos f first (backTo pos (starEach [] X.env)) (backToKw pos (keywordEach [] X.env))) := by rfl) :
    PEd g x W X (.Call (.Attribute o m apos) [] [] pos) (mMeth tab mo mNil) :=
  weakE (pe_methV0 (E := WE W) ho (fun σ => passAt tk σ) ht) fun σ H Q h => meth_run hM hr (fun σ H q ⟨env, Z, er, hp⟩ => hp [] H (Same.refl _) (RepL.nil_.mpr rfl)) h
end

/-! ### a new object -/
/-- what an __init__ does: from its arguments the attributes' values -/
def PromI (K : PySem.W.Frag) (g : G0) (c : Nat) (f : List D → R (List D)) : Sp := fun vs H Q E => ∃ (a dx : Addr) (rest : List V) (H1 : Hp) (Z : Av) (ds : List D), vs = .ref a :: rest ∧ H1 a = none ∧ H1 dx = none ∧ dx ≠ a ∧
  H = upd (upd H1 dx (.own a)) a (.ins (g.cl c) dx []) ∧ (∀ b, Z b → H1 b ≠ none) ∧ RepL K g H1 Z ds rest ∧
  match f ds with
  | .ok fs => ∀ ws H', Same H1 H' → H' a = some (.ins (g.cl c) dx ((g.fl c).zip ws)) → (g.fl c).length = ws.length → RepL K g H' (fun b => Z b ∨ b = a) fs ws → Q .non H'
  | .ex e p => ∀ H' dd, Same H1 H' → ExP K g H' Z p dd → E (.ref (g.cl e)) dd H'
  | .st => False
structure CD (P : Program) (w : World) (K : PySem.W.Frag) (mg : Str → Option Value) (base : Heap) (g : G0) (k : Nat) (y : Str) (c : Nat) (f : List D → R (List D)) : Prop where
  ex : ∃ a fd ps, mg y = some (.ref (g.cl c)) ∧ Mk K (g.cl c) a ∧ Binds K fd ps [] ∧ FnOk P w K mg base (L2.CX P w) k a fd ps (PromI K g c f)
theorem CD.mono {P : Program} {w : World} {K : PySem.W.Frag} {mg : Str → Option Value} {base : Heap} {g : G0} {j k : Nat} {y : Str} {c : Nat} {f : List D → R (List D)} (F : CD P w K mg base g j y c f) (h : j ≤ k) : CD P w K mg base g k y c f := by
  obtain ⟨a, fd, ps, h1, h2, h4, h5⟩ := F.ex
  exact ⟨a, fd, ps, h1, h2, h4, h5.mono h⟩
def fNew (c : Nat) (f : List D → R (List D)) : Fn := fun ds => (f ds).bind fun fs => .ok (.fr (.obj c fs))
section
variable {X : Cx} {CX : CXT} {k : Nat} {f C : Addr} {fd : FuncData} {ps : List Str} {sp : Sp} {E : St → XK} {x : Str} {p pos : Pos} {e : Expr} {es : List Expr} {t : TA}
def tMakeS (C : Addr) (sp : Sp) (E : St → XK) (t : TA) : TE := fun σ H Q => t σ H fun vs H1 => ∀ x dx, H1 x = none → H1 dx = none → dx ≠ x → sp (.ref x :: vs) (upd (upd H1 dx (.own x)) x (.ins C dx [])) (fun v H2 => v = .non ∧ Q (.ref x) H2) (E σ)
theorem run_makeS {pins : List (Addr × Obj)} {σ : St} {H : Hp} {s : Shared} {Q : VK} {us : List Value} {vs : List V} (M : Mk X.K C f) (F : FnOk X.prog X.w X.K X.mg X.base CX k f fd ps sp) (hr : Room (k + 1) X.A) (hb : Binds X.K fd ps [])
    (hx : PassesAt CX X σ (E σ)) (I : Inv X pins σ H s) (r : Vals vs us)
    (h : ∀ x dx, H x = none → H dx = none → dx ≠ x → sp (.ref x :: vs) (upd (upd H dx (.own x)) x (.ins C dx [])) (fun v H2 => v = .non ∧ Q (.ref x) H2) (E σ)) :
    wpAny (model X.prog X.w) X.A (call (.ref C) us) (EP X pins σ Q) X.xe s := by
  have hq := h (s.heap.objs.size + 1) s.heap.objs.size (I.hok.fresh (Nat.le_succ _)) (I.hok.fresh (Nat.le_refl _)) (Nat.ne_of_lt (Nat.lt_succ_self _))
  have I2 := Inv.made (C := C) I
  have r2 : Vals (V.ref (s.heap.objs.size + 1) :: vs) (Value.ref (s.heap.objs.size + 1) :: us) := .cons rfl r
  have hl : (Value.ref (s.heap.objs.size + 1) :: us).length = ps.length := by
    have e := r2.length
    rw [F.len _ _ _ _ hq] at e
    exact e.symm
  have b := hb _ (Value.ref (s.heap.objs.size + 1) :: us) I2.kIn (by rw [List.append_nil]; exact hl)
  rw [List.append_nil] at b
  refine wpAny_call (make_map (f := f) I.kIn M.makes M.init (beq_iff_eq.mp M.fn) (codeAny_mono (F.run _ X.stack _ _ ⟨Value.ref (s.heap.objs.size + 1) :: us, []⟩ (Value.ref (s.heap.objs.size + 1) :: us) _ _ (E σ) (hr.make C us [])
    (I2.env0.make C us []) b r2 hq) fun r s' hq' => ?_))
  cases r with
  | error e => exact hx pins _ _ e s' I2 hq'
  | ok fl =>
    cases fl with
    | ret u =>
      obtain ⟨v, H', I3, rv, ev, q3⟩ := I2.after hq'
      subst ev
      exact ⟨rv, ⟨V.ref (s.heap.objs.size + 1), H', I3, rfl, q3⟩⟩
    | next => exact False.elim hq'
    | brk => exact False.elim hq'
    | cont => exact False.elim hq'
theorem pe_makeS (M : Mk X.K C f) (F : FnOk X.prog X.w X.K X.mg X.base CX k f fd ps sp) (hr : Room (k + 1) X.A) (hg : Gl X x) (hm : X.mg x = some (.ref C)) (hb : Binds X.K fd ps []) (hx : ∀ σ, PassesAt CX X σ (E σ))
    (ha : PA X (e :: es) t) (hdb : (x == ("__debug__" : Str)) = false := by decide) (he : starEach (e :: es) X.env = (false, eval e X.env) :: starEach es X.env := by rfl) (hpl : (backTo pos (starEach es X.env)).any (·.1) = false := by rfl) :
    PE X (.Call (.Name x p) (e :: es) [] pos) (tMakeS C sp E t) := by
  refine ⟨fun pins s σ H Q I h => ?_⟩
  refine wpAny_Call_Name_kw (ld_glob I hg hm ?_ hdb)
  refine PySem.W.callWith_K (h₀ := X.base) I.ok.mod.kin M.kp (thn (ha.run pos pins s σ H _ I h) fun us s1 ⟨vs, H1, I1, r, q⟩ => ⟨I1.kIn, ?_⟩) he hpl
  exact run_makeS M F hr hb (hx σ) I1 r q
end
section
variable {g : G0} {x : L2.St → Prop} {W : WX} {X : Cx} {e : Expr} {es : List Expr} {mr : En → R (List D)} {pos p : Pos}
theorem de_new {k c : Nat} {y : Str} {f : List D → R (List D)} (F : CD X.prog X.w X.K X.mg X.base g k y c f) (hr : Room (k + 1) X.A) (tk : Takes X W) (hg : Gl X y) (ha : PAd g x W X (e :: es) mr)
    (hdb : (y == ("__debug__" : Str)) = false := by decide) (he : starEach (e :: es) X.env = (false, eval e X.env) :: starEach es X.env := by rfl) (hpl : (backTo pos (starEach es X.env)).any (·.1) = false := by rfl) :
    PEd g x W X (.Call (.Name y p) (e :: es) [] pos) (mCall (fNew c f) mr) := by
  obtain ⟨a, fd, ps, hm, hk, hb, hF⟩ := F.ex
  exact weakE (pe_makeS hk hF hr hg hm hb (fun σ => passAt tk σ) ha hdb he hpl) fun σ H Q ⟨env, Z, er, hp⟩ =>
    useA er hp fun ds vs H1 e1 k1 r1 hp1 => fun q dx nq ndx nex => by
      refine ⟨q, dx, vs, H1, Z, ds, rfl, nq, ndx, nex, rfl, dom_mono k1 er.dom, r1, ?_⟩
      unfold fNew at hp1
      cases ef : f ds with
      | ok fs =>
        rw [ef] at hp1
        exact fun ws H' k hq hl rr => ⟨rfl, hp1 _ _ k (Rep.obj_.mpr ⟨q, dx, ws, rfl, fun z => dom_mono k1 er.dom q z nq, hq, hl, RepL.mono (.of (Same.refl _) fun b _ z => .inl z) _ _ rr⟩)⟩
      | ex c p => rw [ef] at hp1; exact fun H' dd k q => hp1 H' dd k q
      | st => rw [ef] at hp1; exact hp1.elim
end
end DL
set_option Elab.async false
set_option linter.all false
set_option maxRecDepth 100000
namespace DL
open PySem PySem.Spec L2
open PyProof.Rows hiding St

/-! ### __init__: attributes are stored one by one into the new object -/
inductive RI where
  | nx (e : En) (fs : List D) | ex (c : Nat) (p : Pl) | st
abbrev MI := En → List D → RI
structure IRel (K : PySem.W.Frag) (g : G0) (A : Av) (H1 : Hp) (a dx : Addr) (c : Nat) (env : En) (fs : List D) (σ : L2.St) (H : Hp) : Prop where
  sr : ∃ Ha, SRel K g T (fun b => A b ∨ b = a) Ha env σ H ∧ Same H1 Ha
  ad : ∀ b, A b → H1 b ≠ none
  na : H1 a = none
  s0 : σ[0]? = some (some (.ref a))
  n0 : env[0]? = some none
  lim : fs.length ≤ (g.fl c).length
  cell : ∃ vs, H a = some (.ins (g.cl c) dx (((g.fl c).take fs.length).zip vs)) ∧ fs.length = vs.length ∧ RepL K g H (zz (fun b => A b ∨ b = a) env σ) fs vs
def PostJ (K : PySem.W.Frag) (g : G0) (W : WX) (A : Av) (H1 : Hp) (a dx : Addr) (c : Nat) (D : Ends) : RI → Prop
  | .nx e fs => ∀ σ' H', IRel K g A H1 a dx c e fs σ' H' → D.nx σ' H'
  | .ex e p => ∀ σ' H' dd, Same H1 H' → ExP K g H' A p dd → W (.ref (g.cl e)) dd σ' H'
  | .st => False
def tJ (K : PySem.W.Frag) (g : G0) (W : WX) (c : Nat) (m : MI) : TS := fun D σ H => ∃ env fs A H1 a dx, IRel K g A H1 a dx c env fs σ H ∧ PostJ K g W A H1 a dx c D (m env fs)
abbrev PSi (g : G0) (W : WX) (X : Cx) (c : Nat) (s : Stmt) (m : MI) : Prop := PS X s (tJ X.K g W c m)
abbrev PSsi (g : G0) (W : WX) (X : Cx) (c : Nat) (s : List Stmt) (m : MI) : Prop := PSs X s (tJ X.K g W c m)
def iNop : MI := fun env fs => .nx env fs
def iSeq (m n : MI) : MI := fun env fs => match m env fs with
  | .nx e fs => n e fs
  | r => r
def iIf (t : En → R Bool) (m n : MI) : MI := fun env fs => match t env with
  | .ok b => if b = true then m env fs else n env fs
  | .ex c p => .ex c p
  | .st => .st
def iSet (i : Nat) (m : M) : MI := fun env fs => match m env with
  | .ok s => .nx (env.set i (some s)) fs
  | .ex c p => .ex c p
  | .st => .st
def iDrop (m : M) : MI := fun env fs => match m env with
  | .ok _ => .nx env fs
  | .ex c p => .ex c p
  | .st => .st
def iRaise (c : Nat) : MI := fun _ _ => .ex c none
def iRaise1 (c : Nat) (m : M) : MI := fun env _ => match m env with
  | .ok _ => .ex c none
  | .ex c p => .ex c p
  | .st => .st
/-- self.f = e; f is the attribute number j -/
def iFld (j : Nat) (m : M) : MI := fun env fs => match m env with
  | .ok s => if fs.length = j then .nx env (fs ++ [s.d]) else .st
  | .ex c p => .ex c p
  | .st => .st
mutual
/-- neither a list nor an object is in it -/
def noref : D → Bool
  | .tup xs => norefL xs
  | .lst _ => false
  | .obj _ _ => false
  | _ => true
def norefL : List D → Bool
  | [] => true
  | d :: ds => noref d && norefL ds
end
/-- the object as it stands after j attributes is read: the class of this form is cp -/
def selfM (cp : Nat) (fs : List D) (m : M) : M := fun env => match m (env.set 0 (some (.fr (.obj cp fs)))) with
  | .ok (.fr d) => if noref d = true then .ok (.fr d) else .st
  | .ok (.ow xs) => if norefL xs = true then .ok (.ow xs) else .st
  | .ex c none => .ex c none
  | _ => .st
def iFldS (cp j : Nat) (m : M) : MI := fun env fs => if fs.length = j then iFld j (selfM cp fs m) env fs else .st
def iSetS (cp j i : Nat) (m : M) : MI := fun env fs => if fs.length = j then iSet i (selfM cp fs m) env fs else .st
section
variable {K : PySem.W.Frag} {g : G0} {H : Hp} {Z Z' : Av}
mutual
theorem noref_z : ∀ {d : D} {v : V}, noref d = true → Rep K g H Z d v → Rep K g H Z' d v
  | .non, v, _, h => by rw [Rep.non_] at h ⊢; exact h
  | .bl b, v, _, h => by rw [Rep.bl_] at h ⊢; exact h
  | .int i, v, _, h => by rw [Rep.int_] at h ⊢; exact h
  | .str x, v, _, h => by rw [Rep.str_] at h ⊢; exact h
  | .tup xs, v, n, h => by
    rw [Rep.tup_] at h ⊢
    obtain ⟨a, vs, e, s, r⟩ := h
    exact ⟨a, vs, e, s, norefL_z (by unfold noref at n; exact n) r⟩
  | .lst _, v, n, _ => by unfold noref at n; cases n
  | .obj _ _, v, n, _ => by unfold noref at n; cases n
theorem norefL_z : ∀ {ds : List D} {vs : List V}, norefL ds = true → RepL K g H Z ds vs → RepL K g H Z' ds vs
  | [], vs, _, h => by rw [RepL.nil_] at h ⊢; exact h
  | d :: ds, vs, n, h => by
    rw [RepL.cons_] at h ⊢
    obtain ⟨v, r, e, h1, h2⟩ := h
    unfold norefL at n
    rw [Bool.and_eq_true] at n
    exact ⟨v, r, e, noref_z n.1 h1, norefL_z n.2 h2⟩
end
end
section
variable {K : PySem.W.Frag} {g : G0} {A : Av} {H1 H H' : Hp} {a dx : Addr} {c : Nat} {env : En} {fs : List D} {σ : L2.St}
theorem IRel.za (r : IRel K g A H1 a dx c env fs σ H) : zz (fun b => A b ∨ b = a) env σ a := .inl (.inr rfl)
theorem IRel.later (r : IRel K g A H1 a dx c env fs σ H) (k : Same H H') : IRel K g A H1 a dx c env fs σ H' := by
  obtain ⟨Ha, sr, sm⟩ := r.sr
  obtain ⟨vs, e, l, rr⟩ := r.cell
  exact ⟨⟨Ha, sr.later k, sm⟩, r.ad, r.na, r.s0, r.n0, r.lim, vs, k _ _ e, l, RepL.mono (.same_ k) _ _ rr⟩
theorem IRel.same (r : IRel K g A H1 a dx c env fs σ H) : Same H1 H := by
  obtain ⟨Ha, sr, sm⟩ := r.sr
  exact sm.trans sr.same
theorem zz_setFr {A : Av} {i : Nat} {d : D} {u : Option V} {b : Addr} (z : zz A (env.set i (some (.fr d))) (σ.set i u) b) : zz A env σ b := by
  rcases z with z | ⟨j, xs, e1, e2⟩
  · exact .inl z
  · rcases set_get e1 with ⟨_, e, _⟩ | ⟨ne, e1⟩
    · cases e
    · rcases set_get e2 with ⟨e, _⟩ | ⟨_, e2⟩
      · exact absurd e ne
      · exact .inr ⟨j, xs, e1, e2⟩
theorem zz_setOw {A : Av} {i : Nat} {xs : List D} {a b : Addr} (z : zz A (env.set i (some (.ow xs))) (σ.set i (some (.ref a))) b) : zz A env σ b ∨ b = a := by
  rcases z with z | ⟨j, ys, e1, e2⟩
  · exact .inl (.inl z)
  · rcases set_get e1 with ⟨ij, _, _⟩ | ⟨ne, e1⟩
    · subst ij
      rcases set_get e2 with ⟨_, e, _⟩ | ⟨ne, _⟩
      · cases e; exact .inr rfl
      · exact absurd rfl ne
    · rcases set_get e2 with ⟨e, _⟩ | ⟨_, e2⟩
      · exact absurd e ne
      · exact .inl (.inr ⟨j, ys, e1, e2⟩)
theorem IRel.setFr (r : IRel K g A H1 a dx c env fs σ H) {i : Nat} {d : D} {v : V} (hi : i ≠ 0) (k : Same H H') (h : Rep K g H' (zz (fun b => A b ∨ b = a) env σ) d v) : IRel K g A H1 a dx c (env.set i (some (.fr d))) fs (σ.set i (some v)) H' := by
  obtain ⟨Ha, sr, sm⟩ := r.sr
  obtain ⟨vs, e, l, rr⟩ := r.cell
  exact ⟨⟨Ha, sr.setFr (fun _ => trivial) k h, sm⟩, r.ad, r.na, by rw [List.getElem?_set_ne hi]; exact r.s0, by rw [List.getElem?_set_ne hi]; exact r.n0, r.lim, vs, k _ _ e, l, RepL.mono (.of k fun b _ z => zz_setFr z) _ _ rr⟩
theorem IRel.setOw (r : IRel K g A H1 a dx c env fs σ H) {i : Nat} {xs : List D} {b : Addr} {us : List V} (hi : i ≠ 0) (k : Same H H') (n : H b = none) (eb : H' b = some (.lst us)) (h : RepL K g H' (fun q => zz (fun b => A b ∨ b = a) env σ q ∨ q = b) xs us) :
    IRel K g A H1 a dx c (env.set i (some (.ow xs))) fs (σ.set i (some (.ref b))) H' := by
  obtain ⟨Ha, sr, sm⟩ := r.sr
  obtain ⟨vs, e, l, rr⟩ := r.cell
  exact ⟨⟨Ha, sr.setOw (fun _ => trivial) k n eb h, sm⟩, r.ad, r.na, by rw [List.getElem?_set_ne hi]; exact r.s0, by rw [List.getElem?_set_ne hi]; exact r.n0, r.lim, vs, k _ _ e, l, RepL.mono (.of k fun q hq z => (zz_setOw z).elim id fun e => absurd n (by rw [← e]; exact hq)) _ _ rr⟩
theorem putF_zip : ∀ {ns : List Str} {vs : List V} {f : Str} {v : V}, ns.length = vs.length → f ∉ ns → putF f v (ns.zip vs) = (ns ++ [f]).zip (vs ++ [v])
  | [], [], f, v, _, _ => rfl
  | [], v' :: vs, f, v, h, _ => by cases h
  | n :: ns, [], f, v, h, _ => by cases h
  | n :: ns, u :: vs, f, v, h, m => by
    have ne : ¬ n = f := fun e => m (by rw [e]; exact List.mem_cons_self)
    show (if n = f then (n, v) :: ns.zip vs else (n, u) :: putF f v (ns.zip vs)) = _
    rw [if_neg ne, putF_zip (by simpa using h) fun q => m (List.mem_cons_of_mem _ q)]
    rfl
theorem take_succ_of : ∀ {ns : List Str} {j : Nat} {f : Str}, ns[j]? = some f → ns.take (j + 1) = ns.take j ++ [f]
  | [], j, f, h => by simp at h
  | n :: ns, 0, f, h => by simpa using h
  | n :: ns, j + 1, f, h => by
    rw [List.getElem?_cons_succ] at h
    rw [List.take_succ_cons, List.take_succ_cons, take_succ_of h]
    rfl
theorem IRel.put (r : IRel K g A H1 a dx c env fs σ H) {d : D} {v : V} {f : Str} (k : Same H H') (h : Rep K g H' (zz (fun b => A b ∨ b = a) env σ) d v) (hf : (g.fl c)[fs.length]? = some f) (hn : f ∉ (g.fl c).take fs.length) :
    ∃ o, H' a = some (.ins (g.cl c) dx o) ∧ o.length = fs.length ∧ IRel K g A H1 a dx c env (fs ++ [d]) σ (upd H' a (.ins (g.cl c) dx (putF f v o))) := by
  have r := r.later k
  obtain ⟨Ha, sr, sm⟩ := r.sr
  obtain ⟨vs, e, l, rr⟩ := r.cell
  have lt : fs.length < (g.fl c).length := (List.getElem?_eq_some_iff.mp hf).1
  have lk : ((g.fl c).take fs.length).length = vs.length := by rw [List.length_take, ← l]; omega
  refine ⟨_, e, by rw [List.length_zip, lk, ← l, Nat.min_self], ?_⟩
  rw [putF_zip lk hn, ← take_succ_of hf]
  have Za : (fun b => A b ∨ b = a) a := .inr rfl
  have nHa : Ha a ≠ none := sr.adom a Za
  have kp : ∀ {Z : Av}, Z a → Kp H' Z (upd H' a (.ins (g.cl c) dx (((g.fl c).take (fs.length + 1)).zip (vs ++ [v])))) Z := fun {Z} za =>
    ⟨fun b o eb nb => by rw [upd_ne fun q => nb (by rw [q]; exact za)]; exact eb, fun b o xs t => by rw [upd_ne fun q => by subst q; rw [e] at t; cases t]; exact t, fun b _ n => n⟩
  refine ⟨⟨upd Ha a (.ins (g.cl c) dx (((g.fl c).take (fs.length + 1)).zip (vs ++ [v]))), ⟨⟨fun b z => ?_, trivial, sr.er.len, fun j s f1 => ?_⟩, fun b o eb => ?_, fun b z => ?_, fun j xs b f1 f2 => ?_, sr.dist, sr.len⟩, fun b o eb => ?_⟩, r.ad, r.na, r.s0, r.n0, by rw [List.length_append]; exact lt, vs ++ [v], ?_, ?_, ?_⟩
  · by_cases q : b = a
    · rw [q, upd_same]; simp
    · rw [upd_ne q]; exact sr.er.dom b z
  · obtain ⟨u, f2, q⟩ := sr.er.at_ j s f1
    refine ⟨u, f2, ?_⟩
    cases s with
    | fr d2 => exact Rep.mono (kp (.inl Za)) _ _ q
    | ow ys =>
      obtain ⟨b, ws, ev, z, p, r2⟩ := q
      subst ev
      exact ⟨b, ws, rfl, z, by rw [upd_ne fun q => by subst q; rw [e] at p; cases p]; exact p, RepL.mono (kp (.inl Za)) _ _ r2⟩
  · by_cases q : b = a
    · subst q; rw [upd_same] at eb ⊢; exact eb
    · rw [upd_ne q] at eb ⊢; exact sr.same b o eb
  · by_cases q : b = a
    · rw [q, upd_same]; simp
    · rw [upd_ne q]; exact sr.adom b z
  · have hb := sr.fresh j xs b f1 f2
    rw [upd_ne fun q => nHa (by rw [← q]; exact hb)]
    exact hb
  · rw [upd_ne (ne_of_none eb r.na)]; exact sm b o eb
  · rw [upd_same, List.length_append]; rfl
  · rw [List.length_append, List.length_append, l]; rfl
  · exact (RepL.mono (kp (.inl Za)) _ _ rr).append (.one (Rep.mono (kp (.inl Za)) _ _ h))
end
section
variable {g : G0} {W : WX} {X : Cx} {e : Expr} {st : Stmt} {rest body orelse : List Stmt} {pos : Pos} {m : M} {c : Nat} {s t : MI}
theorem is_nil : PSsi g W X c [] iNop := weakSs pss_nil fun D σ H ⟨env, fs, A, H1, a, dx, r, hp⟩ => hp σ H r
theorem is_one (h1 : PSi g W X c st s) : PSsi g W X c [st] s := pss_one h1
theorem is_cons (h1 : PSi g W X c st s) (h2 : PSsi g W X c rest t) : PSsi g W X c (st :: rest) (iSeq s t) :=
  weakSs (pss_cons h1 h2) fun D σ H ⟨env, fs, A, H1, a, dx, r, hp⟩ => by
    refine ⟨env, fs, A, H1, a, dx, r, ?_⟩
    unfold iSeq at hp
    cases e : s env fs with
    | nx e' fs' => rw [e] at hp; exact fun σ' H' q => ⟨e', fs', A, H1, a, dx, q, hp⟩
    | ex c p => rw [e] at hp; exact hp
    | st => rw [e] at hp; exact hp
theorem runJ {env : En} {fs : List D} {A : Av} {H1 H : Hp} {a dx : Addr} {σ : L2.St} {D : Ends} {f : Sl → RI} {Q : VK} (r : IRel X.K g A H1 a dx c env fs σ H)
    (hp : PostJ X.K g W A H1 a dx c D (match m env with | .ok s => f s | .ex c p => .ex c p | .st => .st))
    (h1 : ∀ d v H', m env = .ok (.fr d) → Same H H' → Rep X.K g H' (zz (fun b => A b ∨ b = a) env σ) d v → PostJ X.K g W A H1 a dx c D (f (.fr d)) → Q v H')
    (h2 : ∀ xs b vs H', m env = .ok (.ow xs) → Same H H' → H b = none → H' b = some (.lst vs) → RepL X.K g H' (fun q => zz (fun b => A b ∨ b = a) env σ q ∨ q = b) xs vs → PostJ X.K g W A H1 a dx c D (f (.ow xs)) → Q (.ref b) H') : tM X.K g T W m σ H Q := by
  obtain ⟨Ha, sr, sm⟩ := r.sr
  refine ⟨env, _, sr.er, ?_⟩
  cases e : m env with
  | ok s =>
    rw [e] at hp
    cases s with
    | fr d => exact fun v H' k q => h1 d v H' e k q hp
    | ow xs => exact fun a vs H' k n p q => h2 xs a vs H' e k n p q hp
  | ex c p =>
    rw [e] at hp
    refine fun H' dd k q => hp σ H' dd (r.same.trans k) ?_
    cases p with
    | none => exact q
    | some fx =>
      obtain ⟨da, v, e1, e2, e3⟩ := q
      exact ⟨da, v, e1, e2, Rep.mono (.of (Same.refl _) fun _ _ z => .inl (.inl z)) _ _ e3⟩
  | st => rw [e] at hp; exact hp
theorem is_set {i : Nat} {y : Str} {pos' : Pos} (hi0 : i ≠ 0) (hN : X.N.Nodup) (hi : X.N[i]? = some y) (hl : Loc X.env.scope y) (he : PEd g T W X e m) (hs : swapsWith e (some (.Name y pos')) pos.line X.env = pure false := by rfl)
    (hf : X.fn y = true ∨ X.env.scope.names.lookup y = some .local := by first | exact .inl rfl | exact .inr rfl | assumption) : PSi g W X c (.Assign [.Name y pos'] e pos) (iSet i m) :=
  weakS (ps_set hN hi hl he hs hf) fun D σ H ⟨env, fs, A, H1, a, dx, r, hp⟩ =>
    runJ (f := fun s => .nx (env.set i (some s)) fs) r hp (fun d v H' _ k q hp => hp _ _ (r.setFr hi0 k q)) fun xs b vs H' _ k n p q hp => hp _ _ (r.setOw hi0 k n p q)
theorem is_expr (he : PEd g T W X e m) (hs : swapsWith e none pos.line X.env = pure false := by rfl) : PSi g W X c (.Expr e pos) (iDrop m) :=
  weakS (ps_expr he hs) fun D σ H ⟨env, fs, A, H1, a, dx, r, hp⟩ =>
    runJ (f := fun s => .nx env fs) r hp (fun d v H' _ k q hp => hp _ _ (r.later k)) fun xs b vs H' _ k n p q hp => hp _ _ (r.later k)
theorem is_if {t0 : Expr} {b : En → R Bool} (hc : PTd g T W X t0 b) (ha : PSsi g W X c body s) (hb : PSsi g W X c orelse t) : PSi g W X c (.If t0 body orelse pos) (iIf b s t) :=
  weakS (ps_if hc ha hb) fun D σ H ⟨env, fs, A, H1, a, dx, r, hp⟩ => by
    obtain ⟨Ha, sr, sm⟩ := r.sr
    refine ⟨env, _, sr.er, ?_⟩
    unfold iIf at hp
    cases e : b env with
    | ok q =>
      rw [e] at hp
      intro H' k
      cases q with
      | true => exact ⟨env, fs, A, H1, a, dx, r.later k, hp⟩
      | false => exact ⟨env, fs, A, H1, a, dx, r.later k, hp⟩
    | ex c p =>
      rw [e] at hp
      refine fun H' dd k q => hp σ H' dd (r.same.trans k) ?_
      cases p with
      | none => exact q
      | some fx =>
        obtain ⟨da, v, e1, e2, e3⟩ := q
        exact ⟨da, v, e1, e2, Rep.mono (.of (Same.refl _) fun _ _ z => .inl (.inl z)) _ _ e3⟩
    | st => rw [e] at hp; exact hp
theorem is_raise {n : Nat} {y z : Str} {j : Nat} {p p2 pos' : Pos} (hc : X.calm = true) (tk : Takes X W) (E : ECls X.K X.mg g n y) (hg : Gl X y) (hdb : (y == ("__debug__" : Str)) = false := by decide) :
    PSi g W X c (.Raise (some (.Call (.Name y p) [.Constant (.str z) j p2] [] pos)) none pos') (iRaise n) :=
  weakS (ps_raise hc tk (pmk_own PySem.F.excBase_ValueError E.ex E.mg E.kp (raises_own E.sub E.ty) hg hdb)) fun D σ H ⟨env, fs, A, H1, a, dx, r, hp⟩ => hp σ H none r.same rfl
theorem is_raise1 {n : Nat} {y : Str} {p pos' : Pos} (hc : X.calm = true) (tk : Takes X W) (E : ECls X.K X.mg g n y) (hg : Gl X y) (he : PEd g T W X e m) (hs : starEach [e] X.env = (false, eval e X.env) :: starEach [] X.env := by rfl)
    (hdb : (y == ("__debug__" : Str)) = false := by decide) : PSi g W X c (.Raise (some (.Call (.Name y p) [e] [] pos)) none pos') (iRaise1 n m) :=
  weakS (ps_raise hc tk (SkE.pmk_own1 PySem.F.excBase_ValueError E.ex E.mg E.kp (raises_own E.sub E.ty) hg he hs hdb)) fun D σ H ⟨env, fs, A, H1, a, dx, r, hp⟩ =>
    runJ (f := fun _ => .ex n none) r hp (fun d v H' _ k q hp => hp _ _ none (r.same.trans k) rfl) fun xs b vs H' _ k n p q hp => hp _ _ none (r.same.trans k) rfl
/-- the attribute f of the class c, number j -/
structure PutC (K : PySem.W.Frag) (g : G0) (f : Str) (c j : Nat) : Prop where
  cls : Cls K (g.cl c)
  na : NoAttr K (g.cl c) f
  at_ : (g.fl c)[j]? = some f
  ni : f ∉ (g.fl c).take j
  few : j < 999
theorem is_fld {j : Nat} {f y : Str} {p pos' : Pos} (F : PutC X.K g f c j) (he : PEd g T W X e m) (hN : X.N[0]? = some y := by rfl) (hv : Vis X.env.scope y := by first | exact Or.inl rfl | exact Or.inr (Or.inl rfl) | exact Or.inr (Or.inr rfl)) (hd : (y == ("__debug__" : Str)) = false := by decide)
    (hcd : (y == ("__classdict__" : Str)) = false := by decide) (hs : swapsWith e (some (.Attribute (.Name y p) f pos')) pos.line X.env = pure false := by rfl) : PSi g W X c (.Assign [.Attribute (.Name y p) f pos'] e pos) (iFld j m) :=
  weakS (ps_fld (pe_var hN hv hd hcd) he hs) fun D σ H ⟨env, fs, A, H1, a, dx, r, hp⟩ => by
    unfold iFld at hp
    refine runJ (f := fun s => if fs.length = j then .nx env (fs ++ [s.d]) else .st) r hp (fun d v H' _ k q hp => ?_) fun xs b vs H' _ k n p q hp => ?_
    · split at hp
      · rename_i hj
        obtain ⟨o, e1, e2, r2⟩ := r.put (f := f) k q (by rw [hj]; exact F.at_) (by rw [hj]; exact F.ni)
        exact ⟨.ref a, r.s0, a, _, dx, o, rfl, e1, F.cls, F.na, by rw [e2, hj]; exact Nat.lt_trans F.few (by decide), hp _ _ r2⟩
      · exact hp.elim
    · split at hp
      · rename_i hj
        obtain ⟨Ha, sr, sm⟩ := r.sr
        obtain ⟨o, e1, e2, r2⟩ := r.put (f := f) k (rep_fresh (Z := zz (fun b => A b ∨ b = a) env σ) sr.er.dom n p q) (by rw [hj]; exact F.at_) (by rw [hj]; exact F.ni)
        exact ⟨.ref a, r.s0, a, _, dx, o, rfl, e1, F.cls, F.na, by rw [e2, hj]; exact Nat.lt_trans F.few (by decide), hp _ _ r2⟩
      · exact hp.elim
/-- the form of the objects of class c after j attributes -/
structure Part (g : G0) (cp c j : Nat) : Prop where
  cl : g.cl cp = g.cl c
  fl : g.fl cp = (g.fl c).take j
/-- the object is read: its slot holds it while the expression is evaluated -/
theorem IRel.read {K : PySem.W.Frag} {cp j : Nat} {env : En} {fs : List D} {A : Av} {H1 H : Hp} {a dx : Addr} {σ : L2.St} (P : Part g cp c j) (hj : fs.length = j) (r : IRel K g A H1 a dx c env fs σ H) :
    ERel K g T (zz A env σ) (env.set 0 (some (.fr (.obj cp fs)))) σ H := by
  obtain ⟨Ha, sr, sm⟩ := r.sr
  obtain ⟨vs, e, l, rr⟩ := r.cell
  have sub : ∀ b, zz A env σ b → zz (fun b => A b ∨ b = a) env σ b := fun b z => z.elim (fun z => .inl (.inl z)) .inr
  have na : ¬ zz A env σ a := by
    rintro (z | ⟨i, xs, f1, f2⟩)
    · exact r.ad a z r.na
    · exact sr.adom a (.inr rfl) (sr.fresh i xs a f1 f2)
  refine ⟨fun b z => sr.er.dom b (sub b z), trivial, by rw [List.length_set]; exact sr.er.len, fun i s f => ?_⟩
  rcases set_get f with ⟨ij, ee, _⟩ | ⟨ne, f⟩
  · cases ee
    subst ij
    refine ⟨_, r.s0, Rep.obj_.mpr ⟨a, dx, vs, rfl, na, by rw [P.cl, P.fl, ← hj]; exact e, ?_, RepL.mono (.of (Same.refl _) fun b n z => sub b z) _ _ rr⟩⟩
    rw [P.fl, List.length_take, ← l, ← hj]
    exact Nat.min_eq_left r.lim
  · obtain ⟨u, f2, q⟩ := sr.er.at_ i s f
    refine ⟨u, f2, ?_⟩
    cases s with
    | fr d => exact Rep.mono (.of (Same.refl _) fun b _ z => sub b z) _ _ q
    | ow xs =>
      obtain ⟨b, ws, ev, z, p, r2⟩ := q
      subst ev
      exact ⟨b, ws, rfl, .inr ⟨i, xs, f, f2⟩, p, RepL.mono (.of (Same.refl _) fun b _ z => sub b z) _ _ r2⟩
/-- an expression that reads the object, of parts that neither list nor object is in -/
theorem runS {cp j : Nat} {env : En} {fs : List D} {A : Av} {H1 H : Hp} {a dx : Addr} {σ : L2.St} {D : Ends} {f : Sl → RI} {Q : VK} (P : Part g cp c j) (hj : fs.length = j) (r : IRel X.K g A H1 a dx c env fs σ H)
    (hp : PostJ X.K g W A H1 a dx c D (match selfM cp fs m env with | .ok s => f s | .ex c p => .ex c p | .st => .st))
    (h1 : ∀ d v H', Same H H' → Rep X.K g H' (zz (fun b => A b ∨ b = a) env σ) d v → PostJ X.K g W A H1 a dx c D (f (.fr d)) → Q v H')
    (h2 : ∀ xs b vs H', Same H H' → H b = none → H' b = some (.lst vs) → RepL X.K g H' (fun q => zz (fun b => A b ∨ b = a) env σ q ∨ q = b) xs vs → PostJ X.K g W A H1 a dx c D (f (.ow xs)) → Q (.ref b) H') : tM X.K g T W m σ H Q := by
  refine ⟨_, _, r.read P hj, ?_⟩
  unfold selfM at hp
  cases e : m (env.set 0 (some (.fr (.obj cp fs)))) with
  | ok s =>
    rw [e] at hp
    cases s with
    | fr d =>
      by_cases hn : noref d = true
      · simp only [hn, if_true] at hp
        exact fun v H' k q => h1 d v H' k (noref_z hn q) hp
      · simp only [hn, if_false] at hp
        exact hp.elim
    | ow xs =>
      by_cases hn : norefL xs = true
      · simp only [hn, if_true] at hp
        exact fun b vs H' k n p q => h2 xs b vs H' k n p (norefL_z hn q) hp
      · simp only [hn, if_false] at hp
        exact hp.elim
  | ex c p =>
    rw [e] at hp
    cases p with
    | none => exact fun H' dd k q => hp σ H' dd (r.same.trans k) q
    | some fx => exact hp.elim
  | st => rw [e] at hp; exact hp.elim
theorem is_fldS {cp j : Nat} {f y : Str} {p pos' : Pos} (P : Part g cp c j) (F : PutC X.K g f c j) (he : PEd g T W X e m) (hN : X.N[0]? = some y := by rfl) (hv : Vis X.env.scope y := by first | exact Or.inl rfl | exact Or.inr (Or.inl rfl) | exact Or.inr (Or.inr rfl)) (hd : (y == ("__debug__" : Str)) = false := by decide)
    (hcd : (y == ("__classdict__" : Str)) = false := by decide) (hs : swapsWith e (some (.Attribute (.Name y p) f pos')) pos.line X.env = pure false := by rfl) : PSi g W X c (.Assign [.Attribute (.Name y p) f pos'] e pos) (iFldS cp j m) :=
  weakS (ps_fld (pe_var hN hv hd hcd) he hs) fun D σ H ⟨env, fs, A, H1, a, dx, r, hp⟩ => by
    unfold iFldS at hp
    split at hp
    case isFalse => exact hp.elim
    rename_i hj
    unfold iFld at hp
    refine runS (f := fun s => if fs.length = j then .nx env (fs ++ [s.d]) else .st) P hj r hp (fun d v H' k q hp => ?_) fun xs b vs H' k n p q hp => ?_
    · rw [if_pos hj] at hp
      obtain ⟨o, e1, e2, r2⟩ := r.put (f := f) k q (by rw [hj]; exact F.at_) (by rw [hj]; exact F.ni)
      exact ⟨.ref a, r.s0, a, _, dx, o, rfl, e1, F.cls, F.na, by rw [e2, hj]; exact Nat.lt_trans F.few (by decide), hp _ _ r2⟩
    · rw [if_pos hj] at hp
      obtain ⟨Ha, sr, sm⟩ := r.sr
      obtain ⟨o, e1, e2, r2⟩ := r.put (f := f) k (rep_fresh (Z := zz (fun b => A b ∨ b = a) env σ) sr.er.dom n p q) (by rw [hj]; exact F.at_) (by rw [hj]; exact F.ni)
      exact ⟨.ref a, r.s0, a, _, dx, o, rfl, e1, F.cls, F.na, by rw [e2, hj]; exact Nat.lt_trans F.few (by decide), hp _ _ r2⟩
theorem is_setS {cp j i : Nat} {y : Str} {pos' : Pos} (P : Part g cp c j) (hi0 : i ≠ 0) (hN : X.N.Nodup) (hi : X.N[i]? = some y) (hl : Loc X.env.scope y) (he : PEd g T W X e m) (hs : swapsWith e (some (.Name y pos')) pos.line X.env = pure false := by rfl)
    (hf : X.fn y = true ∨ X.env.scope.names.lookup y = some .local := by first | exact .inl rfl | exact .inr rfl | assumption) : PSi g W X c (.Assign [.Name y pos'] e pos) (iSetS cp j i m) :=
  weakS (ps_set hN hi hl he hs hf) fun D σ H ⟨env, fs, A, H1, a, dx, r, hp⟩ => by
    unfold iSetS at hp
    split at hp
    case isFalse => exact hp.elim
    rename_i hj
    unfold iSet at hp
    exact runS (f := fun s => .nx (env.set i (some s)) fs) P hj r hp (fun d v H' k q hp => hp _ _ (r.setFr hi0 k q)) fun xs b vs H' k n p q hp => hp _ _ (r.setOw hi0 k n p q)
end
/-- slots at the start: the object itself is not among them -/
def envI (n slots : Nat) (ds : List D) : En := none :: (ds.map (fun d => some (.fr d)) ++ List.replicate (slots - n) none)
def runNew (n slots nf : Nat) (m : MI) : List D → R (List D) := fun ds => if ds.length + 1 = n then match m (envI n slots ds) [] with
  | .nx _ fs => if fs.length = nf then .ok fs else .st
  | .ex c p => .ex c p
  | .st => .st
  else .st
section
variable {P : Program} {w : World} {K : PySem.W.Frag} {mg : Str → Option Value} {base : Heap} {g : G0}
theorem okI {y qual : Str} {st : Stmt} {a : Addr} {fd : FuncData} {N ps : List Str} {k c nf : Nat} (F : Fun K "__init__" qual st a fd) (S : FnScope N ps (defScope st)) (hnf : (g.fl c).length = nf) (hm : mg y = some (.ref (g.cl c))) (M : Mk K (g.cl c) a) (hb : Binds K fd ps []) (m : MI)
    (body : ∀ (cdv : Value) (A : Around) (outer : List Env) (s : Shared) (H : Hp) (E : XK), Room k (A.deeper (envOfC qual (defScope st) s.heap.objs.size a cdv)) →
      PSsi g (fun c d _ H => E c d H) (cxOf (L2.CX P w) P w K mg base N qual (defScope st) a cdv A outer s H E) c (defBody st) m) : CD P w K mg base g (k + 1) y c (runNew ps.length N.length nf m) := by
  have hl : ps.length ≤ N.length := by have := congrArg List.length S.pre; rw [List.length_take] at this; omega
  have len : ∀ vs H Q E, PromI K g c (runNew ps.length N.length nf m) vs H Q E → vs.length = ps.length := fun vs H Q E ⟨b, dx, rest, H1, Z, ds, e1, _, _, _, _, _, r, hp⟩ => by
    unfold runNew at hp
    split at hp
    · rename_i hq
      have : ds.length + 1 = ps.length := by
        by_cases q : ds.length + 1 = ps.length
        · exact q
        · rw [if_neg q] at hq; cases hq
      rw [e1, List.length_cons, ← r.length, this]
    · rename_i hq
      have : ds.length + 1 = ps.length := by
        by_cases q : ds.length + 1 = ps.length
        · exact q
        · rw [if_neg q] at hq; cases hq
      rw [e1, List.length_cons, ← r.length, this]
    · exact hp.elim
  refine ⟨a, fd, ps, hm, M, hb, F.okX S len fun cdv A outer s H vs Q E hr hsp => ?_⟩
  have lv := len _ _ _ _ hsp
  obtain ⟨b, dx, rest, H1, Z, ds, ev, nb, ndx, nxb, eH, dom, r, hp⟩ := hsp
  refine ⟨_, body cdv A outer s H E hr, ?_⟩
  subst ev
  have ld : ds.length + 1 = ps.length := by rw [r.length]; exact lv
  unfold runNew at hp
  rw [if_pos ld] at hp
  have k0 : Same H1 H := fun q u e => by rw [eH, upd_ne (ne_of_none e nb), upd_ne (ne_of_none e ndx)]; exact e
  have noow : ∀ (i : Nat) (xs : List D), (envI ps.length N.length ds)[i]? = some (some (Sl.ow xs)) → False := fun i xs e1 => by
    unfold envI at e1
    cases i with
    | zero => cases e1
    | succ i =>
      rw [List.getElem?_cons_succ] at e1
      have e1 := env0_get (n := ps.length) (k := N.length) (ds := ds) (i := i) (by unfold env0; exact e1)
      rw [List.getElem?_map] at e1
      cases ed : ds[i]? with
      | none => rw [ed] at e1; cases e1
      | some d => rw [ed] at e1; cases e1
  have zZ : ∀ q, zz (fun q => Z q ∨ q = b) (envI ps.length N.length ds) (L2.start N (.ref b :: rest)) q → Z q ∨ q = b := by
    rintro q (z | ⟨i, xs, e1, e2⟩)
    · exact z
    · exact (noow i xs e1).elim
  have dom2 : ∀ q, Z q ∨ q = b → H q ≠ none := fun q z => by
    rcases z with z | z
    · exact dom_mono k0 dom q z
    · rw [z, eH, upd_same]; simp
  have hlen : (envI ps.length N.length ds).length = (L2.start N (.ref b :: rest)).length := by
    unfold envI L2.start
    have lr : rest.length + 1 = ps.length := lv
    simp only [List.length_cons, List.length_append, List.length_map, List.length_replicate]
    have l1 := r.length
    omega
  have sr : SRel K g T (fun q => Z q ∨ q = b) H (envI ps.length N.length ds) (L2.start N (.ref b :: rest)) H := by
    refine ⟨⟨fun q z => dom2 q (zZ q z), trivial, hlen, fun i s e1 => ?_⟩, Same.refl _, dom2, fun i xs a e1 _ => (noow i xs e1).elim, fun i j xs ys a e1 _ _ _ => (noow i xs e1).elim, hlen⟩
    unfold envI at e1
    cases i with
    | zero => cases e1
    | succ i =>
      rw [List.getElem?_cons_succ] at e1
      obtain ⟨v, e2, q⟩ := repl_map r (env0_get (n := ps.length) (k := N.length) (by unfold env0; exact e1))
      refine ⟨v, ?_, ?_⟩
      · unfold L2.start
        rw [List.map_cons, List.cons_append, List.getElem?_cons_succ, List.getElem?_append_left]
        · exact e2
        · exact (List.getElem?_eq_some_iff.mp e2).1
      · cases s with
        | fr d => exact Rep.mono (.of k0 fun u hu z => (zZ u z).elim id fun e => absurd nb (by rw [← e]; exact hu)) _ _ q
        | ow xs => exact (noow (i + 1) xs (by unfold envI; rw [List.getElem?_cons_succ]; exact e1)).elim
  refine ⟨envI ps.length N.length ds, [], Z, H1, b, dx, ⟨⟨H, sr, k0⟩, dom, nb, rfl, rfl, Nat.zero_le _, [], by rw [eH, upd_same]; rfl, rfl, RepL.nil_.mpr rfl⟩, ?_⟩
  cases e : m (envI ps.length N.length ds) [] with
  | nx e' fs =>
    rw [e] at hp
    intro σ' H' q
    have hp : (match (if fs.length = nf then R.ok fs else R.st : R (List D)) with
      | .ok fs => ∀ ws H', Same H1 H' → H' b = some (.ins (g.cl c) dx ((g.fl c).zip ws)) → (g.fl c).length = ws.length → RepL K g H' (fun q => Z q ∨ q = b) fs ws → Q .non H'
      | .ex e p => ∀ H' dd, Same H1 H' → ExP K g H' Z p dd → E (.ref (g.cl e)) dd H'
      | .st => False) := hp
    by_cases hq : fs.length = nf
    · rw [if_pos hq] at hp
      obtain ⟨ws, e1, l, rr⟩ := q.cell
      exact hp ws H' q.same (by rw [e1, hq, ← hnf, List.take_length]) (by rw [hnf, ← hq, l]) (RepL.mono (.of (Same.refl _) fun _ _ z => .inl z) _ _ rr)
    · rw [if_neg hq] at hp; exact hp.elim
  | ex c p => rw [e] at hp; exact fun σ' H' dd k q => hp H' dd k q
  | st => rw [e] at hp; exact hp.elim
end
end DL
set_option Elab.async false
set_option linter.all false
set_option maxRecDepth 100000
namespace DL
open PySem PySem.Spec L2
open PyProof.Rows hiding St

/-! ### an instance is called -/
section
variable {X : Cx} {CX : CXT} {E : St → XK} {pos : Pos} {e fe : Expr} {es : List Expr} {tf : TE} {t : TA}
def tCallV (X : Cx) (CX : CXT) (E : St → XK) (tf : TE) (t : TA) : TE := fun σ H Q => tf σ H fun x H1 => ∃ a C f fd ps sp k, x = .ref a ∧ StX.CallO X.K C f ∧ FnOk X.prog X.w X.K X.mg X.base CX k f fd ps sp ∧ Room k X.A ∧ Binds X.K fd ps [] ∧
  t σ H1 fun vs H2 => (∃ dx fs, H2 a = some (.ins C dx fs)) ∧ sp (x :: vs) H2 Q (E σ)
theorem pe_callV (hf : PE X fe tf) (hx : ∀ σ, PassesAt CX X σ (E σ)) (ha : PA X (e :: es) t)
    (ht : eval (.Call fe (e :: es) [] pos) X.env = (do callWith pos (← eval fe X.env) [] (backTo pos (starEach (e :: es) X.env)) (backToKw pos (keywordEach [] X.env))) := by rfl)
    (he : starEach (e :: es) X.env = (false, eval e X.env) :: starEach es X.env := by rfl) (hpl : (backTo pos (starEach es X.env)).any (·.1) = false := by rfl) : PE X (.Call fe (e :: es) [] pos) (tCallV X CX E tf t) := by
  refine ⟨fun pins s σ H Q I h => ?_⟩
  refine Call_ (thn (hf.run pins s σ H _ I h) fun u s1 ⟨y, H1, I1, ry, a, C, f, fd, ps, sp, k, ey, c, F, hr, hb, q⟩ => ?_) ht
  subst ey
  obtain rfl : u = Value.ref a := ry
  refine StX.callO_with (thn (ha.run pos pins s1 σ H1 _ I1 q) fun us s2 ⟨vs, H2, I2, r, ⟨dx, fs, hi⟩, q2⟩ => ?_) he hpl
  obtain ⟨ox, od, J, hd⟩ := StX.insC_at (C := C) I2 (.inr ⟨dx, fs, hi⟩)
  refine ⟨⟨C, ox, od, J, hd⟩, ?_⟩
  have r2 : Vals (V.ref a :: vs) (Value.ref a :: us) := .cons rfl r
  have hl : (Value.ref a :: us).length = ps.length := by rw [← r2.length]; exact F.len _ _ _ _ q2
  have b := hb s2 (Value.ref a :: us) I2.kIn (by rw [List.append_nil]; exact hl)
  rw [List.append_nil] at b
  refine wpAny_call (PySem.W.kco_code I2.kIn J hd c.at_ c.fn c.fi (codeAny_mono (F.run X.A X.stack s2 H2 ⟨Value.ref a :: us, []⟩ (Value.ref a :: us) (V.ref a :: vs) Q (E σ) hr I2.env0 b r2 q2) fun r s' hq => ?_))
  cases r with
  | error e => exact hx σ pins H2 s2 e s' I2 hq
  | ok fl =>
    cases fl with
    | ret u => exact I2.after hq
    | next => exact False.elim hq
    | brk => exact False.elim hq
    | cont => exact False.elim hq
end
/-- the objects of class c are called as f -/
structure KD (P : Program) (w : World) (K : PySem.W.Frag) (mg : Str → Option Value) (base : Heap) (g : G0) (k : Nat) (c : Nat) (f : Fn) : Prop where
  ex : ∃ a fd ps, StX.CallO K (g.cl c) a ∧ Binds K fd ps [] ∧ FnOk P w K mg base (L2.CX P w) k a fd ps (Prom K g f)
theorem KD.mono {P : Program} {w : World} {K : PySem.W.Frag} {mg : Str → Option Value} {base : Heap} {g : G0} {j k : Nat} {c : Nat} {f : Fn} (F : KD P w K mg base g j c f) (h : j ≤ k) : KD P w K mg base g k c f := by
  obtain ⟨a, fd, ps, h1, h4, h5⟩ := F.ex
  exact ⟨a, fd, ps, h1, h4, h5.mono h⟩
section
variable {g : G0} {x : L2.St → Prop} {W : WX} {X : Cx} {fe e : Expr} {es : List Expr} {pos : Pos} {mo : M} {mr : En → R (List D)} {k : Nat} {tab : Nat → Option Fn}
theorem de_callO (hM : ∀ c f, tab c = some f → KD X.prog X.w X.K X.mg X.base g k c f) (hr : Room k X.A) (tk : Takes X W) (ho : PEd g x W X fe mo) (ha : PAd g x W X (e :: es) mr)
    (ht : eval (.Call fe (e :: es) [] pos) X.env = (do callWith pos (← eval fe X.env) [] (backTo pos (starEach (e :: es) X.env)) (backToKw pos (keywordEach [] X.env))) := by rfl)
    (he : starEach (e :: es) X.env = (false, eval e X.env) :: starEach es X.env := by rfl) (hpl : (backTo pos (starEach es X.env)).any (·.1) = false := by rfl) :
    PEd g x W X (.Call fe (e :: es) [] pos) (mMeth tab mo mr) :=
  weakE (pe_callV (E := WE W) ho (fun σ => passAt tk σ) ha ht he hpl) fun σ H Q ⟨env, Z, er, hp⟩ => by
    refine use1 (m := mo) (f := fun o => match o.d with
      | .obj c fs => match tab c with
        | some f => (mr env).bind fun xs => f (.obj c fs :: xs)
        | none => .st
      | _ => .st) er hp fun s v H1 e1 k1 r1 hp1 => ?_
    cases ed : s.d with
    | obj c fs =>
      simp only [ed] at hp1
      rw [ed] at r1
      cases et : tab c with
      | none => simp only [et] at hp1; exact hp1.elim
      | some f =>
        simp only [et] at hp1
        obtain ⟨p, dx, vs, ev, nz, hH, hl, rr⟩ := Rep.obj_.mp r1
        obtain ⟨a, fd, ps, h1, h4, h5⟩ := (hM c f et).ex
        refine ⟨p, _, a, fd, ps, _, k, ev, h1, h5, hr, h4, ?_⟩
        exact useA (er.mono k1) hp1 fun ds ws H2 e2 k2 r2 hp2 => ⟨⟨_, _, k2 _ _ hH⟩, Z, .obj c fs :: ds, dom_mono (k1.trans k2) er.dom, RepL.cons_.mpr ⟨v, ws, rfl, Rep.mono (.same_ k2) _ _ r1, r2⟩, postW hp2⟩
    | _ => simp only [ed] at hp1; exact hp1.elim
end

/-! ### isinstance of an own class -/
def fIsC (tab : Nat → Option Bool) : D → R Sl
  | .obj c _ => match tab c with
    | some b => .ok (.fr (.bl b))
    | none => .st
  | _ => .ok (.fr (.bl false))
/-- what isinstance asks of the class at D: its objects are of the classes that tab names so -/
structure IsC (K : PySem.W.Frag) (g : G0) (D : Addr) (tab : Nat → Option Bool) : Prop where
  t0 : PySem.W.kitOne K (.type "NoneType") (.ref D) = some false
  t1 : PySem.W.kitOne K (.type "bool") (.ref D) = some false
  t2 : PySem.W.kitOne K (.type "int") (.ref D) = some false
  t3 : PySem.W.kitOne K (.type "str") (.ref D) = some false
  t4 : PySem.W.kitOne K (.type "tuple") (.ref D) = some false
  t5 : PySem.W.kitOne K (.type "list") (.ref D) = some false
  own : ∀ c b, tab c = some b → Cls K (g.cl c) ∧ PySem.W.kitOne K (.ref (g.cl c)) (.ref D) = some b ∧ PySem.W.findIn K (.ref (g.cl c)) "__class__" = some (some (.builtin "object.__class__")) ∧ PySem.W.mroIn K (g.cl c) (.type "object") = some true
  og : PySem.W.specialIn K (.builtin "object.__class__") "__get__" = some (some (.builtin "getset_descriptor.__get__"))
  ot : PySem.W.takesIn K (.builtin "object.__class__") = some true
theorem uf_isC {K : PySem.W.Frag} {g0 : G0} {C : Addr} {tab : Nat → Option Bool} (I : IsC K g0 C tab) : ∀ (W : WX) (H : Hp) (Z : Av) (σ : L2.St) (x : D) (v : V) (Q : VK),
    (∀ a, Z a → H a ≠ none) → RepB K g0 H Z x v → PostE K g0 W Z σ H Q (fIsC tab x) → rIsi K [v, .ref C] H Q := by
  intro W H Z σ x v Q dom rx hp
  have fin : ∀ {n : String}, PySem.W.kitOne K (.type n) (.ref C) = some false → TyX K H v (.type n) → Q (.bl false) H → rIsi K [v, .ref C] H Q := fun {n} hk ty q => ⟨v, .ref C, .type n, .ref C, false, rfl, .own _, ty, hk, q⟩
  cases x with
  | non => rw [rx.non_] at fin ⊢; exact fin I.t0 (.base .non) (hp _ H (Same.refl _) (Rep.bl_.mpr rfl))
  | bl b => rw [rx.bl_] at fin ⊢; exact fin I.t1 (.base (.bl b)) (hp _ H (Same.refl _) (Rep.bl_.mpr rfl))
  | int b => rw [rx.int_] at fin ⊢; exact fin I.t2 (.base (.int b)) (hp _ H (Same.refl _) (Rep.bl_.mpr rfl))
  | str b => rw [rx.str_] at fin ⊢; exact fin I.t3 (.base (.str b)) (hp _ H (Same.refl _) (Rep.bl_.mpr rfl))
  | tup xs =>
    obtain ⟨a, ws, rfl, tu, rr⟩ := rx.tup_
    exact fin I.t4 (tyX_tu tu) (hp _ H (Same.refl _) (Rep.bl_.mpr rfl))
  | lst xs =>
    obtain ⟨a, ws, rfl, rd, rr⟩ := rx.lst_
    exact fin I.t5 (tyX_rd rd) (hp _ H (Same.refl _) (Rep.bl_.mpr rfl))
  | obj c fs =>
    unfold fIsC at hp
    cases et : tab c with
    | none => simp only [et] at hp; exact hp.elim
    | some b =>
      simp only [et] at hp
      obtain ⟨p, dx, vs, ev, nz, hH, hl, rr⟩ := Rep.obj_.mp rx.obj_
      obtain ⟨h1, h2, h3, h4⟩ := I.own c b et
      subst ev
      exact ⟨.ref p, .ref C, .ref (g0.cl c), .ref C, b, rfl, .own _, .base (.ins hH h1 h3 I.og I.ot h4), h2, hp _ H (Same.refl _) (Rep.bl_.mpr rfl)⟩
section
variable {g : G0} {x : L2.St → Prop} {W : WX} {X : Cx} {a b e : Expr} {es : List Expr} {pos p p2 pos2 : Pos} {ma mb : B}
theorem de_isC {C : Addr} {y : Str} {tab : Nat → Option Bool} (I : IsC X.K g C tab) (hg : Gl X "isinstance") (hm : X.mg "isinstance" = none) (hg2 : Gl X y) (hm2 : X.mg y = some (.ref C)) (ha : PBd g x W X a ma)
    (hdy : (y == ("__debug__" : Str)) = false := by decide)
    (he : starEach [a, .Name y p2] X.env = (false, eval a X.env) :: starEach [.Name y p2] X.env := by rfl) (he2 : starEach [.Name y p2] X.env = (false, eval (.Name y p2) X.env) :: starEach [] X.env := by rfl) :
    PEd g x W X (.Call (.Name "isinstance" p) [a, .Name y p2] [] pos) (mUn (fIsC tab) ma) := by
  have q : PA X [a, .Name y p2] (tCons (tB X.K g x W ma) (tCons (tC (.ref C)) tNil)) := pa_cons ha (pa_cons (pe_glob (v := .ref C) hg2 hm2 rfl hdy) pa_nil he2) he
  refine weakE (pe_callB call_isi hg hm (by decide +kernel) q (by decide) (by decide) he (by rw [he2]; rfl)) fun σ H Q ⟨env, Z, er, hp⟩ => ?_
  exact useB er hp fun d v H1 e1 k1 r1 hp1 => uf_isC I W H1 Z σ _ _ _ (dom_mono k1 er.dom) r1 hp1
end

/-! ### xs * k of an own list; t * k -/
theorem replL {K : PySem.W.Frag} {g : G0} {H : Hp} {Z : Av} {ds : List D} {vs : List V} (r : RepL K g H Z ds vs) : ∀ n : Nat, RepL K g H Z (List.replicate n ds).flatten (List.replicate n vs).flatten
  | 0 => by simpa using RepL.nil_.mpr rfl
  | n + 1 => by
    rw [List.replicate_succ, List.replicate_succ, List.flatten_cons, List.flatten_cons]
    exact r.append (replL r n)
def RepOk (n : Nat) (k : Int) : Bool := decide (-(2 ^ 63) ≤ k) && decide (k < 2 ^ 63) && decide (n * k.toNat ≤ lim)
def mRepV (i : Nat) (mb : B) : M := fun env => match env[i]? with
  | some (some (.ow xs)) => (mb env).bind fun y => match y with
    | .int k => if RepOk xs.length k = true then .ok (.ow (List.replicate k.toNat xs).flatten) else .st
    | _ => .st
  | _ => .st
section
variable {g : G0} {x : L2.St → Prop} {W : WX} {X : Cx} {a b e : Expr} {es : List Expr} {pos p p2 pos2 : Pos} {ma mb : B}
theorem de_repV (i : Nat) {y : Str} (hb : PBd g x W X b mb) (hN : X.N[i]? = some y := by rfl) (hv : Vis X.env.scope y := by first | exact Or.inl rfl | exact Or.inr (Or.inl rfl) | exact Or.inr (Or.inr rfl)) (hd : (y == ("__debug__" : Str)) = false := by decide)
    (hcd : (y == ("__classdict__" : Str)) = false := by decide) : PEd g x W X (.BinOp (.Name y p) .Mult b pos) (mRepV i mb) :=
  weakE (pe_op op_rep (pe_var hN hv hd hcd) hb) fun σ H Q ⟨env, Z, er, hp⟩ => by
    unfold mRepV at hp
    split at hp
    · rename_i xs e1
      obtain ⟨v, e2, a, vs, ev, z, p, rr⟩ := er.at_ i _ e1
      subst ev
      refine ⟨.ref a, e2, ?_⟩
      refine useB er hp fun d u H1 e3 k1 r1 hp1 => ?_
      cases d with
      | int k =>
        simp only at hp1
        split at hp1
        · rename_i hk
          unfold RepOk at hk
          rw [Bool.and_eq_true, Bool.and_eq_true, decide_eq_true_eq, decide_eq_true_eq, decide_eq_true_eq] at hk
          have rr2 := RepL.mono (.same_ k1) _ _ rr
          exact ⟨a, k, vs, rfl, r1.int_, k1 _ _ p, hk.1.1, hk.1.2, by rw [← rr.length]; exact limLine hk.2, fun q n => post_ow hp1 n (replL rr2 k.toNat)⟩
        · exact hp1.elim
      | _ => exact hp1.elim
    · exact hp.elim
end
section
variable {X : Cx}
def rRepN (K : PySem.W.Frag) : R2 := fun x y H Q => ∃ l k xs, x = .ref l ∧ y = .int k ∧ SqT K H l xs ∧ xs ≠ [] ∧ 2 ≤ k ∧ k ≤ 1000 ∧ xs.length ≤ 1000 ∧ NewT H (List.replicate k.toNat xs).flatten Q
theorem op_repN : OpR X (binaryOp .Mult) (rRepN X.K) := by
  intro pins s σ H x y v u Q I rx ry h
  obtain ⟨l, k, xs, rfl, rfl, hT, hne, h1, h2, hz, q⟩ := h
  cases rx
  obtain ⟨t, rfl⟩ := ry
  obtain ⟨its, r, ⟨⟨cls, dd, data, sl⟩, ho, hc, n, hd⟩, hs⟩ := I.tuple hT
  simp only at hc hd
  subst hc hd
  have hle : its.length = xs.length := r.length.symm
  have hn : its ≠ [] := fun e => hne (by
    rw [e] at hle
    exact List.eq_nil_of_length_eq_zero hle.symm)
  have hi : its.toArray.isEmpty = false := by
    cases its with
    | nil => exact absurd rfl hn
    | cons a b => rfl
  have hsz0 : its.toArray.size = xs.length := by rw [List.size_toArray, hle]
  have hm : ((its.toArray.size : Nat) : Int) * k ≤ 1000000 := by
    rw [hsz0]
    have a1 : ((xs.length : Nat) : Int) * k ≤ 1000 * k := Int.mul_le_mul_of_nonneg_right (by omega) (by omega)
    omega
  have vlen : (List.replicate k.toNat xs).flatten.length ≤ sizeLine := by
    rw [PyProof.Rows.lm_len_rep_flat, sizeLine_eq]
    have a1 : k.toNat * xs.length ≤ 1000 * 1000 := Nat.mul_le_mul (by omega) hz
    omega
  have flen : (List.replicate k.toNat its).flatten.length ≤ sizeLine := by
    rw [PyProof.Rows.lm_len_rep_flat, hle, sizeLine_eq]
    have a1 : k.toNat * xs.length ≤ 1000 * 1000 := Nat.mul_le_mul (by omega) hz
    omega
  have c0 : (decide (k < -(2 ^ 63)) || decide (k ≥ 2 ^ 63)) = false := by
    rw [decide_eq_false (by omega), decide_eq_false (by omega)] <;> rfl
  have c1 : (its.toArray.isEmpty || k == 1) = false := by
    rw [hi, Bool.false_or]
    exact beq_eq_false_iff_ne.mpr (by omega)
  have c2 : (decide (k ≤ 0) || its.toArray.isEmpty) = false := by
    rw [hi, Bool.or_false]
    exact decide_eq_false (by omega)
  have c4 : Builtin.Tuple.tupleTooMany (((its.toArray.size : Nat) : Int) * k) = false := by
    unfold Builtin.Tuple.tupleTooMany
    rw [sizeLine_eq]
    exact decide_eq_false (by omega)
  refine wpAny_binaryOp_repeat_ref (T := "tuple") (U := "int") (by decide) ⟨_, ho, rfl⟩ (fun s' => typeIs_int s' k t) noFill_tuple_mul F.fills_int_mul F.slot_int_rmul repeat_tuple F.slot_int_index.lookup
    (call_meets F.slot_int_rmul (typeIs_int s k t) F.entry_int_rmul (F.args_int_rmul_2 _ _) (int_rmul_tuple k t l its.toArray n dd sl)
      ⟨ho, rfl, ⟨_, ho, rfl⟩, call_meets F.slot_tuple_mul ⟨_, ho, rfl⟩ F.entry_tuple_mul (F.args_tuple_mul_2 _ _) (tuple_mulW l its.toArray n dd sl k t c0 c1 c2 (by omega) c4 (by rw [size_rep, List.size_toArray]; exact flen)) ⟨ho, ?_⟩⟩)
  rw [size_rep]
  exact newT (t' := s.toks) I (fun b ob q => Heap.get?_push_of_some _ q) (Nat.le_refl _) (Heap.get?_push_size _ rfl) (r.rep k.toNat) vlen q
end
def fMulT : D → D → R Sl
  | .tup xs, .int k => if xs ≠ [] ∧ 2 ≤ k ∧ k ≤ 1000 ∧ xs.length ≤ 1000 then .ok (.fr (.tup (List.replicate k.toNat xs).flatten)) else .st
  | x, y => fMul x y
theorem of_mulT {K : PySem.W.Frag} : OpF K (fun x y H Q => (rI CMul (fun i j => .int (i * j)) x y H Q ∨ rI CMulW (fun i j => .int (i * j)) x y H Q) ∨ rRepN K x y H Q) fMulT := by
  intro g W H Z σ x y v u Q dom rx ry hp
  by_cases c : ∃ a b, x = .tup a ∧ y = .int b
  · obtain ⟨a, b, e1, e2⟩ := c
    subst e1 e2
    have hp : PostE K g W Z σ H Q (if a ≠ [] ∧ 2 ≤ b ∧ b ≤ 1000 ∧ a.length ≤ 1000 then .ok (.fr (.tup (List.replicate b.toNat a).flatten)) else .st) := hp
    by_cases hl : a ≠ [] ∧ 2 ≤ b ∧ b ≤ 1000 ∧ a.length ≤ 1000
    · rw [if_pos hl] at hp
      obtain ⟨l, vs, e1, q1, r1⟩ := rx.tup_
      refine .inr ⟨l, b, vs, e1, ry.int_, q1.sqT, fun e => hl.1 ?_, hl.2.1, hl.2.2.1, by rw [← r1.length]; exact hl.2.2.2, post_tup hp (replL r1 _)⟩
      subst e
      exact List.eq_nil_of_length_eq_zero r1.length
    · rw [if_neg hl] at hp; exact hp.elim
  · refine .inl (of_mul g W H Z σ x y v u Q dom rx ry ?_)
    have e : fMulT x y = fMul x y := by
      cases x <;> cases y <;> first | rfl | exact absurd ⟨_, _, rfl, rfl⟩ c
    rw [← e]
    exact hp
section
variable {g : G0} {x : L2.St → Prop} {W : WX} {X : Cx} {a b e : Expr} {es : List Expr} {pos p p2 pos2 : Pos} {ma mb : B} {m : M}
theorem de_mulT (ha : PBd g x W X a ma) (hb : PBd g x W X b mb) : PEd g x W X (.BinOp a .Mult b pos) (mBin fMulT ma mb) := de_op ((op_mul.or op_mulW).or op_repN) of_mulT ha hb
end

/-! ### xs.extend(new list) -/
def sExt (i : Nat) (m : M) : MS := fun env => match env[i]? with
  | some (some (.ow xs)) => match m env with
    | .ok (.ow ys) => if xs.length + ys.length ≤ lim then .nx (env.set i (some (.ow (xs ++ ys)))) else .st
    | .ok _ => .st
    | .ex c p => .ex c p env
    | .st => .st
  | _ => .st
section
variable {g : G0} {x : L2.St → Prop} {W : WX} {X : Cx} {e : Expr} {pos : Pos} {m : M}
theorem ds_ext (i : Nat) {y : Str} {p apos cpos : Pos} (hN : X.N[i]? = some y := by rfl) (hv : Vis X.env.scope y := by first | exact Or.inl rfl | exact Or.inr (Or.inl rfl) | exact Or.inr (Or.inr rfl)) (hd : (y == ("__debug__" : Str)) = false := by decide)
    (hcd : (y == ("__classdict__" : Str)) = false := by decide) (he : PEd g x W X e m) (hx : ∀ σ, x σ)
    (hbase : attributeBase (.Name y p) "extend" X.env (eval (.Name y p) X.env) = eval (.Name y p) X.env := by rfl)
    (hline : (apos.endLine == cpos.line) = true := by rfl)
    (hse : starEach [e] X.env = [(false, eval e X.env)] := by rfl)
    (hs : swapsWith (.Call (.Attribute (.Name y p) "extend" apos) [e] [] cpos) none pos.line X.env = pure false := by rfl) : PSd g x W X (.Expr (.Call (.Attribute (.Name y p) "extend" apos) [e] [] cpos) pos) (sExt i m) :=
  weakS (ps_expr (pe_bm PySem.F.plainAttrs_list PySem.F.slot_list_extend PySem.F.type_list_extend mt_extend (pe_var hN hv hd hcd) (pa_cons he pa_nil hse) hbase (by rw [hse]; rfl) hline hse (by rfl)) hs) fun D σ H ⟨env, A, H0, r, hp⟩ => by
    unfold sExt at hp
    split at hp
    · rename_i xs e1
      obtain ⟨v, e2, a, vs, ev, z, p, rr⟩ := r.er.at_ i _ e1
      subst ev
      refine ⟨.ref a, e2, .inl ⟨rfl, vs, SqL.of p⟩, ?_⟩
      refine ⟨env, zz A env σ, r.er, ?_⟩
      cases em : m env with
      | ok s =>
        rw [em] at hp
        cases s with
        | fr d => exact hp.elim
        | ow ys =>
          intro b us H' k n pb q
          have hp : PostS X.K g x W A H0 D (if xs.length + ys.length ≤ lim then RS.nx (env.set i (some (.ow (xs ++ ys)))) else RS.st) := hp
          split at hp
          · rename_i hl
            refine ⟨a, b, vs, us, rfl, rfl, k _ _ p, pb, by rw [← rr.length, ← q.length]; exact limLine hl, hp _ _ ((r.later k).mut e1 e2 ((RepL.mono (.same_ k) _ _ rr).append (RepL.mono (.of (Same.refl _) fun _ _ z => .inl z) _ _ q)))⟩
          · exact hp.elim
      | ex c p =>
        rw [em] at hp
        refine fun H' dd k q => hp σ H' dd (r.later k) ?_
        cases p with
        | none => exact q
        | some fx =>
          obtain ⟨da, v, e1, e2, e3⟩ := q
          exact ⟨da, v, e1, e2, Rep.mono (.of (Same.refl _) fun _ _ z => .inl z) _ _ e3⟩
      | st => rw [em] at hp; exact hp
    · exact hp.elim
end
end DL
set_option Elab.async false
set_option linter.all false
set_option maxRecDepth 100000
namespace DL
open PySem PySem.Spec L2
open PyProof.Rows hiding St

/-! ### x op y by an own method, both of one class -/
section
variable {X : Cx} {CX : CXT} {E : L2.St → XK} {pos : Pos} {a b : Expr} {ta tb : TE}
theorem inst_of {pins : List (Addr × Obj)} {σ : L2.St} {H : Hp} {s : Shared} {p C dx : Addr} {fs : List (Str × V)} (I : Inv X pins σ H s) (h : H p = some (.ins C dx fs)) : ∃ ox od, PySem.W.InstAt s.heap p ox C od := by
  obtain ⟨mA, O, _⟩ := ins_get I.hok h
  obtain ⟨od, J, _⟩ := O.look
  exact ⟨_, _, J⟩
def tOpV (X : Cx) (CX : CXT) (nm : Str) (E : L2.St → XK) (ta tb : TE) : TE := fun σ H Q => ta σ H fun x H1 => tb σ H1 fun y H2 => ∃ p q C dx fs dy gs f fd ps sp k, x = .ref p ∧ y = .ref q ∧ H2 p = some (.ins C dx fs) ∧ H2 q = some (.ins C dy gs) ∧
  PySem.W.selfFirst X.K C = true ∧ PySem.W.findIn X.K (.ref C) nm = some (some (.ref f)) ∧ PySem.W.isFn X.K (.ref f) = true ∧ FnOk X.prog X.w X.K X.mg X.base CX k f fd ps sp ∧ Room k X.A ∧ Binds X.K fd ps [] ∧ sp [x, y] H2 Q (E σ)
theorem pe_opV {op : Operator} {nm : Str} (hn : PySem.dunder op.info.2 = nm) (hx : ∀ σ, PassesAt CX X σ (E σ)) (ha : PE X a ta) (hb : PE X b tb) : PE X (.BinOp a op b pos) (tOpV X CX nm E ta tb) := by
  refine ⟨fun pins s σ H Q I h => ?_⟩
  refine wpAny_BinOp (binT ha hb I h fun v u s2 x y H2 I2 rx ry q => ?_)
  obtain ⟨p, q', C, dx, fs, dy, gs, f, fd, ps, sp, k, ex, ey, h1, h2, hc, hs, hf, F, hr, hbd, q⟩ := q
  subst ex ey
  cases (show v = Value.ref p from rx)
  cases (show u = Value.ref q' from ry)
  obtain ⟨ox, od, J⟩ := inst_of I2 h1
  obtain ⟨oy, od', J'⟩ := inst_of I2 h2
  obtain ⟨m, hF⟩ := I2.fr
  refine PySem.W.binop_K (op := op) hF I2.ok.mod.kin J J'.type hc (by rw [hn]; exact hs) hf ?_
  refine wpAny_mono (run_fnS (us := [.ref p, .ref q']) (vs := [.ref p, .ref q']) F hr hbd (hx σ) I2 (.cons rfl (.cons rfl .nil)) q) (fun w s' z => ?_) fun _ _ x => x
  obtain ⟨z', H', I', rz, qz⟩ := z
  exact SlX.cmpback rz ⟨z', H', I', rz, qz⟩
end
/-- the objects of class c have f for the operator whose method is nm -/
structure OD (P : Program) (w : World) (K : PySem.W.Frag) (mg : Str → Option Value) (base : Heap) (g : G0) (k : Nat) (nm : Str) (c : Nat) (f : Fn) : Prop where
  ex : ∃ a fd ps, PySem.W.selfFirst K (g.cl c) = true ∧ PySem.W.findIn K (.ref (g.cl c)) nm = some (some (.ref a)) ∧ PySem.W.isFn K (.ref a) = true ∧ Binds K fd ps [] ∧ FnOk P w K mg base (L2.CX P w) k a fd ps (Prom K g f)
def fOwn (tab : Nat → Option Fn) : D → D → R Sl
  | .obj c fs, .obj c' gs => if c = c' then match tab c with
    | some f => f [.obj c fs, .obj c' gs]
    | none => .st else .st
  | _, _ => .st
section
variable {g : G0} {x : L2.St → Prop} {W : WX} {X : Cx} {a b e : Expr} {es : List Expr} {pos p : Pos} {ma mb : B} {m m2 : M} {k : Nat} {tab : Nat → Option Fn}
theorem de_own {op : Operator} {nm : Str} (hn : PySem.dunder op.info.2 = nm) (hM : ∀ c f, tab c = some f → OD X.prog X.w X.K X.mg X.base g k nm c f) (hr : Room k X.A) (tk : Takes X W) (ha : PBd g x W X a ma) (hb : PBd g x W X b mb) : PEd g x W X (.BinOp a op b pos) (mBin (fOwn tab) ma mb) :=
  weakE (pe_opV (E := WE W) hn (fun σ => passAt tk σ) ha hb) fun σ H Q ⟨env, Z, er, hp⟩ => by
    refine useB er hp fun s v H1 e1 k1 r1 hp1 => ?_
    refine useB (er.mono k1) hp1 fun s2 u H2 e2 k2 r2 hp2 => ?_
    have r1 := r1.mono k2
    cases s with
    | obj c fs =>
      cases s2 with
      | obj c' gs =>
        have hp2 : PostE X.K g W Z σ H2 Q (if c = c' then match tab c with | some f => f [.obj c fs, .obj c' gs] | none => .st else .st) := hp2
        by_cases hc : c = c'
        · subst hc
          rw [if_pos rfl] at hp2
          cases et : tab c with
          | none => rw [et] at hp2; exact hp2.elim
          | some f =>
            rw [et] at hp2
            obtain ⟨a, fd, ps, h1, h2, h3, h4, h5⟩ := (hM c f et).ex
            obtain ⟨p, dx, vs, ev, nz, hH, hl, rr⟩ := Rep.obj_.mp r1.obj_
            obtain ⟨q, dy, ws, ew, nz', hH', hl', rr'⟩ := Rep.obj_.mp r2.obj_
            exact ⟨p, q, _, dx, _, dy, _, a, fd, ps, _, k, ev, ew, hH, hH', h1, h2, h3, h5, hr, h4, Z, _, dom_mono (k1.trans k2) er.dom, RepL.cons_.mpr ⟨v, [u], rfl, r1.obj_, .one r2.obj_⟩, postW hp2⟩
        · rw [if_neg hc] at hp2; exact hp2.elim
      | _ => exact hp2.elim
    | _ => exact hp2.elim
end

/-! ### x == y by an own __eq__ -/
section
variable {X : Cx} {CX : CXT} {E : L2.St → XK} {pos : Pos} {a b : Expr} {ta tb : TE}
def TyLook (X : Cx) (H : Hp) (y : V) (t : Value) : Prop := (∃ T, t = .type T ∧ TyX X.K H y (.type T)) ∨ ∃ q C dx fs, y = .ref q ∧ t = .ref C ∧ H q = some (.ins C dx fs)
def tEqV (X : Cx) (CX : CXT) (E : L2.St → XK) (ta tb : TE) : TE := fun σ H Q => ta σ H fun x H1 => tb σ H1 fun y H2 => ∃ p C dx fs t f fd ps sp k, x = .ref p ∧ H2 p = some (.ins C dx fs) ∧ TyLook X H2 y t ∧ PySem.W.notFirst X.K C t = true ∧
  PySem.W.findIn X.K (.ref C) "__eq__" = some (some (.ref f)) ∧ PySem.W.isFn X.K (.ref f) = true ∧ FnOk X.prog X.w X.K X.mg X.base CX k f fd ps sp ∧ Room k X.A ∧ Binds X.K fd ps [] ∧ sp [x, y] H2 Q (E σ)
theorem pe_eqV (hx : ∀ σ, PassesAt CX X σ (E σ)) (ha : PE X a ta) (hb : PE X b tb) (hm : behindInMarks .Eq b = false) : PE X (.Compare a [.Eq] [b] pos) (tEqV X CX E ta tb) := by
  refine ⟨fun pins s σ H Q I h => ?_⟩
  refine wpAny_Compare1 (binT ha hb I h fun v u s2 x y H2 I2 rx ry q => ?_) hm
  obtain ⟨p, C, dx, fs, t, f, fd, ps, sp, k, ex, h1, ht, hn, hs, hf, F, hr, hbd, q⟩ := q
  subst ex
  cases (show v = Value.ref p from rx)
  obtain ⟨ox, od, J⟩ := inst_of I2 h1
  obtain ⟨m, hF⟩ := I2.fr
  have L : PySem.W.Looks (model X.prog X.w) s2.heap (typeOf u) t := by
    rcases ht with ⟨T, rfl, ty⟩ | ⟨q', C', dy, gs, rfl, rfl, h2⟩
    · obtain ⟨P, Z, hp, _⟩ := kit_of I2 ry ty
      exact Z.ty _ _ I2.kIn hp
    · cases (show u = Value.ref q' from ry)
      obtain ⟨oy, od', J'⟩ := inst_of I2 h2
      exact J'.type
  refine PySem.W.cmp_ofEq (PySem.W.cmp_K (op := .Eq) hr.units0 hF I2.ok.mod.kin J L hn hs hf ?_)
  refine wpAny_mono (run_fnS (us := [.ref p, u]) (vs := [.ref p, y]) F hr hbd (hx σ) I2 (.cons rfl (.cons ry .nil)) q) (fun w s' z => ?_) fun _ _ x => x
  obtain ⟨z', H', I', rz, qz⟩ := z
  exact SlX.cmpback rz ⟨z', H', I', rz, qz⟩
end
structure EqD (P : Program) (w : World) (K : PySem.W.Frag) (mg : Str → Option Value) (base : Heap) (g : G0) (k : Nat) (c : Nat) (f : Fn) : Prop where
  ex : ∃ a fd ps, PySem.W.findIn K (.ref (g.cl c)) "__eq__" = some (some (.ref a)) ∧ PySem.W.isFn K (.ref a) = true ∧ Binds K fd ps [] ∧ FnOk P w K mg base (L2.CX P w) k a fd ps (Prom K g f)
  nf : ∀ T, T = "NoneType" ∨ T = "bool" ∨ T = "int" ∨ T = "str" ∨ T = "tuple" ∨ T = "list" → PySem.W.notFirst K (g.cl c) (.type T) = true
def okEq (c : Nat) : D → Bool
  | .obj c' _ => decide (c = c')
  | _ => true
def mEqO (tab : Nat → Option Fn) (ma mb : M) : M := fun env => (ma env).bind fun s => (mb env).bind fun t => match s.d with
  | .obj c fs => match tab c with
    | some f => if okEq c t.d = true then f [.obj c fs, t.d] else .st
    | none => .st
  | _ => .st
section
variable {g : G0} {x : L2.St → Prop} {W : WX} {X : Cx} {a b e : Expr} {es : List Expr} {pos p : Pos} {ma mb : B} {m m2 : M} {k : Nat} {tab : Nat → Option Fn}
theorem tyLook {H : Hp} {Z : Av} {c : Nat} {d : D} {v : V} (hd : okEq c d = true) (r : Rep X.K g H Z d v) : ∃ t, TyLook X H v t ∧ ((∃ T, (T = "NoneType" ∨ T = "bool" ∨ T = "int" ∨ T = "str" ∨ T = "tuple" ∨ T = "list") ∧ t = .type T) ∨ t = .ref (g.cl c)) := by
  cases d with
  | non => rw [Rep.non_.mp r]; exact ⟨_, .inl ⟨"NoneType", rfl, .base .non⟩, .inl ⟨_, by simp, rfl⟩⟩
  | bl b => rw [Rep.bl_.mp r]; exact ⟨_, .inl ⟨"bool", rfl, .base (.bl b)⟩, .inl ⟨_, by simp, rfl⟩⟩
  | int b => rw [Rep.int_.mp r]; exact ⟨_, .inl ⟨"int", rfl, .base (.int b)⟩, .inl ⟨_, by simp, rfl⟩⟩
  | str b => rw [Rep.str_.mp r]; exact ⟨_, .inl ⟨"str", rfl, .base (.str b)⟩, .inl ⟨_, by simp, rfl⟩⟩
  | tup xs =>
    obtain ⟨a, ws, rfl, tu, rr⟩ := Rep.tup_.mp r
    exact ⟨_, .inl ⟨"tuple", rfl, tyX_tu tu⟩, .inl ⟨_, by simp, rfl⟩⟩
  | lst xs =>
    obtain ⟨a, ws, rfl, rd, rr⟩ := Rep.lst_.mp r
    exact ⟨_, .inl ⟨"list", rfl, tyX_rd rd.sq⟩, .inl ⟨_, by simp, rfl⟩⟩
  | obj c' fs =>
    have e : c = c' := of_decide_eq_true hd
    subst e
    obtain ⟨q, dx, vs, ev, nz, hH, hl, rr⟩ := Rep.obj_.mp r
    exact ⟨_, .inr ⟨q, _, dx, _, ev, rfl, hH⟩, .inr rfl⟩
theorem de_eqO (hM : ∀ c f, tab c = some f → EqD X.prog X.w X.K X.mg X.base g k c f) (hr : Room k X.A) (tk : Takes X W) (ha : PEd g x W X a m) (hb : PEd g x W X b m2) : PEd g x W X (.Compare a [.Eq] [b] pos) (mEqO tab m m2) :=
  weakE (pe_eqV (E := WE W) (fun σ => passAt tk σ) ha hb (nomark _)) fun σ H Q ⟨env, Z, er, hp⟩ => by
    refine use1 (f := fun s => (m2 env).bind fun t => match s.d with
      | .obj c fs => match tab c with
        | some f => if okEq c t.d = true then f [.obj c fs, t.d] else .st
        | none => .st
      | _ => .st) er hp fun s v H1 e1 k1 r1 hp1 => ?_
    refine use1 (f := fun t => match s.d with
      | .obj c fs => match tab c with
        | some f => if okEq c t.d = true then f [.obj c fs, t.d] else .st
        | none => .st
      | _ => .st) (er.mono k1) hp1 fun t u H2 e2 k2 r2 hp2 => ?_
    have r1 := Rep.mono (.same_ k2) _ _ r1
    cases ed : s.d with
    | obj c fs =>
      simp only [ed] at hp2
      rw [ed] at r1
      cases et : tab c with
      | none => simp only [et] at hp2; exact hp2.elim
      | some f =>
        simp only [et] at hp2
        by_cases ho : okEq c t.d = true
        · rw [if_pos ho] at hp2
          obtain ⟨⟨a, fd, ps, h2, h3, h4, h5⟩, nf⟩ := hM c f et
          obtain ⟨p, dx, vs, ev, nz, hH, hl, rr⟩ := Rep.obj_.mp r1
          obtain ⟨ty, hl, ht⟩ := tyLook (X := X) ho r2
          refine ⟨p, _, dx, _, ty, a, fd, ps, _, k, ev, hH, hl, ?_, h2, h3, h5, hr, h4, Z, _, dom_mono (k1.trans k2) er.dom, RepL.cons_.mpr ⟨v, [u], rfl, r1, .one r2⟩, postW hp2⟩
          rcases ht with ⟨T, hT, rfl⟩ | rfl
          · exact nf T hT
          · unfold PySem.W.notFirst
            rw [beq_self_eq_true, Bool.true_or]
        · rw [if_neg ho] at hp2; exact hp2.elim
    | _ => simp only [ed] at hp2; exact hp2.elim
end

/-! ### str(x) by an own __str__ -/
section
variable {X : Cx} {CX : CXT} {E : L2.St → XK} {p pos : Pos} {e : Expr} {es : List Expr} {t : TA}
def tStrV (X : Cx) (CX : CXT) (E : L2.St → XK) (t : TA) : TE := fun σ H Q => t σ H fun vs H1 => ∃ p C dx fs f fd ps sp k, vs = [.ref p] ∧ H1 p = some (.ins C dx fs) ∧ PySem.W.findIn X.K (.ref C) "__str__" = some (some (.ref f)) ∧ PySem.W.isFn X.K (.ref f) = true ∧
  FnOk X.prog X.w X.K X.mg X.base CX k f fd ps sp ∧ Room (k + 2) X.A ∧ Binds X.K fd ps [] ∧ sp vs H1 (fun v H2 => ∃ z, v = .str z ∧ Q v H2) (E σ)
theorem run_at2 {A : Around} {pins : List (Addr × Obj)} {σ : L2.St} {H : Hp} {s : Shared} {k : Nat} {f : Addr} {fd : FuncData} {ps : List Str} {sp : Sp} {Q : VK} {us : List Value} {vs : List V} (F : FnOk X.prog X.w X.K X.mg X.base CX k f fd ps sp) (hr : Room k A) (e0 : Env0 X.prog X.w X.K X.mg X.base A X.stack s H)
    (hb : Binds X.K fd ps []) (hx : PassesAt CX X σ (E σ)) (I : Inv X pins σ H s) (r : Vals vs us) (h : sp vs H Q (E σ)) : wpAny (model X.prog X.w) A (call (.ref f) us) (EP X pins σ Q) X.xe s := by
  have hl : us.length = ps.length := by rw [← r.length]; exact F.len _ _ _ _ h
  have b := hb s us I.kIn (by rw [List.append_nil]; exact hl)
  rw [List.append_nil] at b
  refine wpAny_call (codeAny_mono (F.run A X.stack s H ⟨us, []⟩ us vs Q (E σ) hr e0 b r h) fun r s' hq => ?_)
  cases r with
  | error e => exact hx pins H s e s' I hq
  | ok fl =>
    cases fl with
    | ret u => exact I.after hq
    | next => exact False.elim hq
    | brk => exact False.elim hq
    | cont => exact False.elim hq
theorem pe_strV (hg : Gl X "str") (hm : X.mg "str" = none) (hx : ∀ σ, PassesAt CX X σ (E σ)) (ha : PA X (e :: es) t)
    (he : starEach (e :: es) X.env = (false, eval e X.env) :: starEach es X.env := by rfl) (hpl : (backTo pos (starEach es X.env)).any (·.1) = false := by rfl) : PE X (.Call (.Name "str" p) (e :: es) [] pos) (tStrV X CX E t) := by
  refine ⟨fun pins s σ H Q I h => ?_⟩
  refine wpAny_Call_Name_kw (ld_blt I hg hm (show bootBuiltins "str" = some (.type "str") by decide +kernel) ?_ (by decide) (by decide))
  refine PyProof.Rows.callWith_type1 (thn (ha.run pos pins s σ H _ I h) fun us s1 ⟨vs, H1, I1, r1, p, C, dx, fs, f, fd, ps, sp, k, ev, h1, hs, hf, F, hr, hb, q⟩ => ?_) he hpl
  subst ev
  obtain ⟨u, rfl, ru⟩ := r1.one
  cases (show u = Value.ref p from ru)
  obtain ⟨ox, od, J⟩ := inst_of I1 h1
  have hr2 : Room k X.A.in1.in1 := (show Room (k + 1) X.A.in1 from Room.in1 hr).in1
  refine PySem.W.kso_call hr2.units0 I1.kIn J hs hf (wpAny_mono (run_at2 (us := [.ref p]) (vs := [.ref p]) F hr2 I1.env0.in1.in1 hb (hx σ) I1 (.cons rfl .nil) q) (fun w s' z => ?_) fun _ _ x => x)
  obtain ⟨z', H', I', rz, y, ey, qz⟩ := z
  subst ey
  obtain ⟨t, rfl⟩ := (show ∃ t, w = Value.str y t from rz)
  exact ⟨.str y, H', I', ⟨t, rfl⟩, qz⟩
end
structure SD (P : Program) (w : World) (K : PySem.W.Frag) (mg : Str → Option Value) (base : Heap) (g : G0) (k : Nat) (c : Nat) (f : Fn) : Prop where
  ex : ∃ a fd ps, PySem.W.findIn K (.ref (g.cl c)) "__str__" = some (some (.ref a)) ∧ PySem.W.isFn K (.ref a) = true ∧ Binds K fd ps [] ∧ FnOk P w K mg base (L2.CX P w) k a fd ps (Prom K g f)
def asS : D → R Sl
  | .str z => .ok (.fr (.str z))
  | _ => .st
def fStrO (tab : Nat → Option Fn) : List D → R Sl
  | [.obj c fs] => match tab c with
    | some f => (f [.obj c fs]).bind fun s => asS s.d
    | none => .st
  | _ => .st
section
variable {g : G0} {x : L2.St → Prop} {W : WX} {X : Cx} {e : Expr} {es : List Expr} {pos p : Pos} {k : Nat} {tab : Nat → Option Fn} {mr : En → R (List D)}
theorem de_strO (hM : ∀ c f, tab c = some f → SD X.prog X.w X.K X.mg X.base g k c f) (hr : Room (k + 2) X.A) (tk : Takes X W) (hg : Gl X "str") (hm : X.mg "str" = none) (ha : PAd g x W X (e :: es) mr)
    (he : starEach (e :: es) X.env = (false, eval e X.env) :: starEach es X.env := by rfl) (hpl : (backTo pos (starEach es X.env)).any (·.1) = false := by rfl) : PEd g x W X (.Call (.Name "str" p) (e :: es) [] pos) (mCall (fStrO tab) mr) :=
  weakE (pe_strV (E := WE W) hg hm (fun σ => passAt tk σ) ha he hpl) fun σ H Q ⟨env, Z, er, hp⟩ => useA er hp fun ds vs H1 e1 k1 r1 hp1 => by
    match ds with
    | [] => exact hp1.elim
    | [.obj c fs] =>
      have hp1 : PostE X.K g W Z σ H1 Q (match tab c with | some f => (f [.obj c fs]).bind fun s => asS s.d | none => .st) := hp1
      cases et : tab c with
      | none => rw [et] at hp1; exact hp1.elim
      | some f =>
        rw [et] at hp1
        obtain ⟨v, r, ev, r3, r2⟩ := RepL.cons_.mp r1
        have er2 := RepL.nil_.mp r2
        subst er2 ev
        obtain ⟨a, fd, ps, h2, h3, h4, h5⟩ := hM c f et
        obtain ⟨p, dx, vs, ev, nz, hH, hl, rr⟩ := Rep.obj_.mp r3
        subst ev
        refine ⟨p, _, dx, _, a, fd, ps, _, k, rfl, hH, h2, h3, h5, hr, h4, Z, _, dom_mono k1 er.dom, .one r3, ?_⟩
        have hp1 : PostE X.K g W Z σ H1 Q ((f [.obj c fs]).bind fun s => asS s.d) := hp1
        cases ef : f [.obj c fs] with
        | ok s =>
          rw [ef] at hp1
          have hp1 : PostE X.K g W Z σ H1 Q (asS s.d) := hp1
          cases s with
          | ow xs => exact hp1.elim
          | fr d =>
            cases d with
            | str z => exact fun v H2 k2 r => ⟨z, Rep.str_.mp r, hp1 v H2 k2 r⟩
            | _ => exact hp1.elim
        | ex c p => rw [ef] at hp1; exact hp1
        | st => rw [ef] at hp1; exact hp1.elim
    | a :: _ :: _ => cases a <;> exact hp1.elim
    | [.non] => exact hp1.elim
    | [.bl _] => exact hp1.elim
    | [.int _] => exact hp1.elim
    | [.str _] => exact hp1.elim
    | [.tup _] => exact hp1.elim
    | [.lst _] => exact hp1.elim
end

/-! ### a // b of any sign; gcd -/
def CDivNW (i j : Int) : Prop := j ≠ 0 ∧ j.natAbs < 2 ^ 4000
section
variable {X : Cx}
theorem op_fdivNW : OpR X (binaryOp .FloorDiv) (rI CDivNW fun i j => .int (i.fdiv j)) := opI fun i j _ _ _ _ _ hc q =>
  floordiv_int hc.1 q (.inl (PyProof.noPylong_of_log2 (Nat.lt_of_lt_of_le (PySem.Flt.log2_lt_of (by decide) hc.2) (by decide))))
end
def fFdiv : D → D → R Sl
  | .int a, .int b => if b ≠ 0 ∧ b.natAbs < 2 ^ 4000 then .ok (.fr (.int (a.fdiv b))) else .st
  | _, _ => .st
theorem of_fdivN {K : PySem.W.Frag} : OpF K (rI CDivNW fun i j => .int (i.fdiv j)) fFdiv := by
  intro g W H Z σ x y v u Q dom rx ry hp
  cases x <;> cases y <;> first | exact hp.elim | skip
  rename_i i j
  simp only [fFdiv] at hp
  split at hp
  · rename_i hm
    exact ⟨i, j, rx.int_, ry.int_, hm, hp _ H (Same.refl _) (Rep.int_.mpr rfl)⟩
  · exact hp.elim
def fGcd : List D → R Sl
  | [.int a, .int b] => .ok (.fr (.int (Nat.gcd a.natAbs b.natAbs : Nat)))
  | _ => .st
theorem cf_gcd {K : PySem.W.Frag} : CallF K rGcd fGcd := by
  intro g W H Z σ xs vs Q dom r hp
  unfold fGcd at hp
  split at hp
  · rename_i a b
    obtain ⟨v, r1, e1, h1, r2⟩ := r
    obtain ⟨u, r3, e2, h2, e3⟩ := r2
    subst e1 e2 e3
    exact ⟨a, b, by rw [h1.int_, h2.int_], hp _ H (Same.refl _) (Rep.int_.mpr rfl)⟩
  · exact hp.elim
section
variable {g : G0} {x : L2.St → Prop} {W : WX} {X : Cx} {a b e : Expr} {es : List Expr} {pos p : Pos} {ma mb : B} {mr : En → R (List D)}
theorem de_fdivN (ha : PBd g x W X a ma) (hb : PBd g x W X b mb) : PEd g x W X (.BinOp a .FloorDiv b pos) (mBin fFdiv ma mb) := de_op op_fdivNW of_fdivN ha hb
end
/-! ### a * b of greater ints -/
def fMulX : D → D → R Sl
  | .int a, .int b => if a.natAbs.log2 + b.natAbs.log2 < 1000000 then .ok (.fr (.int (a * b))) else .st
  | _, _ => .st
theorem of_mulX {K : PySem.W.Frag} : OpF K (rI CMulW fun i j => .int (i * j)) fMulX := by
  intro g W H Z σ x y v u Q dom rx ry hp
  cases x <;> cases y <;> first | exact hp.elim | skip
  rename_i i j
  simp only [fMulX] at hp
  split at hp
  · rename_i hm
    exact ⟨i, j, rx.int_, ry.int_, hm, hp _ H (Same.refl _) (Rep.int_.mpr rfl)⟩
  · exact hp.elim
section
variable {g : G0} {x : L2.St → Prop} {W : WX} {X : Cx} {a b e : Expr} {es : List Expr} {pos p : Pos} {ma mb : B} {mr : En → R (List D)}
theorem de_mulX (ha : PBd g x W X a ma) (hb : PBd g x W X b mb) : PEd g x W X (.BinOp a .Mult b pos) (mBin fMulX ma mb) := de_op op_mulW of_mulX ha hb
end
end DL
set_option Elab.async false
set_option linter.all false
set_option maxRecDepth 100000
namespace DL
open PySem PySem.Spec L2
open PyProof.Rows hiding St
/-! ### lists of ints -/
theorem leD_int (a b : Int) : leD (.int a) (.int b) = decide (a ≤ b) := congrFun (congrFun (PySem.W.dataLe_int (fun i : Int => i)) a) b
theorem eqDL_ints : ∀ xs ys : List Int, eqDL (xs.map .int) (ys.map .int) = decide (xs = ys)
  | [], [] => by simp [eqDL]
  | [], y :: ys => by simp [eqDL]
  | x :: xs, [] => by simp [eqDL]
  | x :: xs, y :: ys => by
    show eqDL (.int x :: xs.map .int) (.int y :: ys.map .int) = _
    unfold eqDL
    rw [eqDL_ints xs ys]
    show (eqD (.int x) (.int y) && decide (xs = ys)) = _
    rw [show eqD (.int x) (.int y) = (x == y) by unfold eqD; rfl]
    by_cases h : x = y
    · subst h; simp
    · simp [h]
def leI (a b : Int) : Bool := decide (a ≤ b)
theorem ins_ints (a : Int) : ∀ xs : List Int, ins leD (.int a) (xs.map .int) = (ins leI a xs).map .int
  | [] => rfl
  | x :: xs => by
    show ins leD (.int a) (.int x :: xs.map .int) = _
    unfold ins
    rw [leD_int, ins_ints a xs]
    show (if leI a x = true then _ else _) = _
    split <;> rfl
theorem isort_ints : ∀ xs : List Int, isort leD (xs.map .int) = (isort leI xs).map .int
  | [] => rfl
  | x :: xs => by
    show ins leD (.int x) (isort leD (xs.map .int)) = (ins leI x (isort leI xs)).map .int
    rw [isort_ints xs, ins_ints]
theorem ins_perm {α : Type} (le : α → α → Bool) (a : α) : ∀ xs : List α, (ins le a xs).Perm (a :: xs)
  | [] => .refl _
  | x :: xs => by
    unfold ins
    split
    · exact .refl _
    · exact ((ins_perm le a xs).cons x).trans (.swap a x xs)
theorem isort_permI {α : Type} (le : α → α → Bool) : ∀ xs : List α, (isort le xs).Perm xs
  | [] => .refl _
  | x :: xs => (ins_perm le x _).trans ((isort_permI le xs).cons x)
theorem okSort_ints (xs : List Int) (h : xs.length ≤ lim) : okSort (xs.map .int) = true := by
  have hd : ∀ a : Int, decide ((toPy (.int a)).depth ≤ 60) = true := fun a => rfl
  have e1 : ((xs.map D.int).all fun a => noObj a && decide ((toPy a).depth ≤ 60)) = true := by
    rw [List.all_eq_true]
    intro d m
    obtain ⟨a, _, rfl⟩ := List.mem_map.mp m
    rfl
  have e2 : ((xs.map D.int).all fun a => (xs.map D.int).all fun b => PySem.W.alike (toPy a) (toPy b)) = true := by
    rw [List.all_eq_true]
    intro d m
    rw [List.all_eq_true]
    intro d2 m2
    obtain ⟨a, _, rfl⟩ := List.mem_map.mp m
    obtain ⟨b, _, rfl⟩ := List.mem_map.mp m2
    rfl
  have e3 : (xs.map D.int).all noTN = true := by
    rw [List.all_eq_true]
    intro d m
    obtain ⟨a, _, rfl⟩ := List.mem_map.mp m
    rfl
  unfold okSort
  rw [e1, e2, e3, decide_eq_true (show (xs.map D.int).length ≤ lim by rw [List.length_map]; exact h)]
  simp
theorem fSorted_ints (xs : List Int) (h : xs.length ≤ lim) : fSorted [.tup (xs.map .int)] = .ok (.ow ((isort leI xs).map .int)) := by
  show (if okSort (xs.map .int) = true then _ else _) = _
  rw [if_pos (okSort_ints xs h), isort_ints]
theorem isort_ordered : ∀ xs : List Int, (isort leI xs).Pairwise (· ≤ ·) := by
  have hi : ∀ (a : Int) (xs : List Int), xs.Pairwise (· ≤ ·) → (ins leI a xs).Pairwise (· ≤ ·) := by
    intro a xs
    induction xs with
    | nil => intro _; simp [ins]
    | cons x xs ih =>
      intro h
      unfold ins
      split
      · rename_i e
        have e : a ≤ x := of_decide_eq_true e
        refine List.pairwise_cons.mpr ⟨fun b m => ?_, h⟩
        rcases List.mem_cons.mp m with rfl | m
        · exact e
        · exact Int.le_trans e ((List.pairwise_cons.mp h).1 b m)
      · rename_i e
        have e : ¬ a ≤ x := fun q => e (decide_eq_true q)
        refine List.pairwise_cons.mpr ⟨fun b m => ?_, ih (List.pairwise_cons.mp h).2⟩
        rcases List.mem_cons.mp ((ins_perm leI a xs).mem_iff.mp m) with rfl | m
        · omega
        · exact (List.pairwise_cons.mp h).1 b m
  intro xs
  induction xs with
  | nil => exact List.Pairwise.nil
  | cons x xs ih => exact hi x _ ih
def rng (n : Nat) : List Int := (List.range n).map fun i : Nat => (i : Int)
theorem rng_ordered (n : Nat) : (rng n).Pairwise (· ≤ ·) := by
  unfold rng
  rw [List.pairwise_map]
  exact (List.pairwise_lt_range (n := n)).imp fun h => by omega
theorem eq_of_ordered : ∀ {xs ys : List Int}, xs.Pairwise (· ≤ ·) → ys.Pairwise (· ≤ ·) → xs.Perm ys → xs = ys
  | [], ys, _, _, p => (List.nil_perm.mp p).symm
  | x :: xs, [], _, _, p => by simpa using p.length_eq
  | x :: xs, y :: ys, h1, h2, p => by
    have a1 := List.pairwise_cons.mp h1
    have a2 := List.pairwise_cons.mp h2
    have le1 : x ≤ y := by
      rcases List.mem_cons.mp (p.mem_iff.mpr (List.mem_cons_self (a := y) (l := ys))) with e | m
      · omega
      · exact a1.1 y m
    have le2 : y ≤ x := by
      rcases List.mem_cons.mp (p.mem_iff.mp (List.mem_cons_self (a := x) (l := xs))) with e | m
      · omega
      · exact a2.1 x m
    have e : x = y := by omega
    subst e
    rw [eq_of_ordered a1.2 a2.2 (List.Perm.cons_inv p)]
/-- sorted(xs) is the range: xs is a permutation -/
theorem isort_rng (xs : List Int) (n : Nat) : isort leI xs = rng n ↔ xs.Perm (rng n) :=
  ⟨fun h => (isort_permI leI xs).symm.trans (by rw [h]), fun h => eq_of_ordered (isort_ordered xs) (rng_ordered n) ((isort_permI leI xs).trans h)⟩
theorem rng_nodup (n : Nat) : (rng n).Nodup := by
  unfold rng
  rw [List.nodup_iff_pairwise_ne, List.pairwise_map]
  exact (List.pairwise_lt_range (n := n)).imp fun h => by omega
theorem mem_rng {n : Nat} {x : Int} : x ∈ rng n ↔ ∃ i, i < n ∧ x = (i : Int) := by
  unfold rng
  simp only [List.mem_map, List.mem_range]
  exact ⟨fun ⟨i, h, e⟩ => ⟨i, h, e.symm⟩, fun ⟨i, h, e⟩ => ⟨i, h, e.symm⟩⟩
theorem perm_of_sub : ∀ (ys xs : List Int), ys.Nodup → xs.length = ys.length → (∀ y ∈ ys, y ∈ xs) → xs.Perm ys
  | [], xs, _, hl, _ => by
    have : xs = [] := List.length_eq_zero_iff.mp hl
    rw [this]
  | y :: ys, xs, hn, hl, h => by
    have hy := h y List.mem_cons_self
    have hn2 := List.nodup_cons.mp hn
    have e1 : xs.Perm (y :: xs.erase y) := List.perm_cons_erase hy
    have l2 : (xs.erase y).length = ys.length := by
      have := e1.length_eq
      simp at this hl
      omega
    refine e1.trans (.cons y (perm_of_sub ys _ hn2.2 l2 fun z m => ?_))
    have zy : z ≠ y := fun q => hn2.1 (q ▸ m)
    exact (List.mem_erase_of_ne zy).mpr (h z (List.mem_cons_of_mem _ m))
/-- each number of the range occurs once -/
theorem perm_count (xs : List Int) : (∀ k, k < xs.length → (xs.filter fun x => decide (x = (k : Int))).length = 1) ↔ xs.Perm (rng xs.length) := by
  constructor
  · intro h
    refine perm_of_sub _ _ (rng_nodup _) (by simp [rng]) fun y m => ?_
    obtain ⟨k, hk, rfl⟩ := mem_rng.mp m
    have := h k hk
    obtain ⟨z, hz⟩ : ∃ z, z ∈ xs.filter fun x => decide (x = (k : Int)) := by
      cases e : xs.filter fun x => decide (x = (k : Int)) with
      | nil => rw [e] at this; cases this
      | cons z r => exact ⟨z, List.mem_cons_self⟩
    obtain ⟨h1, h2⟩ := List.mem_filter.mp hz
    exact of_decide_eq_true h2 ▸ h1
  · intro p k hk
    have q := (p.filter fun x => decide (x = (k : Int))).length_eq
    rw [q]
    have : ∀ n k, k < n → ((rng n).filter fun x => decide (x = (k : Int))).length = 1 := by
      intro n k hk
      have hn := rng_nodup n
      have hm : (k : Int) ∈ rng n := mem_rng.mpr ⟨k, hk, rfl⟩
      have : (rng n).filter (fun x => decide (x = (k : Int))) = (rng n).filter (fun x => x == (k : Int)) := by
        congr 1
      rw [this, ← List.countP_eq_length_filter]
      have c := hn.count (a := (k : Int))
      rw [if_pos hm] at c
      exact c
    exact this _ k hk
end DL
set_option Elab.async false
set_option linter.all false
set_option maxRecDepth 100000
set_option maxHeartbeats 4000000
namespace DM
open PySem PySem.Spec L2 DL
open PyProof.Rows hiding St
/-! ### helpers that recur in the laws: their mirrors as gen.py prints them, and their values -/
abbrev nbody : MS := (sIf (mTest (mB (mBin fGe (mBV 2) (mB (mC (.int 5040)))))) (sSeq (sApp 4 (mBin fMod (mB (mCall fInt (bCons (mBV 2) bNil))) (mB (mC (.int 5040)))))
    (sSet 2 (mBin fDiv (mBV 2) (mB (mC (.int 5040)))))) (sSeq (sSet 3 (mBin fMod (mB (mCall fInt (bCons (mB (mBin fAddL (mB (mBin fMul (mBV 3) (mB (mC (.int 48271))))) (mB (mBin fMul (mB (mC (.int 69621))) (mB (mBin fAddL (mBV 5) (mB (mC (.int 1))))))))) bNil))) (mB (mC (.int 2147483647)))))
    (sApp 4 (mBin fMod (mB (mBin fDiv (mB (mBin fMod (mB (mCall fInt (bCons (mB (mBin fAddL (mB (mBin fDiv (mB (mBin fMul (mBV 3) (mBV 3))) (mB (mC (.int 7))))) (mB (mBin fMul (mB (mC (.int 3))) (mBV 3))))) bNil))) (mB (mC (.int 2147483629))))) (mB (mC (.int 11))))) (mB (mC (.int 5040)))))))
def m_numbers : MS := (sSeq (sSet 2 (mCall fAbs (bCons (mB (mCall fInt (bCons (mBV 0) bNil))) bNil)))
    (sSeq (sSet 3 (mBin fAddL (mB (mBin fMod (mB (mCall fInt (bCons (mBV 2) bNil))) (mB (mC (.int 2147483629))))) (mB (mC (.int 1)))))
    (sSeq (sSet 4 (mCall fLst mNil))
    (sSeq (sFor (mRng1 (mBV 1)) (.nm 5) nbody)
    (sRetV 4)))))
def f_numbers : Fn := runF 2 6 m_numbers
theorem fDiv_small (a : Int) {b : Int} (h : 0 < b) (h2 : b < 100000) : fDiv (.int a) (.int b) = .ok (.fr (.int (a / b))) := by
  have h3 : b.natAbs < 2 ^ 4000 := Nat.lt_of_lt_of_le (show b.natAbs < 2 ^ 17 by omega) (Nat.pow_le_pow_right (by decide) (by decide))
  show (if 0 < b ∧ b.natAbs < 2 ^ 4000 then R.ok (Sl.fr (.int (a / b))) else .st) = _
  rw [if_pos ⟨h, h3⟩]
theorem fMul_left {a b : Int} (h : a.natAbs < 2 ^ 64) : fMul (.int a) (.int b) = .ok (.fr (.int (a * b))) := by
  show (if DL.MulOk a b = true then R.ok (Sl.fr (.int (a * b))) else .st) = _
  rw [if_pos]
  unfold DL.MulOk
  rw [decide_eq_true h]
  rfl
theorem fMul_right {a b : Int} (h : b.natAbs < 2 ^ 64) : fMul (.int a) (.int b) = .ok (.fr (.int (a * b))) := by
  show (if DL.MulOk a b = true then R.ok (Sl.fr (.int (a * b))) else .st) = _
  rw [if_pos]
  unfold DL.MulOk
  rw [decide_eq_true h, Bool.or_true]
  rfl
theorem fAddL_int (a b : Int) : fAddL (.int a) (.int b) = .ok (.fr (.int (a + b))) := rfl
theorem nstep {s0 s1 : Option Sl} {num mx k : Int} {zs : List Int} (h0 : 0 ≤ num) (h1 : 0 ≤ mx ∧ mx < 2147483650) (hl : zs.length < lim) :
    ∃ (num' mx' z : Int), 0 ≤ num' ∧ (0 ≤ mx' ∧ mx' < 2147483650) ∧ (0 ≤ z ∧ z < 5040) ∧ nbody [s0, s1, some (.fr (.int num)), some (.fr (.int mx)), some (.ow (zs.map .int)), some (.fr (.int k))] = .nx [s0, s1, some (.fr (.int num')), some (.fr (.int mx')), some (.ow ((zs ++ [z]).map .int)), some (.fr (.int k))] := by
  have d1 := fDiv_small num (b := 5040) (by decide) (by decide)
  by_cases c : 5040 ≤ num
  · refine ⟨num / 5040, mx, num % 5040, Int.ediv_nonneg h0 (by decide), h1, ⟨Int.emod_nonneg _ (by decide), Int.emod_lt_of_pos _ (by decide)⟩, ?_⟩
    unfold nbody
    simp [runF, env0, fin, sSeq, sSet, sIf, sRet, sRetV, sDrop, sFrz, frz, frz1, sNop, sTry, mAnd, mOr, mNot, mB, mBin, mUn, mCall, mCons, mNil, bCons, bNil, mBV, mVar, mC, mTest, tNotM, tAndM, tOrM, R.bind, Sl.d, asB, fGe, c, fMod, fInt, d1, sApp, hl]
  · obtain ⟨m2, hm2⟩ : ∃ m2 : Int, (mx * 48271 + 69621 * (k + 1)) % 2147483647 = m2 := ⟨_, rfl⟩
    have b2 : 0 ≤ m2 ∧ m2 < 2147483647 := by rw [← hm2]; exact ⟨Int.emod_nonneg _ (by decide), Int.emod_lt_of_pos _ (by decide)⟩
    have e1 : fMul (.int mx) (.int 48271) = .ok (.fr (.int (mx * 48271))) := fMul_right (by decide)
    have e2 : fMul (.int 69621) (.int (k + 1)) = .ok (.fr (.int (69621 * (k + 1)))) := fMul_left (by decide)
    have e3 : fMul (.int m2) (.int m2) = .ok (.fr (.int (m2 * m2))) := fMul_left (by omega)
    have e4 : fMul (.int 3) (.int m2) = .ok (.fr (.int (3 * m2))) := fMul_left (by decide)
    have d7 := fDiv_small (m2 * m2) (b := 7) (by decide) (by decide)
    have d11 := fDiv_small ((m2 * m2 / 7 + 3 * m2) % 2147483629) (b := 11) (by decide) (by decide)
    refine ⟨num, m2, (m2 * m2 / 7 + 3 * m2) % 2147483629 / 11 % 5040, h0, ⟨b2.1, by omega⟩, ⟨Int.emod_nonneg _ (by decide), Int.emod_lt_of_pos _ (by decide)⟩, ?_⟩
    unfold nbody
    simp [runF, env0, fin, sSeq, sSet, sIf, sRet, sRetV, sDrop, sFrz, frz, frz1, sNop, sTry, mAnd, mOr, mNot, mB, mBin, mUn, mCall, mCons, mNil, bCons, bNil, mBV, mVar, mC, mTest, tNotM, tAndM, tOrM, R.bind, Sl.d, asB, fGe, c, fMod, fInt, sApp, hl, fAddL_int, e1, e2, hm2, e3, e4, d7, d11]
theorem nloop {s0 s1 : Option Sl} : ∀ (ks : List Nat) {num mx : Int} {zs : List Int} (s : Option Sl), 0 ≤ num → (0 ≤ mx ∧ mx < 2147483650) → zs.length + ks.length ≤ 1000 → (∀ z ∈ zs, 0 ≤ z ∧ z < 5040) →
    ∃ (num' mx' : Int) (ws : List Int) (s' : Option Sl), ws.length = zs.length + ks.length ∧ (∀ z ∈ ws, 0 ≤ z ∧ z < 5040) ∧
      forM (Pt.nm 5).go nbody (ks.map fun k : Nat => .int (k : Int)) [s0, s1, some (.fr (.int num)), some (.fr (.int mx)), some (.ow (zs.map .int)), s] = .nx [s0, s1, some (.fr (.int num')), some (.fr (.int mx')), some (.ow (ws.map .int)), s']
  | [], num, mx, zs, s, h0, h1, hl, hz => ⟨num, mx, zs, s, rfl, hz, rfl⟩
  | k :: ks, num, mx, zs, s, h0, h1, hl, hz => by
    have hl' : zs.length + (ks.length + 1) ≤ 1000 := by simpa using hl
    obtain ⟨n1, m1, z, a1, a2, a3, e⟩ := nstep (s0 := s0) (s1 := s1) (k := k) (zs := zs) h0 h1 (by unfold lim; omega)
    obtain ⟨n2, m2, ws, s2, l2, z2, e2⟩ := nloop (s0 := s0) (s1 := s1) ks (zs := zs ++ [z]) (some (.fr (.int k))) a1 a2 (by simp; omega) (by
      intro y hy
      rcases List.mem_append.mp hy with q | q
      · exact hz y q
      · rw [List.mem_singleton.mp q]; exact a3)
    refine ⟨n2, m2, ws, s2, by rw [l2]; simp; omega, z2, ?_⟩
    have st : forM (Pt.nm 5).go nbody ((k :: ks).map fun k : Nat => .int (k : Int)) [s0, s1, some (.fr (.int num)), some (.fr (.int mx)), some (.ow (zs.map .int)), s] = match nbody [s0, s1, some (.fr (.int num)), some (.fr (.int mx)), some (.ow (zs.map .int)), some (.fr (.int k))] with
      | .nx e => forM (Pt.nm 5).go nbody (ks.map fun k : Nat => .int (k : Int)) e
      | .ct e => forM (Pt.nm 5).go nbody (ks.map fun k : Nat => .int (k : Int)) e
      | .bk e => .nx e
      | .rt s => .rt s
      | .ex c p e => .ex c p e
      | .st => .st := rfl
    rw [st, e]
    exact e2
theorem rangeD_nat (n : Nat) : rangeD 0 n = (List.range n).map fun k : Nat => D.int (k : Int) := by
  unfold rangeD
  refine List.map_congr_left fun i _ => ?_
  show D.int (0 + (i : Int)) = D.int (i : Int)
  rw [Int.zero_add]
/-- _law_numbers(cell, many): so many numbers from 0 to 5039 -/
theorem numbers_ok (c : Int) {m : Nat} (hm : m ≤ 1000) : ∃ zs : List Int, zs.length = m ∧ (∀ z ∈ zs, 0 ≤ z ∧ z < 5040) ∧ f_numbers [.int c, .int m] = .ok (.ow (zs.map .int)) := by
  have l3 : (m : Int) ≤ big := by unfold big; omega
  have l4 : -big ≤ (m : Int) := by unfold big; omega
  obtain ⟨d, hd⟩ : ∃ d : Int, (if c < 0 then -c else c) = d := ⟨_, rfl⟩
  have d0 : 0 ≤ d := by rw [← hd]; split <;> omega
  have b1 : 0 ≤ d % 2147483629 + 1 ∧ d % 2147483629 + 1 < 2147483650 := by
    have := Int.emod_nonneg d (show (2147483629 : Int) ≠ 0 by decide)
    have := Int.emod_lt_of_pos d (show (0 : Int) < 2147483629 by decide)
    omega
  obtain ⟨n2, m2, ws, s2, l2, z2, e2⟩ := nloop (s0 := some (.fr (.int c))) (s1 := some (.fr (.int m))) (List.range m) (zs := []) none d0 b1 (by simpa using hm) (by simp)
  rw [List.map_nil] at e2
  refine ⟨ws, by simpa using l2, z2, ?_⟩
  unfold f_numbers m_numbers
  simp [runF, env0, fin, sSeq, sSet, sIf, sRet, sRetV, sDrop, sFrz, frz, frz1, sNop, sTry, mAnd, mOr, mNot, mB, mBin, mUn, mCall, mCons, mNil, bCons, bNil, mBV, mVar, mC, mTest, tNotM, tAndM, tOrM, R.bind, Sl.d, asB, fAbs, fInt, hd, fMod, fAddL_int, fLst, sFor, mRng1, l3, l4, rangeD_nat, e2]

/-! ### _law_same -/
def m_same (self : Fn) : MS := (sSeq (sIf (tOrM (mTest (mB (mUn (fIs .tuple) (mBV 1)))) (mTest (mB (mUn (fIs .list) (mBV 1))))) (sSeq (sIf (tOrM (mTest (mB (mBin fNe (mB (mUn (fIs .tuple) (mBV 1))) (mB (mUn (fIs .tuple) (mBV 0)))))) (mTest (mB (mBin fNe (mB (mUn (fIs .list) (mBV 1))) (mB (mUn (fIs .list) (mBV 0))))))) (sRet (mC (.bl false))) sNop)
    (sSeq (sIf (mTest (mB (mBin fNe (mB (mCall fLen (bCons (mBV 0) bNil))) (mB (mCall fLen (bCons (mBV 1) bNil)))))) (sRet (mC (.bl false))) sNop)
    (sSeq (sFor (mRng1 (mB (mCall fLen (bCons (mBV 1) bNil)))) (.nm 2) (sIf (tNotM (mTest (mB (mCall self (mCons (mBin fIx (mBV 0) (mBV 2)) (mCons (mBin fIx (mBV 1) (mBV 2)) mNil)))))) (sRet (mC (.bl false))) sNop))
    (sRet (mC (.bl true)))))) sNop)
    (sSeq (sIf (mTest (mB (mBin fIsN (mBV 1) (mB (mC .non))))) (sRet (mBin fIsN (mBV 0) (mB (mC .non)))) sNop)
    (sSeq (sIf (mTest (mB (mUn (fIs .bool) (mBV 1)))) (sRet (mAnd (mB (mUn (fIs .bool) (mBV 0))) (mB (mBin fEq (mBV 0) (mBV 1))))) sNop)
    (sSeq (sIf (mTest (mB (mUn (fIs .str) (mBV 1)))) (sRet (mAnd (mB (mUn (fIs .str) (mBV 0))) (mB (mBin fEq (mBV 0) (mBV 1))))) sNop)
    (sRet (mAnd (mB (mUn (fIs .int) (mBV 0))) (mB (mAnd (mB (mNot (mB (mUn (fIs .bool) (mBV 0))))) (mB (mBin fEq (mBV 0) (mBV 1)))))))))))
/-! data without objects, whose texts can be compared -/
mutual
def goodD : Nat → D → Bool
  | _, .non => true
  | _, .bl _ => true
  | _, .int _ => true
  | _, .str z => okE (.str z)
  | k + 1, .tup xs => decide (xs.length ≤ 1000000) && goodL k xs
  | k + 1, .lst xs => decide (xs.length ≤ 1000000) && goodL k xs
  | _, _ => false
def goodL : Nat → List D → Bool
  | _, [] => true
  | k, x :: xs => goodD k x && goodL k xs
end
theorem goodL_get {k : Nat} : ∀ {xs : List D} {i : Nat} {d : D}, goodL k xs = true → xs[i]? = some d → goodD k d = true
  | [], i, d, h, e => by simp at e
  | x :: xs, 0, d, h, e => by
    unfold goodL at h
    rw [Bool.and_eq_true] at h
    cases e
    exact h.1
  | x :: xs, i + 1, d, h, e => by
    unfold goodL at h
    rw [Bool.and_eq_true] at h
    exact goodL_get h.2 (by simpa using e)
theorem fNe_bl (b : Bool) : fNe (.bl b) (.bl b) = .ok (.fr (.bl false)) := by cases b <;> with_unfolding_all rfl
theorem fEq_bl (b : Bool) : fEq (.bl b) (.bl b) = .ok (.fr (.bl true)) := by cases b <;> with_unfolding_all rfl
theorem fEq_int (a b : Int) : fEq (.int a) (.int b) = .ok (.fr (.bl (decide (a = b)))) := by
  show R.ok (Sl.fr (.bl (eqD (.int a) (.int b)))) = _
  rw [show eqD (.int a) (.int b) = (a == b) by unfold eqD; rfl]
  rfl
theorem fNe_int (a b : Int) : fNe (.int a) (.int b) = .ok (.fr (.bl (!decide (a = b)))) := by
  show R.ok (Sl.fr (.bl (!eqD (.int a) (.int b)))) = _
  rw [show eqD (.int a) (.int b) = (a == b) by unfold eqD; rfl]
  rfl
theorem fEq_str {z : Str} (h : okE (.str z) = true) : fEq (.str z) (.str z) = .ok (.fr (.bl true)) := by
  unfold fEq
  rw [h]
  show R.ok (Sl.fr (.bl (eqD (.str z) (.str z)))) = _
  rw [show eqD (.str z) (.str z) = (z == z) by unfold eqD; rfl, beq_self_eq_true]
theorem ix_at {xs : List D} {k : Nat} {d : D} (h : xs[k]? = some d) : atD xs (k : Int) = .ok (.fr d) := by
  have hk : k < xs.length := (List.getElem?_eq_some_iff.mp h).1
  unfold atD ixD
  rw [if_pos (Int.natCast_nonneg k), if_pos (by omega)]
  show (match xs[(k : Int).toNat]? with | some d => R.ok (Sl.fr d) | none => .st) = _
  rw [Int.toNat_natCast, h]
abbrev samebody (self : Fn) : MS := sIf (tNotM (mTest (mB (mCall self (mCons (mBin fIx (mBV 0) (mBV 2)) (mCons (mBin fIx (mBV 1) (mBV 2)) mNil)))))) (sRet (mC (.bl false))) sNop
theorem same_loop {self : Fn} {d : D} {xs : List D} (hd : ∀ (k : Nat) (e : D), xs[k]? = some e → fIx d (.int k) = .ok (.fr e)) (hs : ∀ (k : Nat) (e : D), xs[k]? = some e → self [e, e] = .ok (.fr (.bl true))) : ∀ (ks : List Nat) (a : Option Sl), (∀ k ∈ ks, k < xs.length) →
    ∃ a', forM (Pt.nm 2).go (samebody self) (ks.map fun k : Nat => .int (k : Int)) [some (.fr d), some (.fr d), a] = .nx [some (.fr d), some (.fr d), a']
  | [], a, _ => ⟨a, rfl⟩
  | k :: ks, a, hk => by
    obtain ⟨z, hz⟩ : ∃ z, xs[k]? = some z := ⟨_, List.getElem?_eq_getElem (hk k List.mem_cons_self)⟩
    obtain ⟨a', ih⟩ := same_loop hd hs ks (some (.fr (.int (k : Int)))) fun k m => hk k (List.mem_cons_of_mem _ m)
    refine ⟨a', ?_⟩
    have df : ∀ d, (Sl.fr d).d = d := fun _ => rfl
    have e : samebody self [some (.fr d), some (.fr d), some (.fr (.int (k : Int)))] = .nx [some (.fr d), some (.fr d), some (.fr (.int (k : Int)))] := by
      unfold samebody
      simp only [sIf, tNotM, mTest, mB, mCall, mCons, mNil, mBin, mBV, R.bind, List.getElem?_cons_zero, List.getElem?_cons_succ, df, hd k z hz, hs k z hz, asB, Bool.not_true]
      rfl
    have st : forM (Pt.nm 2).go (samebody self) ((k :: ks).map fun k : Nat => .int (k : Int)) [some (.fr d), some (.fr d), a] = match samebody self [some (.fr d), some (.fr d), some (.fr (.int (k : Int)))] with
      | .nx e => forM (Pt.nm 2).go (samebody self) (ks.map fun k : Nat => .int (k : Int)) e
      | .ct e => forM (Pt.nm 2).go (samebody self) (ks.map fun k : Nat => .int (k : Int)) e
      | .bk e => .nx e
      | .rt s => .rt s
      | .ex c p e => .ex c p e
      | .st => .st := rfl
    rw [st, e]
    exact ih
/-- what is the same value is told to be the same -/
theorem same_ok : ∀ (k : Nat) (d : D), goodD k d = true → recF 2 3 m_same (k + 1) [d, d] = .ok (.fr (.bl true))
  | k, .non, h => by
    unfold recF m_same
    simp [runF, env0, fin, sSeq, sSet, sIf, sRet, sRetV, sDrop, sFrz, frz, frz1, sNop, sTry, mAnd, mOr, mNot, mB, mBin, mUn, mCall, mCons, mNil, bCons, bNil, mBV, mVar, mC, mTest, tNotM, tAndM, tOrM, R.bind, Sl.d, asB, fIs, fIsN, DL.isNon]
  | k, .bl b, h => by
    unfold recF m_same
    simp [runF, env0, fin, sSeq, sSet, sIf, sRet, sRetV, sDrop, sFrz, frz, frz1, sNop, sTry, mAnd, mOr, mNot, mB, mBin, mUn, mCall, mCons, mNil, bCons, bNil, mBV, mVar, mC, mTest, tNotM, tAndM, tOrM, R.bind, Sl.d, asB, fIs, fIsN, DL.isNon, fEq_bl]
  | k, .int i, h => by
    unfold recF m_same
    simp [runF, env0, fin, sSeq, sSet, sIf, sRet, sRetV, sDrop, sFrz, frz, frz1, sNop, sTry, mAnd, mOr, mNot, mB, mBin, mUn, mCall, mCons, mNil, bCons, bNil, mBV, mVar, mC, mTest, tNotM, tAndM, tOrM, R.bind, Sl.d, asB, fIs, fIsN, DL.isNon, fEq_int]
  | k, .str z, h => by
    have e := fEq_str (z := z) (by simpa [goodD] using h)
    unfold recF m_same
    simp [runF, env0, fin, sSeq, sSet, sIf, sRet, sRetV, sDrop, sFrz, frz, frz1, sNop, sTry, mAnd, mOr, mNot, mB, mBin, mUn, mCall, mCons, mNil, bCons, bNil, mBV, mVar, mC, mTest, tNotM, tAndM, tOrM, R.bind, Sl.d, asB, fIs, fIsN, DL.isNon, e]
  | k + 1, .tup xs, h => by
    rw [goodD, Bool.and_eq_true, decide_eq_true_iff] at h
    obtain ⟨hl, hg⟩ := h
    obtain ⟨a', lp⟩ := same_loop (self := recF 2 3 m_same (k + 1)) (d := .tup xs) (xs := xs) (fun j e q => ix_at q) (fun j e q => same_ok k e (goodL_get hg q)) (List.range xs.length) none fun j m => List.mem_range.mp m
    have l3 : (xs.length : Int) ≤ big := by unfold big; omega
    have l4 : -big ≤ (xs.length : Int) := by unfold big; omega
    have hln : fLen [.tup xs] = .ok (.fr (.int xs.length)) := rfl
    rw [recF]
    obtain ⟨self, hself⟩ : ∃ self, recF 2 3 m_same (k + 1) = self := ⟨_, rfl⟩
    rw [hself] at lp ⊢
    unfold m_same
    simp [runF, env0, fin, sSeq, sSet, sIf, sRet, sRetV, sDrop, sFrz, frz, frz1, sNop, sTry, mAnd, mOr, mNot, mB, mBin, mUn, mCall, mCons, mNil, bCons, bNil, mBV, mVar, mC, mTest, tNotM, tAndM, tOrM, R.bind, Sl.d, asB, fIs, fNe_bl, fNe_int, hln, sFor, mRng1, l3, l4, rangeD_nat, lp]
  | k + 1, .lst xs, h => by
    rw [goodD, Bool.and_eq_true, decide_eq_true_iff] at h
    obtain ⟨hl, hg⟩ := h
    obtain ⟨a', lp⟩ := same_loop (self := recF 2 3 m_same (k + 1)) (d := .lst xs) (xs := xs) (fun j e q => ix_at q) (fun j e q => same_ok k e (goodL_get hg q)) (List.range xs.length) none fun j m => List.mem_range.mp m
    have l3 : (xs.length : Int) ≤ big := by unfold big; omega
    have l4 : -big ≤ (xs.length : Int) := by unfold big; omega
    have hln : fLen [.lst xs] = .ok (.fr (.int xs.length)) := rfl
    rw [recF]
    obtain ⟨self, hself⟩ : ∃ self, recF 2 3 m_same (k + 1) = self := ⟨_, rfl⟩
    rw [hself] at lp ⊢
    unfold m_same
    simp [runF, env0, fin, sSeq, sSet, sIf, sRet, sRetV, sDrop, sFrz, frz, frz1, sNop, sTry, mAnd, mOr, mNot, mB, mBin, mUn, mCall, mCons, mNil, bCons, bNil, mBV, mVar, mC, mTest, tNotM, tAndM, tOrM, R.bind, Sl.d, asB, fIs, fNe_bl, fNe_int, hln, sFor, mRng1, l3, l4, rangeD_nat, lp]
  | 0, .tup xs, h => by simp [goodD] at h
  | 0, .lst xs, h => by simp [goodD] at h
  | 0, .obj c fs, h => by simp [goodD] at h
  | k + 1, .obj c fs, h => by simp [goodD] at h

/-! ### _law_cell -/
def m_cell : MS := (sSeq (sIf (mTest (mB (mBin fLt (mBV 1) (mB (mCall fLen (bCons (mBV 0) bNil)))))) (sRet (mCall fInt (bCons (mB (mBin fIx (mBV 0) (mBV 1))) bNil))) sNop)
    (sSeq (sIf (mTest (mB (mBin fGt (mB (mCall fLen (bCons (mBV 0) bNil))) (mB (mC (.int 0)))))) (sRet (mBin fAddL (mB (mBin fMul (mB (mCall fInt (bCons (mB (mBin fIx (mBV 0) (mB (mC (.int 0))))) bNil))) (mB (mBin fAddL (mB (mBin fMul (mB (mC (.int 2))) (mBV 1))) (mB (mC (.int 3))))))) (mB (mBin fMul (mB (mC (.int 977))) (mBV 1))))) sNop)
    (sRet (mBin fMul (mB (mC (.int 977))) (mBV 1)))))
def f_cell : Fn := runF 2 2 m_cell
theorem fMul_small (a : Int) {b : Int} (h : b.natAbs < 2 ^ 64) : fMul (.int a) (.int b) = .ok (.fr (.int (a * b))) := fMul_right h
/-- a cell of the script is an int -/
theorem cell_ok (ns : List Int) {k : Nat} (hk : k ≤ 1000) : ∃ v : Int, f_cell [.lst (ns.map .int), .int k] = .ok (.fr (.int v)) := by
  have hlen : fLen [.lst (ns.map .int)] = .ok (.fr (.int ns.length)) := by
    show R.ok (Sl.fr (.int ((ns.map D.int).length : Int))) = _
    rw [List.length_map]
  have ix : ∀ (j : Nat) (a : Int), ns[j]? = some a → fIx (.lst (ns.map .int)) (.int j) = .ok (.fr (.int a)) := fun j a h => by
    have := ix_at (xs := ns.map D.int) (k := j) (d := .int a) (by rw [List.getElem?_map, h]; rfl)
    exact this
  have m977 : fMul (.int 977) (.int k) = .ok (.fr (.int (977 * k))) := fMul_left (by decide)
  have m2 : fMul (.int 2) (.int k) = .ok (.fr (.int (2 * k))) := fMul_left (by decide)
  unfold f_cell m_cell
  by_cases c : k < ns.length
  · have e1 := ix k ns[k] (List.getElem?_eq_getElem c)
    have ci : ((k : Int) < (ns.length : Int)) := by omega
    exact ⟨ns[k], by simp [runF, env0, fin, sSeq, sSet, sIf, sRet, sRetV, sDrop, sFrz, frz, frz1, sNop, sTry, mAnd, mOr, mNot, mB, mBin, mUn, mCall, mCons, mNil, bCons, bNil, mBV, mVar, mC, mTest, tNotM, tAndM, tOrM, R.bind, Sl.d, asB, hlen, fLt, e1, ci, fInt]⟩
  · have ci : ¬ ((k : Int) < (ns.length : Int)) := by omega
    by_cases c0 : 0 < ns.length
    · have e0 := ix 0 ns[0] (List.getElem?_eq_getElem c0)
      have e0' : fIx (.lst (ns.map .int)) (.int 0) = .ok (.fr (.int ns[0])) := e0
      have c0' : (0 : Int) < (ns.length : Int) := by omega
      have mm : fMul (.int ns[0]) (.int (2 * (k : Int) + 3)) = .ok (.fr (.int (ns[0] * (2 * (k : Int) + 3)))) := fMul_right (by omega)
      exact ⟨ns[0] * (2 * (k : Int) + 3) + 977 * k, by simp [runF, env0, fin, sSeq, sSet, sIf, sRet, sRetV, sDrop, sFrz, frz, frz1, sNop, sTry, mAnd, mOr, mNot, mB, mBin, mUn, mCall, mCons, mNil, bCons, bNil, mBV, mVar, mC, mTest, tNotM, tAndM, tOrM, R.bind, Sl.d, asB, hlen, fLt, fGt, ci, c0, e0', fInt, m977, m2, mm, fAddL_int]⟩
    · have c0' : ¬ (0 : Int) < (ns.length : Int) := by omega
      exact ⟨977 * k, by simp [runF, env0, fin, sSeq, sSet, sIf, sRet, sRetV, sDrop, sFrz, frz, frz1, sNop, sTry, mAnd, mOr, mNot, mB, mBin, mUn, mCall, mCons, mNil, bCons, bNil, mBV, mVar, mC, mTest, tNotM, tAndM, tOrM, R.bind, Sl.d, asB, hlen, fLt, fGt, ci, c0, fInt, m977]⟩
end DM
set_option Elab.async false
set_option linter.all false
set_option maxRecDepth 100000
set_option maxHeartbeats 4000000
namespace DM
open PySem PySem.Spec L2 DL
open PyProof.Rows hiding St
/-! ### tuples of ints, pairs of ints -/
abbrev tupI (xs : List Int) : D := .tup (xs.map .int)
abbrev pr (p : Int × Int) : D := .tup [.int p.1, .int p.2]
theorem rangeD_rng (n : Nat) : rangeD 0 n = (rng n).map .int := by
  unfold rangeD rng
  rw [List.map_map]
  refine List.map_congr_left fun i _ => ?_
  show D.int (0 + (i : Int)) = D.int (i : Int)
  rw [Int.zero_add]
theorem fLen_tupI (xs : List Int) : fLen [tupI xs] = .ok (.fr (.int xs.length)) := by
  show R.ok (Sl.fr (.int ((xs.map D.int).length : Int))) = _
  rw [List.length_map]
theorem fLen_lstI (xs : List Int) : fLen [.lst (xs.map .int)] = .ok (.fr (.int xs.length)) := by
  show R.ok (Sl.fr (.int ((xs.map D.int).length : Int))) = _
  rw [List.length_map]
theorem okE_int (a : Int) : okE (.int a) = true := rfl
theorem okE7 : ∀ xs : List Int, xs.length ≤ 7 → okE (.lst (xs.map .int)) = true
  | [], _ => rfl
  | [_], _ => rfl
  | [_, _], _ => rfl
  | [_, _, _], _ => rfl
  | [_, _, _, _], _ => rfl
  | [_, _, _, _, _], _ => rfl
  | [_, _, _, _, _, _], _ => rfl
  | [_, _, _, _, _, _, _], _ => rfl
  | _ :: _ :: _ :: _ :: _ :: _ :: _ :: _ :: _, h => absurd h (by simp only [List.length_cons]; omega)
theorem okT7 : ∀ xs : List Int, xs.length ≤ 7 → okE (tupI xs) = true
  | [], _ => rfl
  | [_], _ => rfl
  | [_, _], _ => rfl
  | [_, _, _], _ => rfl
  | [_, _, _, _], _ => rfl
  | [_, _, _, _, _], _ => rfl
  | [_, _, _, _, _, _], _ => rfl
  | [_, _, _, _, _, _, _], _ => rfl
  | _ :: _ :: _ :: _ :: _ :: _ :: _ :: _ :: _, h => absurd h (by simp only [List.length_cons]; omega)
theorem fEq_lst {xs ys : List Int} (hx : xs.length ≤ 7) (hy : ys.length ≤ 7) : fEq (.lst (xs.map .int)) (.lst (ys.map .int)) = .ok (.fr (.bl (decide (xs = ys)))) := by
  unfold fEq
  rw [okE7 xs hx, okE7 ys hy, ← eqDL_ints]
  show (if true = true then R.ok (Sl.fr (.bl (eqD (.lst (xs.map .int)) (.lst (ys.map .int))))) else _) = _
  rw [if_pos rfl]
  unfold eqD
  rfl
theorem fEq_tup {xs ys : List Int} (hx : xs.length ≤ 7) (hy : ys.length ≤ 7) : fEq (tupI xs) (tupI ys) = .ok (.fr (.bl (decide (xs = ys)))) := by
  unfold fEq
  rw [okT7 xs hx, okT7 ys hy, ← eqDL_ints]
  show (if true = true then R.ok (Sl.fr (.bl (eqD (.tup (xs.map .int)) (.tup (ys.map .int))))) else _) = _
  rw [if_pos rfl]
  unfold eqD
  rfl
theorem fIx_tupI {xs : List Int} {k : Nat} {a : Int} (h : xs[k]? = some a) : fIx (tupI xs) (.int k) = .ok (.fr (.int a)) :=
  ix_at (xs := xs.map D.int) (by rw [List.getElem?_map, h]; rfl)
theorem fIx_lstI {xs : List Int} {k : Nat} {a : Int} (h : xs[k]? = some a) : fIx (.lst (xs.map .int)) (.int k) = .ok (.fr (.int a)) := fIx_tupI h
theorem ix_neg {xs : List D} {k : Nat} {d : D} (hk : 0 < k) (hl : k ≤ xs.length) (h : xs[xs.length - k]? = some d) : atD xs (-(k : Int)) = .ok (.fr d) := by
  unfold atD ixD
  rw [if_neg (by omega), if_pos (by omega)]
  show (match xs[(-(k : Int) + (xs.length : Int)).toNat]? with | some d => R.ok (Sl.fr d) | none => .st) = _
  rw [show (-(k : Int) + (xs.length : Int)).toNat = xs.length - k by omega, h]
theorem fIx_tupN {xs : List Int} {k : Nat} {a : Int} (hk : 0 < k) (hl : k ≤ xs.length) (h : xs[xs.length - k]? = some a) : fIx (tupI xs) (.int (-(k : Int))) = .ok (.fr (.int a)) :=
  ix_neg (xs := xs.map D.int) hk (by simpa using hl) (by rw [List.length_map, List.getElem?_map, h]; rfl)
/-! ### slices -/
theorem cutD_map {α β : Type} (f : α → β) (xs : List α) (lo hi : Option Int) : cutD (xs.map f) lo hi = (cutD xs lo hi).map f := by
  unfold DL.cutD
  rw [List.length_map, ← List.map_drop, ← List.map_take]
theorem cut_from {α : Type} (xs : List α) {k : Nat} (h : k ≤ xs.length) : cutD xs (some (k : Int)) none = xs.drop k := by
  unfold DL.cutD
  rw [HT.sIx_nat, HT.sIx_none, Nat.min_eq_left h, List.take_of_length_le (by rw [List.length_drop]; omega)]
theorem cut_to {α : Type} (xs : List α) {k : Nat} (h : k ≤ xs.length) : cutD xs none (some (k : Int)) = xs.take k := by
  unfold DL.cutD
  rw [HT.sIx_nat, HT.sIx_none, Nat.min_eq_left h, List.drop_zero, Nat.sub_zero]
theorem cut_mid {α : Type} (xs : List α) {a b : Nat} (h : b ≤ xs.length) (hab : a ≤ b) : cutD xs (some (a : Int)) (some (b : Int)) = (xs.drop a).take (b - a) := by
  unfold DL.cutD
  rw [HT.sIx_nat, HT.sIx_nat, Nat.min_eq_left h, Nat.min_eq_left (by omega)]
theorem fSl_from {xs : List Int} {k : Nat} (h : k ≤ xs.length) : fSl (tupI xs) (some (k : Int)) none = .ok (.fr (tupI (xs.drop k))) := by
  show R.ok (Sl.fr (.tup (cutD (xs.map D.int) _ _))) = _
  rw [cutD_map, cut_from xs h]
theorem fSl_to {xs : List Int} {k : Nat} (h : k ≤ xs.length) : fSl (tupI xs) none (some (k : Int)) = .ok (.fr (tupI (xs.take k))) := by
  show R.ok (Sl.fr (.tup (cutD (xs.map D.int) _ _))) = _
  rw [cutD_map, cut_to xs h]
theorem fAddL_tup {xs ys : List Int} (h : xs.length + ys.length ≤ 1000000) : fAddL (tupI xs) (tupI ys) = .ok (.fr (tupI (xs ++ ys))) := by
  show (if (xs.map D.int).length + (ys.map D.int).length ≤ lim then R.ok (Sl.fr (.tup (xs.map D.int ++ ys.map D.int))) else .st) = _
  rw [List.length_map, List.length_map, if_pos (show xs.length + ys.length ≤ lim from h), ← List.map_append]
theorem pick_back {α : Type} (xs : List α) : ∀ m : Nat, m ≤ xs.length → pick xs ((List.range m).map fun (k : Nat) => ((xs.length : Int) - 1 + (k : Int) * (-1)).toNat) = (xs.drop (xs.length - m)).reverse
  | 0, _ => by
    rw [Nat.sub_zero, List.drop_length]
    rfl
  | m + 1, h => by
    have ih := pick_back xs m (by omega)
    have e : xs.drop (xs.length - (m + 1)) = xs[xs.length - (m + 1)] :: xs.drop (xs.length - m) := by
      rw [List.drop_eq_getElem_cons (by omega), show xs.length - (m + 1) + 1 = xs.length - m by omega]
    rw [e, List.reverse_cons, ← ih, List.range_succ, List.map_append]
    unfold pick
    rw [List.filterMap_append]
    congr 1
    show [((xs.length : Int) - 1 + (m : Int) * (-1)).toNat].filterMap (xs[·]?) = _
    rw [show ((xs.length : Int) - 1 + (m : Int) * (-1)).toNat = xs.length - (m + 1) by omega, List.filterMap_cons, List.getElem?_eq_getElem (by omega)]
    rfl
theorem backN_all (n : Nat) : backN n none none = ((n : Int) - 1, n) := by
  unfold backN Builtin.Slice.sliceAdjust Builtin.Slice.slicePlaces
  simp
  by_cases h : 0 < n
  · rw [if_pos (by omega)]; omega
  · rw [if_neg (by omega)]; omega
theorem backN_0 (n : Nat) : backN n none (some 0) = ((n : Int) - 1, n - 1) := by
  unfold backN Builtin.Slice.sliceAdjust Builtin.Slice.slicePlaces
  simp
  by_cases h : 1 < n
  · rw [show min (0 : Int) ((n : Int) - 1) = 0 by omega, if_pos (by omega)]; omega
  · rw [if_neg (by omega)]; omega
theorem back0 (xs : List Int) (h : xs.length ≤ 1000) : fSlB (tupI xs) none (some 0) = .ok (.fr (tupI ((xs.drop 1).reverse))) := by
  have e : pick (xs.map D.int) (backIx (xs.map D.int).length none (some 0)) = ((xs.drop 1).reverse).map .int := by
    unfold backIx
    rw [backN_0, pick_back (xs.map D.int) _ (by omega), ← List.map_drop, ← List.map_reverse, List.length_map]
    by_cases c : xs.length = 0
    · rw [List.length_eq_zero_iff.mp c]; rfl
    · rw [show xs.length - (xs.length - 1) = 1 by omega]
  show (if (backIx (xs.map D.int).length none (some 0)).length ≤ lim then R.ok (Sl.fr (.tup (pick (xs.map D.int) (backIx (xs.map D.int).length none (some 0))))) else .st) = _
  rw [e, if_pos]
  unfold backIx
  rw [backN_0, List.length_map, List.length_range, List.length_map]
  show xs.length - 1 ≤ 1000000
  omega
theorem backA (xs : List Int) (h : xs.length ≤ 1000) : fSlB (tupI xs) none none = .ok (.fr (tupI xs.reverse)) := by
  have e : pick (xs.map D.int) (backIx (xs.map D.int).length none none) = (xs.reverse).map .int := by
    unfold backIx
    rw [backN_all, pick_back (xs.map D.int) _ (Nat.le_refl _), Nat.sub_self, List.drop_zero, ← List.map_reverse]
  show (if (backIx (xs.map D.int).length none none).length ≤ lim then R.ok (Sl.fr (.tup (pick (xs.map D.int) (backIx (xs.map D.int).length none none)))) else .st) = _
  rw [e, if_pos]
  unfold backIx
  rw [backN_all, List.length_map, List.length_range, List.length_map]
  show xs.length ≤ 1000000
  omega
/-! ### index -/
def idxA (a : Int) : List Int → Nat → Option Nat
  | [], _ => none
  | x :: xs, n => if x = a then some n else idxA a xs (n + 1)
theorem eqD_int (a b : Int) : eqD (.int a) (.int b) = decide (a = b) := by
  rw [show eqD (.int a) (.int b) = (a == b) by unfold eqD; rfl]; rfl
theorem fIdx_int (a : Int) : ∀ (xs : List Int) (n : Nat), fIdxAux (.int a) (xs.map .int) n = idxA a xs n
  | [], n => rfl
  | x :: xs, n => by
    show (if eqD (.int x) (.int a) = true then some n else fIdxAux (.int a) (xs.map .int) (n + 1)) = if x = a then some n else idxA a xs (n + 1)
    rw [eqD_int, fIdx_int a xs (n + 1)]
    by_cases h : x = a <;> simp [h]
theorem idxA_mem {a : Int} : ∀ {xs : List Int} (n : Nat), a ∈ xs → ∃ j, idxA a xs n = some (n + j) ∧ j < xs.length
  | x :: xs, n, h => by
    unfold idxA
    by_cases e : x = a
    · exact ⟨0, by rw [if_pos e]; rfl, by simp⟩
    · rcases List.mem_cons.mp h with q | q
      · exact absurd q.symm e
      · obtain ⟨j, h1, h2⟩ := idxA_mem (n + 1) q
        exact ⟨j + 1, by rw [if_neg e, h1]; congr 1; omega, by simp; omega⟩
theorem flat_ints (a : Int) (xs : List Int) : (flatD (.int a) && (xs.map D.int).all flatD) = true := by
  rw [Bool.and_eq_true]
  refine ⟨rfl, List.all_eq_true.mpr fun d m => ?_⟩
  obtain ⟨i, _, rfl⟩ := List.mem_map.mp m
  rfl
theorem fTupIdx_int {a : Int} {xs : List Int} {j : Nat} (h : idxA a xs 0 = some j) : fTupIdx (tupI xs) (.int a) = .ok (.fr (.int j)) := by
  show (if (flatD (.int a) && (xs.map D.int).all flatD) = true then match fIdxAux (.int a) (xs.map D.int) 0 with | some j => R.ok (Sl.fr (.int j)) | none => .st else .st) = _
  rw [flat_ints, if_pos rfl, fIdx_int, h]
theorem fLstIdx_int {a : Int} {xs : List Int} {j : Nat} (hx : xs.length ≤ 7) (h : idxA a xs 0 = some j) : fLstIdx (.lst (xs.map .int)) (.int a) = .ok (.fr (.int j)) := by
  show (if (okE (.lst (xs.map D.int)) && okE (.int a)) = true then match fIdxAux (.int a) (xs.map D.int) 0 with | some j => R.ok (Sl.fr (.int j)) | none => .st else .st) = _
  rw [okE7 xs hx, okE_int, fIdx_int, h]
  rfl
/-! ### pairs, sorted -/
def leP (p q : Int × Int) : Bool := decide (p.1 < q.1 ∨ (p.1 = q.1 ∧ p.2 ≤ q.2))
theorem leD_pr (p q : Int × Int) : leD (pr p) (pr q) = leP p q := congrFun (congrFun (PySem.W.dataLe_ii (fun p : Int × Int => p.1) (fun p : Int × Int => p.2)) p) q
theorem ins_prs (a : Int × Int) : ∀ xs : List (Int × Int), ins leD (pr a) (xs.map pr) = (ins leP a xs).map pr
  | [] => rfl
  | x :: xs => by
    show ins leD (pr a) (pr x :: xs.map pr) = _
    unfold ins
    rw [leD_pr, ins_prs a xs]
    show (if leP a x = true then _ else _) = _
    split <;> rfl
theorem isort_prs : ∀ xs : List (Int × Int), isort leD (xs.map pr) = (isort leP xs).map pr
  | [] => rfl
  | x :: xs => by
    show ins leD (pr x) (isort leD (xs.map pr)) = (ins leP x (isort leP xs)).map pr
    rw [isort_prs xs, ins_prs]
theorem okSort_prs (xs : List (Int × Int)) (h : xs.length ≤ lim) : okSort (xs.map pr) = true := by
  have e1 : ((xs.map pr).all fun a => noObj a && decide ((toPy a).depth ≤ 60)) = true := by
    rw [List.all_eq_true]
    intro d m
    obtain ⟨a, _, rfl⟩ := List.mem_map.mp m
    rfl
  have e2 : ((xs.map pr).all fun a => (xs.map pr).all fun b => PySem.W.alike (toPy a) (toPy b)) = true := by
    rw [List.all_eq_true]
    intro d m
    rw [List.all_eq_true]
    intro d2 m2
    obtain ⟨a, _, rfl⟩ := List.mem_map.mp m
    obtain ⟨b, _, rfl⟩ := List.mem_map.mp m2
    rfl
  have e3 : (xs.map pr).all isTupC = true := by
    rw [List.all_eq_true]
    intro d m
    obtain ⟨a, _, rfl⟩ := List.mem_map.mp m
    rfl
  unfold okSort
  rw [e1, e2, e3, decide_eq_true (show (xs.map pr).length ≤ lim by rw [List.length_map]; exact h)]
  rfl
theorem fSorted_prs (xs : List (Int × Int)) (h : xs.length ≤ lim) : fSorted [.lst (xs.map pr)] = .ok (.ow ((isort leP xs).map pr)) := by
  show (if okSort (xs.map pr) = true then _ else _) = _
  rw [if_pos (okSort_prs xs h), isort_prs]
/-! ### comprehensions and loops -/
theorem compL_map {α : Type} {as : D → En → Option En} {t : En → R Bool} {me : M} {env : En} {f : α → D} {g : α → D} : ∀ {xs : List α},
    (∀ a ∈ xs, ∃ e1 s, as (f a) env = some e1 ∧ t e1 = .ok true ∧ me e1 = .ok s ∧ s.d = g a) → compL as t me env (xs.map f) = .ok (xs.map g)
  | [], _ => rfl
  | a :: xs, h => by
    obtain ⟨e1, s, h1, h2, h3, h4⟩ := h a List.mem_cons_self
    have ih := compL_map fun b m => h b (List.mem_cons_of_mem _ m)
    show compL as t me env (f a :: xs.map f) = _
    unfold compL
    rw [h1]
    show ((t e1).quiet.bind fun b => if b = true then (me e1).quiet.bind fun s => (compL as t me env (xs.map f)).bind fun r => .ok (s.d :: r) else compL as t me env (xs.map f)) = _
    rw [h2, ih]
    show ((me e1).quiet.bind fun s => R.ok (s.d :: xs.map g)) = _
    rw [h3]
    show R.ok (s.d :: xs.map g) = _
    rw [h4]
    rfl
theorem compL_filter {α : Type} {as : D → En → Option En} {t : En → R Bool} {me : M} {env : En} {f : α → D} {g : α → D} {p : α → Bool} : ∀ {xs : List α},
    (∀ a ∈ xs, ∃ e1, as (f a) env = some e1 ∧ t e1 = .ok (p a) ∧ (p a = true → ∃ s, me e1 = .ok s ∧ s.d = g a)) → compL as t me env (xs.map f) = .ok ((xs.filter p).map g)
  | [], _ => rfl
  | a :: xs, h => by
    obtain ⟨e1, h1, h2, h3⟩ := h a List.mem_cons_self
    have ih := compL_filter fun b m => h b (List.mem_cons_of_mem _ m)
    show compL as t me env (f a :: xs.map f) = _
    unfold compL
    rw [h1]
    show ((t e1).quiet.bind fun b => if b = true then (me e1).quiet.bind fun s => (compL as t me env (xs.map f)).bind fun r => .ok (s.d :: r) else compL as t me env (xs.map f)) = _
    rw [h2, ih]
    cases hp : p a with
    | true =>
      obtain ⟨s, h4, h5⟩ := h3 hp
      show ((me e1).quiet.bind fun s => R.ok (s.d :: (xs.filter p).map g)) = _
      rw [h4, List.filter_cons, hp, if_pos rfl]
      show R.ok (s.d :: (xs.filter p).map g) = _
      rw [h5]
      rfl
    | false =>
      rw [List.filter_cons, hp]
      rfl
/-- a loop's invariant over what is left -/
theorem forM_inv {as : D → En → Option En} {b : MS} {P : List D → En → Prop} (step : ∀ d ds env, P (d :: ds) env → ∃ e1 e2, as d env = some e1 ∧ (b e1 = .nx e2 ∨ b e1 = .ct e2) ∧ P ds e2) : ∀ (ds : List D) (env : En), P ds env → ∃ e2, forM as b ds env = .nx e2 ∧ P [] e2
  | [], env, h => ⟨env, rfl, h⟩
  | d :: ds, env, h => by
    obtain ⟨e1, e2, h1, h2, h3⟩ := step d ds env h
    obtain ⟨e3, h4, h5⟩ := forM_inv step ds e2 h3
    refine ⟨e3, ?_, h5⟩
    unfold DL.forM
    rw [h1]
    rcases h2 with h2 | h2
    · show (match b e1 with | .nx e => forM as b ds e | .ct e => forM as b ds e | .bk e => .nx e | .rt s => .rt s | .ex c p e => .ex c p e | .st => .st) = _
      rw [h2]; exact h4
    · show (match b e1 with | .nx e => forM as b ds e | .ct e => forM as b ds e | .bk e => .nx e | .rt s => .rt s | .ex c p e => .ex c p e | .st => .st) = _
      rw [h2]; exact h4
/-- a loop that only looks: each turn ends where it may, and leaves the environment but for its variable -/
theorem forM_each {α : Type} {i : Nat} {b : MS} {f : α → D} {env : En} : ∀ (xs : List α) (o : Option Sl), (∀ a ∈ xs, ∃ w, b (env.set i (some (.fr (f a)))) = .nx (w) ∧ ∃ o, w = env.set i o) →
    (∃ o', forM (Pt.nm i).go b (xs.map f) (env.set i o) = .nx (env.set i o'))
  | [], o, _ => ⟨o, rfl⟩
  | a :: xs, o, h => by
    obtain ⟨w, h1, o1, rfl⟩ := h a List.mem_cons_self
    obtain ⟨o2, ih⟩ := forM_each xs o1 fun b m => h b (List.mem_cons_of_mem _ m)
    refine ⟨o2, ?_⟩
    by_cases hi : i < env.length
    · have hg : (Pt.nm i).go (f a) (env.set i o) = some (env.set i (some (.fr (f a)))) := by
        simp [Pt.go, hi]
      show forM (Pt.nm i).go b (f a :: xs.map f) (env.set i o) = _
      unfold DL.forM
      rw [hg]
      show (match b (env.set i (some (.fr (f a)))) with | .nx e => forM (Pt.nm i).go b (xs.map f) e | .ct e => forM (Pt.nm i).go b (xs.map f) e | .bk e => .nx e | .rt s => .rt s | .ex c p e => .ex c p e | .st => .st) = _
      rw [h1]
      exact ih
    · have hg : (Pt.nm i).go (f a) (env.set i o) = some (env.set i (some (.fr (f a)))) := by
        simp [Pt.go, hi]
      show forM (Pt.nm i).go b (f a :: xs.map f) (env.set i o) = _
      unfold DL.forM
      rw [hg]
      show (match b (env.set i (some (.fr (f a)))) with | .nx e => forM (Pt.nm i).go b (xs.map f) e | .ct e => forM (Pt.nm i).go b (xs.map f) e | .bk e => .nx e | .rt s => .rt s | .ex c p e => .ex c p e | .st => .st) = _
      rw [h1]
      exact ih
/-! ### all orders of a list -/
def insAll (x : Int) : List Int → List (List Int)
  | [] => [[x]]
  | y :: ys => (x :: y :: ys) :: (insAll x ys).map (y :: ·)
def perms : List Int → List (List Int)
  | [] => [[]]
  | x :: xs => (perms xs).flatMap (insAll x)
theorem mem_insAll (x : Int) : ∀ a b : List Int, a ++ x :: b ∈ insAll x (a ++ b)
  | [], [] => by simp [insAll]
  | [], y :: b => by simp [insAll]
  | z :: a, b => by
    have ih := mem_insAll x a b
    show z :: (a ++ x :: b) ∈ insAll x (z :: (a ++ b))
    unfold insAll
    exact List.mem_cons_of_mem _ (List.mem_map.mpr ⟨_, ih, rfl⟩)
theorem mem_perms : ∀ (ys xs : List Int), xs.Perm ys → xs ∈ perms ys
  | [], xs, h => by rw [List.perm_nil.mp h]; exact List.mem_cons_self
  | y :: ys, xs, h => by
    have hy : y ∈ xs := h.mem_iff.mpr List.mem_cons_self
    obtain ⟨a, b, rfl⟩ := List.append_of_mem hy
    have h2 : (a ++ b).Perm ys := List.Perm.cons_inv (List.perm_middle.symm.trans h)
    unfold perms
    exact List.mem_flatMap.mpr ⟨a ++ b, mem_perms ys _ h2, mem_insAll y a b⟩
end DM
set_option Elab.async false
set_option linter.all false
set_option maxRecDepth 100000
set_option maxHeartbeats 4000000
namespace DM
open PySem PySem.Spec L2 DL
open PyProof.Rows hiding St
/-! ### _law_factorial, _law_permutation -/
def m_factorial : MS := (sSeq (sSet 1 (mC (.int 1)))
    (sSeq (sFor (mRng1 (mBV 0)) (.nm 2) (sSet 1 (mBin fMul (mBV 1) (mB (mBin fAddL (mBV 2) (mB (mC (.int 1))))))))
    (sRetV 1)))
def f_factorial : Fn := runF 1 3 m_factorial
def isI (n : Int) : R Sl → Bool
  | .ok (.fr (.int m)) => decide (m = n)
  | _ => false
theorem isI_eq {r : R Sl} {n : Int} (h : isI n r = true) : r = .ok (.fr (.int n)) := by
  unfold isI at h
  split at h
  · rw [of_decide_eq_true h]
  · cases h
theorem fac_tab : (List.range 8).all (fun n => isI (facN n) (f_factorial [.int n])) = true := by decide +kernel
theorem fac_ok {n : Nat} (h : n ≤ 7) : f_factorial [.int n] = .ok (.fr (.int (facN n))) := isI_eq (List.all_eq_true.mp fac_tab n (List.mem_range.mpr (by omega)))
theorem facN_pos : ∀ n : Nat, 0 < facN n
  | 0 => by decide
  | n + 1 => Nat.mul_pos (facN_pos n) (by omega)
theorem facN_le {n : Nat} (h : n ≤ 7) : facN n ≤ 5040 := by
  have : (List.range 8).all (fun n => decide (facN n ≤ 5040)) = true := by decide +kernel
  exact of_decide_eq_true (List.all_eq_true.mp this n (List.mem_range.mpr (by omega)))
theorem getD_some {xs : List Int} {k : Nat} (h : k < xs.length) : xs[k]? = some (xs.getD k 0) := by
  rw [List.getElem?_eq_getElem h]
  simp [List.getD, h]
theorem getD_get {xs : List Int} {k : Nat} (h : k < xs.length) : xs.getD k 0 = xs[k] := by simp [List.getD, h]
abbrev pbody : MS := (sSeq (sSet 5 (mCall f_factorial (mCons (mBin fSub (mB (mBin fSub (mBV 0) (mB (mC (.int 1))))) (mBV 3)) mNil)))
    (sSeq (sAppPop 4 2 (mB (mBin fDiv (mBV 1) (mBV 5))))
    (sSet 1 (mBin fMod (mB (mCall fInt (bCons (mBV 1) bNil))) (mBV 5)))))
def m_perm : MS := (sSeq (sSet 2 (mComp (mRng1 (mBV 0)) (.nm 3) tYesM (mVar 3) [3]))
    (sSeq (sSet 4 (mCall fLst mNil))
    (sSeq (sFor (mRng1 (mBV 0)) (.nm 3) pbody)
    (sRetV 4))))
def f_perm : Fn := runF 2 6 m_perm
def PInv (n : Nat) (ds : List D) (env : En) : Prop := ∃ (k : Nat) (row left : List Int) (num : Nat) (o3 o5 : Option Sl),
  env = [some (.fr (.int n)), some (.fr (.int num)), some (.ow (left.map .int)), o3, some (.ow (row.map .int)), o5] ∧ k + left.length = n ∧ (row ++ left).Perm (rng n) ∧ num < facN left.length ∧ ds = (List.range' k left.length).map fun k : Nat => D.int k
theorem pstep {n : Nat} (hn : n ≤ 7) (d : D) (ds : List D) (env : En) (h : PInv n (d :: ds) env) : ∃ e1 e2, (Pt.nm 3).go d env = some e1 ∧ (pbody e1 = .nx e2 ∨ pbody e1 = .ct e2) ∧ PInv n ds e2 := by
  obtain ⟨k, row, left, num, o3, o5, rfl, hl, hp, hnum, hd⟩ := h
  cases left with
  | nil => simp at hd
  | cons x xs =>
    have hd2 : d = .int k ∧ ds = (List.range' (k + 1) xs.length).map fun k : Nat => D.int k := by
      rw [List.length_cons, List.range'_succ, List.map_cons] at hd
      exact ⟨(List.cons.inj hd).1, (List.cons.inj hd).2⟩
    obtain ⟨rfl, rfl⟩ := hd2
    have hlen : k + (xs.length + 1) = n := by simpa using hl
    have lk : xs.length ≤ 7 := by omega
    have f1 := fac_ok (n := xs.length) lk
    have fp := facN_pos xs.length
    have fb := facN_le lk
    have hnum' : num < facN xs.length * (xs.length + 1) := hnum
    have ix : num / facN xs.length < (x :: xs).length := by
      rw [List.length_cons]
      exact (Nat.div_lt_iff_lt_mul fp).mpr (by rw [Nat.mul_comm]; exact hnum')
    obtain ⟨q, hq⟩ : ∃ q, num / facN xs.length = q := ⟨_, rfl⟩
    rw [hq] at ix
    have e1 : fDiv (.int num) (.int (facN xs.length)) = .ok (.fr (.int q)) := by
      rw [fDiv_small _ (by omega) (by omega), ← Int.natCast_ediv, hq]
    have e2 : fMod (.int num) (.int (facN xs.length)) = .ok (.fr (.int ((num % facN xs.length : Nat) : Int))) := by
      show (if 0 < (facN xs.length : Int) then R.ok (Sl.fr (.int ((num : Int) % (facN xs.length : Int)))) else .st) = _
      rw [if_pos (by omega), ← Int.natCast_emod]
    have e3 : ((n : Int) - 1) - (k : Int) = (xs.length : Int) := by omega
    have rl : row.length ≤ 7 := by
      have := hp.length_eq
      simp [rng] at this
      omega
    have gi : ((x :: xs).map D.int)[q]? = some (D.int ((x :: xs).getD q 0)) := by
      rw [List.getElem?_map, getD_some ix]
      rfl
    have xd : ixD ((x :: xs).map D.int).length (q : Int) = some q := by
      unfold ixD
      rw [List.length_map, if_pos (by omega), if_pos (by omega), Int.toNat_natCast]
    have el : ((x :: xs).map D.int).eraseIdx q = ((x :: xs).eraseIdx q).map .int := by
      rw [List.eraseIdx_eq_take_drop_succ, List.eraseIdx_eq_take_drop_succ, List.map_append, List.map_take, List.map_drop]
    refine ⟨[some (.fr (.int n)), some (.fr (.int num)), some (.ow ((x :: xs).map .int)), some (.fr (.int k)), some (.ow (row.map .int)), o5], [some (.fr (.int n)), some (.fr (.int ((num % facN xs.length : Nat) : Int))), some (.ow (((x :: xs).eraseIdx q).map .int)), some (.fr (.int k)), some (.ow ((row ++ [(x :: xs).getD q 0]).map .int)), some (.fr (.int (facN xs.length)))], rfl, .inl ?_, ?_⟩
    · have s1 : (sSet 5 (mCall f_factorial (mCons (mBin fSub (mB (mBin fSub (mBV 0) (mB (mC (.int 1))))) (mBV 3)) mNil))) [some (.fr (.int n)), some (.fr (.int num)), some (.ow ((x :: xs).map .int)), some (.fr (.int k)), some (.ow (row.map .int)), o5] = .nx [some (.fr (.int n)), some (.fr (.int num)), some (.ow ((x :: xs).map .int)), some (.fr (.int k)), some (.ow (row.map .int)), some (.fr (.int (facN xs.length)))] := by
        simp [runF, env0, fin, sSeq, sSet, sIf, sRet, sRetN, sRetV, sDrop, sFrz, frz, frz1, sNop, sTry, sTryAs, mAnd, mOr, mNot, mB, mBin, mUn, mCall, mCons, mNil, bCons, bNil, mBV, mVar, mC, mTest, tNotM, tAndM, tOrM, tYesM, R.bind, R.quiet, Sl.d, asB, mIf, fSub, e3, f1]
      have s2 : (sAppPop 4 2 (mB (mBin fDiv (mBV 1) (mBV 5)))) [some (.fr (.int n)), some (.fr (.int num)), some (.ow ((x :: xs).map .int)), some (.fr (.int k)), some (.ow (row.map .int)), some (.fr (.int (facN xs.length)))] = .nx [some (.fr (.int n)), some (.fr (.int num)), some (.ow (((x :: xs).eraseIdx q).map .int)), some (.fr (.int k)), some (.ow ((row ++ [(x :: xs).getD q 0]).map .int)), some (.fr (.int (facN xs.length)))] := by
        generalize hL : (x :: xs).map D.int = L at gi xd el ⊢
        unfold sAppPop
        simp [runF, env0, fin, sSeq, sSet, sIf, sRet, sRetN, sRetV, sDrop, sFrz, frz, frz1, sNop, sTry, sTryAs, mAnd, mOr, mNot, mB, mBin, mUn, mCall, mCons, mNil, bCons, bNil, mBV, mVar, mC, mTest, tNotM, tAndM, tOrM, tYesM, R.bind, R.quiet, Sl.d, asB, mIf, e1, xd, gi, lim, el]
        have ix' : q < xs.length + 1 := by simpa using ix
        omega
      unfold pbody
      unfold sSeq
      rw [s1]
      simp only [s2]
      simp [runF, env0, fin, sSeq, sSet, sIf, sRet, sRetN, sRetV, sDrop, sFrz, frz, frz1, sNop, sTry, sTryAs, mAnd, mOr, mNot, mB, mBin, mUn, mCall, mCons, mNil, bCons, bNil, mBV, mVar, mC, mTest, tNotM, tAndM, tOrM, tYesM, R.bind, R.quiet, Sl.d, asB, mIf, fInt, e2]
    · have xl : ((x :: xs).eraseIdx q).length = xs.length := by
        rw [List.length_eraseIdx, if_pos ix]; simp
      refine ⟨k + 1, row ++ [(x :: xs).getD q 0], (x :: xs).eraseIdx q, num % facN xs.length, _, _, rfl, by rw [xl]; omega, ?_, by rw [xl]; exact Nat.mod_lt _ fp, by rw [xl]⟩
      refine List.Perm.trans ?_ hp
      rw [List.append_assoc]
      refine List.Perm.append_left _ ?_
      rw [List.eraseIdx_eq_take_drop_succ]
      have dr : (x :: xs) = (x :: xs).take q ++ (x :: xs).getD q 0 :: (x :: xs).drop (q + 1) := by
        have h2 := List.drop_eq_getElem_cons ix
        have h3 : (x :: xs).getD q 0 = (x :: xs)[q] := getD_get ix
        rw [h3, ← h2, List.take_append_drop]
      have : ([(x :: xs).getD q 0] ++ ((x :: xs).take q ++ (x :: xs).drop (q + 1))).Perm ((x :: xs).take q ++ (x :: xs).getD q 0 :: (x :: xs).drop (q + 1)) := (List.perm_middle (a := (x :: xs).getD q 0) (l₁ := (x :: xs).take q) (l₂ := (x :: xs).drop (q + 1))).symm
      rw [← dr] at this
      exact this
theorem self_comp (n : Nat) (o0 o1 o2 o4 o5 : Option Sl) : compL (Pt.nm 3).go tYesM (mVar 3) [o0, o1, o2, none, o4, o5] ((rng n).map .int) = .ok ((rng n).map .int) := compL_map fun i _ => ⟨_, _, rfl, rfl, rfl, rfl⟩
theorem rng_len (n : Nat) : (rng n).length = n := by simp [rng]
/-- the permutation of this number is one -/
theorem perm_ok {n num : Nat} (hn : n ≤ 7) (hm : num < facN n) : ∃ xs : List Int, f_perm [.int n, .int num] = .ok (.ow (xs.map .int)) ∧ xs.Perm (rng n) := by
  have c := self_comp n (some (.fr (.int n))) (some (.fr (.int num))) none none none
  have l4 : (n : Int) ≤ big ∧ -big ≤ (n : Int) := by unfold big; omega
  have rl : (rng n).length ≤ lim := by rw [rng_len]; unfold lim; omega
  obtain ⟨e2, q, r⟩ := forM_inv (as := (Pt.nm 3).go) (b := pbody) (P := PInv n) (pstep hn) ((rng n).map .int) [some (.fr (.int n)), some (.fr (.int num)), some (.ow ((rng n).map .int)), none, some (.ow []), none] ⟨0, [], rng n, num, none, none, rfl, by rw [rng_len]; omega, .refl _, by rw [rng_len]; exact hm, by
    rw [rng_len, ← List.range_eq_range']
    unfold rng
    rw [List.map_map]
    rfl⟩
  obtain ⟨k, row, left, num2, o3, o5, rfl, h1, h2, h3, h4⟩ := r
  have l0 : left = [] := by
    cases left with
    | nil => rfl
    | cons x xs => simp [List.range'_succ] at h4
  subst l0
  rw [List.append_nil] at h2
  refine ⟨row, ?_, h2⟩
  unfold f_perm m_perm
  obtain ⟨PB, hpb⟩ : ∃ m, pbody = m := ⟨_, rfl⟩
  rw [hpb] at q ⊢
  have rr := rangeD_rng n
  have rl2 : ((rng n).map D.int).length ≤ lim := by rw [List.length_map]; exact rl
  generalize (rng n).map D.int = RR at c q rr rl2
  simp [runF, env0, fin, sSeq, sSet, sIf, sRet, sRetN, sRetV, sDrop, sFrz, frz, frz1, sNop, sTry, sTryAs, mAnd, mOr, mNot, mB, mBin, mUn, mCall, mCons, mNil, bCons, bNil, mBV, mVar, mC, mTest, tNotM, tAndM, tOrM, tYesM, R.bind, R.quiet, Sl.d, asB, mIf, mComp, mRng1, wipeE, l4, rr, c, rl2, fLst, sFor, q]
/-! ### sums of orders -/
theorem perm_sum {xs ys : List Int} (h : xs.Perm ys) : xs.sum = ys.sum := by
  induction h with
  | nil => rfl
  | cons x _ ih => simp [ih]
  | swap x y l => simp; omega
  | trans _ _ h1 h2 => exact h1.trans h2
/-- one entry exchanged for another: no order of the same any more -/
theorem not_perm {a b : List Int} {x y : Int} {n : Nat} (h : (a ++ x :: b).Perm (rng n)) (hy : y ≠ x) : ¬ (a ++ y :: b).Perm (rng n) := fun h2 => by
  have := perm_sum (h.trans h2.symm)
  simp at this
  omega
end DM
set_option Elab.async false
set_option linter.all false
set_option maxRecDepth 100000
set_option maxHeartbeats 4000000
namespace DM
open PySem PySem.Spec L2 DL
open PyProof.Rows hiding St
/-! ### data that can be compared, whatever its length -/
def cmp (k : Nat) (d : D) : Prop := noObj d = true ∧ (toPy d).canLay0 = true ∧ (toPy d).depth ≤ k
theorem cmp_all {α : Type} {f : α → D} {k : Nat} (h : ∀ a, cmp k (f a)) : ∀ xs : List α, noObjL (xs.map f) = true ∧ PyData.canLayAll0 (toPyL (xs.map f)) = true ∧ PyData.depthAll (toPyL (xs.map f)) ≤ k
  | [] => ⟨rfl, rfl, Nat.zero_le _⟩
  | x :: xs => by
    obtain ⟨h1, h2, h3⟩ := cmp_all h xs
    obtain ⟨g1, g2, g3⟩ := h x
    refine ⟨?_, ?_, ?_⟩
    · show (noObj (f x) && noObjL (xs.map f)) = true
      rw [g1, h1]; rfl
    · show PyData.canLayAll0 (toPy (f x) :: toPyL (xs.map f)) = true
      simp only [PyData.canLayAll0, g2, h2, Bool.and_self]
    · show PyData.depthAll (toPy (f x) :: toPyL (xs.map f)) ≤ k
      simp only [PyData.depthAll]
      omega
theorem cmp_lst {α : Type} {f : α → D} {k : Nat} (h : ∀ a, cmp k (f a)) (xs : List α) : cmp (k + 1) (.lst (xs.map f)) := by
  obtain ⟨h1, h2, h3⟩ := cmp_all h xs
  refine ⟨by simpa [noObj] using h1, by simpa [toPy, PyData.canLay0] using h2, ?_⟩
  simp only [toPy, PyData.depth]
  omega
theorem cmp_tup {α : Type} {f : α → D} {k : Nat} (h : ∀ a, cmp k (f a)) (xs : List α) : cmp (k + 1) (.tup (xs.map f)) := by
  obtain ⟨h1, h2, h3⟩ := cmp_all h xs
  refine ⟨by simpa [noObj] using h1, by simpa [toPy, PyData.canLay0] using h2, ?_⟩
  simp only [toPy, PyData.depth]
  omega
theorem okE_of {d : D} {k : Nat} (h : cmp k d) (hk : k ≤ 64) : okE d = true := by
  obtain ⟨h1, h2, h3⟩ := h
  unfold okE SeqAt.shaped
  rw [h1, h2, decide_eq_true (Nat.le_trans h3 hk)]
  rfl
theorem cmp_int (a : Int) : cmp 0 (.int a) := ⟨rfl, rfl, Nat.le_refl _⟩
theorem cmp_pr (p : Int × Int) : cmp 1 (pr p) := cmp_tup cmp_int [p.1, p.2]
theorem okE_ints (xs : List Int) : okE (.lst (xs.map .int)) = true := okE_of (cmp_lst cmp_int xs) (by decide)
theorem okE_tints (xs : List Int) : okE (tupI xs) = true := okE_of (cmp_tup cmp_int xs) (by decide)
theorem okE_pr (p : Int × Int) : okE (pr p) = true := okE_of (cmp_pr p) (by decide)
theorem okE_prs (xs : List (Int × Int)) : okE (.lst (xs.map pr)) = true := okE_of (cmp_lst cmp_pr xs) (by decide)
/-! ### pairs: membership, place -/
theorem eqD_pr (p q : Int × Int) : eqD (pr p) (pr q) = decide (p = q) := by
  have e : eqD (pr p) (pr q) = eqDL ([p.1, p.2].map .int) ([q.1, q.2].map .int) := by
    show eqD (.tup _) (.tup _) = _
    unfold eqD; rfl
  rw [e, eqDL_ints]
  obtain ⟨a, b⟩ := p
  obtain ⟨c, d⟩ := q
  by_cases h : (a, b) = (c, d)
  · cases h; simp
  · rw [decide_eq_false h, decide_eq_false]
    intro q
    simp at q
    exact h (by rw [q.1, q.2])
theorem inD_prs (p : Int × Int) (xs : List (Int × Int)) : inD (pr p) (xs.map pr) = decide (p ∈ xs) := by
  unfold inD
  rw [List.any_map]
  induction xs with
  | nil => simp
  | cons x xs ih =>
    rw [List.any_cons, ih]
    show (eqD (pr x) (pr p) || _) = _
    rw [eqD_pr]
    by_cases h : x = p
    · subst h; simp
    · have h' : ¬ p = x := fun q => h q.symm
      by_cases h2 : p ∈ xs <;> simp [h, h', h2]
theorem fIn_lst (p : Int × Int) (xs : List (Int × Int)) : fIn (pr p) (.lst (xs.map pr)) = .ok (.fr (.bl (decide (p ∈ xs)))) := by
  show (if (okE (pr p) && okE (.lst (xs.map pr))) = true then R.ok (Sl.fr (.bl (if false = true then !inD (pr p) (xs.map pr) else inD (pr p) (xs.map pr)))) else .st) = _
  rw [okE_pr, okE_prs, inD_prs]
  rfl
theorem fIn_tup (p : Int × Int) (xs : List (Int × Int)) : fIn (pr p) (.tup (xs.map pr)) = .ok (.fr (.bl (decide (p ∈ xs)))) := fIn_lst p xs
/-! ### the lesser and the greater end -/
def ped (p : Int × Int) : Int × Int := (if p.2 < p.1 then p.2 else p.1, if p.2 > p.1 then p.2 else p.1)
theorem fMin_is (a b : Int) : fMin [.int a, .int b] = .ok (.fr (.int (ped (a, b)).1)) := rfl
theorem fMax_is (a b : Int) : fMax [.int a, .int b] = .ok (.fr (.int (ped (a, b)).2)) := rfl
theorem ped_le (p : Int × Int) : (ped p).1 ≤ (ped p).2 := by unfold ped; split <;> split <;> simp <;> omega
theorem ped_of {p : Int × Int} (h : p.1 ≤ p.2) : ped p = p := by
  obtain ⟨a, b⟩ := p
  unfold ped
  simp at h ⊢
  constructor
  · intro h1; omega
  · intro h1; omega
theorem ped_swap (a b : Int) : ped (b, a) = ped (a, b) := by
  unfold ped
  simp
  constructor
  · split <;> split <;> omega
  · split <;> split <;> omega
theorem ped_cases (p : Int × Int) : ped p = p ∨ ped p = (p.2, p.1) := by
  by_cases h : p.1 ≤ p.2
  · exact .inl (ped_of h)
  · right
    have := ped_of (p := (p.2, p.1)) (by simp; omega)
    rw [ped_swap] at this
    exact this
/-! ### graphs -/
def okEdge (n : Nat) (e : Int × Int) (found : List (Int × Int)) : Bool := decide (0 ≤ e.1) && decide (e.2 < n) && decide (e.1 ≠ e.2) && decide (e ∉ found)
def pfound (n : Nat) : List (Int × Int) → List (Int × Int) → Option (List (Int × Int))
  | [], found => some found
  | p :: ps, found => if okEdge n (ped p) found = true then pfound n ps (found ++ [ped p]) else none
def pgraph (n : Nat) (ps : List (Int × Int)) : Option (List (Int × Int)) := (pfound n ps []).map (isort leP)
/-- what a graph's edges are -/
def GE (n : Nat) (g : List (Int × Int)) : Prop := (∀ e ∈ g, 0 ≤ e.1 ∧ e.1 < e.2 ∧ e.2 < n) ∧ g.Nodup
theorem pfound_ge {n : Nat} : ∀ {ps found g : List (Int × Int)}, GE n found → pfound n ps found = some g → GE n g ∧ g = found ++ ps.map ped
  | [], found, g, h, e => by
    cases e
    exact ⟨h, by simp⟩
  | p :: ps, found, g, h, e => by
    unfold pfound at e
    split at e
    · rename_i c
      unfold okEdge at c
      simp only [Bool.and_eq_true, decide_eq_true_iff] at c
      have l := ped_le p
      have := pfound_ge (found := found ++ [ped p]) ⟨fun q m => by
        rcases List.mem_append.mp m with m | m
        · exact h.1 q m
        · rw [List.mem_singleton.mp m]
          exact ⟨c.1.1.1, by have := c.1.2; omega, c.1.1.2⟩, by
        rw [List.nodup_append]
        refine ⟨h.2, by simp, fun a ha b hb => ?_⟩
        rw [List.mem_singleton.mp hb]
        intro q
        exact c.2 (q ▸ ha)⟩ e
      refine ⟨this.1, ?_⟩
      rw [this.2]
      simp
    · cases e
theorem pfound_of {n : Nat} : ∀ {ps found : List (Int × Int)}, (∀ p ∈ ps, 0 ≤ (ped p).1 ∧ (ped p).1 < (ped p).2 ∧ (ped p).2 < n) → (found ++ ps.map ped).Nodup → pfound n ps found = some (found ++ ps.map ped)
  | [], found, _, _ => by simp [pfound]
  | p :: ps, found, h, hn => by
    have hp := h p List.mem_cons_self
    have hn' : ((found ++ [ped p]) ++ ps.map ped).Nodup := by simpa using hn
    have nm : ped p ∉ found := by
      rw [List.nodup_append] at hn'
      have := hn'.1
      rw [List.nodup_append] at this
      exact fun m => this.2.2 _ m (ped p) (by simp) rfl
    have ih := pfound_of (fun q m => h q (List.mem_cons_of_mem _ m)) hn'
    unfold pfound
    rw [if_pos, ih]
    · simp
    · unfold okEdge
      simp only [Bool.and_eq_true, decide_eq_true_iff]
      exact ⟨⟨⟨hp.1, hp.2.2⟩, by omega⟩, nm⟩
theorem GE.perm {n : Nat} {g h : List (Int × Int)} (k : GE n g) (p : h.Perm g) : GE n h := ⟨fun e m => k.1 e (p.mem_iff.mp m), p.nodup_iff.mpr k.2⟩
theorem pgraph_ge {n : Nat} {ps g : List (Int × Int)} (h : pgraph n ps = some g) : GE n g ∧ g = isort leP (ps.map ped) := by
  unfold pgraph at h
  cases e : pfound n ps [] with
  | none => rw [e] at h; cases h
  | some f =>
    rw [e] at h
    obtain ⟨h1, h2⟩ := pfound_ge ⟨by simp, by simp⟩ e
    cases h
    rw [List.nil_append] at h2
    exact ⟨h1.perm (isort_permI _ _), by rw [h2]⟩
theorem pgraph_of {n : Nat} {ps : List (Int × Int)} (h : GE n (ps.map ped)) : pgraph n ps = some (isort leP (ps.map ped)) := by
  unfold pgraph
  rw [pfound_of (fun p m => by have := h.1 (ped p) (List.mem_map.mpr ⟨p, m, rfl⟩); exact this) (by simpa using h.2)]
  simp
/-! ### sorted pairs: one order for one set -/
theorem leP_total (p q : Int × Int) : leP p q = true ∨ leP q p = true := by
  unfold leP
  rw [decide_eq_true_iff, decide_eq_true_iff]
  omega
theorem leP_trans {p q r : Int × Int} (h1 : leP p q = true) (h2 : leP q r = true) : leP p r = true := by
  unfold leP at *
  rw [decide_eq_true_iff] at *
  omega
theorem leP_antisymm {p q : Int × Int} (h1 : leP p q = true) (h2 : leP q p = true) : p = q := by
  unfold leP at *
  rw [decide_eq_true_iff] at *
  exact Prod.ext (by omega) (by omega)
theorem isortP_ordered : ∀ xs : List (Int × Int), (isort leP xs).Pairwise (fun a b => leP a b = true) := by
  have hi : ∀ (a : Int × Int) (xs : List (Int × Int)), xs.Pairwise (fun a b => leP a b = true) → (ins leP a xs).Pairwise (fun a b => leP a b = true) := by
    intro a xs
    induction xs with
    | nil => intro _; simp [ins]
    | cons x xs ih =>
      intro h
      unfold ins
      split
      · rename_i e
        refine List.pairwise_cons.mpr ⟨fun b m => ?_, h⟩
        rcases List.mem_cons.mp m with rfl | m
        · exact e
        · exact leP_trans e ((List.pairwise_cons.mp h).1 b m)
      · rename_i e
        refine List.pairwise_cons.mpr ⟨fun b m => ?_, ih (List.pairwise_cons.mp h).2⟩
        rcases List.mem_cons.mp ((ins_perm leP a xs).mem_iff.mp m) with rfl | m
        · exact (leP_total x b).resolve_right e
        · exact (List.pairwise_cons.mp h).1 b m
  intro xs
  induction xs with
  | nil => exact List.Pairwise.nil
  | cons x xs ih => exact hi x _ ih
theorem eqP_of_ordered : ∀ {xs ys : List (Int × Int)}, xs.Pairwise (fun a b => leP a b = true) → ys.Pairwise (fun a b => leP a b = true) → xs.Perm ys → xs = ys
  | [], ys, _, _, p => (List.nil_perm.mp p).symm
  | x :: xs, [], _, _, p => by simpa using p.length_eq
  | x :: xs, y :: ys, h1, h2, p => by
    have a1 := List.pairwise_cons.mp h1
    have a2 := List.pairwise_cons.mp h2
    have le1 : leP x y = true := by
      rcases List.mem_cons.mp (p.mem_iff.mpr (List.mem_cons_self (a := y) (l := ys))) with e | m
      · rw [e]; exact (leP_total x x).elim id id
      · exact a1.1 y m
    have le2 : leP y x = true := by
      rcases List.mem_cons.mp (p.mem_iff.mp (List.mem_cons_self (a := x) (l := xs))) with e | m
      · rw [e]; exact (leP_total y y).elim id id
      · exact a2.1 x m
    have e := leP_antisymm le1 le2
    subst e
    rw [eqP_of_ordered a1.2 a2.2 (List.Perm.cons_inv p)]
theorem isortP_perm {xs ys : List (Int × Int)} (p : xs.Perm ys) : isort leP xs = isort leP ys :=
  eqP_of_ordered (isortP_ordered xs) (isortP_ordered ys) ((isort_permI _ _).trans (p.trans (isort_permI _ _).symm))
theorem isortP_fix {g : List (Int × Int)} (xs : List (Int × Int)) (h : g = isort leP xs) : isort leP g = g := by
  rw [h, isortP_perm (isort_permI leP xs)]
/-! ### nodes called anew -/
def at0 (row : List Int) (i : Int) : Int := row.getD i.toNat 0
def mov (row : List Int) (e : Int × Int) : Int × Int := (at0 row e.1, at0 row e.2)
theorem at0_nat (row : List Int) (k : Nat) : at0 row (k : Int) = row.getD k 0 := by unfold at0; rw [Int.toNat_natCast]
theorem at0_mem {row : List Int} {n : Nat} (hp : row.Perm (rng n)) {i : Int} (h : 0 ≤ i ∧ i < n) : 0 ≤ at0 row i ∧ at0 row i < n := by
  have l : row.length = n := by rw [hp.length_eq, rng_len]
  have m : at0 row i ∈ row := by unfold at0; rw [getD_get (by omega)]; exact List.getElem_mem _
  obtain ⟨k, h1, h2⟩ := mem_rng.mp (hp.mem_iff.mp m)
  omega
theorem at0_inj {row : List Int} {n : Nat} (hp : row.Perm (rng n)) {i j : Int} (hi : 0 ≤ i ∧ i < n) (hj : 0 ≤ j ∧ j < n) (h : at0 row i = at0 row j) : i = j := by
  have l : row.length = n := by rw [hp.length_eq, rng_len]
  have nd : row.Nodup := hp.nodup_iff.mpr (rng_nodup n)
  unfold at0 at h
  rw [getD_get (by omega), getD_get (by omega)] at h
  have pw := List.pairwise_iff_getElem.mp (List.nodup_iff_pairwise_ne.mp nd)
  have : i.toNat = j.toNat := by
    rcases Nat.lt_trichotomy i.toNat j.toNat with q | q | q
    · exact absurd h (pw _ _ (by omega) (by omega) q)
    · exact q
    · exact absurd h.symm (pw _ _ (by omega) (by omega) q)
  omega
theorem mov_ge {row : List Int} {n : Nat} (hp : row.Perm (rng n)) {g : List (Int × Int)} (h : GE n g) : GE n ((g.map (mov row)).map ped) := by
  constructor
  · intro e m
    rw [List.map_map] at m
    obtain ⟨p, hm, rfl⟩ := List.mem_map.mp m
    have b := h.1 p hm
    have b1 := at0_mem hp (i := p.1) (by omega)
    have b2 := at0_mem hp (i := p.2) (by omega)
    have ne : at0 row p.1 ≠ at0 row p.2 := fun q => by have := at0_inj hp (by omega) (by omega) q; omega
    show 0 ≤ (ped (mov row p)).1 ∧ (ped (mov row p)).1 < (ped (mov row p)).2 ∧ (ped (mov row p)).2 < n
    rcases ped_cases (mov row p) with c | c
    · have := ped_le (mov row p)
      rw [c] at this ⊢
      unfold mov at this ⊢
      simp at this ⊢
      omega
    · have := ped_le (mov row p)
      rw [c] at this ⊢
      unfold mov at this ⊢
      simp at this ⊢
      omega
  · rw [List.map_map]
    refine List.nodup_iff_pairwise_ne.mpr ?_
    rw [List.pairwise_map]
    refine (List.pairwise_iff_forall_sublist.mpr ?_)
    intro p q sub
    have mp := sub.subset (List.mem_cons_self (a := p) (l := [q]))
    have mq := sub.subset (List.mem_cons_of_mem p (List.mem_cons_self (a := q) (l := [])))
    have ne : p ≠ q := by
      have nd := List.nodup_iff_pairwise_ne.mp h.2
      exact List.pairwise_iff_forall_sublist.mp nd sub
    have bp := h.1 p mp
    have bq := h.1 q mq
    intro e
    apply ne
    have e : ped (mov row p) = ped (mov row q) := e
    have key : ∀ u v : Int × Int, ped u = ped v → u = v ∨ u = (v.2, v.1) := by
      intro u v q
      rcases ped_cases u with c | c <;> rcases ped_cases v with d | d <;> rw [c, d] at q
      · exact .inl q
      · exact .inr q
      · right
        obtain ⟨u1, u2⟩ := u
        obtain ⟨v1, v2⟩ := v
        simp at q ⊢
        omega
      · left
        obtain ⟨u1, u2⟩ := u
        obtain ⟨v1, v2⟩ := v
        simp at q ⊢
        omega
    rcases key _ _ e with k | k
    · unfold mov at k
      simp at k
      exact Prod.ext (at0_inj hp (by omega) (by omega) k.1) (at0_inj hp (by omega) (by omega) k.2)
    · unfold mov at k
      simp at k
      have a := at0_inj hp (by omega) (by omega) k.1
      have b := at0_inj hp (by omega) (by omega) k.2
      omega
theorem ped_mov {row : List Int} (p : Int × Int) : ped (mov row (ped p)) = ped (mov row p) := by
  rcases ped_cases p with c | c
  · rw [c]
  · rw [c]
    unfold mov
    exact ped_swap _ _
/-- the graph called anew twice -/
def pmoved (row : List Int) (g : List (Int × Int)) : List (Int × Int) := isort leP ((g.map (mov row)).map ped)
theorem pmoved_perm {row : List Int} {g h : List (Int × Int)} (p : g.Perm h) : pmoved row g = pmoved row h := isortP_perm ((p.map _).map _)
theorem pmoved_ge {row : List Int} {n : Nat} (hp : row.Perm (rng n)) {g : List (Int × Int)} (h : GE n g) : GE n (pmoved row g) := (mov_ge hp h).perm (isort_permI _ _)
def pafter (p q : List Int) : List Int := p.map (at0 q)
theorem at0_after {p q : List Int} {i : Int} (h : 0 ≤ i ∧ i < p.length) : at0 (pafter p q) i = at0 q (at0 p i) := by
  unfold pafter
  show (p.map (at0 q)).getD i.toNat 0 = at0 q (p.getD i.toNat 0)
  rw [getD_get (by simp; omega), getD_get (by omega), List.getElem_map]
theorem pmoved_twice {n : Nat} {p q : List Int} {g : List (Int × Int)} (hl : p.length = n) (h : GE n g) : pmoved q (pmoved p g) = pmoved (pafter p q) g := by
  have e : pmoved q (pmoved p g) = pmoved q ((g.map (mov p)).map ped) := pmoved_perm (isort_permI _ _)
  rw [e]
  unfold pmoved
  congr 1
  rw [List.map_map, List.map_map, List.map_map, List.map_map]
  refine List.map_congr_left fun x m => ?_
  have b := h.1 x m
  show ped (mov q (ped (mov p x))) = ped (mov (pafter p q) x)
  rw [ped_mov]
  unfold mov
  rw [at0_after (by omega), at0_after (by omega)]
theorem pmoved_id {n : Nat} {r : List Int} {g : List (Int × Int)} (h : GE n g) (hr : ∀ i : Int, 0 ≤ i → i < n → at0 r i = i) : pmoved r g = isort leP g := by
  unfold pmoved
  congr 1
  rw [List.map_map]
  conv => rhs; rw [← List.map_id g]
  refine List.map_congr_left fun x m => ?_
  have b := h.1 x m
  show ped (mov r x) = x
  unfold mov
  rw [hr _ (by omega) (by omega), hr _ (by omega) (by omega)]
  exact ped_of (by omega)
/-- the places of the nodes: the order that undoes -/
def pinv (p : List Int) : List Int := (List.range p.length).map fun (a : Nat) => (((idxA (a : Int) p 0).getD 0 : Nat) : Int)
theorem idxA_at {a : Int} : ∀ {xs : List Int} {n j : Nat}, idxA a xs n = some j → n ≤ j ∧ xs[j - n]? = some a
  | x :: xs, n, j, h => by
    unfold idxA at h
    split at h
    · rename_i e
      cases h
      exact ⟨Nat.le_refl _, by rw [Nat.sub_self, e]; rfl⟩
    · have ih := idxA_at (n := n + 1) h
      refine ⟨by omega, ?_⟩
      rw [show j - n = (j - (n + 1)) + 1 by omega]
      exact ih.2
theorem pinv_at {n : Nat} {p : List Int} (hp : p.Perm (rng n)) {i : Int} (h : 0 ≤ i ∧ i < n) : at0 (pafter p (pinv p)) i = i := by
  have l : p.length = n := by rw [hp.length_eq, rng_len]
  rw [at0_after (by omega)]
  have b := at0_mem hp h
  obtain ⟨k, hk⟩ := Int.eq_ofNat_of_zero_le b.1
  have mk : (k : Int) ∈ p := hp.mem_iff.mpr (mem_rng.mpr ⟨k, by omega, rfl⟩)
  obtain ⟨j, hj, jl⟩ := idxA_mem 0 mk
  rw [Nat.zero_add] at hj
  have e1 : at0 (pinv p) (at0 p i) = (j : Int) := by
    rw [hk, at0_nat]
    unfold pinv
    rw [getD_get (by simp; omega), List.getElem_map, List.getElem_range, hj]
    rfl
  have e2 := (idxA_at hj).2
  rw [Nat.sub_zero, getD_some (by omega)] at e2
  have e3 : at0 p (j : Int) = at0 p i := by rw [at0_nat, Option.some.inj e2, hk]
  rw [e1]
  exact at0_inj hp (by omega) h e3
theorem pinv_perm {n : Nat} {p : List Int} (hp : p.Perm (rng n)) : (pinv p).Perm (rng n) := by
  have l : p.length = n := by rw [hp.length_eq, rng_len]
  have pl : (pinv p).length = n := by unfold pinv; simp [l]
  refine perm_of_sub _ _ (rng_nodup _) (by rw [pl, rng_len]) fun y m => ?_
  obtain ⟨i, hi, rfl⟩ := mem_rng.mp m
  have e := pinv_at hp (i := (i : Int)) (by omega)
  rw [at0_after (by omega)] at e
  have b := at0_mem hp (i := (i : Int)) (by omega)
  rw [← e]
  unfold at0
  rw [getD_get (xs := pinv p) (by rw [pl]; exact (by have := b; unfold at0 at this; omega))]
  exact List.getElem_mem _
theorem pafter_perm {n : Nat} {p q : List Int} (hp : p.Perm (rng n)) (hq : q.Perm (rng n)) : (pafter p q).Perm (rng n) := by
  have e : (rng n).map (at0 q) = q := by
    have l : q.length = n := by rw [hq.length_eq, rng_len]
    apply List.ext_getElem
    · rw [List.length_map, rng_len, l]
    · intro i h1 h2
      rw [List.getElem_map]
      unfold rng
      rw [List.getElem_map, List.getElem_range, at0_nat, getD_get h2]
  have h1 : (pafter p q).Perm ((rng n).map (at0 q)) := hp.map _
  rw [e] at h1
  exact h1.trans hq
end DM
set_option Elab.async false
set_option linter.all false
set_option maxRecDepth 100000
set_option maxHeartbeats 4000000
namespace DM
open PySem PySem.Spec L2 DL
open PyProof.Rows hiding St
theorem fMod_nat {a : Int} {n : Nat} (h : 0 < n) : fMod (.int a) (.int n) = .ok (.fr (.int (a % n))) := by
  show (if 0 < (n : Int) then R.ok (Sl.fr (.int (a % n))) else .st) = _
  rw [if_pos (by omega)]
theorem mod_nat (z : Int) {n : Nat} (h : 0 < n) : ∃ k : Nat, k < n ∧ fMod (.int z) (.int n) = .ok (.fr (.int k)) := by
  have h1 := Int.emod_nonneg z (show (n : Int) ≠ 0 by omega)
  have h2 := Int.emod_lt_of_pos z (show (0 : Int) < n by omega)
  obtain ⟨k, hk⟩ := Int.eq_ofNat_of_zero_le h1
  refine ⟨k, by omega, ?_⟩
  rw [fMod_nat h, hk]
/-- an item of a written list of ints -/
theorem ints_at {xs : List Int} {i : Int} (h : 0 ≤ i ∧ i < xs.length) : fIx (.lst (xs.map .int)) (.int i) = .ok (.fr (.int (at0 xs i))) := by
  obtain ⟨k, rfl⟩ := Int.eq_ofNat_of_zero_le h.1
  rw [at0_nat]
  exact fIx_lstI (getD_some (by omega))
theorem isort_map {α : Type} (le : D → D → Bool) (f : α → D) : ∀ xs : List α, isort le (xs.map f) = (isort (fun a b => le (f a) (f b)) xs).map f
  | [] => rfl
  | x :: xs => by
    have hi : ∀ (a : α) (ys : List α), ins le (f a) (ys.map f) = (ins (fun a b => le (f a) (f b)) a ys).map f := by
      intro a ys
      induction ys with
      | nil => rfl
      | cons y ys ih =>
        show ins le (f a) (f y :: ys.map f) = _
        unfold ins
        rw [ih]
        show (if le (f a) (f y) = true then _ else _) = _
        split <;> rfl
    show ins le (f x) (isort le (xs.map f)) = (ins _ x (isort _ xs)).map f
    rw [isort_map le f xs, hi]
theorem fSl_lto {α : Type} (f : α → D) {xs : List α} {k : Nat} (h : k ≤ xs.length) : fSl (.lst (xs.map f)) none (some (k : Int)) = .ok (.ow ((xs.take k).map f)) := by
  show R.ok (Sl.ow (DL.cutD (xs.map f) _ _)) = _
  rw [cutD_map, cut_to xs h]
theorem fSl_lfrom {α : Type} (f : α → D) {xs : List α} {k : Nat} (h : k ≤ xs.length) : fSl (.lst (xs.map f)) (some (k : Int)) none = .ok (.ow ((xs.drop k).map f)) := by
  show R.ok (Sl.ow (DL.cutD (xs.map f) _ _)) = _
  rw [cutD_map, cut_from xs h]
theorem fSl_lmid {α : Type} (f : α → D) {xs : List α} {a b : Nat} (h : b ≤ xs.length) (hab : a ≤ b) : fSl (.lst (xs.map f)) (some (a : Int)) (some (b : Int)) = .ok (.ow (((xs.drop a).take (b - a)).map f)) := by
  show R.ok (Sl.ow (DL.cutD (xs.map f) _ _)) = _
  rw [cutD_map, cut_mid xs h hab]
theorem fAddL_lst {xs ys : List D} (h : xs.length + ys.length ≤ 1000000) : fAddL (.lst xs) (.lst ys) = .ok (.ow (xs ++ ys)) := by
  show (if xs.length + ys.length ≤ lim then R.ok (Sl.ow (xs ++ ys)) else .st) = _
  rw [if_pos (show xs.length + ys.length ≤ lim from h)]
theorem fIx_map {α : Type} (f : α → D) {xs : List α} {k : Nat} {a : α} (h : xs[k]? = some a) : fIx (.lst (xs.map f)) (.int k) = .ok (.fr (f a)) :=
  ix_at (xs := xs.map f) (by rw [List.getElem?_map, h]; rfl)
theorem fLen_map {α : Type} (f : α → D) (xs : List α) : fLen [.lst (xs.map f)] = .ok (.fr (.int xs.length)) := by
  show R.ok (Sl.fr (.int ((xs.map f).length : Int))) = _
  rw [List.length_map]
theorem emod_b (z : Int) {n : Int} (h : 0 < n) : 0 ≤ z % n ∧ z % n < n := ⟨Int.emod_nonneg _ (by omega), Int.emod_lt_of_pos _ h⟩
theorem fMod_int {a b : Int} (h : 0 < b) : fMod (.int a) (.int b) = .ok (.fr (.int (a % b))) := by
  show (if 0 < b then R.ok (Sl.fr (.int (a % b))) else .st) = _
  rw [if_pos h]
end DM
set_option Elab.async false
set_option linter.all false
set_option maxRecDepth 100000
set_option maxHeartbeats 4000000
namespace DM
open PySem PySem.Spec L2 DL
open PyProof.Rows hiding St

/-! ### a mirror is run rule by rule -/
theorem x_fin {α : Type} {a : R α} {s s' : α} (h1 : a = .ok s) (h2 : s = s') : a = .ok s' := by rw [h1, h2]
theorem x_finS {s1 : MS} {env e e' : En} (h1 : s1 env = .nx e) (h2 : e = e') : s1 env = .nx e' := by rw [h1, h2]
theorem d_fr {t : D} : Sl.d (.fr t) = t := rfl
theorem d_ow {xs : List D} : Sl.d (.ow xs) = .lst xs := rfl
section
variable {env e : En} {s : Sl} {d x y : D} {i : Nat} {m m2 : M} {ma mb mc : B} {mr : En → R (List D)} {ds xs : List D} {F G : D → D → R Sl} {f : D → R Sl} {h : List D → R Sl} {t u : En → R Bool} {b c : Bool} {s1 s2 : MS} {r : RS}
theorem x_B (h1 : m env = .ok s) (h2 : s.d = d) : mB m env = .ok d := by unfold mB; rw [h1, ← h2]; rfl
theorem x_BV (h1 : env[i]? = some (some s)) (h2 : s.d = d) : mBV i env = .ok d := by unfold mBV; rw [h1, ← h2]
theorem x_var (h1 : env[i]? = some (some (.fr d))) : mVar i env = .ok (.fr d) := by unfold mVar; rw [h1]
theorem x_C : mC d env = .ok (.fr d) := rfl
theorem x_bin (h1 : ma env = .ok x) (h2 : mb env = .ok y) (h3 : F x y = .ok s) : mBin F ma mb env = .ok s := by unfold mBin; rw [h1]; show (mb env).bind _ = _; rw [h2]; exact h3
theorem x_un (h1 : ma env = .ok x) (h2 : f x = .ok s) : mUn f ma env = .ok s := by unfold mUn; rw [h1]; exact h2
theorem x_bnil : bNil env = .ok [] := rfl
theorem x_bcons (h1 : ma env = .ok x) (h2 : mr env = .ok xs) : bCons ma mr env = .ok (x :: xs) := by unfold bCons; rw [h1]; show (mr env).bind _ = _; rw [h2]; rfl
theorem x_nil : mNil env = .ok [] := rfl
theorem x_cons (h1 : m env = .ok s) (h2 : s.d = d) (h3 : mr env = .ok xs) : mCons m mr env = .ok (d :: xs) := by unfold mCons; rw [h1]; show (mr env).bind _ = _; rw [h3, ← h2]; rfl
theorem x_star (h1 : m env = .ok s) (h2 : asSeq s.d = .ok ds) (h3 : mr env = .ok xs) : mStar m mr env = .ok (ds ++ xs) := by unfold mStar; rw [h1]; show (asSeq s.d).bind _ = _; rw [h2]; show (mr env).bind _ = _; rw [h3]; rfl
theorem x_call (h1 : mr env = .ok xs) (h2 : h xs = .ok s) : mCall h mr env = .ok s := by unfold mCall; rw [h1]; exact h2
theorem x_chain {z : D} (h1 : ma env = .ok x) (h2 : mb env = .ok y) (h3 : F x y = .ok (.fr (.bl b))) (h4 : b = true → mc env = .ok z) (h5 : b = true → G y z = .ok (.fr (.bl c))) : mChain F G ma mb mc env = .ok (.fr (.bl (b && c))) := by
  unfold mChain; rw [h1]; show (mb env).bind _ = _; rw [h2]; show (F x y).bind _ = _; rw [h3]
  cases b with
  | true => show (mc env).bind _ = _; rw [h4 rfl]; rw [Bool.true_and]; exact h5 rfl
  | false => rfl
theorem x_test (h1 : ma env = .ok (.bl b)) : mTest ma env = .ok b := by unfold mTest; rw [h1]; rfl
theorem x_tnot (h1 : t env = .ok b) : tNotM t env = .ok (!b) := by unfold tNotM; rw [h1]; rfl
theorem x_tand (h1 : t env = .ok b) (h2 : b = true → u env = .ok c) : tAndM t u env = .ok (b && c) := by
  unfold tAndM; rw [h1]
  cases b with
  | true => show u env = _; rw [h2 rfl, Bool.true_and]
  | false => rfl
theorem x_tor (h1 : t env = .ok b) (h2 : b = false → u env = .ok c) : tOrM t u env = .ok (b || c) := by
  unfold tOrM; rw [h1]
  cases b with
  | false => show u env = _; rw [h2 rfl, Bool.false_or]
  | true => rfl
theorem x_tandF (h1 : t env = .ok b) (hb : b = false) : tAndM t u env = .ok false := by subst hb; unfold tAndM; rw [h1]; rfl
theorem x_torT (h1 : t env = .ok b) (hb : b = true) : tOrM t u env = .ok true := by subst hb; unfold tOrM; rw [h1]; rfl
theorem x_andF (h1 : ma env = .ok (.bl b)) (hb : b = false) : mAnd ma mb env = .ok (.fr (.bl false)) := by subst hb; unfold mAnd; rw [h1]; rfl
theorem x_orT (h1 : ma env = .ok (.bl b)) (hb : b = true) : mOr ma mb env = .ok (.fr (.bl true)) := by subst hb; unfold mOr; rw [h1]; rfl
theorem x_and (h1 : ma env = .ok (.bl b)) (h2 : b = true → mb env = .ok (.bl c)) : mAnd ma mb env = .ok (.fr (.bl (b && c))) := by
  unfold mAnd; rw [h1]
  cases b with
  | true => show (mb env).bind _ = _; rw [h2 rfl, Bool.true_and]; rfl
  | false => rfl
theorem x_or (h1 : ma env = .ok (.bl b)) (h2 : b = false → mb env = .ok (.bl c)) : mOr ma mb env = .ok (.fr (.bl (b || c))) := by
  unfold mOr; rw [h1]
  cases b with
  | false => show (mb env).bind _ = _; rw [h2 rfl, Bool.false_or]; rfl
  | true => rfl
theorem x_not (h1 : ma env = .ok (.bl b)) : mNot ma env = .ok (.fr (.bl (!b))) := by unfold mNot; rw [h1]; rfl
theorem x_ifT (h1 : t env = .ok b) (hb : b = true) (h2 : m env = .ok s) (h3 : s.d = d) : mIf t m m2 env = .ok (.fr d) := by subst hb; unfold mIf; rw [h1]; show (m env).bind _ = _; rw [h2, ← h3]; rfl
theorem x_ifF (h1 : t env = .ok b) (hb : b = false) (h2 : m2 env = .ok s) (h3 : s.d = d) : mIf t m m2 env = .ok (.fr d) := by subst hb; unfold mIf; rw [h1]; show (m2 env).bind _ = _; rw [h2, ← h3]; rfl
theorem x_ofalse : oNone env = .ok none := rfl
theorem x_osome {i : Int} (h1 : ma env = .ok (.int i)) : oSome ma env = .ok (some i) := by unfold oSome; rw [h1]; rfl
theorem x_sl {l u : BO} {lo hi : Option Int} (h1 : ma env = .ok x) (h2 : l env = .ok lo) (h3 : u env = .ok hi) (h4 : fSl x lo hi = .ok s) : mSl ma l u env = .ok s := by
  unfold mSl; rw [h1]; show (l env).bind _ = _; rw [h2]; show (u env).bind _ = _; rw [h3]; exact h4
theorem x_meth {tab : Nat → Option Fn} {g : Fn} {k : Nat} {fs : List D} (h1 : m env = .ok (.fr (.obj k fs))) (h2 : tab k = some g) (h3 : mr env = .ok xs) (h4 : g (.obj k fs :: xs) = .ok s) : mMeth tab m mr env = .ok s := by
  unfold mMeth; rw [h1]; show (match tab k with | some f => _ | none => _) = _; rw [h2]; show (mr env).bind _ = _; rw [h3]; exact h4
theorem x_rng1 {n : Nat} (h1 : ma env = .ok (.int n)) (h2 : n ≤ 1000000000) : mRng1 ma env = .ok ((List.range n).map fun k : Nat => .int k) := by
  unfold mRng1; rw [h1]
  show (if -big ≤ (n : Int) ∧ (n : Int) ≤ big then R.ok (rangeD 0 (n : Int).toNat) else .st) = _
  rw [if_pos (by unfold big; omega), Int.toNat_natCast]
  unfold rangeD
  congr 2
  funext k
  rw [Int.zero_add]
theorem x_iter (h1 : m env = .ok s) (h2 : asSeq s.d = .ok xs) : mIter m env = .ok xs := by unfold mIter; rw [h1]; exact h2
/-! statements -/
theorem x_seq (h1 : s1 env = .nx e) (h2 : s2 e = r) : sSeq s1 s2 env = r := by unfold sSeq; rw [h1]; exact h2
theorem x_seqR (h1 : s1 env = .rt s) : sSeq s1 s2 env = .rt s := by unfold sSeq; rw [h1]
theorem x_seqX {n : Nat} {p : Pl} (h1 : s1 env = .ex n p e) : sSeq s1 s2 env = .ex n p e := by unfold sSeq; rw [h1]
theorem x_seqC (h1 : s1 env = .ct e) : sSeq s1 s2 env = .ct e := by unfold sSeq; rw [h1]
theorem x_seqB (h1 : s1 env = .bk e) : sSeq s1 s2 env = .bk e := by unfold sSeq; rw [h1]
theorem x_set (h1 : m env = .ok s) (h2 : env.set i (some s) = e) : sSet i m env = .nx e := by unfold sSet; rw [h1, ← h2]
theorem x_setX {n : Nat} {p : Pl} (h1 : m env = .ex n p) : sSet i m env = .ex n p env := by unfold sSet; rw [h1]
theorem x_ret (h1 : m env = .ok s) : sRet m env = .rt s := by unfold sRet; rw [h1]
theorem x_retX {n : Nat} {p : Pl} (h1 : m env = .ex n p) : sRet m env = .ex n p env := by unfold sRet; rw [h1]
theorem x_retV (h1 : env[i]? = some (some s)) : sRetV i env = .rt s := by unfold sRetV; rw [h1]
theorem x_retN : sRetN env = .rt (.fr .non) := rfl
theorem x_nop : sNop env = .nx env := rfl
theorem x_sifT (h1 : t env = .ok b) (hb : b = true) (h2 : s1 env = r) : sIf t s1 s2 env = r := by subst hb; unfold sIf; rw [h1]; exact h2
theorem x_sifF (h1 : t env = .ok b) (hb : b = false) (h2 : s2 env = r) : sIf t s1 s2 env = r := by subst hb; unfold sIf; rw [h1]; exact h2
theorem x_sif (h1 : t env = .ok b) (h2 : b = true → s1 env = r) (h3 : b = false → s2 env = r) : sIf t s1 s2 env = r := by
  cases b with
  | true => exact x_sifT h1 rfl (h2 rfl)
  | false => exact x_sifF h1 rfl (h3 rfl)
theorem x_sifX {n : Nat} {p : Pl} (h1 : t env = .ex n p) : sIf t s1 s2 env = .ex n p env := by unfold sIf; rw [h1]
theorem x_drop (h1 : m env = .ok s) : sDrop m env = .nx env := by unfold sDrop; rw [h1]
theorem x_frz {is : List Nat} (h0 : frz is env = e) (h1 : s1 e = r) : sFrz is s1 env = r := by unfold sFrz; rw [h0]; exact h1
theorem x_app (h1 : env[i]? = some (some (.ow xs))) (h2 : m env = .ok s) (h3 : s.d = d) (hl : xs.length < lim) (h4 : env.set i (some (.ow (xs ++ [d]))) = e) : sApp i m env = .nx e := by
  unfold sApp; rw [h1]; simp only []; rw [h2]; simp only []; rw [if_pos hl, h3, h4]
theorem x_ext {ys : List D} (h1 : env[i]? = some (some (.ow xs))) (h2 : m env = .ok (.ow ys)) (hl : xs.length + ys.length ≤ lim) (h4 : env.set i (some (.ow (xs ++ ys))) = e) : sExt i m env = .nx e := by
  unfold sExt; rw [h1]; simp only []; rw [h2]; simp only []; rw [if_pos hl, h4]
theorem x_put {j : Int} {n : Nat} (h1 : m env = .ok s) (h2 : s.d = d) (h3 : env[i]? = some (some (.ow xs))) (h4 : ma env = .ok (.int j)) (h5 : ixD xs.length j = some n) (h6 : env.set i (some (.ow (xs.set n d))) = e) : sPut i ma m env = .nx e := by
  unfold sPut; rw [h1]; simp only []; rw [h3]; simp only []; rw [h4]; simp only []; rw [h5]; simp only []; rw [h2, h6]
theorem x_unp {is : List Nat} (h1 : m env = .ok s) (h2 : s.d = .tup ds) (h3 : ds.length = is.length) (h4 : setAll is ds env = e) : sUnp (.tp is) m env = .nx e := by
  unfold sUnp; rw [h1]; simp only []; rw [h2]; show (match (if ds.length = is.length then some (setAll is ds env) else none) with | some e => RS.nx e | none => .st) = _; rw [if_pos h3, h4]
theorem x_run {n slots : Nat} {m : MS} (h0 : ds.length = n) (h1 : m (env0 n slots ds) = r) : runF n slots m ds = fin r := by unfold runF; rw [if_pos h0, h1]
theorem x_runR {n slots : Nat} {m : MS} (h0 : ds.length = n) (h1 : m (env0 n slots ds) = .rt s) : runF n slots m ds = .ok s := by unfold runF; rw [if_pos h0, h1]; rfl
theorem x_runX {n slots k : Nat} {m : MS} {p : Pl} (h0 : ds.length = n) (h1 : m (env0 n slots ds) = .ex k p e) : runF n slots m ds = .ex k p := by unfold runF; rw [if_pos h0, h1]; rfl
theorem x_seqSet (h1 : m env = .ok s) (h2 : env.set i (some s) = e) (h3 : s2 e = r) : sSeq (sSet i m) s2 env = r := x_seq (x_set h1 h2) h3
theorem x_seqUnp {is : List Nat} (h1 : m env = .ok s) (h2 : s.d = .tup ds) (h3 : ds.length = is.length) (h4 : setAll is ds env = e) (h5 : s2 e = r) : sSeq (sUnp (.tp is) m) s2 env = r := x_seq (x_unp h1 h2 h3 h4) h5
theorem x_seqApp (h1 : env[i]? = some (some (.ow xs))) (h2 : m env = .ok s) (h3 : s.d = d) (hl : xs.length < lim) (h4 : env.set i (some (.ow (xs ++ [d]))) = e) (h5 : s2 e = r) : sSeq (sApp i m) s2 env = r := x_seq (x_app h1 h2 h3 hl h4) h5
theorem x_seqPut {j : Int} {n : Nat} (h1 : m env = .ok s) (h2 : s.d = d) (h3 : env[i]? = some (some (.ow xs))) (h4 : ma env = .ok (.int j)) (h5 : ixD xs.length j = some n) (h6 : env.set i (some (.ow (xs.set n d))) = e) (h7 : s2 e = r) : sSeq (sPut i ma m) s2 env = r := x_seq (x_put h1 h2 h3 h4 h5 h6) h7
/-- if t: return .. -/
theorem x_guard {v w : Sl} (h1 : t env = .ok b) (h2 : b = true → s1 env = .rt v) (h3 : b = false → s2 env = .rt w) : sSeq (sIf t s1 sNop) s2 env = .rt (bif b then v else w) := by
  cases b with
  | true => exact x_seqR (x_sifT h1 rfl (h2 rfl))
  | false => exact x_seq (x_sifF h1 rfl x_nop) (h3 rfl)
theorem x_guardT {v : Sl} (h1 : t env = .ok b) (hb : b = true) (h2 : s1 env = .rt v) : sSeq (sIf t s1 sNop) s2 env = .rt v := x_seqR (x_sifT h1 hb h2)
theorem x_guardF (h1 : t env = .ok b) (hb : b = false) (h2 : s2 env = r) : sSeq (sIf t s1 sNop) s2 env = r := x_seq (x_sifF h1 hb x_nop) h2
/-! loops -/
theorem x_for {mi : En → R (List D)} {pt : Pt} (h1 : mi env = .ok xs) (h2 : DL.forM pt.go s1 xs env = r) : sFor mi pt s1 env = r := by unfold sFor; rw [h1]; exact h2
/-- every turn goes on: the slots outside of the turn's stay -/
theorem for_all {α : Type} {pt : Pt} {b : MS} {f : α → D} (P : List α → En → Prop) : ∀ (as : List α) (env : En), P as env → (∀ a as env, P (a :: as) env → ∃ e1 e2, pt.go (f a) env = some e1 ∧ (b e1 = .nx e2 ∨ b e1 = .ct e2) ∧ P as e2) → ∃ e, DL.forM pt.go b (as.map f) env = .nx e ∧ P [] e
  | [], env, h, _ => ⟨env, rfl, h⟩
  | a :: as, env, h, step => by
    obtain ⟨e1, e2, h1, h2, h3⟩ := step a as env h
    obtain ⟨e, h4, h5⟩ := for_all P as e2 h3 step
    refine ⟨e, ?_, h5⟩
    show DL.forM pt.go b (f a :: as.map f) env = _
    unfold DL.forM
    rw [h1]
    rcases h2 with h2 | h2 <;> (simp only [h2]; exact h4)
theorem x_rngI {j : Int} (h1 : ma env = .ok (.int j)) (h2 : -1000000 ≤ j ∧ j ≤ 1000000) : mRng1 ma env = .ok ((List.range j.toNat).map fun k : Nat => .int k) := by
  unfold mRng1; rw [h1]
  show (if -big ≤ j ∧ j ≤ big then R.ok (rangeD 0 j.toNat) else .st) = _
  rw [if_pos (by unfold big; omega)]
  unfold rangeD
  congr 2
  funext k
  rw [Int.zero_add]
/-- [g(k) for k in range(j)] -/
theorem comp_rng {i : Nat} {j : Int} {g : Nat → D} (h1 : ma env = .ok (.int j)) (h2 : -1000000 ≤ j ∧ j ≤ 1000000) (h3 : ∀ k : Nat, (k : Int) < j → ∃ s, m ((wipeE env [i]).set i (some (.fr (.int k)))) = .ok s ∧ s.d = g k) : mComp (mRng1 ma) (.nm i) tYesM m [i] env = .ok (.ow ((List.range j.toNat).map g)) := by
  unfold mComp
  rw [x_rngI h1 h2]
  show (if ((List.range j.toNat).map fun k : Nat => D.int k).length ≤ lim then _ else _) = _
  rw [if_pos (by rw [List.length_map, List.length_range]; unfold lim; omega)]
  have hc : compL (Pt.nm i).go tYesM m (wipeE env [i]) ((List.range j.toNat).map fun k : Nat => D.int k) = .ok ((List.range j.toNat).map g) := by
    refine compL_map fun k hk => ?_
    obtain ⟨s, h4, h5⟩ := h3 k (by have := List.mem_range.mp hk; omega)
    exact ⟨_, s, rfl, rfl, h4, h5⟩
  rw [hc]
  rfl
/-- the same, of ints -/
theorem comp_rngZ {i : Nat} {j : Int} {G : Nat → Int} (h1 : ma env = .ok (.int j)) (h2 : -1000000 ≤ j ∧ j ≤ 1000000) (h3 : ∀ k : Nat, (k : Int) < j → m ((wipeE env [i]).set i (some (.fr (.int k)))) = .ok (.fr (.int (G k)))) : mComp (mRng1 ma) (.nm i) tYesM m [i] env = .ok (.ow (((List.range j.toNat).map G).map .int)) := by
  rw [comp_rng (g := fun k => .int (G k)) h1 h2 fun k hk => ⟨_, h3 k hk, rfl⟩, List.map_map]
  rfl
theorem comp_gen {α : Type} {pt : Pt} {vs : List Nat} {mi : En → R (List D)} {as : List α} {f g : α → D} (h1 : mi env = .ok (as.map f)) (hl : as.length ≤ 1000000) (h3 : ∀ a ∈ as, ∃ e1 s, pt.go (f a) (wipeE env vs) = some e1 ∧ m e1 = .ok s ∧ s.d = g a) : mComp mi pt tYesM m vs env = .ok (.ow (as.map g)) := by
  unfold mComp
  rw [h1]
  show (if (as.map f).length ≤ lim then _ else _) = _
  rw [if_pos (by rw [List.length_map]; unfold lim; omega)]
  have hc : compL pt.go tYesM m (wipeE env vs) (as.map f) = .ok (as.map g) := by
    refine compL_map fun a ha => ?_
    obtain ⟨e1, s, h4, h5, h6⟩ := h3 a ha
    exact ⟨_, s, h4, rfl, h5, h6⟩
  rw [hc]
  rfl
theorem comp_nm {α : Type} {i : Nat} {mi : En → R (List D)} {as : List α} {f g : α → D} (h1 : mi env = .ok (as.map f)) (hl : as.length ≤ 1000000) (h3 : ∀ a ∈ as, ∃ s, m ((wipeE env [i]).set i (some (.fr (f a)))) = .ok s ∧ s.d = g a) : mComp mi (.nm i) tYesM m [i] env = .ok (.ow (as.map g)) :=
  comp_gen h1 hl fun a ha => let ⟨s, h4, h5⟩ := h3 a ha; ⟨_, s, rfl, h4, h5⟩
theorem comp_if {α : Type} {pt : Pt} {vs : List Nat} {mi : En → R (List D)} {as : List α} {f g : α → D} {p : α → Bool} (h1 : mi env = .ok (as.map f)) (hl : as.length ≤ 1000000) (h3 : ∀ a ∈ as, ∃ e1 s, pt.go (f a) (wipeE env vs) = some e1 ∧ t e1 = .ok (p a) ∧ (p a = true → m e1 = .ok s ∧ s.d = g a)) : mComp mi pt t m vs env = .ok (.ow ((as.filter p).map g)) := by
  unfold mComp
  rw [h1]
  show (if (as.map f).length ≤ lim then _ else _) = _
  rw [if_pos (by rw [List.length_map]; unfold lim; omega)]
  have hc : compL pt.go t m (wipeE env vs) (as.map f) = .ok ((as.filter p).map g) := by
    clear h1 hl
    induction as with
    | nil => rfl
    | cons a as ih =>
      obtain ⟨e1, s, h4, h5, h6⟩ := h3 a List.mem_cons_self
      have ih := ih fun a ha => h3 a (List.mem_cons_of_mem _ ha)
      show compL pt.go t m (wipeE env vs) (f a :: as.map f) = _
      unfold compL
      rw [h4]
      simp only [h5, DL.R.quiet, DL.R.bind]
      cases c : p a with
      | true =>
        obtain ⟨h7, h8⟩ := h6 c
        rw [if_pos rfl, h7, ih, List.filter_cons_of_pos c, List.map_cons, ← h8]
      | false =>
        rw [if_neg (by simp), ih, List.filter_cons_of_neg (by simp [c])]
  rw [hc]
  rfl
end

theorem set_same {env : En} {i : Nat} {u : Option Sl} (h : env[i]? = some u) : env.set i u = env := by
  obtain ⟨hl, e⟩ := List.getElem?_eq_some_iff.mp h
  subst e
  exact List.set_getElem_self hl
/-- if t: x = .. (x is known before) -/
theorem x_ifset {env e : En} {t : En → R Bool} {m : M} {i : Nat} {b : Bool} {d d' : D} (h1 : t env = .ok b) (h2 : b = true → m env = .ok (.fr d)) (h0 : env[i]? = some (some (.fr d'))) (h4 : env.set i (some (.fr (bif b then d else d'))) = e) : sIf t (sSet i m) sNop env = .nx e := by
  cases b with
  | true => exact x_sifT h1 rfl (x_set (h2 rfl) h4)
  | false => exact x_sifF h1 rfl (by rw [← h4]; show RS.nx env = _; exact congrArg RS.nx (set_same h0).symm)
theorem xi_guard {env : En} {fs : List D} {t : En → R Bool} {m1 m2 : MI} {b : Bool} {n : Nat} {p : Pl} (h1 : t env = .ok b) (h2 : m1 env fs = .ex n p) : iSeq (iIf t m1 iNop) m2 env fs = bif b then .ex n p else m2 env fs := by
  unfold iSeq iIf
  rw [h1]
  cases b with
  | true => simp only [if_true, h2]; rfl
  | false => simp [iNop]

/-! ### values of the operations -/
section
variable {a b : Int} {xs : List D} {d d0 d1 d2 d3 d4 : D} {r : List D}
theorem l_mod (h : 0 < b) : fMod (.int a) (.int b) = .ok (.fr (.int (a % b))) := by simp [fMod, h]
theorem l_div (h : 0 < b) (h2 : b < 2 ^ 64) : fDiv (.int a) (.int b) = .ok (.fr (.int (a / b))) := by
  have h3 : b.natAbs < 2 ^ 64 := by omega
  have h4 : b.natAbs < 2 ^ 4000 := Nat.lt_of_lt_of_le h3 (by decide)
  show (if 0 < b ∧ b.natAbs < 2 ^ 4000 then R.ok (Sl.fr (.int (a / b))) else .st) = _
  rw [if_pos ⟨h, h4⟩]
theorem l_mulR (h : -(2 ^ 64) < b ∧ b < 2 ^ 64) : fMul (.int a) (.int b) = .ok (.fr (.int (a * b))) := fMul_right (by omega)
theorem l_mulL (h : -(2 ^ 64) < a ∧ a < 2 ^ 64) : fMul (.int a) (.int b) = .ok (.fr (.int (a * b))) := fMul_left (by omega)
theorem l_add : fAddL (.int a) (.int b) = .ok (.fr (.int (a + b))) := rfl
theorem l_sub : fSub (.int a) (.int b) = .ok (.fr (.int (a - b))) := rfl
theorem l_neg : fNeg (.int a) = .ok (.fr (.int (-a))) := rfl
theorem l_lt : fLt (.int a) (.int b) = .ok (.fr (.bl (decide (a < b)))) := rfl
theorem l_le : fLe (.int a) (.int b) = .ok (.fr (.bl (decide (a ≤ b)))) := rfl
theorem l_gt : fGt (.int a) (.int b) = .ok (.fr (.bl (decide (b < a)))) := rfl
theorem l_ge : fGe (.int a) (.int b) = .ok (.fr (.bl (decide (b ≤ a)))) := rfl
theorem l_int : fInt [.int a] = .ok (.fr (.int a)) := rfl
theorem l_intB {b : Bool} : fInt [.bl b] = .ok (.fr (.int (if b then 1 else 0))) := rfl
theorem l_abs : fAbs [.int a] = .ok (.fr (.int (if a < 0 then -a else a))) := rfl
theorem l_min : fMin [.int a, .int b] = .ok (.fr (.int (if b < a then b else a))) := rfl
theorem l_max : fMax [.int a, .int b] = .ok (.fr (.int (if b > a then b else a))) := rfl
theorem l_lenL : fLen [.lst xs] = .ok (.fr (.int xs.length)) := rfl
theorem l_lenT : fLen [.tup xs] = .ok (.fr (.int xs.length)) := rfl
theorem l_tuple : fTuple [.lst xs] = .ok (.fr (.tup xs)) := rfl
theorem l_tupleT : fTuple [.tup xs] = .ok (.fr (.tup xs)) := rfl
theorem l_list : fList [.lst xs] = .ok (.ow xs) := rfl
theorem l_listT : fList [.tup xs] = .ok (.ow xs) := rfl
theorem l_tup (h : xs.length ≤ lim) : fTup xs = .ok (.fr (.tup xs)) := by unfold fTup; rw [if_pos h]
theorem l_lst (h : xs.length ≤ lim) : fLst xs = .ok (.ow xs) := by unfold fLst; rw [if_pos h]
theorem l_T0 : fIx (.tup (d0 :: r)) (.int 0) = .ok (.fr d0) := by show atD _ 0 = _; unfold atD ixD; simp
theorem l_T1 : fIx (.tup (d0 :: d1 :: r)) (.int 1) = .ok (.fr d1) := by
  show atD _ 1 = _; unfold atD ixD
  rw [if_pos (by omega), if_pos (by simp only [List.length_cons]; omega)]; rfl
theorem l_T2 : fIx (.tup (d0 :: d1 :: d2 :: r)) (.int 2) = .ok (.fr d2) := by
  show atD _ 2 = _; unfold atD ixD
  rw [if_pos (by omega), if_pos (by simp only [List.length_cons]; omega)]; rfl
theorem l_T3 : fIx (.tup (d0 :: d1 :: d2 :: d3 :: r)) (.int 3) = .ok (.fr d3) := by
  show atD _ 3 = _; unfold atD ixD
  rw [if_pos (by omega), if_pos (by simp only [List.length_cons]; omega)]; rfl
theorem l_L0 : fIx (.lst (d0 :: r)) (.int 0) = .ok (.fr d0) := l_T0
theorem l_L1 : fIx (.lst (d0 :: d1 :: r)) (.int 1) = .ok (.fr d1) := l_T1
theorem l_L2 : fIx (.lst (d0 :: d1 :: d2 :: r)) (.int 2) = .ok (.fr d2) := l_T2
theorem l_L3 : fIx (.lst (d0 :: d1 :: d2 :: d3 :: r)) (.int 3) = .ok (.fr d3) := l_T3
theorem l_eqI : fEq (.int a) (.int b) = .ok (.fr (.bl (decide (a = b)))) := fEq_int a b
theorem l_neI : fNe (.int a) (.int b) = .ok (.fr (.bl (!decide (a = b)))) := fNe_int a b
theorem l_seqL : asSeq (.lst xs) = .ok xs := rfl
theorem l_seqT : asSeq (.tup xs) = .ok xs := rfl
theorem l_ixL {j : Int} (h : 0 ≤ j ∧ j < xs.length) : fIx (.lst xs) (.int j) = .ok (.fr (xs.getD j.toNat .non)) := by
  obtain ⟨n, rfl⟩ : ∃ n : Nat, j = n := ⟨j.toNat, by omega⟩
  have hn : n < xs.length := by omega
  rw [Int.toNat_natCast]
  exact ix_at (by rw [List.getD, List.getElem?_eq_getElem hn]; rfl)
theorem l_ixT {j : Int} (h : 0 ≤ j ∧ j < xs.length) : fIx (.tup xs) (.int j) = .ok (.fr (xs.getD j.toNat .non)) := l_ixL h
theorem l_row {zs : List Int} (h : 0 ≤ a ∧ a < zs.length) : fIx (.lst (zs.map .int)) (.int a) = .ok (.fr (.int (at0 zs a))) := ints_at h
theorem l_rowT {zs : List Int} (h : 0 ≤ a ∧ a < zs.length) : fIx (tupI zs) (.int a) = .ok (.fr (.int (at0 zs a))) := ints_at h
theorem l_fld {tab : Nat → Option Nat} {c i : Nat} {fs : List D} (h1 : tab c = some i) (h2 : fs[i]? = some d) : fFld tab (.obj c fs) = .ok (.fr d) := by unfold fFld; simp only [h1, h2]
theorem l_addL {ys : List D} (h : xs.length + ys.length ≤ 1000000) : fAddL (.lst xs) (.lst ys) = .ok (.ow (xs ++ ys)) := fAddL_lst h
theorem asBL_map : ∀ bs : List Bool, asBL (bs.map .bl) = some bs
  | [] => rfl
  | b :: bs => by show (asBL (bs.map .bl)).map (b :: ·) = _; rw [asBL_map bs]; rfl
end
/-! data that _law_same compares -/
theorem goodL_mem {α : Type} {f : α → D} {k : Nat} : ∀ {xs : List α}, (∀ a ∈ xs, goodD k (f a) = true) → goodL k (xs.map f) = true
  | [], _ => by unfold goodL; rfl
  | x :: xs, h => by
    show goodL k (f x :: xs.map f) = true
    unfold goodL
    rw [h x List.mem_cons_self, goodL_mem fun a m => h a (List.mem_cons_of_mem _ m)]; rfl
theorem gd_int (k : Nat) (a : Int) : goodD k (.int a) = true := by cases k <;> rfl
theorem gd_bl (k : Nat) (a : Bool) : goodD k (.bl a) = true := by cases k <;> rfl
theorem gd_tup {k : Nat} {xs : List D} (hl : xs.length ≤ 1000000) (h : goodL k xs = true) : goodD (k + 1) (.tup xs) = true := by
  show (decide (xs.length ≤ 1000000) && goodL k xs) = true
  rw [h, decide_eq_true hl]; rfl
theorem gd_lst {k : Nat} {xs : List D} (hl : xs.length ≤ 1000000) (h : goodL k xs = true) : goodD (k + 1) (.lst xs) = true := by
  show (decide (xs.length ≤ 1000000) && goodL k xs) = true
  rw [h, decide_eq_true hl]; rfl
theorem gd_tints {k : Nat} {xs : List Int} (h : xs.length ≤ 1000000) : goodD (k + 1) (tupI xs) = true := gd_tup (by rw [List.length_map]; exact h) (goodL_mem fun a _ => gd_int k a)
theorem gL_nil (k : Nat) : goodL k [] = true := by unfold goodL; rfl
theorem gL_cons {k : Nat} {d : D} {ds : List D} (h : goodD k d = true) (h2 : goodL k ds = true) : goodL k (d :: ds) = true := by unfold goodL; rw [h, h2]; rfl
theorem x_get {α : Type} {f : α → D} {xs : List α} {k : Nat} {a : α} (h : xs[k]? = some a) : fIx (.tup (xs.map f)) (.int k) = .ok (.fr (f a)) := ix_at (by rw [List.getElem?_map, h]; rfl)
theorem x_getL {α : Type} {f : α → D} {xs : List α} {k : Nat} {a : α} (h : xs[k]? = some a) : fIx (.lst (xs.map f)) (.int k) = .ok (.fr (f a)) := ix_at (by rw [List.getElem?_map, h]; rfl)
/-! texts -/
theorem strOk_of (s : String) : PyData.strOk (Str.ofString s) = true := by
  rw [Str.ofString_eq_toList]
  unfold PyData.strOk
  simp only [List.all_toArray, List.all_map, List.all_eq_true]
  intro c _
  have h : c.val.toNat.isValidChar := c.valid
  simp only [Function.comp, decide_eq_true_eq]
  show c.val.toNat < 1114112
  rcases h with h | h <;> omega
theorem strOk_app (a b : Str) (h : PyData.strOk a = true) (h2 : PyData.strOk b = true) : PyData.strOk (a ++ b) = true := by
  unfold PyData.strOk at *
  show (a.cps ++ b.cps).all _ = true
  rw [Array.all_append, h, h2]; rfl
theorem okE_str {z : Str} (h : PyData.strOk z = true) : okE (.str z) = true := by
  unfold okE
  show (true && SeqAt.shaped (.str z)) = true
  unfold SeqAt.shaped
  rw [show PyData.canLay0 (.str z) = PyData.strOk z by simp [PyData.canLay0], h]
  simp [PyData.depth]
theorem len_app (a b : Str) : (a ++ b).length = a.length + b.length := by
  show (a.cps ++ b.cps).size = _
  exact Array.size_append
theorem x_eqO {env : En} {tab : Nat → Option Fn} {m m2 : M} {c : Nat} {fs : List D} {t s : Sl} {d : D} {f : Fn} (h1 : m env = .ok (.fr (.obj c fs))) (h2 : m2 env = .ok t) (h3 : t.d = d) (h4 : tab c = some f) (h5 : okEq c d = true) (h6 : f [.obj c fs, d] = .ok s) : mEqO tab m m2 env = .ok s := by
  subst h3
  unfold mEqO
  rw [h1]
  show (m2 env).bind _ = _
  rw [h2]
  show (match tab c with | some f => if okEq c t.d = true then f [.obj c fs, t.d] else .st | none => .st) = _
  rw [h4]
  simp only [h5, if_true]
  exact h6
end DM
set_option Elab.async false
set_option linter.all false
set_option maxRecDepth 100000
set_option maxHeartbeats 4000000
namespace K00
open PySem PySem.Spec L2 DL
open PyProof.Rows hiding St

def topS (i : Nat) : Stmt := PySem.Challenge.pw_provedunseen_k00_exact_ratios.main.body.getD i (.Pass ⟨0, 0, 0, 0⟩)
def cat_BadRatio (c : Nat) : Option Bool := match c with
  | 0 => some false
  | 1 => some true
  | 2 => some false
  | 3 => some false
  | 4 => some false
  | _ => none
theorem cat_BadRatio_lt {c : Nat} (h : cat_BadRatio c = some true) : c < 5 := by
  match c, h with
  | 0, _ => exact (by decide)
  | 1, _ => exact (by decide)
  | 2, _ => exact (by decide)
  | 3, _ => exact (by decide)
  | 4, _ => exact (by decide)
  | n + 5, h => cases h
def isv_BadDraw (c : Nat) : Bool := match c with
  | 0 => false
  | 1 => false
  | 2 => false
  | 3 => false
  | 4 => true
  | _ => false
def isv_BadPermutation (c : Nat) : Bool := match c with
  | 0 => false
  | 1 => false
  | 2 => false
  | 3 => true
  | 4 => false
  | _ => false
def isv_BadWeight (c : Nat) : Bool := match c with
  | 0 => false
  | 1 => false
  | 2 => true
  | 3 => false
  | 4 => false
  | _ => false
def isv_UnseenError (c : Nat) : Bool := match c with
  | 0 => true
  | 1 => true
  | 2 => true
  | 3 => true
  | 4 => true
  | _ => false
def isv_ValueError (c : Nat) : Bool := match c with
  | 0 => true
  | 1 => true
  | 2 => true
  | 3 => true
  | 4 => true
  | _ => false
def tf_part (c : Nat) : Option Nat := if c = 5 then some 0 else none
def tf_whole (c : Nat) : Option Nat := if c = 5 then some 1 else none
def ti_Ratio (c : Nat) : Option Bool := if c = 5 then some true else none
structure Tx (K : PySem.W.Frag) (mg : Str → Option Value) (g : G0) : Prop where
  n_ValueError : mg "ValueError" = none
  n_abs : mg "abs" = none
  n_bool : mg "bool" = none
  n_int : mg "int" = none
  n_isinstance : mg "isinstance" = none
  n_len : mg "len" = none
  n_list : mg "list" = none
  n_range : mg "range" = none
  n_str : mg "str" = none
  n_tuple : mg "tuple" = none
  i_gcd : mg "gcd" = some (.builtin "math.gcd")
  c_MOST_TIMES : ∃ t, mg "MOST_TIMES" = some (.int 60 t)
  e_UnseenError : ECls K mg g 0 "UnseenError"
  e_BadRatio : ECls K mg g 1 "BadRatio"
  e_BadWeight : ECls K mg g 2 "BadWeight"
  e_BadPermutation : ECls K mg g 3 "BadPermutation"
  e_BadDraw : ECls K mg g 4 "BadDraw"
  m_Ratio : mg "Ratio" = some (.ref (g.cl 5))
  nf_Ratio : (g.fl 5).length = 2
  fld_part : ∀ c i, tf_part c = some i → FldC K g "part" c i
  fld_whole : ∀ c i, tf_whole c = some i → FldC K g "whole" c i
  put_Ratio_part : PutC K g "part" 5 0
  put_Ratio_whole : PutC K g "whole" 5 1
  isc_Ratio : IsC K g (g.cl 5) ti_Ratio
  xc : ∀ c, c < 5 → ExcC K (g.cl c)
  exm_BadRatio : ∀ c b, cat_BadRatio c = some b → PySem.W.exmOne K (.ref (g.cl c)) (.ref (g.cl 1)) = some b
  kit_BadDraw : ∀ c, c < 5 → PySem.W.kitOne K (.ref (g.cl c)) (.ref (g.cl 4)) = some (isv_BadDraw c)
  kit_BadPermutation : ∀ c, c < 5 → PySem.W.kitOne K (.ref (g.cl c)) (.ref (g.cl 3)) = some (isv_BadPermutation c)
  kit_BadWeight : ∀ c, c < 5 → PySem.W.kitOne K (.ref (g.cl c)) (.ref (g.cl 2)) = some (isv_BadWeight c)
  kit_UnseenError : ∀ c, c < 5 → PySem.W.kitOne K (.ref (g.cl c)) (.ref (g.cl 0)) = some (isv_UnseenError c)
  kit_ValueError : ∀ c, c < 5 → PySem.W.kitOne K (.ref (g.cl c)) (.type "ValueError") = some (isv_ValueError c)

abbrev s_L_cell : Stmt := topS 11
theorem sc_L_cell : FnScope ["script", "k"] ["script", "k"] (defScope s_L_cell) := ⟨rfl, rfl, rfl, by decide +kernel, rfl, by decide +kernel, by decide +kernel⟩
def m_L_cell : MS := (sSeq (sIf (mTest (mB (mBin fLt (mBV 1) (mB (mCall fLen (bCons (mBV 0) bNil)))))) (sRet (mCall fInt (bCons (mB (mBin fIx (mBV 0) (mBV 1))) bNil))) sNop)
    (sSeq (sIf (mTest (mB (mBin fGt (mB (mCall fLen (bCons (mBV 0) bNil))) (mB (mC (.int 0)))))) (sRet (mBin fAddL (mB (mBin fMul (mB (mCall fInt (bCons (mB (mBin fIx (mBV 0) (mB (mC (.int 0))))) bNil))) (mB (mBin fAddL (mB (mBin fMul (mB (mC (.int 2))) (mBV 1))) (mB (mC (.int 3))))))) (mB (mBin fMul (mB (mC (.int 977))) (mBV 1))))) sNop)
    (sRet (mBin fMul (mB (mC (.int 977))) (mBV 1)))))
def f_L_cell : Fn := runF 2 2 m_L_cell

abbrev s_L_numbers : Stmt := topS 12
theorem sc_L_numbers : FnScope ["cell", "many", "number", "mixed", "row", "k"] ["cell", "many"] (defScope s_L_numbers) := ⟨rfl, rfl, rfl, by decide +kernel, rfl, by decide +kernel, by decide +kernel⟩
abbrev b_L_numbers_1 : MS := (sIf (mTest (mB (mBin fGe (mBV 2) (mB (mC (.int 5040)))))) (sSeq (sApp 4 (mBin fMod (mB (mCall fInt (bCons (mBV 2) bNil))) (mB (mC (.int 5040)))))
    (sSet 2 (mBin fDiv (mBV 2) (mB (mC (.int 5040)))))) (sSeq (sSet 3 (mBin fMod (mB (mCall fInt (bCons (mB (mBin fAddL (mB (mBin fMul (mBV 3) (mB (mC (.int 48271))))) (mB (mBin fMul (mB (mC (.int 69621))) (mB (mBin fAddL (mBV 5) (mB (mC (.int 1))))))))) bNil))) (mB (mC (.int 2147483647)))))
    (sApp 4 (mBin fMod (mB (mBin fDiv (mB (mBin fMod (mB (mCall fInt (bCons (mB (mBin fAddL (mB (mBin fDiv (mB (mBin fMul (mBV 3) (mBV 3))) (mB (mC (.int 7))))) (mB (mBin fMul (mB (mC (.int 3))) (mBV 3))))) bNil))) (mB (mC (.int 2147483629))))) (mB (mC (.int 11))))) (mB (mC (.int 5040)))))))
def m_L_numbers : MS := (sSeq (sSet 2 (mCall fAbs (bCons (mB (mCall fInt (bCons (mBV 0) bNil))) bNil)))
    (sSeq (sSet 3 (mBin fAddL (mB (mBin fMod (mB (mCall fInt (bCons (mBV 2) bNil))) (mB (mC (.int 2147483629))))) (mB (mC (.int 1)))))
    (sSeq (sSet 4 (mCall fLst mNil))
    (sSeq (sFor (mRng1 (mBV 1)) (.nm 5) b_L_numbers_1)
    (sRetV 4)))))
def f_L_numbers : Fn := runF 2 6 m_L_numbers

abbrev s_L_same : Stmt := topS 13
theorem sc_L_same : FnScope ["value", "due", "k"] ["value", "due"] (defScope s_L_same) := ⟨rfl, rfl, rfl, by decide +kernel, rfl, by decide +kernel, by decide +kernel⟩
abbrev b_L_same_1 (self : Fn) : MS := (sIf (tNotM (mTest (mB (mCall self (mCons (mBin fIx (mBV 0) (mBV 2)) (mCons (mBin fIx (mBV 1) (mBV 2)) mNil)))))) (sRet (mC (.bl false))) sNop)
def m_L_same (self : Fn) : MS := (sSeq (sIf (tOrM (mTest (mB (mUn (fIs .tuple) (mBV 1)))) (mTest (mB (mUn (fIs .list) (mBV 1))))) (sSeq (sIf (tOrM (mTest (mB (mBin fNe (mB (mUn (fIs .tuple) (mBV 1))) (mB (mUn (fIs .tuple) (mBV 0)))))) (mTest (mB (mBin fNe (mB (mUn (fIs .list) (mBV 1))) (mB (mUn (fIs .list) (mBV 0))))))) (sRet (mC (.bl false))) sNop)
    (sSeq (sIf (mTest (mB (mBin fNe (mB (mCall fLen (bCons (mBV 0) bNil))) (mB (mCall fLen (bCons (mBV 1) bNil)))))) (sRet (mC (.bl false))) sNop)
    (sSeq (sFor (mRng1 (mB (mCall fLen (bCons (mBV 1) bNil)))) (.nm 2) (b_L_same_1 self))
    (sRet (mC (.bl true)))))) sNop)
    (sSeq (sIf (mTest (mB (mBin fIsN (mBV 1) (mB (mC .non))))) (sRet (mBin fIsN (mBV 0) (mB (mC .non)))) sNop)
    (sSeq (sIf (mTest (mB (mUn (fIs .bool) (mBV 1)))) (sRet (mAnd (mB (mUn (fIs .bool) (mBV 0))) (mB (mBin fEq (mBV 0) (mBV 1))))) sNop)
    (sSeq (sIf (mTest (mB (mUn (fIs .str) (mBV 1)))) (sRet (mAnd (mB (mUn (fIs .str) (mBV 0))) (mB (mBin fEq (mBV 0) (mBV 1))))) sNop)
    (sRet (mAnd (mB (mUn (fIs .int) (mBV 0))) (mB (mAnd (mB (mNot (mB (mUn (fIs .bool) (mBV 0))))) (mB (mBin fEq (mBV 0) (mBV 1)))))))))))
def f_L_same : Fn := recF 2 3 m_L_same 8

abbrev s_L_integer : Stmt := topS 14
theorem sc_L_integer : FnScope ["cell", "limit"] ["cell", "limit"] (defScope s_L_integer) := ⟨rfl, rfl, rfl, by decide +kernel, rfl, by decide +kernel, by decide +kernel⟩
def m_L_integer : MS := (sSeq (sIf (mTest (mB (mBin fLt (mBV 0) (mB (mC (.int 0)))))) (sRet (mBin fSub (mB (mC (.int 0))) (mB (mBin fMod (mB (mCall fInt (bCons (mB (mBin fSub (mB (mC (.int 0))) (mBV 0))) bNil))) (mBV 1))))) sNop)
    (sRet (mBin fMod (mB (mCall fInt (bCons (mBV 0) bNil))) (mBV 1))))
def f_L_integer : Fn := runF 2 2 m_L_integer

abbrev s_L_lowest : Stmt := topS 15
theorem sc_L_lowest : FnScope ["part", "whole", "a", "b", "k", "rest"] ["part", "whole"] (defScope s_L_lowest) := ⟨rfl, rfl, rfl, by decide +kernel, rfl, by decide +kernel, by decide +kernel⟩
abbrev b_L_lowest_1 : MS := (sSeq (sIf (mTest (mB (mBin fEq (mBV 3) (mB (mC (.int 0)))))) sBrk sNop)
    (sSeq (sSet 5 (mBin fMod (mB (mCall fInt (bCons (mBV 2) bNil))) (mBV 3)))
    (sSeq (sSet 2 (mVar 3))
    (sSet 3 (mVar 5)))))
def m_L_lowest : MS := (sSeq (sSet 2 (mCall fAbs (bCons (mBV 0) bNil)))
    (sSeq (sSet 3 (mCall fAbs (bCons (mBV 1) bNil)))
    (sSeq (sFor (mRng1 (mB (mC (.int 2000)))) (.nm 4) b_L_lowest_1)
    (sSeq (sIf (mTest (mB (mBin fLt (mBV 1) (mB (mC (.int 0)))))) (sSet 2 (mBin fSub (mB (mC (.int 0))) (mBV 2))) sNop)
    (sRet (mCall fTup (mCons (mBin fFdiv (mBV 0) (mBV 2)) (mCons (mBin fFdiv (mBV 1) (mBV 2)) mNil))))))))
def f_L_lowest : Fn := runF 2 6 m_L_lowest

abbrev s_L_pairs : Stmt := topS 16
theorem sc_L_pairs : FnScope ["script", "row", "mode", "limit", "terms", "k", "by", "other", "first"] ["script", "row"] (defScope s_L_pairs) := ⟨rfl, rfl, rfl, by decide +kernel, rfl, by decide +kernel, by decide +kernel⟩
abbrev b_L_pairs_1 : MS := (sIf (mTest (mB (mBin fEq (mB (mBin fIx (mBV 4) (mBV 5))) (mB (mC (.int 0)))))) (sPut 4 (mBV 5) (mC (.int 1))) sNop)
def m_L_pairs : MS := (sSeq (sSet 2 (mBin fMod (mB (mCall fInt (bCons (mB (mBin fIx (mBV 1) (mB (mC (.int 0))))) bNil))) (mB (mC (.int 5)))))
    (sSeq (sSet 3 (mBin fPow (mB (mC (.int 10))) (mB (mC (.int 60)))))
    (sSeq (sIf (mTest (mB (mBin fGt (mBV 2) (mB (mC (.int 0)))))) (sSet 3 (mBin fPow (mB (mC (.int 10))) (mB (mC (.int 30))))) sNop)
    (sSeq (sSet 4 (mComp (mRng1 (mB (mC (.int 4)))) (.nm 5) tYesM (mCall f_L_integer (mCons (mCall f_L_cell (mCons (mVar 0) (mCons (mVar 5) mNil))) (mCons (mVar 3) mNil))) [5]))
    (sSeq (sFor (mIter (mCall fTup (mCons (mC (.int 1)) (mCons (mC (.int 3)) mNil)))) (.nm 5) b_L_pairs_1)
    (sSeq (sIf (mTest (mB (mBin fEq (mBV 2) (mB (mC (.int 0)))))) (sRet (mCall fLst (mCons (mCall fTup (mCons (mBin fIx (mBV 4) (mB (mC (.int 0)))) (mCons (mBin fIx (mBV 4) (mB (mC (.int 1)))) mNil))) (mCons (mCall fTup (mCons (mBin fIx (mBV 4) (mB (mC (.int 2)))) (mCons (mBin fIx (mBV 4) (mB (mC (.int 3)))) mNil))) mNil)))) sNop)
    (sSeq (sSet 6 (mBin fAddL (mB (mC (.int 1))) (mB (mCall fAbs (bCons (mB (mCall f_L_integer (mCons (mCall f_L_cell (mCons (mVar 0) (mCons (mC (.int 4)) mNil))) (mCons (mBin fSub (mBV 3) (mB (mC (.int 1)))) mNil)))) bNil)))))
    (sSeq (sSet 7 (mBin fAddL (mB (mC (.int 1))) (mB (mCall fAbs (bCons (mB (mCall f_L_integer (mCons (mCall f_L_cell (mCons (mVar 0) (mCons (mC (.int 5)) mNil))) (mCons (mBin fSub (mBV 3) (mB (mC (.int 1)))) mNil)))) bNil)))))
    (sSeq (sIf (mTest (mB (mBin fEq (mB (mBin fMod (mB (mCall fInt (bCons (mB (mBin fIx (mBV 1) (mB (mC (.int 1))))) bNil))) (mB (mC (.int 2))))) (mB (mC (.int 1)))))) (sSet 7 (mBin fSub (mB (mC (.int 0))) (mBV 7))) sNop)
    (sSeq (sSet 8 (mCall fTup (mCons (mBin fMul (mB (mBin fIx (mBV 4) (mB (mC (.int 0))))) (mBV 6)) (mCons (mBin fMul (mB (mBin fIx (mBV 4) (mB (mC (.int 1))))) (mBV 6)) mNil))))
    (sSeq (sIf (mTest (mB (mBin fEq (mBV 2) (mB (mC (.int 1)))))) (sRet (mCall fLst (mCons (mVar 8) (mCons (mCall fTup (mCons (mBin fMul (mB (mBin fIx (mBV 4) (mB (mC (.int 2))))) (mBV 7)) (mCons (mBin fMul (mB (mBin fIx (mBV 4) (mB (mC (.int 3))))) (mBV 7)) mNil))) mNil)))) sNop)
    (sSeq (sIf (mTest (mB (mBin fEq (mBV 2) (mB (mC (.int 2)))))) (sRet (mCall fLst (mCons (mVar 8) (mCons (mCall fTup (mCons (mBin fMul (mB (mBin fIx (mBV 4) (mB (mC (.int 0))))) (mBV 7)) (mCons (mBin fMul (mB (mBin fIx (mBV 4) (mB (mC (.int 1))))) (mBV 7)) mNil))) mNil)))) sNop)
    (sSeq (sIf (mTest (mB (mBin fEq (mBV 2) (mB (mC (.int 3)))))) (sRet (mCall fLst (mCons (mVar 8) (mCons (mCall fTup (mCons (mBin fAddL (mB (mBin fMul (mB (mBin fIx (mBV 4) (mB (mC (.int 0))))) (mBV 7))) (mB (mC (.int 1)))) (mCons (mBin fMul (mB (mBin fIx (mBV 4) (mB (mC (.int 1))))) (mBV 7)) mNil))) mNil)))) sNop)
    (sRet (mCall fLst (mCons (mVar 8) (mCons (mCall fTup (mCons (mBin fSub (mB (mC (.int 0))) (mB (mBin fMul (mB (mBin fIx (mBV 4) (mB (mC (.int 0))))) (mBV 7)))) (mCons (mBin fMul (mB (mBin fIx (mBV 4) (mB (mC (.int 1))))) (mBV 7)) mNil))) mNil)))))))))))))))))
def f_L_pairs : Fn := runF 2 9 m_L_pairs

abbrev s_L_is : Stmt := topS 17
theorem sc_L_is : FnScope ["ratio", "part", "whole", "low"] ["ratio", "part", "whole"] (defScope s_L_is) := ⟨rfl, rfl, rfl, by decide +kernel, rfl, by decide +kernel, by decide +kernel⟩
def m_L_is : MS := (sSeq (sIf (tNotM (mTest (mB (mUn (fIsC ti_Ratio) (mBV 0))))) (sRet (mC (.bl false))) sNop)
    (sSeq (sSet 3 (mCall f_L_lowest (mCons (mVar 1) (mCons (mVar 2) mNil))))
    (sRet (mAnd (mB (mCall f_L_same (mCons (mUn (fFld tf_part) (mBV 0)) (mCons (mBin fIx (mBV 3) (mB (mC (.int 0)))) mNil)))) (mB (mCall f_L_same (mCons (mUn (fFld tf_whole) (mBV 0)) (mCons (mBin fIx (mBV 3) (mB (mC (.int 1)))) mNil))))))))
def f_L_is : Fn := runF 3 4 m_L_is

abbrev s_Ratio_init : Stmt := inClass (topS 9) 0
theorem sc_Ratio_init : FnScope ["self", "part", "whole", "common"] ["self", "part", "whole"] (defScope s_Ratio_init) := ⟨rfl, rfl, rfl, by decide +kernel, rfl, by decide +kernel, by decide +kernel⟩
def m_Ratio_init : MI := (iSeq (iIf (mTest (mB (mBin fEq (mBV 2) (mB (mC (.int 0)))))) (iRaise 1) iNop)
    (iSeq (iSet 3 (mCall fGcd (bCons (mBV 1) (bCons (mBV 2) bNil))))
    (iSeq (iIf (mTest (mB (mBin fLt (mBV 2) (mB (mC (.int 0)))))) (iSet 3 (mUn fNeg (mBV 3))) iNop)
    (iSeq (iFld 0 (mBin fFdiv (mBV 1) (mBV 3)))
    (iFld 1 (mBin fFdiv (mBV 2) (mBV 3)))))))
def f_Ratio_init : List D → R (List D) := runNew 3 4 2 m_Ratio_init
def new_Ratio : Fn := fNew 5 f_Ratio_init

abbrev s_Ratio_add : Stmt := inClass (topS 9) 1
theorem sc_Ratio_add : FnScope ["self", "other", "part"] ["self", "other"] (defScope s_Ratio_add) := ⟨rfl, rfl, rfl, by decide +kernel, rfl, by decide +kernel, by decide +kernel⟩
def m_Ratio_add : MS := (sSeq (sSet 2 (mBin fAddL (mB (mBin fMul (mB (mUn (fFld tf_part) (mBV 0))) (mB (mUn (fFld tf_whole) (mBV 1))))) (mB (mBin fMul (mB (mUn (fFld tf_part) (mBV 1))) (mB (mUn (fFld tf_whole) (mBV 0)))))))
    (sRet (mCall new_Ratio (mCons (mVar 2) (mCons (mBin fMul (mB (mUn (fFld tf_whole) (mBV 0))) (mB (mUn (fFld tf_whole) (mBV 1)))) mNil)))))
def f_Ratio_add : Fn := runF 2 3 m_Ratio_add

abbrev s_Ratio_mul : Stmt := inClass (topS 9) 3
theorem sc_Ratio_mul : FnScope ["self", "other"] ["self", "other"] (defScope s_Ratio_mul) := ⟨rfl, rfl, rfl, by decide +kernel, rfl, by decide +kernel, by decide +kernel⟩
def m_Ratio_mul : MS := (sRet (mCall new_Ratio (mCons (mBin fMulX (mB (mUn (fFld tf_part) (mBV 0))) (mB (mUn (fFld tf_part) (mBV 1)))) (mCons (mBin fMulX (mB (mUn (fFld tf_whole) (mBV 0))) (mB (mUn (fFld tf_whole) (mBV 1)))) mNil))))
def f_Ratio_mul : Fn := runF 2 2 m_Ratio_mul

abbrev s_Ratio_sub : Stmt := inClass (topS 9) 2
theorem sc_Ratio_sub : FnScope ["self", "other", "part"] ["self", "other"] (defScope s_Ratio_sub) := ⟨rfl, rfl, rfl, by decide +kernel, rfl, by decide +kernel, by decide +kernel⟩
def m_Ratio_sub : MS := (sSeq (sSet 2 (mBin fSub (mB (mBin fMul (mB (mUn (fFld tf_part) (mBV 0))) (mB (mUn (fFld tf_whole) (mBV 1))))) (mB (mBin fMul (mB (mUn (fFld tf_part) (mBV 1))) (mB (mUn (fFld tf_whole) (mBV 0)))))))
    (sRet (mCall new_Ratio (mCons (mVar 2) (mCons (mBin fMul (mB (mUn (fFld tf_whole) (mBV 0))) (mB (mUn (fFld tf_whole) (mBV 1)))) mNil)))))
def f_Ratio_sub : Fn := runF 2 3 m_Ratio_sub
def tab_add (c : Nat) : Option Fn := if c = 5 then some f_Ratio_add else none
def tab_mul (c : Nat) : Option Fn := if c = 5 then some f_Ratio_mul else none
def tab_sub (c : Nat) : Option Fn := if c = 5 then some f_Ratio_sub else none

abbrev s_L_sums : Stmt := topS 18
theorem sc_L_sums : FnScope ["left", "right", "low", "other", "whole"] ["left", "right", "low", "other"] (defScope s_L_sums) := ⟨rfl, rfl, rfl, by decide +kernel, rfl, by decide +kernel, by decide +kernel⟩
def m_L_sums : MS := (sSeq (sSet 4 (mBin fMul (mB (mBin fIx (mBV 2) (mB (mC (.int 1))))) (mB (mBin fIx (mBV 3) (mB (mC (.int 1)))))))
    (sSeq (sIf (tNotM (mTest (mB (mCall f_L_is (mCons (mBin (fOwn tab_add) (mBV 0) (mBV 1)) (mCons (mBin fAddL (mB (mBin fMul (mB (mBin fIx (mBV 2) (mB (mC (.int 0))))) (mB (mBin fIx (mBV 3) (mB (mC (.int 1))))))) (mB (mBin fMul (mB (mBin fIx (mBV 3) (mB (mC (.int 0))))) (mB (mBin fIx (mBV 2) (mB (mC (.int 1)))))))) (mCons (mVar 4) mNil))))))) (sRet (mC (.bl false))) sNop)
    (sSeq (sIf (tNotM (mTest (mB (mCall f_L_is (mCons (mBin (fOwn tab_sub) (mBV 0) (mBV 1)) (mCons (mBin fSub (mB (mBin fMul (mB (mBin fIx (mBV 2) (mB (mC (.int 0))))) (mB (mBin fIx (mBV 3) (mB (mC (.int 1))))))) (mB (mBin fMul (mB (mBin fIx (mBV 3) (mB (mC (.int 0))))) (mB (mBin fIx (mBV 2) (mB (mC (.int 1)))))))) (mCons (mVar 4) mNil))))))) (sRet (mC (.bl false))) sNop)
    (sRet (mCall f_L_is (mCons (mBin (fOwn tab_mul) (mBV 0) (mBV 1)) (mCons (mBin fMul (mB (mBin fIx (mBV 2) (mB (mC (.int 0))))) (mB (mBin fIx (mBV 3) (mB (mC (.int 0)))))) (mCons (mVar 4) mNil))))))))
def f_L_sums : Fn := runF 4 5 m_L_sums

abbrev s_Ratio_raised : Stmt := inClass (topS 9) 7
theorem sc_Ratio_raised : FnScope ["self", "times", "power", "_"] ["self", "times"] (defScope s_Ratio_raised) := ⟨rfl, rfl, rfl, by decide +kernel, rfl, by decide +kernel, by decide +kernel⟩
abbrev b_Ratio_raised_1 : MS := (sSet 2 (mBin (fOwn tab_mul) (mBV 2) (mBV 0)))
def m_Ratio_raised : MS := (sSeq (sIf (tOrM (mTest (mB (mBin fLt (mBV 1) (mB (mC (.int 0)))))) (mTest (mB (mBin fGt (mBV 1) (mB (mC (.int 60))))))) (sRaise1 1 (mJoin [(mB (mC (.str (Str.ofString "a ratio is raised 0 to ")))), (mB (mUn fFmt (mB (mC (.int 60))))), (mB (mC (.str (Str.ofString " times"))))])) sNop)
    (sSeq (sSet 2 (mCall new_Ratio (mCons (mC (.int 1)) (mCons (mC (.int 1)) mNil))))
    (sSeq (sFor (mRng1 (mBV 1)) (.nm 3) b_Ratio_raised_1)
    (sRetV 2))))
def f_Ratio_raised : Fn := runF 2 4 m_Ratio_raised
def tab_raised (c : Nat) : Option Fn := if c = 5 then some f_Ratio_raised else none

abbrev s_L_power : Stmt := topS 19
theorem sc_L_power : FnScope ["ratio", "low", "times", "part", "whole", "k", "power"] ["ratio", "low", "times"] (defScope s_L_power) := ⟨rfl, rfl, rfl, by decide +kernel, rfl, by decide +kernel, by decide +kernel⟩
abbrev b_L_power_1 : MS := (sSeq (sSet 3 (mBin fMulX (mBV 3) (mB (mBin fIx (mBV 1) (mB (mC (.int 0)))))))
    (sSet 4 (mBin fMulX (mBV 4) (mB (mBin fIx (mBV 1) (mB (mC (.int 1))))))))
def m_L_power : MS := (sSeq (sSet 3 (mC (.int 1)))
    (sSeq (sSet 4 (mC (.int 1)))
    (sSeq (sFor (mRng1 (mBV 2)) (.nm 5) b_L_power_1)
    (sSeq (sSet 6 (mMeth tab_raised (mVar 0) (mCons (mVar 2) mNil)))
    (sRet (mAnd (mB (mUn (fIsC ti_Ratio) (mBV 6))) (mB (mAnd (mB (mCall f_L_same (mCons (mUn (fFld tf_part) (mBV 6)) (mCons (mVar 3) mNil)))) (mB (mCall f_L_same (mCons (mUn (fFld tf_whole) (mBV 6)) (mCons (mVar 4) mNil))))))))))))
def f_L_power : Fn := runF 3 7 m_L_power

abbrev s_L_no_whole : Stmt := topS 20
theorem sc_L_no_whole : FnScope ["part", "e"] ["part"] (defScope s_L_no_whole) := ⟨rfl, rfl, rfl, by decide +kernel, rfl, by decide +kernel, by decide +kernel⟩
def m_L_no_whole : MS := (sSeq (sTryAs 1 cat_BadRatio (sDrop (mCall new_Ratio (mCons (mVar 0) (mCons (mC (.int 0)) mNil)))) (fun c p => sup p (sSeq (sIf (tOrM (mTest (mB (mC (.bl (isv_BadWeight c))))) (tOrM (mTest (mB (mC (.bl (isv_BadDraw c))))) (mTest (mB (mC (.bl (isv_BadPermutation c))))))) (sRet (mC (.bl false))) sNop)
    (sRet (mAnd (mB (mC (.bl (isv_UnseenError c)))) (mB (mC (.bl (isv_ValueError c)))))))))
    (sRet (mC (.bl false))))
def f_L_no_whole : Fn := runF 1 2 m_L_no_whole

abbrev s_L_no_power : Stmt := topS 21
theorem sc_L_no_power : FnScope ["ratio", "times", "e"] ["ratio", "times"] (defScope s_L_no_power) := ⟨rfl, rfl, rfl, by decide +kernel, rfl, by decide +kernel, by decide +kernel⟩
def m_L_no_power : MS := (sSeq (sTryAs 2 cat_BadRatio (sDrop (mMeth tab_raised (mVar 0) (mCons (mVar 1) mNil))) (fun c p => sup p (sSeq (sIf (tOrM (mTest (mB (mC (.bl (isv_BadWeight c))))) (tOrM (mTest (mB (mC (.bl (isv_BadDraw c))))) (mTest (mB (mC (.bl (isv_BadPermutation c))))))) (sRet (mC (.bl false))) sNop)
    (sRet (mAnd (mB (mC (.bl (isv_UnseenError c)))) (mB (mC (.bl (isv_ValueError c)))))))))
    (sRet (mC (.bl false))))
def f_L_no_power : Fn := runF 2 3 m_L_no_power

abbrev s_Ratio_eq : Stmt := inClass (topS 9) 4
theorem sc_Ratio_eq : FnScope ["self", "other"] ["self", "other"] (defScope s_Ratio_eq) := ⟨rfl, rfl, rfl, by decide +kernel, rfl, by decide +kernel, by decide +kernel⟩
def m_Ratio_eq : MS := (sRet (mAnd (mB (mUn (fIsC ti_Ratio) (mBV 1))) (mB (mAnd (mB (mBin fEq (mB (mUn (fFld tf_part) (mBV 0))) (mB (mUn (fFld tf_part) (mBV 1))))) (mB (mBin fEq (mB (mUn (fFld tf_whole) (mBV 0))) (mB (mUn (fFld tf_whole) (mBV 1)))))))))
def f_Ratio_eq : Fn := runF 2 2 m_Ratio_eq

abbrev s_Ratio_str : Stmt := inClass (topS 9) 5
theorem sc_Ratio_str : FnScope ["self"] ["self"] (defScope s_Ratio_str) := ⟨rfl, rfl, rfl, by decide +kernel, rfl, by decide +kernel, by decide +kernel⟩
def m_Ratio_str : MS := (sRet (mJoin [(mB (mUn fFmt (mB (mUn (fFld tf_part) (mBV 0))))), (mB (mC (.str (Str.ofString "/")))), (mB (mUn fFmt (mB (mUn (fFld tf_whole) (mBV 0)))))]))
def f_Ratio_str : Fn := runF 1 1 m_Ratio_str

abbrev s_Ratio_less : Stmt := inClass (topS 9) 6
theorem sc_Ratio_less : FnScope ["self", "other"] ["self", "other"] (defScope s_Ratio_less) := ⟨rfl, rfl, rfl, by decide +kernel, rfl, by decide +kernel, by decide +kernel⟩
def m_Ratio_less : MS := (sRet (mBin fLt (mB (mBin fMul (mB (mUn (fFld tf_part) (mBV 0))) (mB (mUn (fFld tf_whole) (mBV 1))))) (mB (mBin fMul (mB (mUn (fFld tf_part) (mBV 1))) (mB (mUn (fFld tf_whole) (mBV 0)))))))
def f_Ratio_less : Fn := runF 2 2 m_Ratio_less
def tab_eq (c : Nat) : Option Fn := if c = 5 then some f_Ratio_eq else none
def tab_str (c : Nat) : Option Fn := if c = 5 then some f_Ratio_str else none
def tab_less (c : Nat) : Option Fn := if c = 5 then some f_Ratio_less else none

abbrev s_L_compared : Stmt := topS 22
theorem sc_L_compared : FnScope ["ratios", "lows", "a", "b", "k", "text", "thing"] ["ratios", "lows"] (defScope s_L_compared) := ⟨rfl, rfl, rfl, by decide +kernel, rfl, by decide +kernel, by decide +kernel⟩
abbrev b_L_compared_1 : MS := (sSeq (sIf (tNotM (mTest (mB (mCall f_L_same (mCons (mEqO tab_eq (mBin fIx (mBV 0) (mBV 2)) (mBin fIx (mBV 0) (mBV 3))) (mCons (mBin fEq (mB (mBin fIx (mBV 1) (mBV 2))) (mB (mBin fIx (mBV 1) (mBV 3)))) mNil)))))) (sRet (mC (.bl false))) sNop)
    (sIf (tNotM (mTest (mB (mCall f_L_same (mCons (mMeth tab_less (mBin fIx (mBV 0) (mBV 2)) (mCons (mBin fIx (mBV 0) (mBV 3)) mNil)) (mCons (mBin fLt (mB (mBin fMul (mB (mBin fIx (mB (mBin fIx (mBV 1) (mBV 2))) (mB (mC (.int 0))))) (mB (mBin fIx (mB (mBin fIx (mBV 1) (mBV 3))) (mB (mC (.int 1))))))) (mB (mBin fMul (mB (mBin fIx (mB (mBin fIx (mBV 1) (mBV 3))) (mB (mC (.int 0))))) (mB (mBin fIx (mB (mBin fIx (mBV 1) (mBV 2))) (mB (mC (.int 1)))))))) mNil)))))) (sRet (mC (.bl false))) sNop))
abbrev b_L_compared_2 : MS := (sFor (mRng1 (mB (mC (.int 4)))) (.nm 3) b_L_compared_1)
abbrev b_L_compared_3 : MS := (sIf (tNotM (mTest (mB (mCall f_L_same (mCons (mEqO tab_eq (mBin fIx (mBV 0) (mBV 4)) (mVar 6)) (mCons (mC (.bl false)) mNil)))))) (sRet (mC (.bl false))) sNop)
abbrev b_L_compared_4 : MS := (sSeq (sSet 5 (mBin fAddL (mB (mBin fAddL (mB (mCall fStr (bCons (mB (mBin fIx (mB (mBin fIx (mBV 1) (mBV 4))) (mB (mC (.int 0))))) bNil))) (mB (mC (.str (Str.ofString "/")))))) (mB (mCall fStr (bCons (mB (mBin fIx (mB (mBin fIx (mBV 1) (mBV 4))) (mB (mC (.int 1))))) bNil)))))
    (sSeq (sFor (mIter (mCall fLst (mCons (mBin fIx (mB (mBin fIx (mBV 1) (mBV 4))) (mB (mC (.int 0)))) (mCons (mBin fIx (mB (mBin fIx (mBV 1) (mBV 4))) (mB (mC (.int 1)))) (mCons (mBin fIx (mBV 1) (mBV 4)) (mCons (mVar 5) (mCons (mC .non) (mCons (mCall fLst (mCons (mBin fIx (mB (mBin fIx (mBV 1) (mBV 4))) (mB (mC (.int 0)))) (mCons (mBin fIx (mB (mBin fIx (mBV 1) (mBV 4))) (mB (mC (.int 1)))) mNil))) mNil)))))))) (.nm 6) b_L_compared_3)
    (sIf (tNotM (mTest (mB (mCall f_L_same (mCons (mCall (fStrO tab_str) (mCons (mBin fIx (mBV 0) (mBV 4)) mNil)) (mCons (mVar 5) mNil)))))) (sRet (mC (.bl false))) sNop)))
def m_L_compared : MS := (sSeq (sFor (mRng1 (mB (mC (.int 4)))) (.nm 2) b_L_compared_2)
    (sSeq (sFor (mRng1 (mB (mC (.int 4)))) (.nm 4) b_L_compared_4)
    (sRet (mC (.bl true)))))
def f_L_compared : Fn := runF 2 7 m_L_compared

abbrev s_law : Stmt := topS 23
theorem sc_law : FnScope ["script", "row", "pairs", "low", "near", "lows", "pair", "ratios", "k", "places", "a", "b", "many", "times"] ["script"] (defScope s_law) := ⟨rfl, rfl, rfl, by decide +kernel, rfl, by decide +kernel, by decide +kernel⟩
abbrev b_law_1 : MS := (sSeq (sIf (tOrM (tNotM (mTest (mB (mCall f_L_is (mCons (mBin fIx (mBV 7) (mBV 8)) (mCons (mBin fIx (mB (mBin fIx (mBV 2) (mBV 8))) (mB (mC (.int 0)))) (mCons (mBin fIx (mB (mBin fIx (mBV 2) (mBV 8))) (mB (mC (.int 1)))) mNil))))))) (tNotM (mTest (mB (mCall f_L_no_whole (mCons (mBin fIx (mB (mBin fIx (mBV 2) (mBV 8))) (mB (mC (.int 0)))) mNil)))))) (sRet (mC (.bl false))) sNop)
    (sIf (tNotM (mTest (mB (mCall f_L_is (mCons (mCall new_Ratio (mCons (mBin fIx (mB (mBin fIx (mBV 2) (mBV 8))) (mB (mC (.int 0)))) (mCons (mBin fSub (mB (mC (.int 0))) (mB (mBin fIx (mB (mBin fIx (mBV 2) (mBV 8))) (mB (mC (.int 1)))))) mNil))) (mCons (mBin fIx (mB (mBin fIx (mBV 2) (mBV 8))) (mB (mC (.int 0)))) (mCons (mBin fSub (mB (mC (.int 0))) (mB (mBin fIx (mB (mBin fIx (mBV 2) (mBV 8))) (mB (mC (.int 1)))))) mNil))))))) (sRet (mC (.bl false))) sNop))
abbrev b_law_2 : MS := (sSeq (sSet 10 (mBin fIx (mBV 9) (mB (mC (.int 0)))))
    (sSeq (sSet 11 (mBin fIx (mBV 9) (mB (mC (.int 1)))))
    (sIf (tNotM (mTest (mB (mCall f_L_sums (mCons (mBin fIx (mBV 7) (mBV 10)) (mCons (mBin fIx (mBV 7) (mBV 11)) (mCons (mBin fIx (mBV 5) (mBV 10)) (mCons (mBin fIx (mBV 5) (mBV 11)) mNil)))))))) (sRet (mC (.bl false))) sNop)))
abbrev b_law_3 : MS := (sIf (tOrM (tNotM (mTest (mB (mCall f_L_power (mCons (mBin fIx (mBV 7) (mB (mC (.int 0)))) (mCons (mBin fIx (mBV 5) (mB (mC (.int 0)))) (mCons (mVar 13) mNil))))))) (tNotM (mTest (mB (mCall f_L_power (mCons (mBin fIx (mBV 7) (mB (mC (.int 3)))) (mCons (mBin fIx (mBV 5) (mB (mC (.int 3)))) (mCons (mVar 13) mNil)))))))) (sRet (mC (.bl false))) sNop)
abbrev b_law_4 : MS := (sIf (tOrM (tNotM (mTest (mB (mCall f_L_no_power (mCons (mBin fIx (mBV 7) (mBV 8)) (mCons (mBin fSub (mB (mBin fSub (mB (mC (.int 0))) (mB (mC (.int 1))))) (mB (mBin fMod (mB (mCall fInt (bCons (mB (mBin fIx (mBV 1) (mB (mC (.int 4))))) bNil))) (mB (mC (.int 3)))))) mNil)))))) (tNotM (mTest (mB (mCall f_L_no_power (mCons (mBin fIx (mBV 7) (mBV 8)) (mCons (mBin fAddL (mB (mC (.int 61))) (mB (mBin fMod (mB (mCall fInt (bCons (mB (mBin fIx (mBV 1) (mB (mC (.int 5))))) bNil))) (mB (mC (.int 3)))))) mNil))))))) (sRet (mC (.bl false))) sNop)
abbrev b_law_5 : MS := (sIf (tNotM (mTest (mB (mCall f_L_is (mCons (mBin fIx (mBV 7) (mBV 8)) (mCons (mBin fIx (mB (mBin fIx (mBV 2) (mBV 8))) (mB (mC (.int 0)))) (mCons (mBin fIx (mB (mBin fIx (mBV 2) (mBV 8))) (mB (mC (.int 1)))) mNil))))))) (sRet (mC (.bl false))) sNop)
def m_law : MS := (sSeq (sSet 1 (mCall f_L_numbers (mCons (mCall f_L_cell (mCons (mVar 0) (mCons (mC (.int 6)) mNil))) (mCons (mC (.int 8)) mNil))))
    (sSeq (sFrz [1] (sSet 2 (mCall f_L_pairs (mCons (mVar 0) (mCons (mVar 1) mNil)))))
    (sSeq (sSet 3 (mCall f_L_lowest (mCons (mBin fIx (mB (mBin fIx (mBV 2) (mB (mC (.int 0))))) (mB (mC (.int 0)))) (mCons (mBin fIx (mB (mBin fIx (mBV 2) (mB (mC (.int 0))))) (mB (mC (.int 1)))) mNil))))
    (sSeq (sSet 4 (mC (.int 2)))
    (sSeq (sIf (mTest (mB (mBin fGt (mB (mBin fIx (mBV 3) (mB (mC (.int 1))))) (mB (mC (.int 1)))))) (sSet 4 (mBin fSub (mB (mBin fIx (mBV 3) (mB (mC (.int 1))))) (mB (mC (.int 1))))) sNop)
    (sSeq (sApp 2 (mCall fTup (mCons (mBin fIx (mBV 3) (mB (mC (.int 0)))) (mCons (mVar 4) mNil))))
    (sSeq (sSet 4 (mBin fAddL (mB (mBin fIx (mBV 3) (mB (mC (.int 0))))) (mB (mC (.int 1)))))
    (sSeq (sIf (mTest (mB (mBin fGt (mB (mBin fIx (mBV 3) (mB (mC (.int 0))))) (mB (mC (.int 0)))))) (sSet 4 (mBin fSub (mB (mBin fIx (mBV 3) (mB (mC (.int 0))))) (mB (mC (.int 1))))) sNop)
    (sSeq (sApp 2 (mCall fTup (mCons (mVar 4) (mCons (mBin fIx (mBV 3) (mB (mC (.int 1)))) mNil))))
    (sSeq (sFrz [2] (sSet 5 (mComp (mIter (mVar 2)) (.nm 6) tYesM (mCall f_L_lowest (mCons (mBin fIx (mBV 6) (mB (mC (.int 0)))) (mCons (mBin fIx (mBV 6) (mB (mC (.int 1)))) mNil))) [6])))
    (sSeq (sFrz [2] (sSet 7 (mComp (mIter (mVar 2)) (.nm 6) tYesM (mCall new_Ratio (mCons (mBin fIx (mBV 6) (mB (mC (.int 0)))) (mCons (mBin fIx (mBV 6) (mB (mC (.int 1)))) mNil))) [6])))
    (sSeq (sFor (mRng1 (mB (mC (.int 4)))) (.nm 8) b_law_1)
    (sSeq (sFor (mIter (mCall fLst (mCons (mCall fTup (mCons (mC (.int 0)) (mCons (mC (.int 1)) mNil))) (mCons (mCall fTup (mCons (mC (.int 1)) (mCons (mC (.int 0)) mNil))) (mCons (mCall fTup (mCons (mC (.int 0)) (mCons (mC (.int 0)) mNil))) (mCons (mCall fTup (mCons (mC (.int 2)) (mCons (mC (.int 3)) mNil))) mNil)))))) (.nm 9) b_law_2)
    (sSeq (sIf (tNotM (mTest (mB (mCall (lent f_L_compared) (bCons (mBV 7) (bCons (mBV 5) bNil)))))) (sRet (mC (.bl false))) sNop)
    (sSeq (sSet 12 (mC (.int 2)))
    (sSeq (sIf (mTest (mB (mBin fEq (mB (mBin fMod (mB (mCall fInt (bCons (mB (mBin fIx (mBV 1) (mB (mC (.int 2))))) bNil))) (mB (mC (.int 4))))) (mB (mC (.int 0)))))) (sSet 12 (mC (.int 60))) sNop)
    (sSeq (sFor (mIter (mCall fLst (mCons (mC (.int 0)) (mCons (mBin fMod (mB (mCall fInt (bCons (mB (mBin fIx (mBV 1) (mB (mC (.int 3))))) bNil))) (mB (mC (.int 61)))) (mCons (mVar 12) mNil))))) (.nm 13) b_law_3)
    (sSeq (sFor (mRng1 (mB (mC (.int 2)))) (.nm 8) b_law_4)
    (sSeq (sIf (tNotM (mTest (mB (mCall f_L_no_whole (mCons (mC (.int 0)) mNil))))) (sRet (mC (.bl false))) sNop)
    (sSeq (sFor (mRng1 (mB (mC (.int 4)))) (.nm 8) b_law_5)
    (sRet (mC (.bl true)))))))))))))))))))))))
def f_law : Fn := runF 1 14 m_law

section
variable {P : Program} {w : World} {K : PySem.W.Frag} {mg : Str → Option Value} {base : Heap} {g : G0}
theorem hu64 {k : Nat} {A : Around} (hr : Room k A) : A.units + 64 < cLine := hr.units
theorem hu65 {k : Nat} {A : Around} (hr : Room k A) : A.units + 65 < cLine := by have := hr.un; omega
theorem hcat_BadRatio (T : Tx K mg g) : ∀ c b, cat_BadRatio c = some b → PySem.W.exmOne K (.ref (g.cl c)) (.ref (g.cl 1)) = some b := T.exm_BadRatio
theorem ok_L_cell {a : Addr} {fd : FuncData} (F : Fun K "_law_cell" "_law_cell" s_L_cell a fd) (hm : mg "_law_cell" = some (.ref a)) (hb : Binds K fd ["script", "k"] []) (T : Tx K mg g) : FD P w K mg base g 1 "_law_cell" ["script", "k"] f_L_cell :=
  okF F sc_L_cell hm hb m_L_cell fun cdv A outer s H E hr =>
    (dss_cons (ds_if (dt_lt (de_v 1) (de_b (de_len rfl T.n_len (db_cons (de_v 0) db_nil)))) (dss_one (ds_ret (de_int1 rfl T.n_int (db_cons (de_b (de_ix (de_v 0) (de_v 1) (fun _ _ => rfl))) db_nil)))) dss_nil)
      (dss_cons (ds_if (dt_gt (de_b (de_len rfl T.n_len (db_cons (de_v 0) db_nil))) (de_b de_int)) (dss_one (ds_ret (de_addL (de_b (de_mul (de_b (de_int1 rfl T.n_int (db_cons (de_b (de_ix (de_v 0) (de_b de_int) (fun _ _ => rfl))) db_nil))) (de_b (de_addL (de_b (de_mul (de_b de_int) (de_v 1))) (de_b de_int))))) (de_b (de_mul (de_b de_int) (de_v 1)))))) dss_nil)
      (dss_one (ds_ret (de_mul (de_b de_int) (de_v 1))))))
theorem ok_L_numbers {a : Addr} {fd : FuncData} (F : Fun K "_law_numbers" "_law_numbers" s_L_numbers a fd) (hm : mg "_law_numbers" = some (.ref a)) (hb : Binds K fd ["cell", "many"] []) (T : Tx K mg g) : FD P w K mg base g 1 "_law_numbers" ["cell", "many"] f_L_numbers :=
  okF F sc_L_numbers hm hb m_L_numbers fun cdv A outer s H E hr =>
    (dss_cons (ds_set (i := 2) hT sc_L_numbers.nd rfl (.inl rfl) (de_abs rfl T.n_abs (db_cons (de_b (de_int1 rfl T.n_int (db_cons (de_v 0) db_nil))) db_nil)))
      (dss_cons (ds_set (i := 3) hT sc_L_numbers.nd rfl (.inl rfl) (de_addL (de_b (de_mod (de_b (de_int1 rfl T.n_int (db_cons (de_v 2) db_nil))) (de_b de_int))) (de_b de_int)))
      (dss_cons (ds_set (i := 4) hT sc_L_numbers.nd rfl (.inl rfl) (de_lst da_nil))
      (dss_cons (ds_for (pt := (.nm 5)) hT (passes_of rfl) rfl (di_rng1 rfl T.n_range (de_v 1)) (pg_name (i := 5) sc_L_numbers.nd rfl (.inl rfl)) (dss_one (ds_if (dt_ge (de_v 2) (de_b de_int)) (dss_cons (ds_app 4 (he := (de_mod (de_b (de_int1 rfl T.n_int (db_cons (de_v 2) db_nil))) (de_b de_int))) (hx := hT))
      (dss_one (ds_set (i := 2) hT sc_L_numbers.nd rfl (.inl rfl) (de_div (de_v 2) (de_b de_int))))) (dss_cons (ds_set (i := 3) hT sc_L_numbers.nd rfl (.inl rfl) (de_mod (de_b (de_int1 rfl T.n_int (db_cons (de_b (de_addL (de_b (de_mul (de_v 3) (de_b de_int))) (de_b (de_mul (de_b de_int) (de_b (de_addL (de_v 5) (de_b de_int))))))) db_nil))) (de_b de_int)))
      (dss_one (ds_app 4 (he := (de_mod (de_b (de_div (de_b (de_mod (de_b (de_int1 rfl T.n_int (db_cons (de_b (de_addL (de_b (de_div (de_b (de_mul (de_v 3) (de_v 3))) (de_b de_int))) (de_b (de_mul (de_b de_int) (de_v 3))))) db_nil))) (de_b de_int))) (de_b de_int))) (de_b de_int))) (hx := hT)))))))
      (dss_one (ds_retV 4))))))
theorem ok_L_same {a : Addr} {fd : FuncData} (F : Fun K "_law_same" "_law_same" s_L_same a fd) (hm : mg "_law_same" = some (.ref a)) (hb : Binds K fd ["value", "due"] []) (T : Tx K mg g) : FD P w K mg base g 8 "_law_same" ["value", "due"] f_L_same := by
  have all : ∀ n : Nat, FD P w K mg base g (0 + n) "_law_same" ["value", "due"] (recF 2 3 m_L_same n) := fun n => by
    induction n with
    | zero => exact FD.none _ F hm hb
    | succ n ih => exact okF (k := 0 + n) F sc_L_same hm hb (m_L_same (recF 2 3 m_L_same n)) fun cdv A outer s H E hr =>
        (dss_cons (ds_if (dt_w (dw_or (dt_val (de_b (de_isi .tuple rfl T.n_isinstance rfl T.n_tuple (de_v 1)))) (dw_or1 (dt_val (de_b (de_isi .list rfl T.n_isinstance rfl T.n_list (de_v 1))))))) (dss_cons (ds_if (dt_w (dw_or (dt_ne (hu64 hr) (de_b (de_isi .tuple rfl T.n_isinstance rfl T.n_tuple (de_v 1))) (de_b (de_isi .tuple rfl T.n_isinstance rfl T.n_tuple (de_v 0)))) (dw_or1 (dt_ne (hu64 hr) (de_b (de_isi .list rfl T.n_isinstance rfl T.n_list (de_v 1))) (de_b (de_isi .list rfl T.n_isinstance rfl T.n_list (de_v 0))))))) (dss_one (ds_ret de_bl)) dss_nil)
      (dss_cons (ds_if (dt_ne (hu64 hr) (de_b (de_len rfl T.n_len (db_cons (de_v 0) db_nil))) (de_b (de_len rfl T.n_len (db_cons (de_v 1) db_nil)))) (dss_one (ds_ret de_bl)) dss_nil)
      (dss_cons (ds_for (pt := (.nm 2)) hT (passes_of rfl) rfl (di_rng1 rfl T.n_range (de_b (de_len rfl T.n_len (db_cons (de_v 1) db_nil)))) (pg_name (i := 2) sc_L_same.nd rfl (.inl rfl)) (dss_one (ds_if (dt_not (dt_val (de_b (de_fn (ih.mono (by omega)) hr (takes_of rfl rfl rfl rfl) rfl (da_cons (de_ix (de_v 0) (de_v 2) (fun _ _ => rfl)) (da_cons (de_ix (de_v 1) (de_v 2) (fun _ _ => rfl)) da_nil)))))) (dss_one (ds_ret de_bl)) dss_nil)))
      (dss_one (ds_ret de_bl))))) dss_nil)
      (dss_cons (ds_if (dt_isN (de_v 1) (de_b de_non)) (dss_one (ds_ret (de_isN (de_v 0) (de_b de_non)))) dss_nil)
      (dss_cons (ds_if (dt_val (de_b (de_isi .bool rfl T.n_isinstance rfl T.n_bool (de_v 1)))) (dss_one (ds_ret (de_and (de_b (de_isi .bool rfl T.n_isinstance rfl T.n_bool (de_v 0))) (de_one (de_b (de_eq (hu64 hr) (de_v 0) (de_v 1))))))) dss_nil)
      (dss_cons (ds_if (dt_val (de_b (de_isi .str rfl T.n_isinstance rfl T.n_str (de_v 1)))) (dss_one (ds_ret (de_and (de_b (de_isi .str rfl T.n_isinstance rfl T.n_str (de_v 0))) (de_one (de_b (de_eq (hu64 hr) (de_v 0) (de_v 1))))))) dss_nil)
      (dss_one (ds_ret (de_and (de_b (de_isi .int rfl T.n_isinstance rfl T.n_int (de_v 0))) (de_b (de_and (de_b (de_not (de_b (de_isi .bool rfl T.n_isinstance rfl T.n_bool (de_v 0))))) (de_one (de_b (de_eq (hu64 hr) (de_v 0) (de_v 1)))))))))))))
  exact all 8
theorem ok_L_integer {a : Addr} {fd : FuncData} (F : Fun K "_law_integer" "_law_integer" s_L_integer a fd) (hm : mg "_law_integer" = some (.ref a)) (hb : Binds K fd ["cell", "limit"] []) (T : Tx K mg g) : FD P w K mg base g 1 "_law_integer" ["cell", "limit"] f_L_integer :=
  okF F sc_L_integer hm hb m_L_integer fun cdv A outer s H E hr =>
    (dss_cons (ds_if (dt_lt (de_v 0) (de_b de_int)) (dss_one (ds_ret (de_sub (de_b de_int) (de_b (de_mod (de_b (de_int1 rfl T.n_int (db_cons (de_b (de_sub (de_b de_int) (de_v 0))) db_nil))) (de_v 1)))))) dss_nil)
      (dss_one (ds_ret (de_mod (de_b (de_int1 rfl T.n_int (db_cons (de_v 0) db_nil))) (de_v 1)))))
theorem ok_L_lowest {a : Addr} {fd : FuncData} (F : Fun K "_law_lowest" "_law_lowest" s_L_lowest a fd) (hm : mg "_law_lowest" = some (.ref a)) (hb : Binds K fd ["part", "whole"] []) (T : Tx K mg g) : FD P w K mg base g 1 "_law_lowest" ["part", "whole"] f_L_lowest :=
  okF F sc_L_lowest hm hb m_L_lowest fun cdv A outer s H E hr =>
    (dss_cons (ds_set (i := 2) hT sc_L_lowest.nd rfl (.inl rfl) (de_abs rfl T.n_abs (db_cons (de_v 0) db_nil)))
      (dss_cons (ds_set (i := 3) hT sc_L_lowest.nd rfl (.inl rfl) (de_abs rfl T.n_abs (db_cons (de_v 1) db_nil)))
      (dss_cons (ds_for (pt := (.nm 4)) hT (passes_of rfl) rfl (di_rng1 rfl T.n_range (de_b de_int)) (pg_name (i := 4) sc_L_lowest.nd rfl (.inl rfl)) (dss_cons (ds_if (dt_eq (hu64 hr) (de_v 3) (de_b de_int)) (dss_one ds_brk) dss_nil)
      (dss_cons (ds_set (i := 5) hT sc_L_lowest.nd rfl (.inl rfl) (de_mod (de_b (de_int1 rfl T.n_int (db_cons (de_v 2) db_nil))) (de_v 3)))
      (dss_cons (ds_set (i := 2) hT sc_L_lowest.nd rfl (.inl rfl) (de_var 3))
      (dss_one (ds_set (i := 3) hT sc_L_lowest.nd rfl (.inl rfl) (de_var 5)))))))
      (dss_cons (ds_if (dt_lt (de_v 1) (de_b de_int)) (dss_one (ds_set (i := 2) hT sc_L_lowest.nd rfl (.inl rfl) (de_sub (de_b de_int) (de_v 2)))) dss_nil)
      (dss_one (ds_ret (de_tup (da_cons (de_fdivN (de_v 0) (de_v 2)) (da_cons (de_fdivN (de_v 1) (de_v 2)) da_nil)))))))))
theorem ok_L_pairs {a : Addr} {fd : FuncData} (F : Fun K "_law_pairs" "_law_pairs" s_L_pairs a fd) (hm : mg "_law_pairs" = some (.ref a)) (hb : Binds K fd ["script", "row"] []) (T : Tx K mg g) (G_L_cell : FD P w K mg base g 1 "_law_cell" ["script", "k"] f_L_cell) (G_L_integer : FD P w K mg base g 1 "_law_integer" ["cell", "limit"] f_L_integer) : FD P w K mg base g 2 "_law_pairs" ["script", "row"] f_L_pairs :=
  okF F sc_L_pairs hm hb m_L_pairs fun cdv A outer s H E hr =>
    (dss_cons (ds_set (i := 2) hT sc_L_pairs.nd rfl (.inl rfl) (de_mod (de_b (de_int1 rfl T.n_int (db_cons (de_b (de_ix (de_v 1) (de_b de_int) (fun _ _ => rfl))) db_nil))) (de_b de_int)))
      (dss_cons (ds_set (i := 3) hT sc_L_pairs.nd rfl (.inr rfl) (de_pow (de_b de_int) (de_b de_int)))
      (dss_cons (ds_if (dt_gt (de_v 2) (de_b de_int)) (dss_one (ds_set (i := 3) hT sc_L_pairs.nd rfl (.inr rfl) (de_pow (de_b de_int) (de_b de_int)))) dss_nil)
      (dss_cons (ds_setLc (i := 4) (own := [("k", 5)]) (pt := (.nm 5)) hT rfl sc_L_pairs.nd rfl rfl (sw_true rfl rfl rfl (by decide +kernel)) (di_rng1 rfl T.n_range (de_b de_int)) (blkOk_by (N := ["script", "row", "mode", "limit", "terms", "k", "by", "other", "first"]) (sc := defScope s_L_pairs) (by decide +kernel)) (by decide) (fun _ _ _ _ _ => (pg_name (i := 5) sc_L_pairs.nd rfl (.inl rfl))) (fun _ _ _ _ _ => dts_nil) (fun _ _ _ _ _ => (de_fn (G_L_integer.mono (by omega)) hr takes0 rfl (da_cons (de_fn (G_L_cell.mono (by omega)) hr takes0 rfl (da_cons (de_var 0) (da_cons (de_var 5) da_nil))) (da_cons (de_var 3) da_nil)))))
      (dss_cons (ds_for (pt := (.nm 5)) hT (passes_of rfl) rfl (di_seq (de_tup (da_cons de_int (da_cons de_int da_nil)))) (pg_name (i := 5) sc_L_pairs.nd rfl (.inl rfl)) (dss_one (ds_if (dt_eq (hu64 hr) (de_b (de_ix (de_v 4) (de_v 5) (fun _ _ => rfl))) (de_b de_int)) (dss_one (ds_put 4 de_int (de_v 5) (hg := pg_sub (pv 4) (de_v 5) set_list))) dss_nil)))
      (dss_cons (ds_if (dt_eq (hu64 hr) (de_v 2) (de_b de_int)) (dss_one (ds_ret (de_lst (da_cons (de_tup (da_cons (de_ix (de_v 4) (de_b de_int) (fun _ _ => rfl)) (da_cons (de_ix (de_v 4) (de_b de_int) (fun _ _ => rfl)) da_nil))) (da_cons (de_tup (da_cons (de_ix (de_v 4) (de_b de_int) (fun _ _ => rfl)) (da_cons (de_ix (de_v 4) (de_b de_int) (fun _ _ => rfl)) da_nil))) da_nil))))) dss_nil)
      (dss_cons (ds_set (i := 6) hT sc_L_pairs.nd rfl (.inl rfl) (de_addL (de_b de_int) (de_b (de_abs rfl T.n_abs (db_cons (de_b (de_fn (G_L_integer.mono (by omega)) hr (takes_of rfl rfl rfl rfl) rfl (da_cons (de_fn (G_L_cell.mono (by omega)) hr (takes_of rfl rfl rfl rfl) rfl (da_cons (de_var 0) (da_cons de_int da_nil))) (da_cons (de_sub (de_v 3) (de_b de_int)) da_nil)))) db_nil)))))
      (dss_cons (ds_set (i := 7) hT sc_L_pairs.nd rfl (.inl rfl) (de_addL (de_b de_int) (de_b (de_abs rfl T.n_abs (db_cons (de_b (de_fn (G_L_integer.mono (by omega)) hr (takes_of rfl rfl rfl rfl) rfl (da_cons (de_fn (G_L_cell.mono (by omega)) hr (takes_of rfl rfl rfl rfl) rfl (da_cons (de_var 0) (da_cons de_int da_nil))) (da_cons (de_sub (de_v 3) (de_b de_int)) da_nil)))) db_nil)))))
      (dss_cons (ds_if (dt_eq (hu64 hr) (de_b (de_mod (de_b (de_int1 rfl T.n_int (db_cons (de_b (de_ix (de_v 1) (de_b de_int) (fun _ _ => rfl))) db_nil))) (de_b de_int))) (de_b de_int)) (dss_one (ds_set (i := 7) hT sc_L_pairs.nd rfl (.inl rfl) (de_sub (de_b de_int) (de_v 7)))) dss_nil)
      (dss_cons (ds_set (i := 8) hT sc_L_pairs.nd rfl (.inl rfl) (de_tup (da_cons (de_mul (de_b (de_ix (de_v 4) (de_b de_int) (fun _ _ => rfl))) (de_v 6)) (da_cons (de_mul (de_b (de_ix (de_v 4) (de_b de_int) (fun _ _ => rfl))) (de_v 6)) da_nil))))
      (dss_cons (ds_if (dt_eq (hu64 hr) (de_v 2) (de_b de_int)) (dss_one (ds_ret (de_lst (da_cons (de_var 8) (da_cons (de_tup (da_cons (de_mul (de_b (de_ix (de_v 4) (de_b de_int) (fun _ _ => rfl))) (de_v 7)) (da_cons (de_mul (de_b (de_ix (de_v 4) (de_b de_int) (fun _ _ => rfl))) (de_v 7)) da_nil))) da_nil))))) dss_nil)
      (dss_cons (ds_if (dt_eq (hu64 hr) (de_v 2) (de_b de_int)) (dss_one (ds_ret (de_lst (da_cons (de_var 8) (da_cons (de_tup (da_cons (de_mul (de_b (de_ix (de_v 4) (de_b de_int) (fun _ _ => rfl))) (de_v 7)) (da_cons (de_mul (de_b (de_ix (de_v 4) (de_b de_int) (fun _ _ => rfl))) (de_v 7)) da_nil))) da_nil))))) dss_nil)
      (dss_cons (ds_if (dt_eq (hu64 hr) (de_v 2) (de_b de_int)) (dss_one (ds_ret (de_lst (da_cons (de_var 8) (da_cons (de_tup (da_cons (de_addL (de_b (de_mul (de_b (de_ix (de_v 4) (de_b de_int) (fun _ _ => rfl))) (de_v 7))) (de_b de_int)) (da_cons (de_mul (de_b (de_ix (de_v 4) (de_b de_int) (fun _ _ => rfl))) (de_v 7)) da_nil))) da_nil))))) dss_nil)
      (dss_one (ds_ret (de_lst (da_cons (de_var 8) (da_cons (de_tup (da_cons (de_sub (de_b de_int) (de_b (de_mul (de_b (de_ix (de_v 4) (de_b de_int) (fun _ _ => rfl))) (de_v 7)))) (da_cons (de_mul (de_b (de_ix (de_v 4) (de_b de_int) (fun _ _ => rfl))) (de_v 7)) da_nil))) da_nil))))))))))))))))))
theorem ok_L_is {a : Addr} {fd : FuncData} (F : Fun K "_law_is" "_law_is" s_L_is a fd) (hm : mg "_law_is" = some (.ref a)) (hb : Binds K fd ["ratio", "part", "whole"] []) (T : Tx K mg g) (G_L_same : FD P w K mg base g 8 "_law_same" ["value", "due"] f_L_same) (G_L_lowest : FD P w K mg base g 1 "_law_lowest" ["part", "whole"] f_L_lowest) : FD P w K mg base g 9 "_law_is" ["ratio", "part", "whole"] f_L_is :=
  okF F sc_L_is hm hb m_L_is fun cdv A outer s H E hr =>
    (dss_cons (ds_if (dt_not (dt_val (de_b (de_isC T.isc_Ratio rfl T.n_isinstance rfl T.m_Ratio (de_v 0))))) (dss_one (ds_ret de_bl)) dss_nil)
      (dss_cons (ds_set (i := 3) hT sc_L_is.nd rfl (.inl rfl) (de_fn (G_L_lowest.mono (by omega)) hr (takes_of rfl rfl rfl rfl) rfl (da_cons (de_var 1) (da_cons (de_var 2) da_nil))))
      (dss_one (ds_ret (de_and (de_b (de_fn (G_L_same.mono (by omega)) hr (takes_of rfl rfl rfl rfl) rfl (da_cons (de_fld T.fld_part (de_v 0)) (da_cons (de_ix (de_v 3) (de_b de_int) (fun _ _ => rfl)) da_nil)))) (de_one (de_b (de_fn (G_L_same.mono (by omega)) hr (takes_of rfl rfl rfl rfl) rfl (da_cons (de_fld T.fld_whole (de_v 0)) (da_cons (de_ix (de_v 3) (de_b de_int) (fun _ _ => rfl)) da_nil))))))))))
theorem ok_Ratio_init {a : Addr} {fd : FuncData} (F : Fun K "__init__" "Ratio.__init__" s_Ratio_init a fd) (M : Mk K (g.cl 5) a) (hb : Binds K fd ["self", "part", "whole"] []) (T : Tx K mg g) : CD P w K mg base g 1 "Ratio" 5 f_Ratio_init :=
  okI F sc_Ratio_init T.nf_Ratio T.m_Ratio M hb m_Ratio_init fun cdv A outer s H E hr =>
    (is_cons (is_if (dt_eq (hu64 hr) (de_v 2) (de_b de_int)) (is_one (is_raise rfl (takes_of rfl rfl rfl rfl) T.e_BadRatio rfl)) is_nil)
      (is_cons (is_set (i := 3) (by decide) sc_Ratio_init.nd rfl (.inl rfl) (de_callM cr_gcd cf_gcd rfl T.i_gcd (db_cons (de_v 1) (db_cons (de_v 2) db_nil))))
      (is_cons (is_if (dt_lt (de_v 2) (de_b de_int)) (is_one (is_set (i := 3) (by decide) sc_Ratio_init.nd rfl (.inl rfl) (de_neg (de_v 3)))) is_nil)
      (is_cons (is_fld T.put_Ratio_part (de_fdivN (de_v 1) (de_v 3)))
      (is_one (is_fld T.put_Ratio_whole (de_fdivN (de_v 2) (de_v 3))))))))
theorem ok_Ratio_add {a : Addr} {fd : FuncData} (F : Fun K "__add__" "Ratio.__add__" s_Ratio_add a fd) (T : Tx K mg g) (N_Ratio : CD P w K mg base g 1 "Ratio" 5 f_Ratio_init) : FnOk P w K mg base (L2.CX P w) 3 a fd ["self", "other"] (Prom K g f_Ratio_add) :=
  okF0 F sc_Ratio_add m_Ratio_add fun cdv A outer s H E hr =>
    (dss_cons (ds_set (i := 2) hT sc_Ratio_add.nd rfl (.inl rfl) (de_addL (de_b (de_mul (de_b (de_fld T.fld_part (de_v 0))) (de_b (de_fld T.fld_whole (de_v 1))))) (de_b (de_mul (de_b (de_fld T.fld_part (de_v 1))) (de_b (de_fld T.fld_whole (de_v 0)))))))
      (dss_one (ds_ret (de_new N_Ratio (hr.mono (by omega)) (takes_of rfl rfl rfl rfl) rfl (da_cons (de_var 2) (da_cons (de_mul (de_b (de_fld T.fld_whole (de_v 0))) (de_b (de_fld T.fld_whole (de_v 1)))) da_nil))))))
theorem ok_Ratio_mul {a : Addr} {fd : FuncData} (F : Fun K "__mul__" "Ratio.__mul__" s_Ratio_mul a fd) (T : Tx K mg g) (N_Ratio : CD P w K mg base g 1 "Ratio" 5 f_Ratio_init) : FnOk P w K mg base (L2.CX P w) 3 a fd ["self", "other"] (Prom K g f_Ratio_mul) :=
  okF0 F sc_Ratio_mul m_Ratio_mul fun cdv A outer s H E hr =>
    (dss_one (ds_ret (de_new N_Ratio (hr.mono (by omega)) (takes_of rfl rfl rfl rfl) rfl (da_cons (de_mulX (de_b (de_fld T.fld_part (de_v 0))) (de_b (de_fld T.fld_part (de_v 1)))) (da_cons (de_mulX (de_b (de_fld T.fld_whole (de_v 0))) (de_b (de_fld T.fld_whole (de_v 1)))) da_nil)))))
theorem ok_Ratio_sub {a : Addr} {fd : FuncData} (F : Fun K "__sub__" "Ratio.__sub__" s_Ratio_sub a fd) (T : Tx K mg g) (N_Ratio : CD P w K mg base g 1 "Ratio" 5 f_Ratio_init) : FnOk P w K mg base (L2.CX P w) 3 a fd ["self", "other"] (Prom K g f_Ratio_sub) :=
  okF0 F sc_Ratio_sub m_Ratio_sub fun cdv A outer s H E hr =>
    (dss_cons (ds_set (i := 2) hT sc_Ratio_sub.nd rfl (.inl rfl) (de_sub (de_b (de_mul (de_b (de_fld T.fld_part (de_v 0))) (de_b (de_fld T.fld_whole (de_v 1))))) (de_b (de_mul (de_b (de_fld T.fld_part (de_v 1))) (de_b (de_fld T.fld_whole (de_v 0)))))))
      (dss_one (ds_ret (de_new N_Ratio (hr.mono (by omega)) (takes_of rfl rfl rfl rfl) rfl (da_cons (de_var 2) (da_cons (de_mul (de_b (de_fld T.fld_whole (de_v 0))) (de_b (de_fld T.fld_whole (de_v 1)))) da_nil))))))
theorem ok_L_sums {a : Addr} {fd : FuncData} (F : Fun K "_law_sums" "_law_sums" s_L_sums a fd) (hm : mg "_law_sums" = some (.ref a)) (hb : Binds K fd ["left", "right", "low", "other"] []) (T : Tx K mg g) (M_add : ∀ c f, tab_add c = some f → OD P w K mg base g 3 "__add__" c f) (M_mul : ∀ c f, tab_mul c = some f → OD P w K mg base g 3 "__mul__" c f) (M_sub : ∀ c f, tab_sub c = some f → OD P w K mg base g 3 "__sub__" c f) (G_L_is : FD P w K mg base g 9 "_law_is" ["ratio", "part", "whole"] f_L_is) : FD P w K mg base g 10 "_law_sums" ["left", "right", "low", "other"] f_L_sums :=
  okF F sc_L_sums hm hb m_L_sums fun cdv A outer s H E hr =>
    (dss_cons (ds_set (i := 4) hT sc_L_sums.nd rfl (.inl rfl) (de_mul (de_b (de_ix (de_v 2) (de_b de_int) (fun _ _ => rfl))) (de_b (de_ix (de_v 3) (de_b de_int) (fun _ _ => rfl)))))
      (dss_cons (ds_if (dt_not (dt_val (de_b (de_fn (G_L_is.mono (by omega)) hr (takes_of rfl rfl rfl rfl) rfl (da_cons (de_own (k := 3) (op := .Add) (nm := "__add__") (by decide +kernel) M_add (hr.mono (by omega)) (takes_of rfl rfl rfl rfl) (de_v 0) (de_v 1)) (da_cons (de_addL (de_b (de_mul (de_b (de_ix (de_v 2) (de_b de_int) (fun _ _ => rfl))) (de_b (de_ix (de_v 3) (de_b de_int) (fun _ _ => rfl))))) (de_b (de_mul (de_b (de_ix (de_v 3) (de_b de_int) (fun _ _ => rfl))) (de_b (de_ix (de_v 2) (de_b de_int) (fun _ _ => rfl)))))) (da_cons (de_var 4) da_nil))))))) (dss_one (ds_ret de_bl)) dss_nil)
      (dss_cons (ds_if (dt_not (dt_val (de_b (de_fn (G_L_is.mono (by omega)) hr (takes_of rfl rfl rfl rfl) rfl (da_cons (de_own (k := 3) (op := .Sub) (nm := "__sub__") (by decide +kernel) M_sub (hr.mono (by omega)) (takes_of rfl rfl rfl rfl) (de_v 0) (de_v 1)) (da_cons (de_sub (de_b (de_mul (de_b (de_ix (de_v 2) (de_b de_int) (fun _ _ => rfl))) (de_b (de_ix (de_v 3) (de_b de_int) (fun _ _ => rfl))))) (de_b (de_mul (de_b (de_ix (de_v 3) (de_b de_int) (fun _ _ => rfl))) (de_b (de_ix (de_v 2) (de_b de_int) (fun _ _ => rfl)))))) (da_cons (de_var 4) da_nil))))))) (dss_one (ds_ret de_bl)) dss_nil)
      (dss_one (ds_ret (de_fn (G_L_is.mono (by omega)) hr (takes_of rfl rfl rfl rfl) rfl (da_cons (de_own (k := 3) (op := .Mult) (nm := "__mul__") (by decide +kernel) M_mul (hr.mono (by omega)) (takes_of rfl rfl rfl rfl) (de_v 0) (de_v 1)) (da_cons (de_mul (de_b (de_ix (de_v 2) (de_b de_int) (fun _ _ => rfl))) (de_b (de_ix (de_v 3) (de_b de_int) (fun _ _ => rfl)))) (da_cons (de_var 4) da_nil)))))))))
theorem ok_Ratio_raised {a : Addr} {fd : FuncData} (F : Fun K "raised" "Ratio.raised" s_Ratio_raised a fd) (T : Tx K mg g) (M_mul : ∀ c f, tab_mul c = some f → OD P w K mg base g 3 "__mul__" c f) (N_Ratio : CD P w K mg base g 1 "Ratio" 5 f_Ratio_init) : FnOk P w K mg base (L2.CX P w) 4 a fd ["self", "times"] (Prom K g f_Ratio_raised) :=
  okF0 F sc_Ratio_raised m_Ratio_raised fun cdv A outer s H E hr =>
    (dss_cons (ds_if (dt_w (dw_or (dt_lt (de_v 1) (de_b de_int)) (dw_or1 (dt_gt (de_v 1) (de_b (de_globI rfl T.c_MOST_TIMES.choose_spec)))))) (dss_one (ds_raise1 rfl (takes_of rfl rfl rfl rfl) T.e_BadRatio rfl (de_joined (.cons (de_b de_str) (.cons (de_b (de_fmt (de_b (de_globI rfl T.c_MOST_TIMES.choose_spec)))) (.cons (de_b de_str) .nil)))))) dss_nil)
      (dss_cons (ds_set (i := 2) hT sc_Ratio_raised.nd rfl (.inl rfl) (de_new N_Ratio (hr.mono (by omega)) (takes_of rfl rfl rfl rfl) rfl (da_cons de_int (da_cons de_int da_nil))))
      (dss_cons (ds_for (pt := (.nm 3)) hT (passes_of rfl) rfl (di_rng1 rfl T.n_range (de_v 1)) (pg_name (i := 3) sc_Ratio_raised.nd rfl (.inl rfl)) (dss_one (ds_set (i := 2) hT sc_Ratio_raised.nd rfl (.inl rfl) (de_own (k := 3) (op := .Mult) (nm := "__mul__") (by decide +kernel) M_mul (hr.mono (by omega)) (takes_of rfl rfl rfl rfl) (de_v 2) (de_v 0)))))
      (dss_one (ds_retV 2)))))
theorem ok_L_power {a : Addr} {fd : FuncData} (F : Fun K "_law_power" "_law_power" s_L_power a fd) (hm : mg "_law_power" = some (.ref a)) (hb : Binds K fd ["ratio", "low", "times"] []) (T : Tx K mg g) (M_raised : ∀ c f, tab_raised c = some f → MD P w K mg base g 4 "raised" c f) (G_L_same : FD P w K mg base g 8 "_law_same" ["value", "due"] f_L_same) : FD P w K mg base g 9 "_law_power" ["ratio", "low", "times"] f_L_power :=
  okF F sc_L_power hm hb m_L_power fun cdv A outer s H E hr =>
    (dss_cons (ds_set (i := 3) hT sc_L_power.nd rfl (.inl rfl) de_int)
      (dss_cons (ds_set (i := 4) hT sc_L_power.nd rfl (.inl rfl) de_int)
      (dss_cons (ds_for (pt := (.nm 5)) hT (passes_of rfl) rfl (di_rng1 rfl T.n_range (de_v 2)) (pg_name (i := 5) sc_L_power.nd rfl (.inl rfl)) (dss_cons (ds_set (i := 3) hT sc_L_power.nd rfl (.inl rfl) (de_mulX (de_v 3) (de_b (de_ix (de_v 1) (de_b de_int) (fun _ _ => rfl)))))
      (dss_one (ds_set (i := 4) hT sc_L_power.nd rfl (.inl rfl) (de_mulX (de_v 4) (de_b (de_ix (de_v 1) (de_b de_int) (fun _ _ => rfl))))))))
      (dss_cons (ds_set (i := 6) hT sc_L_power.nd rfl (.inl rfl) (de_meth (k := 4) M_raised (hr.mono (by omega)) (takes_of rfl rfl rfl rfl) (de_var 0) (da_cons (de_var 2) da_nil)))
      (dss_one (ds_ret (de_and (de_b (de_isC T.isc_Ratio rfl T.n_isinstance rfl T.m_Ratio (de_v 6))) (de_b (de_and (de_b (de_fn (G_L_same.mono (by omega)) hr (takes_of rfl rfl rfl rfl) rfl (da_cons (de_fld T.fld_part (de_v 6)) (da_cons (de_var 3) da_nil)))) (de_one (de_b (de_fn (G_L_same.mono (by omega)) hr (takes_of rfl rfl rfl rfl) rfl (da_cons (de_fld T.fld_whole (de_v 6)) (da_cons (de_var 4) da_nil))))))))))))))
theorem ok_L_no_whole {a : Addr} {fd : FuncData} (F : Fun K "_law_no_whole" "_law_no_whole" s_L_no_whole a fd) (hm : mg "_law_no_whole" = some (.ref a)) (hb : Binds K fd ["part"] []) (T : Tx K mg g) (N_Ratio : CD P w K mg base g 1 "Ratio" 5 f_Ratio_init) : FD P w K mg base g 3 "_law_no_whole" ["part"] f_L_no_whole :=
  okF F sc_L_no_whole hm hb m_L_no_whole fun cdv A outer s H E hr =>
    (dss_cons (ds_tryAs (i := 1) (su := fun c p => sup p (sSeq (sIf (tOrM (mTest (mB (mC (.bl (isv_BadWeight c))))) (tOrM (mTest (mB (mC (.bl (isv_BadDraw c))))) (mTest (mB (mC (.bl (isv_BadPermutation c))))))) (sRet (mC (.bl false))) sNop)
    (sRet (mAnd (mB (mC (.bl (isv_UnseenError c)))) (mB (mC (.bl (isv_ValueError c)))))))) rfl rfl sc_L_no_whole.nd rfl rfl ⟨rfl, by decide, (.inl T.e_BadRatio.mg)⟩ (takes_of rfl rfl rfl rfl) (hcat_BadRatio T) (fun W pn xe tk hp => (dss_one (ds_expr (de_new N_Ratio (hr.mono (by omega)) tk rfl (da_cons (de_var 0) (da_cons de_int da_nil)))))) (fun c p a oe d pn hct hpd hz hf => sup_case hpd hz fun hz => have hc3 := cat_BadRatio_lt hct; (dss_cons (ds_if (dt_w (dw_or (dt_val (de_b (de_isEc (T.xc c hc3) hz hf (T.kit_BadWeight c hc3) rfl T.n_isinstance rfl T.e_BadWeight.mg rfl (.inl rfl) (by decide) (by decide) (by decide) rfl rfl))) (dw_or (dt_val (de_b (de_isEc (T.xc c hc3) hz hf (T.kit_BadDraw c hc3) rfl T.n_isinstance rfl T.e_BadDraw.mg rfl (.inl rfl) (by decide) (by decide) (by decide) rfl rfl))) (dw_or1 (dt_val (de_b (de_isEc (T.xc c hc3) hz hf (T.kit_BadPermutation c hc3) rfl T.n_isinstance rfl T.e_BadPermutation.mg rfl (.inl rfl) (by decide) (by decide) (by decide) rfl rfl))))))) (dss_one (ds_ret de_bl)) dss_nil)
      (dss_one (ds_ret (de_and (de_b (de_isEc (T.xc c hc3) hz hf (T.kit_UnseenError c hc3) rfl T.n_isinstance rfl T.e_UnseenError.mg rfl (.inl rfl) (by decide) (by decide) (by decide) rfl rfl)) (de_one (de_b (de_isEb (T.xc c hc3) hz hf (T.kit_ValueError c hc3) rfl T.n_isinstance rfl T.n_ValueError (by decide +kernel) rfl (.inl rfl) (by decide) (by decide) (by decide) (by decide) rfl rfl)))))))))
      (dss_one (ds_ret de_bl)))
theorem ok_L_no_power {a : Addr} {fd : FuncData} (F : Fun K "_law_no_power" "_law_no_power" s_L_no_power a fd) (hm : mg "_law_no_power" = some (.ref a)) (hb : Binds K fd ["ratio", "times"] []) (T : Tx K mg g) (M_raised : ∀ c f, tab_raised c = some f → MD P w K mg base g 4 "raised" c f) : FD P w K mg base g 5 "_law_no_power" ["ratio", "times"] f_L_no_power :=
  okF F sc_L_no_power hm hb m_L_no_power fun cdv A outer s H E hr =>
    (dss_cons (ds_tryAs (i := 2) (su := fun c p => sup p (sSeq (sIf (tOrM (mTest (mB (mC (.bl (isv_BadWeight c))))) (tOrM (mTest (mB (mC (.bl (isv_BadDraw c))))) (mTest (mB (mC (.bl (isv_BadPermutation c))))))) (sRet (mC (.bl false))) sNop)
    (sRet (mAnd (mB (mC (.bl (isv_UnseenError c)))) (mB (mC (.bl (isv_ValueError c)))))))) rfl rfl sc_L_no_power.nd rfl rfl ⟨rfl, by decide, (.inl T.e_BadRatio.mg)⟩ (takes_of rfl rfl rfl rfl) (hcat_BadRatio T) (fun W pn xe tk hp => (dss_one (ds_expr (de_meth (k := 4) M_raised (hr.mono (by omega)) tk (de_var 0) (da_cons (de_var 1) da_nil))))) (fun c p a oe d pn hct hpd hz hf => sup_case hpd hz fun hz => have hc3 := cat_BadRatio_lt hct; (dss_cons (ds_if (dt_w (dw_or (dt_val (de_b (de_isEc (T.xc c hc3) hz hf (T.kit_BadWeight c hc3) rfl T.n_isinstance rfl T.e_BadWeight.mg rfl (.inl rfl) (by decide) (by decide) (by decide) rfl rfl))) (dw_or (dt_val (de_b (de_isEc (T.xc c hc3) hz hf (T.kit_BadDraw c hc3) rfl T.n_isinstance rfl T.e_BadDraw.mg rfl (.inl rfl) (by decide) (by decide) (by decide) rfl rfl))) (dw_or1 (dt_val (de_b (de_isEc (T.xc c hc3) hz hf (T.kit_BadPermutation c hc3) rfl T.n_isinstance rfl T.e_BadPermutation.mg rfl (.inl rfl) (by decide) (by decide) (by decide) rfl rfl))))))) (dss_one (ds_ret de_bl)) dss_nil)
      (dss_one (ds_ret (de_and (de_b (de_isEc (T.xc c hc3) hz hf (T.kit_UnseenError c hc3) rfl T.n_isinstance rfl T.e_UnseenError.mg rfl (.inl rfl) (by decide) (by decide) (by decide) rfl rfl)) (de_one (de_b (de_isEb (T.xc c hc3) hz hf (T.kit_ValueError c hc3) rfl T.n_isinstance rfl T.n_ValueError (by decide +kernel) rfl (.inl rfl) (by decide) (by decide) (by decide) (by decide) rfl rfl)))))))))
      (dss_one (ds_ret de_bl)))
theorem ok_Ratio_eq {a : Addr} {fd : FuncData} (F : Fun K "__eq__" "Ratio.__eq__" s_Ratio_eq a fd) (T : Tx K mg g) : FnOk P w K mg base (L2.CX P w) 1 a fd ["self", "other"] (Prom K g f_Ratio_eq) :=
  okF0 F sc_Ratio_eq m_Ratio_eq fun cdv A outer s H E hr =>
    (dss_one (ds_ret (de_and (de_b (de_isC T.isc_Ratio rfl T.n_isinstance rfl T.m_Ratio (de_v 1))) (de_b (de_and (de_b (de_eq (hu64 hr) (de_b (de_fld T.fld_part (de_v 0))) (de_b (de_fld T.fld_part (de_v 1))))) (de_one (de_b (de_eq (hu64 hr) (de_b (de_fld T.fld_whole (de_v 0))) (de_b (de_fld T.fld_whole (de_v 1)))))))))))
theorem ok_Ratio_str {a : Addr} {fd : FuncData} (F : Fun K "__str__" "Ratio.__str__" s_Ratio_str a fd) (T : Tx K mg g) : FnOk P w K mg base (L2.CX P w) 1 a fd ["self"] (Prom K g f_Ratio_str) :=
  okF0 F sc_Ratio_str m_Ratio_str fun cdv A outer s H E hr =>
    (dss_one (ds_ret (de_joined (.cons (de_b (de_fmt (de_b (de_fld T.fld_part (de_v 0))))) (.cons (de_b de_str) (.cons (de_b (de_fmt (de_b (de_fld T.fld_whole (de_v 0))))) .nil))))))
theorem ok_Ratio_less {a : Addr} {fd : FuncData} (F : Fun K "less" "Ratio.less" s_Ratio_less a fd) (T : Tx K mg g) : FnOk P w K mg base (L2.CX P w) 1 a fd ["self", "other"] (Prom K g f_Ratio_less) :=
  okF0 F sc_Ratio_less m_Ratio_less fun cdv A outer s H E hr =>
    (dss_one (ds_ret (de_lt (de_b (de_mul (de_b (de_fld T.fld_part (de_v 0))) (de_b (de_fld T.fld_whole (de_v 1))))) (de_b (de_mul (de_b (de_fld T.fld_part (de_v 1))) (de_b (de_fld T.fld_whole (de_v 0))))))))
theorem ok_L_compared {a : Addr} {fd : FuncData} (F : Fun K "_law_compared" "_law_compared" s_L_compared a fd) (hm : mg "_law_compared" = some (.ref a)) (hb : Binds K fd ["ratios", "lows"] []) (T : Tx K mg g) (M_eq : ∀ c f, tab_eq c = some f → EqD P w K mg base g 1 c f) (M_str : ∀ c f, tab_str c = some f → SD P w K mg base g 1 c f) (M_less : ∀ c f, tab_less c = some f → MD P w K mg base g 1 "less" c f) (G_L_same : FD P w K mg base g 8 "_law_same" ["value", "due"] f_L_same) : FD P w K mg base g 9 "_law_compared" ["ratios", "lows"] f_L_compared :=
  okF F sc_L_compared hm hb m_L_compared fun cdv A outer s H E hr =>
    (dss_cons (ds_for (pt := (.nm 2)) hT (passes_of rfl) rfl (di_rng1 rfl T.n_range (de_b de_int)) (pg_name (i := 2) sc_L_compared.nd rfl (.inl rfl)) (dss_one (ds_for (pt := (.nm 3)) hT (passes_of rfl) rfl (di_rng1 rfl T.n_range (de_b de_int)) (pg_name (i := 3) sc_L_compared.nd rfl (.inl rfl)) (dss_cons (ds_if (dt_not (dt_val (de_b (de_fn (G_L_same.mono (by omega)) hr (takes_of rfl rfl rfl rfl) rfl (da_cons (de_eqO (k := 1) M_eq (hr.mono (by omega)) (takes_of rfl rfl rfl rfl) (de_ix (de_v 0) (de_v 2) (fun _ _ => rfl)) (de_ix (de_v 0) (de_v 3) (fun _ _ => rfl))) (da_cons (de_eq (hu64 hr) (de_b (de_ix (de_v 1) (de_v 2) (fun _ _ => rfl))) (de_b (de_ix (de_v 1) (de_v 3) (fun _ _ => rfl)))) da_nil)))))) (dss_one (ds_ret de_bl)) dss_nil)
      (dss_one (ds_if (dt_not (dt_val (de_b (de_fn (G_L_same.mono (by omega)) hr (takes_of rfl rfl rfl rfl) rfl (da_cons (de_meth (k := 1) M_less (hr.mono (by omega)) (takes_of rfl rfl rfl rfl) (de_ix (de_v 0) (de_v 2) (fun _ _ => rfl)) (da_cons (de_ix (de_v 0) (de_v 3) (fun _ _ => rfl)) da_nil)) (da_cons (de_lt (de_b (de_mul (de_b (de_ix (de_b (de_ix (de_v 1) (de_v 2) (fun _ _ => rfl))) (de_b de_int) (fun _ _ => rfl))) (de_b (de_ix (de_b (de_ix (de_v 1) (de_v 3) (fun _ _ => rfl))) (de_b de_int) (fun _ _ => rfl))))) (de_b (de_mul (de_b (de_ix (de_b (de_ix (de_v 1) (de_v 3) (fun _ _ => rfl))) (de_b de_int) (fun _ _ => rfl))) (de_b (de_ix (de_b (de_ix (de_v 1) (de_v 2) (fun _ _ => rfl))) (de_b de_int) (fun _ _ => rfl)))))) da_nil)))))) (dss_one (ds_ret de_bl)) dss_nil))))))
      (dss_cons (ds_for (pt := (.nm 4)) hT (passes_of rfl) rfl (di_rng1 rfl T.n_range (de_b de_int)) (pg_name (i := 4) sc_L_compared.nd rfl (.inl rfl)) (dss_cons (ds_set (i := 5) hT sc_L_compared.nd rfl (.inl rfl) (de_addL (de_b (de_addL (de_b (de_str1 rfl T.n_str (db_cons (de_b (de_ix (de_b (de_ix (de_v 1) (de_v 4) (fun _ _ => rfl))) (de_b de_int) (fun _ _ => rfl))) db_nil))) (de_b de_str))) (de_b (de_str1 rfl T.n_str (db_cons (de_b (de_ix (de_b (de_ix (de_v 1) (de_v 4) (fun _ _ => rfl))) (de_b de_int) (fun _ _ => rfl))) db_nil)))))
      (dss_cons (ds_for (pt := (.nm 6)) hT (passes_of rfl) rfl (di_seq (de_lst (da_cons (de_ix (de_b (de_ix (de_v 1) (de_v 4) (fun _ _ => rfl))) (de_b de_int) (fun _ _ => rfl)) (da_cons (de_ix (de_b (de_ix (de_v 1) (de_v 4) (fun _ _ => rfl))) (de_b de_int) (fun _ _ => rfl)) (da_cons (de_ix (de_v 1) (de_v 4) (fun _ _ => rfl)) (da_cons (de_var 5) (da_cons de_non (da_cons (de_lst (da_cons (de_ix (de_b (de_ix (de_v 1) (de_v 4) (fun _ _ => rfl))) (de_b de_int) (fun _ _ => rfl)) (da_cons (de_ix (de_b (de_ix (de_v 1) (de_v 4) (fun _ _ => rfl))) (de_b de_int) (fun _ _ => rfl)) da_nil))) da_nil)))))))) (pg_name (i := 6) sc_L_compared.nd rfl (.inl rfl)) (dss_one (ds_if (dt_not (dt_val (de_b (de_fn (G_L_same.mono (by omega)) hr (takes_of rfl rfl rfl rfl) rfl (da_cons (de_eqO (k := 1) M_eq (hr.mono (by omega)) (takes_of rfl rfl rfl rfl) (de_ix (de_v 0) (de_v 4) (fun _ _ => rfl)) (de_var 6)) (da_cons de_bl da_nil)))))) (dss_one (ds_ret de_bl)) dss_nil)))
      (dss_one (ds_if (dt_not (dt_val (de_b (de_fn (G_L_same.mono (by omega)) hr (takes_of rfl rfl rfl rfl) rfl (da_cons (de_strO (k := 1) M_str (hr.mono (by omega)) (takes_of rfl rfl rfl rfl) rfl T.n_str (da_cons (de_ix (de_v 0) (de_v 4) (fun _ _ => rfl)) da_nil)) (da_cons (de_var 5) da_nil)))))) (dss_one (ds_ret de_bl)) dss_nil)))))
      (dss_one (ds_ret de_bl))))
theorem ok_law {a : Addr} {fd : FuncData} (F : Fun K "law" "law" s_law a fd) (T : Tx K mg g) (N_Ratio : CD P w K mg base g 1 "Ratio" 5 f_Ratio_init) (G_L_cell : FD P w K mg base g 1 "_law_cell" ["script", "k"] f_L_cell) (G_L_numbers : FD P w K mg base g 1 "_law_numbers" ["cell", "many"] f_L_numbers) (G_L_lowest : FD P w K mg base g 1 "_law_lowest" ["part", "whole"] f_L_lowest) (G_L_pairs : FD P w K mg base g 2 "_law_pairs" ["script", "row"] f_L_pairs) (G_L_is : FD P w K mg base g 9 "_law_is" ["ratio", "part", "whole"] f_L_is) (G_L_sums : FD P w K mg base g 10 "_law_sums" ["left", "right", "low", "other"] f_L_sums) (G_L_power : FD P w K mg base g 9 "_law_power" ["ratio", "low", "times"] f_L_power) (G_L_no_whole : FD P w K mg base g 3 "_law_no_whole" ["part"] f_L_no_whole) (G_L_no_power : FD P w K mg base g 5 "_law_no_power" ["ratio", "times"] f_L_no_power) (G_L_compared : FD P w K mg base g 9 "_law_compared" ["ratios", "lows"] f_L_compared) : FnOk P w K mg base (L2.CX P w) 11 a fd ["script"] (Prom K g f_law) :=
  okF0 F sc_law m_law fun cdv A outer s H E hr =>
    (dss_cons (ds_set (i := 1) hT sc_law.nd rfl (.inl rfl) (de_fn (G_L_numbers.mono (by omega)) hr (takes_of rfl rfl rfl rfl) rfl (da_cons (de_fn (G_L_cell.mono (by omega)) hr (takes_of rfl rfl rfl rfl) rfl (da_cons (de_var 0) (da_cons de_int da_nil))) (da_cons de_int da_nil))))
      (dss_cons (ds_frz [1] (ds_set (i := 2) hT sc_law.nd rfl (.inl rfl) (de_fn (G_L_pairs.mono (by omega)) hr (takes_of rfl rfl rfl rfl) rfl (da_cons (de_var 0) (da_cons (de_var 1) da_nil)))))
      (dss_cons (ds_set (i := 3) hT sc_law.nd rfl (.inl rfl) (de_fn (G_L_lowest.mono (by omega)) hr (takes_of rfl rfl rfl rfl) rfl (da_cons (de_ix (de_b (de_ix (de_v 2) (de_b de_int) (fun _ _ => rfl))) (de_b de_int) (fun _ _ => rfl)) (da_cons (de_ix (de_b (de_ix (de_v 2) (de_b de_int) (fun _ _ => rfl))) (de_b de_int) (fun _ _ => rfl)) da_nil))))
      (dss_cons (ds_set (i := 4) hT sc_law.nd rfl (.inl rfl) de_int)
      (dss_cons (ds_if (dt_gt (de_b (de_ix (de_v 3) (de_b de_int) (fun _ _ => rfl))) (de_b de_int)) (dss_one (ds_set (i := 4) hT sc_law.nd rfl (.inl rfl) (de_sub (de_b (de_ix (de_v 3) (de_b de_int) (fun _ _ => rfl))) (de_b de_int)))) dss_nil)
      (dss_cons (ds_app 2 (he := (de_tup (da_cons (de_ix (de_v 3) (de_b de_int) (fun _ _ => rfl)) (da_cons (de_var 4) da_nil)))) (hx := hT))
      (dss_cons (ds_set (i := 4) hT sc_law.nd rfl (.inl rfl) (de_addL (de_b (de_ix (de_v 3) (de_b de_int) (fun _ _ => rfl))) (de_b de_int)))
      (dss_cons (ds_if (dt_gt (de_b (de_ix (de_v 3) (de_b de_int) (fun _ _ => rfl))) (de_b de_int)) (dss_one (ds_set (i := 4) hT sc_law.nd rfl (.inl rfl) (de_sub (de_b (de_ix (de_v 3) (de_b de_int) (fun _ _ => rfl))) (de_b de_int)))) dss_nil)
      (dss_cons (ds_app 2 (he := (de_tup (da_cons (de_var 4) (da_cons (de_ix (de_v 3) (de_b de_int) (fun _ _ => rfl)) da_nil)))) (hx := hT))
      (dss_cons (ds_frz [2] (ds_setLc (i := 5) (own := [("pair", 6)]) (pt := (.nm 6)) hT rfl sc_law.nd rfl rfl (sw_true rfl rfl rfl (by decide +kernel)) (di_seq (de_var 2)) (blkOk_by (N := ["script", "row", "pairs", "low", "near", "lows", "pair", "ratios", "k", "places", "a", "b", "many", "times"]) (sc := defScope s_law) (by decide +kernel)) (by decide) (fun _ _ _ _ _ => (pg_name (i := 6) sc_law.nd rfl (.inl rfl))) (fun _ _ _ _ _ => dts_nil) (fun _ _ _ _ _ => (de_fn (G_L_lowest.mono (by omega)) hr takes0 rfl (da_cons (de_ix (de_v 6) (de_b de_int) (fun _ _ => rfl)) (da_cons (de_ix (de_v 6) (de_b de_int) (fun _ _ => rfl)) da_nil))))))
      (dss_cons (ds_frz [2] (ds_setLc (i := 7) (own := [("pair", 6)]) (pt := (.nm 6)) hT rfl sc_law.nd rfl rfl (sw_true rfl rfl rfl (by decide +kernel)) (di_seq (de_var 2)) (blkOk_by (N := ["script", "row", "pairs", "low", "near", "lows", "pair", "ratios", "k", "places", "a", "b", "many", "times"]) (sc := defScope s_law) (by decide +kernel)) (by decide) (fun _ _ _ _ _ => (pg_name (i := 6) sc_law.nd rfl (.inl rfl))) (fun _ _ _ _ _ => dts_nil) (fun _ _ _ _ _ => (de_new N_Ratio (hr.mono (by omega)) takes0 rfl (da_cons (de_ix (de_v 6) (de_b de_int) (fun _ _ => rfl)) (da_cons (de_ix (de_v 6) (de_b de_int) (fun _ _ => rfl)) da_nil))))))
      (dss_cons (ds_for (pt := (.nm 8)) hT (passes_of rfl) rfl (di_rng1 rfl T.n_range (de_b de_int)) (pg_name (i := 8) sc_law.nd rfl (.inl rfl)) (dss_cons (ds_if (dt_w (dw_or (dt_not (dt_val (de_b (de_fn (G_L_is.mono (by omega)) hr (takes_of rfl rfl rfl rfl) rfl (da_cons (de_ix (de_v 7) (de_v 8) (fun _ _ => rfl)) (da_cons (de_ix (de_b (de_ix (de_v 2) (de_v 8) (fun _ _ => rfl))) (de_b de_int) (fun _ _ => rfl)) (da_cons (de_ix (de_b (de_ix (de_v 2) (de_v 8) (fun _ _ => rfl))) (de_b de_int) (fun _ _ => rfl)) da_nil))))))) (dw_or1 (dt_not (dt_val (de_b (de_fn (G_L_no_whole.mono (by omega)) hr (takes_of rfl rfl rfl rfl) rfl (da_cons (de_ix (de_b (de_ix (de_v 2) (de_v 8) (fun _ _ => rfl))) (de_b de_int) (fun _ _ => rfl)) da_nil)))))))) (dss_one (ds_ret de_bl)) dss_nil)
      (dss_one (ds_if (dt_not (dt_val (de_b (de_fn (G_L_is.mono (by omega)) hr (takes_of rfl rfl rfl rfl) rfl (da_cons (de_new N_Ratio (hr.mono (by omega)) (takes_of rfl rfl rfl rfl) rfl (da_cons (de_ix (de_b (de_ix (de_v 2) (de_v 8) (fun _ _ => rfl))) (de_b de_int) (fun _ _ => rfl)) (da_cons (de_sub (de_b de_int) (de_b (de_ix (de_b (de_ix (de_v 2) (de_v 8) (fun _ _ => rfl))) (de_b de_int) (fun _ _ => rfl)))) da_nil))) (da_cons (de_ix (de_b (de_ix (de_v 2) (de_v 8) (fun _ _ => rfl))) (de_b de_int) (fun _ _ => rfl)) (da_cons (de_sub (de_b de_int) (de_b (de_ix (de_b (de_ix (de_v 2) (de_v 8) (fun _ _ => rfl))) (de_b de_int) (fun _ _ => rfl)))) da_nil))))))) (dss_one (ds_ret de_bl)) dss_nil))))
      (dss_cons (ds_for (pt := (.nm 9)) hT (passes_of rfl) rfl (di_seq (de_lst (da_cons (de_tup (da_cons de_int (da_cons de_int da_nil))) (da_cons (de_tup (da_cons de_int (da_cons de_int da_nil))) (da_cons (de_tup (da_cons de_int (da_cons de_int da_nil))) (da_cons (de_tup (da_cons de_int (da_cons de_int da_nil))) da_nil)))))) (pg_name (i := 9) sc_law.nd rfl (.inl rfl)) (dss_cons (ds_set (i := 10) hT sc_law.nd rfl (.inl rfl) (de_ix (de_v 9) (de_b de_int) (fun _ _ => rfl)))
      (dss_cons (ds_set (i := 11) hT sc_law.nd rfl (.inl rfl) (de_ix (de_v 9) (de_b de_int) (fun _ _ => rfl)))
      (dss_one (ds_if (dt_not (dt_val (de_b (de_fn (G_L_sums.mono (by omega)) hr (takes_of rfl rfl rfl rfl) rfl (da_cons (de_ix (de_v 7) (de_v 10) (fun _ _ => rfl)) (da_cons (de_ix (de_v 7) (de_v 11) (fun _ _ => rfl)) (da_cons (de_ix (de_v 5) (de_v 10) (fun _ _ => rfl)) (da_cons (de_ix (de_v 5) (de_v 11) (fun _ _ => rfl)) da_nil)))))))) (dss_one (ds_ret de_bl)) dss_nil)))))
      (dss_cons (ds_if (dt_not (dt_val (de_b (de_fnB (G_L_compared.mono (by omega)) hr (takes_of rfl rfl rfl rfl) rfl (db_cons (de_v 7) (db_cons (de_v 5) db_nil)))))) (dss_one (ds_ret de_bl)) dss_nil)
      (dss_cons (ds_set (i := 12) hT sc_law.nd rfl (.inl rfl) de_int)
      (dss_cons (ds_if (dt_eq (hu64 hr) (de_b (de_mod (de_b (de_int1 rfl T.n_int (db_cons (de_b (de_ix (de_v 1) (de_b de_int) (fun _ _ => rfl))) db_nil))) (de_b de_int))) (de_b de_int)) (dss_one (ds_set (i := 12) hT sc_law.nd rfl (.inl rfl) de_int)) dss_nil)
      (dss_cons (ds_for (pt := (.nm 13)) hT (passes_of rfl) rfl (di_seq (de_lst (da_cons de_int (da_cons (de_mod (de_b (de_int1 rfl T.n_int (db_cons (de_b (de_ix (de_v 1) (de_b de_int) (fun _ _ => rfl))) db_nil))) (de_b de_int)) (da_cons (de_var 12) da_nil))))) (pg_name (i := 13) sc_law.nd rfl (.inl rfl)) (dss_one (ds_if (dt_w (dw_or (dt_not (dt_val (de_b (de_fn (G_L_power.mono (by omega)) hr (takes_of rfl rfl rfl rfl) rfl (da_cons (de_ix (de_v 7) (de_b de_int) (fun _ _ => rfl)) (da_cons (de_ix (de_v 5) (de_b de_int) (fun _ _ => rfl)) (da_cons (de_var 13) da_nil))))))) (dw_or1 (dt_not (dt_val (de_b (de_fn (G_L_power.mono (by omega)) hr (takes_of rfl rfl rfl rfl) rfl (da_cons (de_ix (de_v 7) (de_b de_int) (fun _ _ => rfl)) (da_cons (de_ix (de_v 5) (de_b de_int) (fun _ _ => rfl)) (da_cons (de_var 13) da_nil)))))))))) (dss_one (ds_ret de_bl)) dss_nil)))
      (dss_cons (ds_for (pt := (.nm 8)) hT (passes_of rfl) rfl (di_rng1 rfl T.n_range (de_b de_int)) (pg_name (i := 8) sc_law.nd rfl (.inl rfl)) (dss_one (ds_if (dt_w (dw_or (dt_not (dt_val (de_b (de_fn (G_L_no_power.mono (by omega)) hr (takes_of rfl rfl rfl rfl) rfl (da_cons (de_ix (de_v 7) (de_v 8) (fun _ _ => rfl)) (da_cons (de_sub (de_b (de_sub (de_b de_int) (de_b de_int))) (de_b (de_mod (de_b (de_int1 rfl T.n_int (db_cons (de_b (de_ix (de_v 1) (de_b de_int) (fun _ _ => rfl))) db_nil))) (de_b de_int)))) da_nil)))))) (dw_or1 (dt_not (dt_val (de_b (de_fn (G_L_no_power.mono (by omega)) hr (takes_of rfl rfl rfl rfl) rfl (da_cons (de_ix (de_v 7) (de_v 8) (fun _ _ => rfl)) (da_cons (de_addL (de_b de_int) (de_b (de_mod (de_b (de_int1 rfl T.n_int (db_cons (de_b (de_ix (de_v 1) (de_b de_int) (fun _ _ => rfl))) db_nil))) (de_b de_int)))) da_nil))))))))) (dss_one (ds_ret de_bl)) dss_nil)))
      (dss_cons (ds_if (dt_not (dt_val (de_b (de_fn (G_L_no_whole.mono (by omega)) hr (takes_of rfl rfl rfl rfl) rfl (da_cons de_int da_nil))))) (dss_one (ds_ret de_bl)) dss_nil)
      (dss_cons (ds_for (pt := (.nm 8)) hT (passes_of rfl) rfl (di_rng1 rfl T.n_range (de_b de_int)) (pg_name (i := 8) sc_law.nd rfl (.inl rfl)) (dss_one (ds_if (dt_not (dt_val (de_b (de_fn (G_L_is.mono (by omega)) hr (takes_of rfl rfl rfl rfl) rfl (da_cons (de_ix (de_v 7) (de_v 8) (fun _ _ => rfl)) (da_cons (de_ix (de_b (de_ix (de_v 2) (de_v 8) (fun _ _ => rfl))) (de_b de_int) (fun _ _ => rfl)) (da_cons (de_ix (de_b (de_ix (de_v 2) (de_v 8) (fun _ _ => rfl))) (de_b de_int) (fun _ _ => rfl)) da_nil))))))) (dss_one (ds_ret de_bl)) dss_nil)))
      (dss_one (ds_ret de_bl))))))))))))))))))))))
end
end K00
set_option Elab.async false
set_option linter.all false
set_option maxRecDepth 100000
set_option maxHeartbeats 4000000
namespace K00
open PySem PySem.Spec L2 DL DM
open PyProof.Rows hiding St
local macro_rules | `(tactic| decreasing_with $ts:tacticSeq) => `(tactic| (repeat (first | (with_reducible first | exact x_C | exact x_bnil | exact x_nil | exact d_fr | exact d_ow | exact x_nop | exact x_ofalse | exact x_retN | apply x_B | apply x_BV | apply x_var | apply x_bin | apply x_un | apply x_bcons | apply x_cons | apply x_call | apply x_test | apply x_tnot | apply x_not | apply x_osome | apply x_sl | apply x_meth | apply x_iter | apply x_chain | apply x_and | apply x_or | apply x_tand | apply x_tor | intro _ | apply x_star | apply x_seqSet | apply x_seqUnp | apply x_seqApp | apply x_seqPut | apply x_set | apply x_ifset | apply x_ret | apply x_retV | apply x_drop | apply x_app | apply x_ext | apply x_unp | apply x_put | apply x_frz) | ($ts) | exact (rfl : (_ : Option (Option Sl)) = _) | exact (rfl : (_ : En) = _) | exact (rfl : (_ : Option Fn) = _) | exact l_add | exact l_sub | exact l_int | exact l_intB | exact l_mod (by first | decide | omega) | exact l_div (by first | decide | omega) (by first | decide | omega) | exact l_mulR (by omega) | exact l_mulL (by omega) | exact l_neg | exact l_abs | exact l_lt | exact l_le | exact l_gt | exact l_ge | exact l_eqI | exact l_neI | exact l_min | exact l_max | exact l_lenL | exact l_lenT | exact l_tuple | exact l_tupleT | exact l_list | exact l_listT | exact l_T0 | exact l_T1 | exact l_T2 | exact l_T3 | exact l_L0 | exact l_L1 | exact l_L2 | exact l_L3 | exact l_tup (by simp only [lim, List.length_cons, List.length_nil, List.length_map, List.length_append]; omega) | exact l_lst (by simp only [lim, List.length_cons, List.length_nil, List.length_map, List.length_append]; omega) | exact l_seqL | exact l_seqT | exact l_fld rfl rfl | exact (rfl : (_ : D) = D.tup _) | exact (rfl : (_ : Nat) = _))))
/-! ### lowest terms -/
def gc (p w : Int) : Nat := Nat.gcd p.natAbs w.natAbs
def sg (p w : Int) : Int := if w < 0 then -(gc p w : Int) else (gc p w : Int)
def low (p w : Int) : Int × Int := (p.fdiv (sg p w), w.fdiv (sg p w))
theorem gc_pos {p w : Int} (h : w ≠ 0) : 0 < gc p w := Nat.gcd_pos_of_pos_right _ (by omega)
theorem sg_ne {p w : Int} (h : w ≠ 0) : sg p w ≠ 0 := by
  have := gc_pos (p := p) h
  unfold sg
  split <;> omega
theorem sg_abs (p w : Int) : (sg p w).natAbs = gc p w := by unfold sg; split <;> omega
theorem low_spec {p w : Int} (h : w ≠ 0) : p = sg p w * (low p w).1 ∧ w = sg p w * (low p w).2 := by
  have n := sg_ne (p := p) h
  have d1 : sg p w ∣ p := Int.natAbs_dvd_natAbs.mp (by rw [sg_abs]; exact Nat.gcd_dvd_left _ _)
  have d2 : sg p w ∣ w := Int.natAbs_dvd_natAbs.mp (by rw [sg_abs]; exact Nat.gcd_dvd_right _ _)
  obtain ⟨a, ha⟩ := d1
  obtain ⟨b, hb⟩ := d2
  have e1 : p.fdiv (sg p w) = a := (congrArg (fun z => z.fdiv (sg p w)) ha).trans (Int.mul_fdiv_cancel_left _ n)
  have e2 : w.fdiv (sg p w) = b := (congrArg (fun z => z.fdiv (sg p w)) hb).trans (Int.mul_fdiv_cancel_left _ n)
  unfold low
  rw [e1, e2]
  exact ⟨ha, hb⟩
theorem low_pos {p w : Int} (h : w ≠ 0) : 0 < (low p w).2 := by
  have e := (low_spec (p := p) h).2
  have g := gc_pos (p := p) h
  obtain ⟨q, hq⟩ : ∃ q, (low p w).2 = q := ⟨_, rfl⟩
  obtain ⟨s, hs⟩ : ∃ s, sg p w = s := ⟨_, rfl⟩
  rw [hq, hs] at e
  rw [hq]
  have hs2 : (w < 0 → s < 0) ∧ (¬ w < 0 → 0 < s) := by
    rw [← hs]; unfold sg
    constructor <;> intro c
    · rw [if_pos c]; omega
    · rw [if_neg c]; omega
  by_cases c : w < 0
  · have := hs2.1 c
    rcases Int.lt_or_le 0 q with k | k
    · exact k
    · have := Int.mul_nonneg_of_nonpos_of_nonpos (Int.le_of_lt (hs2.1 c)) k
      omega
  · have h3 := hs2.2 c
    rcases Int.lt_or_le 0 q with k | k
    · exact k
    · have := Int.mul_nonpos_of_nonneg_of_nonpos (Int.le_of_lt h3) k
      omega
theorem low_le {p w : Int} (h : w ≠ 0) : (low p w).1.natAbs ≤ p.natAbs ∧ (low p w).2.natAbs ≤ w.natAbs := by
  obtain ⟨e1, e2⟩ := low_spec (p := p) h
  have g := gc_pos (p := p) h
  have a1 : p.natAbs = gc p w * (low p w).1.natAbs := by rw [← sg_abs, ← Int.natAbs_mul, ← e1]
  have a2 : w.natAbs = gc p w * (low p w).2.natAbs := by rw [← sg_abs, ← Int.natAbs_mul, ← e2]
  rw [a1, a2]
  exact ⟨Nat.le_mul_of_pos_left _ g, Nat.le_mul_of_pos_left _ g⟩
theorem low_cop {p w : Int} (h : w ≠ 0) : Nat.Coprime (low p w).1.natAbs (low p w).2.natAbs := by
  obtain ⟨e1, e2⟩ := low_spec (p := p) h
  have g := gc_pos (p := p) h
  have a1 : p.natAbs = gc p w * (low p w).1.natAbs := by rw [← sg_abs, ← Int.natAbs_mul, ← e1]
  have a2 : w.natAbs = gc p w * (low p w).2.natAbs := by rw [← sg_abs, ← Int.natAbs_mul, ← e2]
  have e : gc p w = gc p w * Nat.gcd (low p w).1.natAbs (low p w).2.natAbs := by
    rw [← Nat.gcd_mul_left, ← a1, ← a2]; rfl
  exact (Nat.eq_of_mul_eq_mul_left g (by omega : gc p w * 1 = gc p w * Nat.gcd (low p w).1.natAbs (low p w).2.natAbs)).symm
theorem low_fix {p w : Int} (h : 0 < w) (c : Nat.Coprime p.natAbs w.natAbs) : low p w = (p, w) := by
  have g : gc p w = 1 := c
  have s : sg p w = 1 := by unfold sg; rw [if_neg (by omega), g]; rfl
  unfold low
  rw [s]
  simp [Int.fdiv_one]
/-! ### the Euclid of the law -/
theorem halve (a : Nat) {b : Nat} (h : 0 < a % b) : 2 * (b % (a % b)) < b ∨ b = 0 := by
  rcases Nat.eq_zero_or_pos b with hb | hb
  · exact .inr hb
  · left
    have l1 := Nat.mod_lt a hb
    have l2 := Nat.mod_lt b h
    have e := Nat.div_add_mod b (a % b)
    have q : 1 ≤ b / (a % b) := Nat.div_pos (by omega) h
    have m : a % b * 1 ≤ a % b * (b / (a % b)) := Nat.mul_le_mul_left _ q
    omega
abbrev eE (p w : Int) (a b : Nat) (o4 o5 : Option Sl) : En := [some (.fr (.int p)), some (.fr (.int w)), some (.fr (.int a)), some (.fr (.int b)), o4, o5]
theorem e_stop {p w : Int} {a : Nat} (k : D) (o5 : Option Sl) : b_L_lowest_1 (eE p w a 0 (some (.fr k)) o5) = .bk (eE p w a 0 (some (.fr k)) o5) := by
  apply x_seqB
  apply x_sifT
  · decreasing_with fail
  · rfl
  · rfl
theorem e_step {p w : Int} {a b : Nat} (hb : 0 < b) (k : D) (o5 : Option Sl) : b_L_lowest_1 (eE p w a b (some (.fr k)) o5) = .nx (eE p w b (a % b) (some (.fr k)) (some (.fr (.int ((a % b : Nat) : Int))))) := by
  apply x_finS
  · apply x_seq
    · apply x_sifF
      · decreasing_with fail
      · simp; omega
      · exact x_nop
    decreasing_with fail
  · rfl
theorem forM_bk {as : D → En → Option En} {b : MS} {d : D} {ds : List D} {env e e' : En} (h1 : as d env = some e) (h2 : b e = .bk e') : DL.forM as b (d :: ds) env = .nx e' := by
  unfold DL.forM; rw [h1]; simp only [h2]
theorem forM_nx {as : D → En → Option En} {b : MS} {d : D} {ds : List D} {env e e' : En} (h1 : as d env = some e) (h2 : b e = .nx e') : DL.forM as b (d :: ds) env = DL.forM as b ds e' := by
  show (match as d env with | none => RS.st | some e1 => match b e1 with | .nx e => DL.forM as b ds e | .ct e => DL.forM as b ds e | .bk e => .nx e | .rt s => .rt s | .ex c p e => .ex c p e | .st => .st) = _
  rw [h1]; simp only [h2]
theorem euclid {p w : Int} : ∀ (m : Nat) (ks : List D) (a b : Nat) (o4 o5 : Option Sl), b < 2 ^ m → 2 * m + 1 ≤ ks.length → ∃ q4 q5, DL.forM (Pt.nm 4).go b_L_lowest_1 ks (eE p w a b o4 o5) = .nx (eE p w (Nat.gcd a b) 0 q4 q5)
  | m, [], a, b, o4, o5, h, hl => by simp at hl
  | 0, k :: ks, a, b, o4, o5, h, hl => by
    have hb : b = 0 := by omega
    subst hb
    exact ⟨_, _, by rw [Nat.gcd_zero_right]; exact forM_bk rfl (e_stop k o5)⟩
  | m + 1, [k], a, b, o4, o5, h, hl => by simp at hl
  | m + 1, k :: k2 :: ks, a, b, o4, o5, h, hl => by
    rcases Nat.eq_zero_or_pos b with hb | hb
    · subst hb
      exact ⟨_, _, by rw [Nat.gcd_zero_right]; exact forM_bk rfl (e_stop k o5)⟩
    · have s1 := e_step (p := p) (w := w) (a := a) hb k o5
      have g1 : Nat.gcd a b = Nat.gcd b (a % b) := by rw [Nat.gcd_comm a b, Nat.gcd_rec b a, Nat.gcd_comm]
      rcases Nat.eq_zero_or_pos (a % b) with hr | hr
      · refine ⟨some (.fr k2), some (.fr (.int ((a % b : Nat) : Int))), ?_⟩
        rw [forM_nx rfl s1, g1, hr, Nat.gcd_zero_right]
        exact forM_bk rfl (e_stop k2 _)
      · have s2 := e_step (p := p) (w := w) (a := b) hr k2 (some (.fr (.int ((a % b : Nat) : Int))))
        have hh := halve a hr
        have hp : (2 : Nat) ^ (m + 1) = 2 * 2 ^ m := by rw [Nat.pow_succ, Nat.mul_comm]
        obtain ⟨q4, q5, r⟩ := euclid m ks (a % b) (b % (a % b)) (some (.fr k2)) (some (.fr (.int ((b % (a % b) : Nat) : Int)))) (by omega) (by simp at hl ⊢; omega)
        refine ⟨q4, q5, ?_⟩
        rw [forM_nx rfl s1]
        refine (forM_nx rfl s2).trans ?_
        rw [r, g1, Nat.gcd_comm b (a % b), Nat.gcd_rec (a % b) b, Nat.gcd_comm]
def Bd (n : Nat) (x : Int) : Prop := x.natAbs < 2 ^ n
theorem Bd.mono {a b : Nat} {x : Int} (h : Bd a x) (k : a ≤ b) : Bd b x := Nat.lt_of_lt_of_le h (Nat.pow_le_pow_right (by decide) k)
theorem Bd.mul {a b : Nat} {x y : Int} (h : Bd a x) (k : Bd b y) : Bd (a + b) (x * y) := wide_lt h k
theorem Bd.add {a : Nat} {x y : Int} (h : Bd a x) (k : Bd a y) : Bd (a + 1) (x + y) := by
  unfold Bd at *; rw [Nat.pow_succ]; omega
theorem Bd.sub {a : Nat} {x y : Int} (h : Bd a x) (k : Bd a y) : Bd (a + 1) (x - y) := by
  unfold Bd at *; rw [Nat.pow_succ]; omega
theorem Bd.neg {a : Nat} {x : Int} (h : Bd a x) : Bd a (0 - x) := by unfold Bd at *; omega
theorem Bd.low {a b : Nat} {p w : Int} (h : w ≠ 0) (hp : Bd a p) (hw : Bd b w) : Bd a (low p w).1 ∧ Bd b (low p w).2 := ⟨Nat.lt_of_le_of_lt (low_le h).1 hp, Nat.lt_of_le_of_lt (low_le h).2 hw⟩
theorem Bd.gc {b : Nat} {p w : Int} (h : w ≠ 0) (hw : Bd b w) : gc p w < 2 ^ b := Nat.lt_of_le_of_lt (Nat.le_of_dvd (by omega) (Nat.gcd_dvd_right _ _)) hw
theorem l_fdiv {a b : Int} (h : b ≠ 0) (h2 : Bd 4000 b) : fFdiv (.int a) (.int b) = .ok (.fr (.int (a.fdiv b))) := by
  show (if b ≠ 0 ∧ b.natAbs < 2 ^ 4000 then R.ok (Sl.fr (.int (a.fdiv b))) else .st) = _
  rw [if_pos ⟨h, h2⟩]
theorem l_mulB {a b : Int} (h : Bd 4000 a) (h2 : Bd 4000 b) : fMul (.int a) (.int b) = .ok (.fr (.int (a * b))) := by
  show (if DL.MulOk a b = true then R.ok (Sl.fr (.int (a * b))) else .st) = _
  have e : DL.MulOk a b = true := by
    unfold DL.MulOk
    rw [decide_eq_true (show a.natAbs < 2 ^ 4000 from h), decide_eq_true (show b.natAbs < 2 ^ 4000 from h2)]
    simp
  rw [if_pos e]
theorem l_mulX {a b : Int} {m n : Nat} (h : Bd m a) (h2 : Bd n b) (h0 : 0 < m) (h1 : 0 < n) (hl : m + n ≤ 1000000) : fMulX (.int a) (.int b) = .ok (.fr (.int (a * b))) := by
  show (if a.natAbs.log2 + b.natAbs.log2 < 1000000 then R.ok (Sl.fr (.int (a * b))) else .st) = _
  have c : a.natAbs.log2 + b.natAbs.log2 < 1000000 := wide_mul h h2 h0 h1 hl
  rw [if_pos c]
theorem abs_cast (x : Int) : (if x < 0 then -x else x) = (x.natAbs : Int) := by split <;> omega
theorem lowest_is {p w : Int} (h : w ≠ 0) (hw : Bd 900 w) : f_L_lowest [.int p, .int w] = .ok (.fr (pr (low p w))) := by
  obtain ⟨q4, q5, e⟩ := euclid (p := p) (w := w) 900 ((List.range 2000).map fun k : Nat => D.int k) p.natAbs w.natAbs none none hw (by simp)
  have n := sg_ne (p := p) h
  have b : Bd 4000 (sg p w) := by
    show (sg p w).natAbs < 2 ^ 4000
    rw [sg_abs]
    exact Nat.lt_of_lt_of_le (Bd.gc h hw) (Nat.pow_le_pow_right (by decide) (by decide))
  unfold f_L_lowest m_L_lowest
  apply x_runR rfl
  apply x_seqSet
  · decreasing_with fail
  · decreasing_with fail
  rw [abs_cast]
  apply x_seqSet
  · decreasing_with fail
  · decreasing_with fail
  rw [abs_cast]
  apply x_seq
  · apply x_for
    · apply x_rngI (j := 2000)
      · decreasing_with fail
      · omega
    · exact e
  have es : (bif decide (w < 0) then D.int (0 - (gc p w : Int)) else D.int (gc p w)) = .int (sg p w) := by
    unfold sg
    by_cases c : w < 0
    · rw [decide_eq_true c, if_pos c, cond_true, Int.zero_sub]
    · rw [decide_eq_false c, if_neg c, cond_false]
  apply x_seq
  · decreasing_with fail
  refine Eq.trans (congrArg (fun d => (sRet (mCall fTup (mCons (mBin fFdiv (mBV 0) (mBV 2)) (mCons (mBin fFdiv (mBV 1) (mBV 2)) mNil)))) (List.set (eE p w (Nat.gcd p.natAbs w.natAbs) 0 q4 q5) 2 (some (.fr d)))) es) ?_
  decreasing_with first | exact l_fdiv n b
/-! ### ratios -/
abbrev ob (r : Int × Int) : D := .obj 5 [.int r.1, .int r.2]
theorem new_is {p w : Int} (h : w ≠ 0) (hw : Bd 3000 w) : new_Ratio [.int p, .int w] = .ok (.fr (ob (low p w))) := by
  have n := sg_ne (p := p) h
  have b : Bd 4000 (sg p w) := by
    show (sg p w).natAbs < 2 ^ 4000
    rw [sg_abs]
    exact Nat.lt_of_lt_of_le (Bd.gc h hw) (Nat.pow_le_pow_right (by decide) (by decide))
  have d1 := l_fdiv (a := p) n b
  have d2 := l_fdiv (a := w) n b
  have g1 : fGcd [.int p, .int w] = .ok (.fr (.int (gc p w))) := rfl
  have e1 : fEq (.int w) (.int 0) = .ok (.fr (.bl false)) := by rw [fEq_int, decide_eq_false h]
  unfold new_Ratio fNew f_Ratio_init runNew m_Ratio_init
  unfold sg at d1 d2
  by_cases c : w < 0
  · rw [if_pos c] at d1 d2
    simp [runF, env0, fin, sSeq, sSet, sIf, sRet, sRetN, sRetV, sDrop, sFrz, frz, frz1, sNop, sTry, sTryAs, mAnd, mOr, mNot, mB, mBin, mUn, mCall, mCons, mNil, bCons, bNil, mBV, mVar, mC, mTest, tNotM, tAndM, tOrM, tYesM, DL.R.bind, DL.R.quiet, Sl.d, asB, mIf, envI, iSeq, iIf, iSet, iFld, iNop, e1, g1, fLt, fNeg, c, d1, d2]
    unfold low sg
    rw [if_pos c]
    exact ⟨rfl, rfl⟩
  · rw [if_neg c] at d1 d2
    simp [runF, env0, fin, sSeq, sSet, sIf, sRet, sRetN, sRetV, sDrop, sFrz, frz, frz1, sNop, sTry, sTryAs, mAnd, mOr, mNot, mB, mBin, mUn, mCall, mCons, mNil, bCons, bNil, mBV, mVar, mC, mTest, tNotM, tAndM, tOrM, tYesM, DL.R.bind, DL.R.quiet, Sl.d, asB, mIf, envI, iSeq, iIf, iSet, iFld, iNop, e1, g1, fLt, fNeg, c, d1, d2]
    unfold low sg
    rw [if_neg c]
    exact ⟨rfl, rfl⟩
theorem new_bad (p : Int) : new_Ratio [.int p, .int 0] = .ex 1 none := by
  have e1 : fEq (.int 0) (.int 0) = .ok (.fr (.bl true)) := by rw [fEq_int]; rfl
  unfold new_Ratio fNew f_Ratio_init runNew m_Ratio_init
  simp [runF, env0, fin, sSeq, sSet, sIf, sRet, sRetN, sRetV, sDrop, sFrz, frz, frz1, sNop, sTry, sTryAs, mAnd, mOr, mNot, mB, mBin, mUn, mCall, mCons, mNil, bCons, bNil, mBV, mVar, mC, mTest, tNotM, tAndM, tOrM, tYesM, DL.R.bind, DL.R.quiet, Sl.d, asB, mIf, envI, iSeq, iIf, iRaise, e1]
theorem same7 {d : D} (h : goodD 7 d = true) : f_L_same [d, d] = .ok (.fr (.bl true)) := same_ok 7 d h
theorem sameI (a : Int) : f_L_same [.int a, .int a] = .ok (.fr (.bl true)) := same7 (gd_int 7 a)
theorem sameB (a : Bool) : f_L_same [.bl a, .bl a] = .ok (.fr (.bl true)) := same7 (gd_bl 7 a)
theorem is_is {p w : Int} (h : w ≠ 0) (hw : Bd 900 w) : f_L_is [ob (low p w), .int p, .int w] = .ok (.fr (.bl true)) := by
  have e := lowest_is (p := p) h hw
  have s1 := sameI (low p w).1
  have s2 := sameI (low p w).2
  unfold f_L_is m_L_is
  apply x_fin
  · apply x_runR rfl
    apply x_guardF
    · apply x_tnot
      apply x_test
      apply x_B
      · apply x_un
        · decreasing_with fail
        · exact rfl
      · decreasing_with fail
    · rfl
    decreasing_with first | exact e | exact s1 | exact s2
  · rfl
theorem add_is {r q : Int × Int} (h1 : r.2 ≠ 0) (h2 : q.2 ≠ 0) (a1 : Bd 300 r.1) (a2 : Bd 300 r.2) (a3 : Bd 300 q.1) (a4 : Bd 300 q.2) : f_Ratio_add [ob r, ob q] = .ok (.fr (ob (low (r.1 * q.2 + q.1 * r.2) (r.2 * q.2)))) := by
  have b1 := a1.mono (b := 4000) (by decide)
  have b2 := a2.mono (b := 4000) (by decide)
  have b3 := a3.mono (b := 4000) (by decide)
  have b4 := a4.mono (b := 4000) (by decide)
  have e := new_is (p := r.1 * q.2 + q.1 * r.2) (w := r.2 * q.2) (Int.mul_ne_zero h1 h2) ((a2.mul a4).mono (by decide))
  unfold f_Ratio_add m_Ratio_add
  apply x_runR rfl
  decreasing_with first | exact l_mulB b1 b4 | exact l_mulB b3 b2 | exact l_mulB b2 b4 | exact e
theorem sub_is {r q : Int × Int} (h1 : r.2 ≠ 0) (h2 : q.2 ≠ 0) (a1 : Bd 300 r.1) (a2 : Bd 300 r.2) (a3 : Bd 300 q.1) (a4 : Bd 300 q.2) : f_Ratio_sub [ob r, ob q] = .ok (.fr (ob (low (r.1 * q.2 - q.1 * r.2) (r.2 * q.2)))) := by
  have b1 := a1.mono (b := 4000) (by decide)
  have b2 := a2.mono (b := 4000) (by decide)
  have b3 := a3.mono (b := 4000) (by decide)
  have b4 := a4.mono (b := 4000) (by decide)
  have e := new_is (p := r.1 * q.2 - q.1 * r.2) (w := r.2 * q.2) (Int.mul_ne_zero h1 h2) ((a2.mul a4).mono (by decide))
  unfold f_Ratio_sub m_Ratio_sub
  apply x_runR rfl
  decreasing_with first | exact l_mulB b1 b4 | exact l_mulB b3 b2 | exact l_mulB b2 b4 | exact e
theorem mul_is {r q : Int × Int} {m n : Nat} (h1 : r.2 ≠ 0) (h2 : q.2 ≠ 0) (a1 : Bd m r.1) (a2 : Bd m r.2) (a3 : Bd n q.1) (a4 : Bd n q.2) (m0 : 0 < m) (n0 : 0 < n) (hl : m + n ≤ 3000) : f_Ratio_mul [ob r, ob q] = .ok (.fr (ob (low (r.1 * q.1) (r.2 * q.2)))) := by
  have e := new_is (p := r.1 * q.1) (w := r.2 * q.2) (Int.mul_ne_zero h1 h2) ((a2.mul a4).mono hl)
  unfold f_Ratio_mul m_Ratio_mul
  apply x_runR rfl
  decreasing_with first | exact l_mulX a1 a3 m0 n0 (by omega) | exact l_mulX a2 a4 m0 n0 (by omega) | exact e
theorem new_cop {p w : Int} (h : 0 < w) (c : Nat.Coprime p.natAbs w.natAbs) : new_Ratio [.int p, .int w] = .ok (.fr (ob (p, w))) := by
  have g1 : fGcd [.int p, .int w] = .ok (.fr (.int 1)) := by
    show R.ok (Sl.fr (.int (Nat.gcd p.natAbs w.natAbs : Nat))) = _
    rw [show Nat.gcd p.natAbs w.natAbs = 1 from c]; rfl
  have d1 : fFdiv (.int p) (.int 1) = .ok (.fr (.int p)) := (l_fdiv (by decide) (Nat.lt_of_lt_of_le (by decide : (1 : Int).natAbs < 2 ^ 1) (Nat.pow_le_pow_right (by decide) (by decide)))).trans (by rw [Int.fdiv_one])
  have d2 : fFdiv (.int w) (.int 1) = .ok (.fr (.int w)) := (l_fdiv (by decide) (Nat.lt_of_lt_of_le (by decide : (1 : Int).natAbs < 2 ^ 1) (Nat.pow_le_pow_right (by decide) (by decide)))).trans (by rw [Int.fdiv_one])
  have e1 : fEq (.int w) (.int 0) = .ok (.fr (.bl false)) := by rw [fEq_int, decide_eq_false (by omega)]
  have c2 : ¬ w < 0 := by omega
  unfold new_Ratio fNew f_Ratio_init runNew m_Ratio_init
  simp [runF, env0, fin, sSeq, sSet, sIf, sRet, sRetN, sRetV, sDrop, sFrz, frz, frz1, sNop, sTry, sTryAs, mAnd, mOr, mNot, mB, mBin, mUn, mCall, mCons, mNil, bCons, bNil, mBV, mVar, mC, mTest, tNotM, tAndM, tOrM, tYesM, DL.R.bind, DL.R.quiet, Sl.d, asB, mIf, envI, iSeq, iIf, iSet, iFld, iNop, e1, g1, fLt, c2, d1, d2]
/-! ### powers -/
theorem raise_step {r : Int × Int} (hr : 0 < r.2) (hc : Nat.Coprime r.1.natAbs r.2.natAbs) (a1 : Bd 300 r.1) (a2 : Bd 300 r.2) {k : Nat} (hk : k ≤ 60) (x : D) :
    b_Ratio_raised_1 [some (.fr (ob r)), some (.fr x), some (.fr (ob (r.1 ^ k, r.2 ^ k))), some (.fr (.int k))] = .nx [some (.fr (ob r)), some (.fr x), some (.fr (ob (r.1 ^ (k + 1), r.2 ^ (k + 1)))), some (.fr (.int k))] := by
  have pw : ∀ {x : Int} (j : Nat), Bd 300 x → Bd (300 * j + 1) (x ^ j) := fun {x} j h => by
    unfold Bd at *
    rw [Int.natAbs_pow]
    have : x.natAbs ^ j ≤ (2 ^ 300) ^ j := Nat.pow_le_pow_left (Nat.le_of_lt h) j
    rw [← Nat.pow_mul] at this
    rw [Nat.pow_succ]
    have p0 : 0 < 2 ^ (300 * j) := Nat.pow_pos (by decide)
    omega
  have e : new_Ratio [.int (r.1 ^ k * r.1), .int (r.2 ^ k * r.2)] = .ok (.fr (ob (r.1 ^ (k + 1), r.2 ^ (k + 1)))) := by
    rw [← Int.pow_succ, ← Int.pow_succ]
    exact new_cop (Int.pow_pos hr) (by rw [Int.natAbs_pow, Int.natAbs_pow]; exact Nat.Coprime.pow _ _ hc)
  have m : f_Ratio_mul [ob (r.1 ^ k, r.2 ^ k), ob r] = .ok (.fr (ob (r.1 ^ (k + 1), r.2 ^ (k + 1)))) := by
    unfold f_Ratio_mul m_Ratio_mul
    apply x_runR rfl
    decreasing_with first | exact l_mulX (pw k a1) a1 (by omega) (by decide) (by omega) | exact l_mulX (pw k a2) a2 (by omega) (by decide) (by omega) | exact e
  have o : fOwn tab_mul (ob (r.1 ^ k, r.2 ^ k)) (ob r) = .ok (.fr (ob (r.1 ^ (k + 1), r.2 ^ (k + 1)))) := m
  decreasing_with first | exact o
theorem raised_is {r : Int × Int} (hr : 0 < r.2) (hc : Nat.Coprime r.1.natAbs r.2.natAbs) (a1 : Bd 300 r.1) (a2 : Bd 300 r.2) {n : Nat} (hn : n ≤ 60) : f_Ratio_raised [ob r, .int n] = .ok (.fr (ob (r.1 ^ n, r.2 ^ n))) := by
  have e1 : new_Ratio [.int 1, .int 1] = .ok (.fr (ob (1, 1))) := new_cop (by decide) (by decide)
  obtain ⟨e, h1, k, h2, h3, o, h4⟩ := for_all (pt := .nm 3) (b := b_Ratio_raised_1) (f := fun k : Nat => D.int k) (fun ks env => ∃ k, (ks = (List.range n).drop k) ∧ k ≤ n ∧ ∃ o, env = [some (.fr (ob r)), some (.fr (.int n)), some (.fr (ob (r.1 ^ k, r.2 ^ k))), o])
    (List.range n) [some (.fr (ob r)), some (.fr (.int n)), some (.fr (ob (1, 1))), none] ⟨0, by simp, by omega, none, by simp⟩ (by
      rintro j ks _ ⟨k, hk, hl, o, rfl⟩
      have hj : (List.range n)[k]? = some j := by
        have := congrArg (fun l => l[0]?) hk
        simpa using this.symm
      obtain ⟨hkn, hjk⟩ := List.getElem?_eq_some_iff.mp hj
      rw [List.getElem_range] at hjk
      subst hjk
      refine ⟨_, _, rfl, .inl (raise_step hr hc a1 a2 (k := k) (by simp at hkn; omega) (.int n)), k + 1, ?_, by simp at hkn; omega, _, rfl⟩
      have := congrArg List.tail hk
      simpa using this)
  have hk : k = n := by
    have := congrArg List.length h2
    simp at this
    omega
  subst hk
  subst h4
  unfold f_Ratio_raised m_Ratio_raised
  apply x_runR rfl
  apply x_seq
  · apply x_sifF
    · decreasing_with fail
    · simp; omega
    · exact x_nop
  apply x_seqSet
  · decreasing_with first | exact e1
  · decreasing_with fail
  apply x_seq
  · apply x_for
    · apply x_rngI (j := k)
      · decreasing_with fail
      · omega
    · exact h1
  decreasing_with fail
theorem join_raised (env : En) : ∃ s, mJoin [(mB (mC (.str (Str.ofString "a ratio is raised 0 to ")))), (mB (mUn fFmt (mB (mC (.int 60))))), (mB (mC (.str (Str.ofString " times"))))] env = .ok s := ⟨_, rfl⟩
theorem raised_bad (r : Int × Int) {n : Int} (hn : n < 0 ∨ 60 < n) : f_Ratio_raised [ob r, .int n] = .ex 1 none := by
  unfold f_Ratio_raised m_Ratio_raised
  apply x_runX rfl
  apply x_seqX
  apply x_sifT
  · decreasing_with fail
  · simp; omega
  · obtain ⟨s, hs⟩ := join_raised (env0 2 4 [ob r, .int n])
    unfold sRaise1
    rw [show [ob r, D.int n].length = 2 from rfl, hs]
theorem no_power_is (r : Int × Int) {n : Int} (hn : n < 0 ∨ 60 < n) : f_L_no_power [ob r, .int n] = .ok (.fr (.bl true)) := by
  have e := raised_bad r hn
  have e : mMeth tab_raised (mVar 0) (mCons (mVar 1) mNil) [some (.fr (ob r)), some (.fr (.int n)), none] = .ex 1 none := e
  unfold f_L_no_power m_L_no_power
  obtain ⟨M, hM⟩ : ∃ m, mMeth tab_raised (mVar 0) (mCons (mVar 1) mNil) = m := ⟨_, rfl⟩
  rw [hM] at e ⊢
  simp [runF, env0, fin, sSeq, sTryAs, sDrop, e, cat_BadRatio, sup, sIf, tOrM, mTest, mB, mC, DL.R.bind, Sl.d, asB, isv_BadWeight, isv_BadDraw, isv_BadPermutation, isv_UnseenError, isv_ValueError, sNop, sRet, mAnd, RS.clr]
theorem no_whole_is (p : Int) : f_L_no_whole [.int p] = .ok (.fr (.bl true)) := by
  have e := new_bad p
  unfold f_L_no_whole m_L_no_whole
  simp [runF, env0, fin, sSeq, sSet, sIf, sRet, sRetN, sRetV, sDrop, sFrz, frz, frz1, sNop, sTry, sTryAs, mAnd, mOr, mNot, mB, mBin, mUn, mCall, mCons, mNil, bCons, bNil, mBV, mVar, mC, mTest, tNotM, tAndM, tOrM, tYesM, DL.R.bind, DL.R.quiet, Sl.d, asB, mIf, sTryAs, e, cat_BadRatio, sup, isv_BadWeight, isv_BadDraw, isv_BadPermutation, isv_UnseenError, isv_ValueError, RS.clr]
theorem pow_step {r : Int × Int} (a1 : Bd 300 r.1) (a2 : Bd 300 r.2) {k : Nat} (hk : k ≤ 60) (o6 : Option Sl) (x y z : D) :
    b_L_power_1 [some (.fr x), some (.fr (pr r)), some (.fr y), some (.fr (.int (r.1 ^ k))), some (.fr (.int (r.2 ^ k))), some (.fr z), o6] = .nx [some (.fr x), some (.fr (pr r)), some (.fr y), some (.fr (.int (r.1 ^ (k + 1)))), some (.fr (.int (r.2 ^ (k + 1)))), some (.fr z), o6] := by
  have pw : ∀ {x : Int} (j : Nat), Bd 300 x → Bd (300 * j + 1) (x ^ j) := fun {x} j h => by
    unfold Bd at *
    rw [Int.natAbs_pow]
    have : x.natAbs ^ j ≤ (2 ^ 300) ^ j := Nat.pow_le_pow_left (Nat.le_of_lt h) j
    rw [← Nat.pow_mul] at this
    rw [Nat.pow_succ]
    have p0 : 0 < 2 ^ (300 * j) := Nat.pow_pos (by decide)
    omega
  apply x_finS
  · decreasing_with first | exact l_mulX (pw k a1) a1 (by omega) (by decide) (by omega) | exact l_mulX (pw k a2) a2 (by omega) (by decide) (by omega)
  · rw [Int.pow_succ, Int.pow_succ]; rfl
theorem power_is {r : Int × Int} (hr : 0 < r.2) (hc : Nat.Coprime r.1.natAbs r.2.natAbs) (a1 : Bd 300 r.1) (a2 : Bd 300 r.2) {n : Nat} (hn : n ≤ 60) : f_L_power [ob r, pr r, .int n] = .ok (.fr (.bl true)) := by
  have e1 := raised_is hr hc a1 a2 hn
  have s1 := sameI (r.1 ^ n)
  have s2 := sameI (r.2 ^ n)
  obtain ⟨e, h1, k, h2, h3, o, h4⟩ := for_all (pt := .nm 5) (b := b_L_power_1) (f := fun k : Nat => D.int k) (fun ks env => ∃ k, (ks = (List.range n).drop k) ∧ k ≤ n ∧ ∃ o, env = [some (.fr (ob r)), some (.fr (pr r)), some (.fr (.int n)), some (.fr (.int (r.1 ^ k))), some (.fr (.int (r.2 ^ k))), o, none])
    (List.range n) [some (.fr (ob r)), some (.fr (pr r)), some (.fr (.int n)), some (.fr (.int 1)), some (.fr (.int 1)), none, none] ⟨0, by simp, by omega, none, by simp⟩ (by
      rintro j ks _ ⟨k, hk, hl, o, rfl⟩
      have hj : (List.range n)[k]? = some j := by
        have := congrArg (fun l => l[0]?) hk
        simpa using this.symm
      obtain ⟨hkn, hjk⟩ := List.getElem?_eq_some_iff.mp hj
      rw [List.getElem_range] at hjk
      subst hjk
      refine ⟨_, _, rfl, .inl (pow_step a1 a2 (k := k) (by simp at hkn; omega) none (ob r) (.int n) (.int k)), k + 1, ?_, by simp at hkn; omega, _, rfl⟩
      have := congrArg List.tail hk
      simpa using this)
  have hk : k = n := by
    have := congrArg List.length h2
    simp at this
    omega
  subst hk
  subst h4
  unfold f_L_power m_L_power
  apply x_fin
  · apply x_runR rfl
    decreasing_with fail
    apply x_seq
    · apply x_for
      · apply x_rngI (j := k)
        · decreasing_with fail
        · omega
      · exact h1
    apply x_seqSet
    · decreasing_with first | exact e1
    · decreasing_with fail
    apply x_ret
    apply x_and
    · apply x_B
      · apply x_un
        · decreasing_with fail
        · exact rfl
      · decreasing_with fail
    decreasing_with first | exact s1 | exact s2
  · rfl
end K00
set_option Elab.async false
set_option linter.all false
set_option maxRecDepth 100000
set_option maxHeartbeats 4000000
namespace K00
open PySem PySem.Spec L2 DL DM
open PyProof.Rows hiding St
local macro_rules | `(tactic| decreasing_with $ts:tacticSeq) => `(tactic| (repeat (first | (with_reducible first | exact x_C | exact x_bnil | exact x_nil | exact d_fr | exact d_ow | exact x_nop | exact x_ofalse | exact x_retN | apply x_B | apply x_BV | apply x_var | apply x_bin | apply x_un | apply x_bcons | apply x_cons | apply x_call | apply x_test | apply x_tnot | apply x_not | apply x_osome | apply x_sl | apply x_meth | apply x_iter | apply x_chain | apply x_and | apply x_or | apply x_tand | apply x_tor | intro _ | apply x_star | apply x_seqSet | apply x_seqUnp | apply x_seqApp | apply x_seqPut | apply x_set | apply x_ifset | apply x_ret | apply x_retV | apply x_drop | apply x_app | apply x_ext | apply x_unp | apply x_put | apply x_frz) | ($ts) | exact (rfl : (_ : Option (Option Sl)) = _) | exact (rfl : (_ : En) = _) | exact (rfl : (_ : Option Fn) = _) | exact l_add | exact l_sub | exact l_int | exact l_intB | exact l_mod (by first | decide | omega) | exact l_div (by first | decide | omega) (by first | decide | omega) | exact l_mulR (by omega) | exact l_mulL (by omega) | exact l_neg | exact l_abs | exact l_lt | exact l_le | exact l_gt | exact l_ge | exact l_eqI | exact l_neI | exact l_min | exact l_max | exact l_lenL | exact l_lenT | exact l_tuple | exact l_tupleT | exact l_list | exact l_listT | exact l_T0 | exact l_T1 | exact l_T2 | exact l_T3 | exact l_L0 | exact l_L1 | exact l_L2 | exact l_L3 | exact l_tup (by simp only [lim, List.length_cons, List.length_nil, List.length_map, List.length_append]; omega) | exact l_lst (by simp only [lim, List.length_cons, List.length_nil, List.length_map, List.length_append]; omega) | exact l_seqL | exact l_seqT | exact l_fld rfl rfl | exact (rfl : (_ : D) = D.tup _) | exact (rfl : (_ : Nat) = _))))
/-- a ratio in lowest terms, of at most 300 bits -/
structure Low (r : Int × Int) : Prop where
  pos : 0 < r.2
  cop : Nat.Coprime r.1.natAbs r.2.natAbs
  b1 : Bd 300 r.1
  b2 : Bd 300 r.2
def numT (x : Int) : Str := Str.ofString (toString x)
def slash : Str := Str.ofString "/"
def txt (r : Int × Int) : Str := (numT r.1 ++ slash) ++ numT r.2
theorem log_b {x : Int} (h : Bd 300 x) : x.natAbs.log2 < 1920 := Nat.lt_of_lt_of_le (PySem.Flt.log2_lt_of (by decide) h) (by decide)
theorem numT_len {x : Int} (h : Bd 300 x) : (numT x).length ≤ 1921 := PyProof.Rows.int_text_len_1921 (log_b h)
theorem slash_len : slash.length = 1 := by decide +kernel
theorem fStr_is {x : Int} (h : Bd 300 x) : fStr [.int x] = .ok (.fr (.str (numT x))) := by
  show (if x.natAbs.log2 < 1920 then R.ok (Sl.fr (.str (numT x))) else .st) = _
  rw [if_pos (log_b h)]
theorem fFmt_is {x : Int} (h : Bd 300 x) : fFmt (.int x) = .ok (.fr (.str (numT x))) := by
  show (if x.natAbs.log2 < 1920 then R.ok (Sl.fr (.str (numT x))) else .st) = _
  rw [if_pos (log_b h)]
theorem add_str {a b : Str} (h : a.length + b.length ≤ 1000000) : fAddL (.str a) (.str b) = .ok (.fr (.str (a ++ b))) := by
  show (if a.length + b.length ≤ lim then R.ok (Sl.fr (.str (a ++ b))) else .st) = _
  rw [if_pos (show a.length + b.length ≤ lim from h)]
theorem empty_app (a : Str) : Str.empty ++ a = a := by
  show (⟨#[] ++ a.cps⟩ : Str) = a
  rw [Array.empty_append]
theorem x_mJ_nil {acc : Str} {env : En} : mJ [] acc env = .ok acc := rfl
theorem x_mJ {m : B} {ms : List B} {acc y z : Str} {env : En} (h1 : m env = .ok (.str y)) (h2 : (acc ++ y).length ≤ lim) (h3 : mJ ms (acc ++ y) env = .ok z) : mJ (m :: ms) acc env = .ok z := by
  show (m env).bind _ = _
  rw [h1]
  show (if (acc ++ y).length ≤ lim then mJ ms (acc ++ y) env else .st) = _
  rw [if_pos h2]
  exact h3
theorem x_join {ms : List B} {z : Str} {env : En} (h : mJ ms Str.empty env = .ok z) : mJoin ms env = .ok (.fr (.str z)) := by
  unfold mJoin; rw [h]; rfl
theorem str_is {r : Int × Int} (h : Low r) : f_Ratio_str [ob r] = .ok (.fr (.str (txt r))) := by
  have l1 := numT_len h.b1
  have l2 := numT_len h.b2
  have l3 := slash_len
  have e1 := fFmt_is h.b1
  have e2 := fFmt_is h.b2
  unfold f_Ratio_str m_Ratio_str
  apply x_runR rfl
  apply x_ret
  apply x_join
  apply x_mJ
  · decreasing_with first | exact e1 | exact e2
  · rw [empty_app]; unfold lim; omega
  rw [empty_app]
  apply x_mJ
  · decreasing_with fail
  · show (numT r.1 ++ slash).length ≤ lim
    rw [len_app]; unfold lim; omega
  apply x_mJ
  · decreasing_with first | exact e1 | exact e2
  · show ((numT r.1 ++ slash) ++ numT r.2).length ≤ lim
    rw [len_app, len_app]; unfold lim; omega
  exact x_mJ_nil
theorem strO_is {r : Int × Int} (h : Low r) : fStrO tab_str [ob r] = .ok (.fr (.str (txt r))) := by
  show (f_Ratio_str [ob r]).bind (fun s => asS s.d) = _
  rw [str_is h]; rfl
theorem eq_is (r q : Int × Int) : f_Ratio_eq [ob r, ob q] = .ok (.fr (.bl (decide (r = q)))) := by
  unfold f_Ratio_eq m_Ratio_eq
  apply x_fin
  · apply x_runR rfl
    apply x_ret
    apply x_and
    · apply x_B
      · apply x_un
        · decreasing_with fail
        · exact rfl
      · decreasing_with fail
    decreasing_with fail
  · rw [Bool.true_and]
    congr 2
    obtain ⟨a, b⟩ := r
    obtain ⟨c, d⟩ := q
    by_cases h1 : a = c <;> by_cases h2 : b = d <;> simp [h1, h2]
theorem eq_no (r : Int × Int) {d : D} (h : fIsC ti_Ratio d = .ok (.fr (.bl false))) : f_Ratio_eq [ob r, d] = .ok (.fr (.bl false)) := by
  unfold f_Ratio_eq m_Ratio_eq
  apply x_runR rfl
  apply x_ret
  apply x_andF
  · apply x_B
    · apply x_un
      · decreasing_with fail
      · exact h
    · decreasing_with fail
  · rfl
theorem less_is {r q : Int × Int} (h : Low r) (k : Low q) : f_Ratio_less [ob r, ob q] = .ok (.fr (.bl (decide (r.1 * q.2 < q.1 * r.2)))) := by
  have b1 := h.b1.mono (b := 4000) (by decide)
  have b2 := h.b2.mono (b := 4000) (by decide)
  have b3 := k.b1.mono (b := 4000) (by decide)
  have b4 := k.b2.mono (b := 4000) (by decide)
  unfold f_Ratio_less m_Ratio_less
  apply x_runR rfl
  decreasing_with first | exact l_mulB b1 b4 | exact l_mulB b3 b2
theorem fEq_pr (p q : Int × Int) : fEq (pr p) (pr q) = .ok (.fr (.bl (decide (p = q)))) := by
  unfold fEq
  rw [okE_pr p, okE_pr q, eqD_pr]; rfl
section
variable {rs : List (Int × Int)} (hl : ∀ r ∈ rs, Low r) (hn : rs.length = 4)
abbrev cE (rs : List (Int × Int)) (o2 o3 o4 o5 o6 : Option Sl) : En := [some (.fr (.lst (rs.map ob))), some (.fr (.lst (rs.map pr))), o2, o3, o4, o5, o6]
include hl hn
theorem c1_step {a b : Nat} (ha : a < 4) (hb : b < 4) (o4 o5 o6 : Option Sl) : b_L_compared_1 (cE rs (some (.fr (.int a))) (some (.fr (.int b))) o4 o5 o6) = .nx (cE rs (some (.fr (.int a))) (some (.fr (.int b))) o4 o5 o6) := by
  obtain ⟨r, hr⟩ : ∃ r, rs[a]? = some r := ⟨_, List.getElem?_eq_getElem (by omega)⟩
  obtain ⟨q, hq⟩ : ∃ q, rs[b]? = some q := ⟨_, List.getElem?_eq_getElem (by omega)⟩
  have lr := hl r (List.mem_of_getElem? hr)
  have lq := hl q (List.mem_of_getElem? hq)
  have e1 : fIx (.lst (rs.map ob)) (.int a) = .ok (.fr (ob r)) := x_getL hr
  have e2 : fIx (.lst (rs.map ob)) (.int b) = .ok (.fr (ob q)) := x_getL hq
  have e3 : fIx (.lst (rs.map pr)) (.int a) = .ok (.fr (pr r)) := x_getL hr
  have e4 : fIx (.lst (rs.map pr)) (.int b) = .ok (.fr (pr q)) := x_getL hq
  have e5 := eq_is r q
  have e6 := less_is lr lq
  have e7 := fEq_pr r q
  have b1 := lr.b1.mono (b := 4000) (by decide)
  have b2 := lr.b2.mono (b := 4000) (by decide)
  have b3 := lq.b1.mono (b := 4000) (by decide)
  have b4 := lq.b2.mono (b := 4000) (by decide)
  apply x_seq
  · apply x_sifF
    · apply x_tnot
      apply x_test
      apply x_B
      · apply x_call
        · apply x_cons
          · apply x_eqO
            · decreasing_with first | exact e1 | exact e2
            · decreasing_with first | exact e1 | exact e2
            · decreasing_with fail
            · exact rfl
            · exact rfl
            · exact e5
          · decreasing_with fail
          · decreasing_with first | exact e3 | exact e4 | exact e7
        · exact sameB _
      · decreasing_with fail
    · rfl
    · exact x_nop
  apply x_sifF
  · decreasing_with first | exact e1 | exact e2 | exact e3 | exact e4 | exact e6 | exact l_mulB b1 b4 | exact l_mulB b3 b2 | exact sameB _
  · rfl
  · exact x_nop
theorem c2_step {a : Nat} (ha : a < 4) (o3 o4 o5 o6 : Option Sl) : ∃ q3, b_L_compared_2 (cE rs (some (.fr (.int a))) o3 o4 o5 o6) = .nx (cE rs (some (.fr (.int a))) q3 o4 o5 o6) := by
  obtain ⟨e, h1, ⟨q3, h2⟩, -⟩ := for_all (pt := .nm 3) (b := b_L_compared_1) (f := fun k : Nat => D.int k) (fun ks env => (∃ q3, env = cE rs (some (.fr (.int a))) q3 o4 o5 o6) ∧ ∀ k ∈ ks, k < 4)
    (List.range 4) (cE rs (some (.fr (.int a))) o3 o4 o5 o6) ⟨⟨_, rfl⟩, fun k hk => List.mem_range.mp hk⟩ (by
      rintro k ks _ ⟨⟨q3, rfl⟩, hk⟩
      exact ⟨_, _, rfl, .inl (c1_step hl hn ha (hk k List.mem_cons_self) o4 o5 o6), ⟨_, rfl⟩, fun j hj => hk j (List.mem_cons_of_mem _ hj)⟩)
  subst h2
  refine ⟨q3, ?_⟩
  apply x_for
  · apply x_rngI (j := 4)
    · decreasing_with fail
    · omega
  · exact h1
theorem c3_step {k : Nat} {r : Int × Int} (hr : rs[k]? = some r) {d : D} (hd : fIsC ti_Ratio d = .ok (.fr (.bl false))) (ho : okEq 5 d = true) (o2 o3 o5 : Option Sl) : b_L_compared_3 (cE rs o2 o3 (some (.fr (.int k))) o5 (some (.fr d))) = .nx (cE rs o2 o3 (some (.fr (.int k))) o5 (some (.fr d))) := by
  have e1 : fIx (.lst (rs.map ob)) (.int k) = .ok (.fr (ob r)) := x_getL hr
  have e2 := eq_no r hd
  apply x_sifF
  · apply x_tnot
    apply x_test
    apply x_B
    · apply x_call
      · apply x_cons
        · apply x_eqO
          · decreasing_with first | exact e1
          · decreasing_with fail
          · decreasing_with fail
          · exact rfl
          · exact ho
          · exact e2
        · decreasing_with fail
        · decreasing_with fail
      · exact sameB _
    · decreasing_with fail
  · rfl
  · exact x_nop
theorem c4_step {k : Nat} (hk : k < 4) (o2 o3 o5 o6 : Option Sl) : ∃ q5 q6, b_L_compared_4 (cE rs o2 o3 (some (.fr (.int k))) o5 o6) = .nx (cE rs o2 o3 (some (.fr (.int k))) q5 q6) := by
  obtain ⟨r, hr⟩ : ∃ r, rs[k]? = some r := ⟨_, List.getElem?_eq_getElem (by omega)⟩
  have lr := hl r (List.mem_of_getElem? hr)
  have e1 : fIx (.lst (rs.map ob)) (.int k) = .ok (.fr (ob r)) := x_getL hr
  have e3 : fIx (.lst (rs.map pr)) (.int k) = .ok (.fr (pr r)) := x_getL hr
  have t1 := fStr_is lr.b1
  have t2 := fStr_is lr.b2
  have l1 := numT_len lr.b1
  have l2 := numT_len lr.b2
  have l3 := slash_len
  have a1 : fAddL (.str (numT r.1)) (.str (Str.ofString "/")) = .ok (.fr (.str (numT r.1 ++ slash))) := add_str (by show (numT r.1).length + slash.length ≤ _; omega)
  have a2 : fAddL (.str (numT r.1 ++ slash)) (.str (numT r.2)) = .ok (.fr (.str (txt r))) := add_str (by rw [len_app]; omega)
  have s1 := strO_is lr
  have s2 : f_L_same [.str (txt r), .str (txt r)] = .ok (.fr (.bl true)) := same7 (okE_str (strOk_app _ _ (strOk_app _ _ (strOk_of _) (strOk_of _)) (strOk_of _)))
  have lp : ∀ (ds : List D) (o6 : Option Sl), (∀ d ∈ ds, fIsC ti_Ratio d = .ok (.fr (.bl false)) ∧ okEq 5 d = true) → ∃ q6, DL.forM (Pt.nm 6).go b_L_compared_3 ds (cE rs o2 o3 (some (.fr (.int k))) (some (.fr (.str (txt r)))) o6) = .nx (cE rs o2 o3 (some (.fr (.int k))) (some (.fr (.str (txt r)))) q6) := by
    intro ds
    induction ds with
    | nil => exact fun o6 _ => ⟨o6, rfl⟩
    | cons d ds ih =>
      intro o6 h
      have hd := h d List.mem_cons_self
      obtain ⟨q6, e⟩ := ih (some (.fr d)) fun x hx => h x (List.mem_cons_of_mem _ hx)
      exact ⟨q6, (forM_nx rfl (c3_step hl hn hr hd.1 hd.2 o2 o3 _)).trans e⟩
  obtain ⟨q6, e⟩ := lp [.int r.1, .int r.2, pr r, .str (txt r), .non, .lst [.int r.1, .int r.2]] o6 (by
    intro d hd
    simp only [List.mem_cons, List.mem_nil_iff, or_false] at hd
    rcases hd with rfl | rfl | rfl | rfl | rfl | rfl <;> exact ⟨rfl, rfl⟩)
  refine ⟨some (.fr (.str (txt r))), q6, ?_⟩
  apply x_seqSet
  · decreasing_with first | exact e3 | exact t1 | exact t2 | exact a1 | exact a2
  · decreasing_with fail
  apply x_seq
  · apply x_for
    · decreasing_with first | exact e3
    · exact e
  apply x_finS
  · apply x_sifF
    · decreasing_with first | exact e1 | exact s1 | exact s2
    · rfl
    · exact x_nop
  · rfl
theorem compared_is : f_L_compared [.lst (rs.map ob), .lst (rs.map pr)] = .ok (.fr (.bl true)) := by
  obtain ⟨e, h1, ⟨q2, q3, h2⟩, -⟩ := for_all (pt := .nm 2) (b := b_L_compared_2) (f := fun k : Nat => D.int k) (fun ks env => (∃ q2 q3, env = cE rs q2 q3 none none none) ∧ ∀ k ∈ ks, k < 4)
    (List.range 4) (cE rs none none none none none) ⟨⟨_, _, rfl⟩, fun k hk => List.mem_range.mp hk⟩ (by
      rintro k ks _ ⟨⟨q2, q3, rfl⟩, hk⟩
      obtain ⟨q, g⟩ := c2_step hl hn (hk k List.mem_cons_self) q3 none none none
      exact ⟨_, _, rfl, .inl g, ⟨_, _, rfl⟩, fun j hj => hk j (List.mem_cons_of_mem _ hj)⟩)
  subst h2
  obtain ⟨e', h3, -⟩ := for_all (pt := .nm 4) (b := b_L_compared_4) (f := fun k : Nat => D.int k) (fun ks env => (∃ q4 q5 q6, env = cE rs q2 q3 q4 q5 q6) ∧ ∀ k ∈ ks, k < 4)
    (List.range 4) (cE rs q2 q3 none none none) ⟨⟨_, _, _, rfl⟩, fun k hk => List.mem_range.mp hk⟩ (by
      rintro k ks _ ⟨⟨q4, q5, q6, rfl⟩, hk⟩
      obtain ⟨p5, p6, g⟩ := c4_step hl hn (hk k List.mem_cons_self) q2 q3 q5 q6
      exact ⟨_, _, rfl, .inl g, ⟨_, _, _, rfl⟩, fun j hj => hk j (List.mem_cons_of_mem _ hj)⟩)
  unfold f_L_compared m_L_compared
  apply x_runR rfl
  apply x_seq
  · apply x_for
    · apply x_rngI (j := 4)
      · decreasing_with fail
      · omega
    · exact h1
  apply x_seq
  · apply x_for
    · apply x_rngI (j := 4)
      · decreasing_with fail
      · omega
    · exact h3
  decreasing_with fail
end
theorem sums_is {r q : Int × Int} (h : Low r) (k : Low q) : f_L_sums [ob r, ob q, pr r, pr q] = .ok (.fr (.bl true)) := by
  have b1 := h.b1.mono (b := 4000) (by decide)
  have b2 := h.b2.mono (b := 4000) (by decide)
  have b3 := k.b1.mono (b := 4000) (by decide)
  have b4 := k.b2.mono (b := 4000) (by decide)
  have n1 : r.2 ≠ 0 := by have := h.pos; omega
  have n2 : q.2 ≠ 0 := by have := k.pos; omega
  have n := Int.mul_ne_zero n1 n2
  have bw : Bd 900 (r.2 * q.2) := (h.b2.mul k.b2).mono (by decide)
  have e1 : fOwn tab_add (ob r) (ob q) = .ok (.fr (ob (low (r.1 * q.2 + q.1 * r.2) (r.2 * q.2)))) := add_is n1 n2 h.b1 h.b2 k.b1 k.b2
  have e2 : fOwn tab_sub (ob r) (ob q) = .ok (.fr (ob (low (r.1 * q.2 - q.1 * r.2) (r.2 * q.2)))) := sub_is n1 n2 h.b1 h.b2 k.b1 k.b2
  have e3 : fOwn tab_mul (ob r) (ob q) = .ok (.fr (ob (low (r.1 * q.1) (r.2 * q.2)))) := mul_is (m := 300) (n := 300) n1 n2 h.b1 h.b2 k.b1 k.b2 (by decide) (by decide) (by decide)
  have i1 := is_is (p := r.1 * q.2 + q.1 * r.2) n bw
  have i2 := is_is (p := r.1 * q.2 - q.1 * r.2) n bw
  have i3 := is_is (p := r.1 * q.1) n bw
  have p0 : fIx (pr r) (.int 0) = .ok (.fr (.int r.1)) := l_T0
  have p1 : fIx (pr r) (.int 1) = .ok (.fr (.int r.2)) := l_T1
  have q0 : fIx (pr q) (.int 0) = .ok (.fr (.int q.1)) := l_T0
  have q1 : fIx (pr q) (.int 1) = .ok (.fr (.int q.2)) := l_T1
  unfold f_L_sums m_L_sums
  apply x_runR rfl
  decreasing_with first | exact p0 | exact p1 | exact q0 | exact q1 | exact l_mulB b2 b4
  apply x_guardF
  · decreasing_with first | exact e1 | exact p0 | exact p1 | exact q0 | exact q1 | exact l_mulB b1 b4 | exact l_mulB b3 b2 | exact i1
  · rfl
  apply x_guardF
  · decreasing_with first | exact e2 | exact p0 | exact p1 | exact q0 | exact q1 | exact l_mulB b1 b4 | exact l_mulB b3 b2 | exact i2
  · rfl
  decreasing_with first | exact e3 | exact p0 | exact p1 | exact q0 | exact q1 | exact l_mulB b1 b3 | exact i3
end K00
set_option Elab.async false
set_option linter.all false
set_option maxRecDepth 100000
set_option maxHeartbeats 4000000
namespace K00
open PySem PySem.Spec L2 DL DM
open PyProof.Rows hiding St
local macro_rules | `(tactic| decreasing_with $ts:tacticSeq) => `(tactic| (repeat (first | (with_reducible first | exact x_C | exact x_bnil | exact x_nil | exact d_fr | exact d_ow | exact x_nop | exact x_ofalse | exact x_retN | apply x_B | apply x_BV | apply x_var | apply x_bin | apply x_un | apply x_bcons | apply x_cons | apply x_call | apply x_test | apply x_tnot | apply x_not | apply x_osome | apply x_sl | apply x_meth | apply x_iter | apply x_chain | apply x_and | apply x_or | apply x_tand | apply x_tor | intro _ | apply x_star | apply x_seqSet | apply x_seqUnp | apply x_seqApp | apply x_seqPut | apply x_set | apply x_ifset | apply x_ret | apply x_retV | apply x_drop | apply x_app | apply x_ext | apply x_unp | apply x_put | apply x_frz) | ($ts) | exact (rfl : (_ : Option (Option Sl)) = _) | exact (rfl : (_ : En) = _) | exact (rfl : (_ : Option Fn) = _) | exact l_add | exact l_sub | exact l_int | exact l_intB | exact l_mod (by first | decide | omega) | exact l_div (by first | decide | omega) (by first | decide | omega) | exact l_mulR (by omega) | exact l_mulL (by omega) | exact l_neg | exact l_abs | exact l_lt | exact l_le | exact l_gt | exact l_ge | exact l_eqI | exact l_neI | exact l_min | exact l_max | exact l_lenL | exact l_lenT | exact l_tuple | exact l_tupleT | exact l_list | exact l_listT | exact l_T0 | exact l_T1 | exact l_T2 | exact l_T3 | exact l_L0 | exact l_L1 | exact l_L2 | exact l_L3 | exact l_tup (by simp only [lim, List.length_cons, List.length_nil, List.length_map, List.length_append]; omega) | exact l_lst (by simp only [lim, List.length_cons, List.length_nil, List.length_map, List.length_append]; omega) | exact l_seqL | exact l_seqT | exact l_fld rfl rfl | exact (rfl : (_ : D) = D.tup _) | exact (rfl : (_ : Nat) = _))))
theorem nums (c : Int) {m : Nat} (hm : m ≤ 1000) : ∃ zs : List Int, zs.length = m ∧ (∀ z ∈ zs, 0 ≤ z ∧ z < 5040) ∧ f_L_numbers [.int c, .int m] = .ok (.ow (zs.map .int)) := numbers_ok c hm
theorem cell_is (ns : List Int) {k : Nat} (hk : k ≤ 1000) : ∃ v : Int, f_L_cell [.lst (ns.map .int), .int k] = .ok (.fr (.int v)) := cell_ok ns hk
theorem at0_in {zs : List Int} {i : Int} (hb : ∀ z ∈ zs, 0 ≤ z ∧ z < 5040) (h : 0 ≤ i ∧ i < zs.length) : 0 ≤ at0 zs i ∧ at0 zs i < 5040 := by
  unfold at0
  rw [getD_get (by omega)]
  exact hb _ (List.getElem_mem ..)
theorem integer_is (c : Int) {l : Int} (h : 0 < l) : ∃ v : Int, v.natAbs < l.natAbs ∧ f_L_integer [.int c, .int l] = .ok (.fr (.int v)) := by
  by_cases hc : c < 0
  · have b1 := Int.emod_nonneg (0 - c) (b := l) (by omega)
    have b2 := Int.emod_lt_of_pos (0 - c) h
    refine ⟨0 - (0 - c) % l, by omega, ?_⟩
    unfold f_L_integer m_L_integer
    apply x_runR rfl
    apply x_guardT
    · decreasing_with fail
    · exact decide_eq_true hc
    decreasing_with fail
  · have b1 := Int.emod_nonneg c (b := l) (by omega)
    have b2 := Int.emod_lt_of_pos c h
    refine ⟨c % l, by omega, ?_⟩
    unfold f_L_integer m_L_integer
    apply x_runR rfl
    apply x_guardF
    · decreasing_with fail
    · exact decide_eq_false hc
    decreasing_with fail
def fx (t : Int) : Int := if t = 0 then 1 else t
theorem fx_ne (t : Int) : fx t ≠ 0 := by unfold fx; split <;> omega
theorem fx_b {t : Int} {n : Nat} (hn : 0 < n) (h : Bd n t) : Bd n (fx t) := by
  unfold fx
  split
  · exact Nat.lt_of_lt_of_le (by decide : (1 : Int).natAbs < 2 ^ 1) (Nat.pow_le_pow_right (by decide) hn)
  · exact h
abbrev pE (ns zs : List Int) (md L : Int) (ts : List Int) (o5 : Option Sl) : En := [some (.fr (.lst (ns.map .int))), some (.fr (.lst (zs.map .int))), some (.fr (.int md)), some (.fr (.int L)), some (.ow (ts.map .int)), o5, none, none, none]
theorem p_step {ns zs : List Int} {md L : Int} {ts : List Int} {k : Nat} {t : Int} (ht : ts[k]? = some t) : b_L_pairs_1 (pE ns zs md L ts (some (.fr (.int k)))) = .nx (pE ns zs md L (ts.set k (fx t)) (some (.fr (.int k)))) := by
  have hk := (List.getElem?_eq_some_iff.mp ht).1
  have e1 : fIx (.lst (ts.map .int)) (.int k) = .ok (.fr (.int t)) := x_getL ht
  have e2 : ixD (ts.map D.int).length k = some k := by unfold ixD; rw [if_pos (by omega), if_pos (by rw [List.length_map]; omega), Int.toNat_natCast]
  by_cases c : t = 0
  · apply x_sifT
    · decreasing_with first | exact e1
    · exact decide_eq_true c
    · apply x_finS
      · decreasing_with first | exact e2
      · unfold fx
        rw [if_pos c]
        simp [pE, List.map_set]
  · apply x_finS
    · apply x_sifF
      · decreasing_with first | exact e1
      · exact decide_eq_false c
      · exact x_nop
    · unfold fx
      rw [if_neg c]
      have : ts.set k t = ts := by
        have h := List.getElem?_eq_some_iff.mp ht
        rw [← h.2]
        exact List.set_getElem_self hk
      rw [this]
theorem mul_ne {a b : Int} (h : a ≠ 0) (k : b ≠ 0) : a * b ≠ 0 := Int.mul_ne_zero h k
theorem one_b (n : Nat) (h : 1 ≤ n) : Bd n 1 := Nat.lt_of_lt_of_le (by decide : (1 : Int).natAbs < 2 ^ 1) (Nat.pow_le_pow_right (by decide) h)
abbrev ppR : MS := (sSeq (sIf (mTest (mB (mBin fEq (mBV 2) (mB (mC (.int 0)))))) (sRet (mCall fLst (mCons (mCall fTup (mCons (mBin fIx (mBV 4) (mB (mC (.int 0)))) (mCons (mBin fIx (mBV 4) (mB (mC (.int 1)))) mNil))) (mCons (mCall fTup (mCons (mBin fIx (mBV 4) (mB (mC (.int 2)))) (mCons (mBin fIx (mBV 4) (mB (mC (.int 3)))) mNil))) mNil)))) sNop)
    (sSeq (sSet 6 (mBin fAddL (mB (mC (.int 1))) (mB (mCall fAbs (bCons (mB (mCall f_L_integer (mCons (mCall f_L_cell (mCons (mVar 0) (mCons (mC (.int 4)) mNil))) (mCons (mBin fSub (mBV 3) (mB (mC (.int 1)))) mNil)))) bNil)))))
    (sSeq (sSet 7 (mBin fAddL (mB (mC (.int 1))) (mB (mCall fAbs (bCons (mB (mCall f_L_integer (mCons (mCall f_L_cell (mCons (mVar 0) (mCons (mC (.int 5)) mNil))) (mCons (mBin fSub (mBV 3) (mB (mC (.int 1)))) mNil)))) bNil)))))
    (sSeq (sIf (mTest (mB (mBin fEq (mB (mBin fMod (mB (mCall fInt (bCons (mB (mBin fIx (mBV 1) (mB (mC (.int 1))))) bNil))) (mB (mC (.int 2))))) (mB (mC (.int 1)))))) (sSet 7 (mBin fSub (mB (mC (.int 0))) (mBV 7))) sNop)
    (sSeq (sSet 8 (mCall fTup (mCons (mBin fMul (mB (mBin fIx (mBV 4) (mB (mC (.int 0))))) (mBV 6)) (mCons (mBin fMul (mB (mBin fIx (mBV 4) (mB (mC (.int 1))))) (mBV 6)) mNil))))
    (sSeq (sIf (mTest (mB (mBin fEq (mBV 2) (mB (mC (.int 1)))))) (sRet (mCall fLst (mCons (mVar 8) (mCons (mCall fTup (mCons (mBin fMul (mB (mBin fIx (mBV 4) (mB (mC (.int 2))))) (mBV 7)) (mCons (mBin fMul (mB (mBin fIx (mBV 4) (mB (mC (.int 3))))) (mBV 7)) mNil))) mNil)))) sNop)
    (sSeq (sIf (mTest (mB (mBin fEq (mBV 2) (mB (mC (.int 2)))))) (sRet (mCall fLst (mCons (mVar 8) (mCons (mCall fTup (mCons (mBin fMul (mB (mBin fIx (mBV 4) (mB (mC (.int 0))))) (mBV 7)) (mCons (mBin fMul (mB (mBin fIx (mBV 4) (mB (mC (.int 1))))) (mBV 7)) mNil))) mNil)))) sNop)
    (sSeq (sIf (mTest (mB (mBin fEq (mBV 2) (mB (mC (.int 3)))))) (sRet (mCall fLst (mCons (mVar 8) (mCons (mCall fTup (mCons (mBin fAddL (mB (mBin fMul (mB (mBin fIx (mBV 4) (mB (mC (.int 0))))) (mBV 7))) (mB (mC (.int 1)))) (mCons (mBin fMul (mB (mBin fIx (mBV 4) (mB (mC (.int 1))))) (mBV 7)) mNil))) mNil)))) sNop)
    (sRet (mCall fLst (mCons (mVar 8) (mCons (mCall fTup (mCons (mBin fSub (mB (mC (.int 0))) (mB (mBin fMul (mB (mBin fIx (mBV 4) (mB (mC (.int 0))))) (mBV 7)))) (mCons (mBin fMul (mB (mBin fIx (mBV 4) (mB (mC (.int 1))))) (mBV 7)) mNil))) mNil))))))))))))
/-- two pairs with wholes that are not 0 -/
def P2 (r : RS) : Prop := ∃ P Q : Int × Int, (P.2 ≠ 0 ∧ Bd 210 P.1 ∧ Bd 210 P.2) ∧ (Q.2 ≠ 0 ∧ Bd 210 Q.1 ∧ Bd 210 Q.2) ∧ r = .rt (.ow [pr P, pr Q])
theorem p2_of {r : RS} {P Q : Int × Int} (h : r = .rt (.ow [pr P, pr Q])) (h1 : P.2 ≠ 0 ∧ Bd 210 P.1 ∧ Bd 210 P.2) (h2 : Q.2 ≠ 0 ∧ Bd 210 Q.1 ∧ Bd 210 Q.2) : P2 r := ⟨P, Q, h1, h2, h⟩
theorem pp_zero {ns zs : List Int} {L a b c d : Int} {o5 : Option Sl} (ha : Bd 200 a) (hb : Bd 200 b) (hc : Bd 200 c) (hd : Bd 200 d) (nb : b ≠ 0) (nd : d ≠ 0) : P2 (ppR (pE ns zs 0 L [a, b, c, d] o5)) := by
  refine p2_of (P := (a, b)) (Q := (c, d)) ?_ ⟨nb, ha.mono (by decide), hb.mono (by decide)⟩ ⟨nd, hc.mono (by decide), hd.mono (by decide)⟩
  apply x_guardT
  · decreasing_with fail
  · rfl
  decreasing_with fail
abbrev ppT : MS := (sSeq (sSet 8 (mCall fTup (mCons (mBin fMul (mB (mBin fIx (mBV 4) (mB (mC (.int 0))))) (mBV 6)) (mCons (mBin fMul (mB (mBin fIx (mBV 4) (mB (mC (.int 1))))) (mBV 6)) mNil))))
    (sSeq (sIf (mTest (mB (mBin fEq (mBV 2) (mB (mC (.int 1)))))) (sRet (mCall fLst (mCons (mVar 8) (mCons (mCall fTup (mCons (mBin fMul (mB (mBin fIx (mBV 4) (mB (mC (.int 2))))) (mBV 7)) (mCons (mBin fMul (mB (mBin fIx (mBV 4) (mB (mC (.int 3))))) (mBV 7)) mNil))) mNil)))) sNop)
    (sSeq (sIf (mTest (mB (mBin fEq (mBV 2) (mB (mC (.int 2)))))) (sRet (mCall fLst (mCons (mVar 8) (mCons (mCall fTup (mCons (mBin fMul (mB (mBin fIx (mBV 4) (mB (mC (.int 0))))) (mBV 7)) (mCons (mBin fMul (mB (mBin fIx (mBV 4) (mB (mC (.int 1))))) (mBV 7)) mNil))) mNil)))) sNop)
    (sSeq (sIf (mTest (mB (mBin fEq (mBV 2) (mB (mC (.int 3)))))) (sRet (mCall fLst (mCons (mVar 8) (mCons (mCall fTup (mCons (mBin fAddL (mB (mBin fMul (mB (mBin fIx (mBV 4) (mB (mC (.int 0))))) (mBV 7))) (mB (mC (.int 1)))) (mCons (mBin fMul (mB (mBin fIx (mBV 4) (mB (mC (.int 1))))) (mBV 7)) mNil))) mNil)))) sNop)
    (sRet (mCall fLst (mCons (mVar 8) (mCons (mCall fTup (mCons (mBin fSub (mB (mC (.int 0))) (mB (mBin fMul (mB (mBin fIx (mBV 4) (mB (mC (.int 0))))) (mBV 7)))) (mCons (mBin fMul (mB (mBin fIx (mBV 4) (mB (mC (.int 1))))) (mBV 7)) mNil))) mNil))))))))
abbrev pF (ns zs : List Int) (md L : Int) (ts : List Int) (o5 : Option Sl) (x y : Int) : En := [some (.fr (.lst (ns.map .int))), some (.fr (.lst (zs.map .int))), some (.fr (.int md)), some (.fr (.int L)), some (.ow (ts.map .int)), o5, some (.fr (.int x)), some (.fr (.int y)), none]
theorem pp_tail {ns zs : List Int} {md L a b c d x y : Int} {o5 : Option Sl} (hm : 1 ≤ md ∧ md < 5) (ha : Bd 100 a) (hb : Bd 100 b) (hc : Bd 100 c) (hd : Bd 100 d) (nb : b ≠ 0) (nd : d ≠ 0) (hx : Bd 100 x) (hy : Bd 100 y) (nx : x ≠ 0) (ny : y ≠ 0) : P2 (ppT (pF ns zs md L [a, b, c, d] o5 x y)) := by
  have m : ∀ {u v : Int}, Bd 100 u → Bd 100 v → fMul (.int u) (.int v) = .ok (.fr (.int (u * v))) := fun h k => l_mulB (h.mono (by decide)) (k.mono (by decide))
  have bb : ∀ {u v : Int}, Bd 100 u → Bd 100 v → Bd 200 (u * v) := fun h k => h.mul k
  have hF : (b * x ≠ 0 ∧ Bd 210 (a * x) ∧ Bd 210 (b * x)) := ⟨mul_ne nb nx, (bb ha hx).mono (by decide), (bb hb hx).mono (by decide)⟩
  have : md = 1 ∨ md = 2 ∨ md = 3 ∨ md = 4 := by omega
  rcases this with rfl | rfl | rfl | rfl
  · refine p2_of (P := (a * x, b * x)) (Q := (c * y, d * y)) ?_ hF ⟨mul_ne nd ny, (bb hc hy).mono (by decide), (bb hd hy).mono (by decide)⟩
    decreasing_with first | exact m ha hx | exact m hb hx
    apply x_guardT
    · decreasing_with fail
    · rfl
    decreasing_with first | exact m hc hy | exact m hd hy
  · refine p2_of (P := (a * x, b * x)) (Q := (a * y, b * y)) ?_ hF ⟨mul_ne nb ny, (bb ha hy).mono (by decide), (bb hb hy).mono (by decide)⟩
    decreasing_with first | exact m ha hx | exact m hb hx
    apply x_guardF
    · decreasing_with fail
    · rfl
    apply x_guardT
    · decreasing_with fail
    · rfl
    decreasing_with first | exact m ha hy | exact m hb hy
  · refine p2_of (P := (a * x, b * x)) (Q := (a * y + 1, b * y)) ?_ hF ⟨mul_ne nb ny, ((bb ha hy).add (one_b 200 (by decide))).mono (by decide), (bb hb hy).mono (by decide)⟩
    decreasing_with first | exact m ha hx | exact m hb hx
    apply x_guardF
    · decreasing_with fail
    · rfl
    apply x_guardF
    · decreasing_with fail
    · rfl
    apply x_guardT
    · decreasing_with fail
    · rfl
    decreasing_with first | exact m ha hy | exact m hb hy
  · refine p2_of (P := (a * x, b * x)) (Q := (0 - a * y, b * y)) ?_ hF ⟨mul_ne nb ny, ((bb ha hy).neg).mono (by decide), (bb hb hy).mono (by decide)⟩
    decreasing_with first | exact m ha hx | exact m hb hx
    apply x_guardF
    · decreasing_with fail
    · rfl
    apply x_guardF
    · decreasing_with fail
    · rfl
    apply x_guardF
    · decreasing_with fail
    · rfl
    decreasing_with first | exact m ha hy | exact m hb hy
theorem pp_more {ns zs : List Int} (hz : zs.length = 8) {md a b c d : Int} {o5 : Option Sl} (hm : 1 ≤ md ∧ md < 5) (ha : Bd 100 a) (hb : Bd 100 b) (hc : Bd 100 c) (hd : Bd 100 d) (nb : b ≠ 0) (nd : d ≠ 0) : P2 (ppR (pE ns zs md (10 ^ 30) [a, b, c, d] o5)) := by
  have hi : ∀ {i : Int}, 0 ≤ i ∧ i < 8 → 0 ≤ i ∧ i < zs.length := fun h => by omega
  obtain ⟨v4, c4⟩ := cell_is ns (k := 4) (by omega)
  obtain ⟨v5, c5⟩ := cell_is ns (k := 5) (by omega)
  obtain ⟨w4, b4, i4⟩ := integer_is v4 (l := 10 ^ 30 - 1) (by decide)
  obtain ⟨w5, b5, i5⟩ := integer_is v5 (l := 10 ^ 30 - 1) (by decide)
  have lim30 : (10 ^ 30 - 1 : Int).natAbs + 1 < 2 ^ 100 := by decide
  have B1 : Bd 100 (1 + (if w4 < 0 then -w4 else w4)) := by unfold Bd; split <;> omega
  have B2 : Bd 100 (1 + (if w5 < 0 then -w5 else w5)) := by unfold Bd; split <;> omega
  have n1 : 1 + (if w4 < 0 then -w4 else w4) ≠ 0 := by split <;> omega
  have n2 : 1 + (if w5 < 0 then -w5 else w5) ≠ 0 := by split <;> omega
  have go : ∀ (y : Int) (e : En), Bd 100 y → y ≠ 0 → e = pF ns zs md (10 ^ 30) [a, b, c, d] o5 (1 + (if w4 < 0 then -w4 else w4)) y → P2 (ppT e) := fun y e hy ny he => by
    subst he
    exact pp_tail hm ha hb hc hd nb nd B1 hy n1 ny
  have key : ∃ y e, Bd 100 y ∧ y ≠ 0 ∧ e = pF ns zs md (10 ^ 30) [a, b, c, d] o5 (1 + (if w4 < 0 then -w4 else w4)) y ∧ ppR (pE ns zs md (10 ^ 30) [a, b, c, d] o5) = ppT e := by
    by_cases h : at0 zs 1 % 2 = 1
    · refine ⟨0 - (1 + (if w5 < 0 then -w5 else w5)), _, B2.neg, by omega, rfl, ?_⟩
      apply x_guardF
      · decreasing_with fail
      · simp; omega
      decreasing_with first | exact c4 | exact i4 | exact c5 | exact i5 | exact l_row (hi (by omega))
      apply x_seq
      · apply x_sifT
        · decreasing_with first | exact l_row (hi (by omega))
        · exact decide_eq_true h
        · decreasing_with fail
      rfl
    · refine ⟨1 + (if w5 < 0 then -w5 else w5), _, B2, n2, rfl, ?_⟩
      apply x_guardF
      · decreasing_with fail
      · simp; omega
      decreasing_with first | exact c4 | exact i4 | exact c5 | exact i5 | exact l_row (hi (by omega))
      apply x_seq
      · apply x_sifF
        · decreasing_with first | exact l_row (hi (by omega))
        · exact decide_eq_false h
        · exact x_nop
      rfl
  obtain ⟨y, e, hy, ny, he, hk⟩ := key
  rw [hk]
  exact go y e hy ny he
theorem pairs_is (ns : List Int) {zs : List Int} (hz : zs.length = 8) (hzb : ∀ z ∈ zs, 0 ≤ z ∧ z < 5040) : ∃ P Q : Int × Int, (P.2 ≠ 0 ∧ Bd 210 P.1 ∧ Bd 210 P.2) ∧ (Q.2 ≠ 0 ∧ Bd 210 Q.1 ∧ Bd 210 Q.2) ∧ f_L_pairs [.lst (ns.map .int), .lst (zs.map .int)] = .ok (.ow [pr P, pr Q]) := by
  have hi : ∀ {i : Int}, 0 ≤ i ∧ i < 8 → 0 ≤ i ∧ i < zs.length := fun h => by omega
  have z0 := at0_in hzb (i := 0) (by omega)
  obtain ⟨md, hmd⟩ : ∃ md, at0 zs 0 % 5 = md := ⟨_, rfl⟩
  obtain ⟨L, hL⟩ : ∃ L : Int, (bif decide (0 < md) then 10 ^ 30 else 10 ^ 60) = L := ⟨_, rfl⟩
  have hL0 : 0 < L := by rw [← hL]; cases decide (0 < md) <;> decide
  have p30 : fPow (.int 10) (.int 30) = .ok (.fr (.int (10 ^ 30))) := rfl
  have p60 : fPow (.int 10) (.int 60) = .ok (.fr (.int (10 ^ 60))) := rfl
  have LL : (bif decide (0 < md) then D.int (10 ^ 30) else D.int (10 ^ 60)) = .int L := by rw [← hL]; cases decide (0 < md) <;> rfl
  obtain ⟨v0, c0⟩ := cell_is ns (k := 0) (by omega)
  obtain ⟨v1, c1⟩ := cell_is ns (k := 1) (by omega)
  obtain ⟨v2, c2⟩ := cell_is ns (k := 2) (by omega)
  obtain ⟨v3, c3⟩ := cell_is ns (k := 3) (by omega)
  obtain ⟨a, ba, ia⟩ := integer_is v0 hL0
  obtain ⟨b, bb, ib⟩ := integer_is v1 hL0
  obtain ⟨c, bc, ic⟩ := integer_is v2 hL0
  obtain ⟨d, bd, id⟩ := integer_is v3 hL0
  have run : ∀ {r : Sl}, ppR (pE ns zs md L [a, fx b, c, fx d] (some (.fr (.int 3)))) = .rt r → f_L_pairs [.lst (ns.map .int), .lst (zs.map .int)] = .ok r := by
    intro r hr
    unfold f_L_pairs m_L_pairs
    apply x_runR rfl
    apply x_seqSet
    · decreasing_with first | exact l_row (hi (by omega))
    · decreasing_with fail
    rw [hmd]
    decreasing_with first | exact p60
    apply x_seq
    · decreasing_with first | exact p30
    rw [LL]
    apply x_seqSet
    · refine comp_rngZ (j := 4) (G := fun k => [a, b, c, d].getD k 0) ?_ (by omega) fun k hk => ?_
      · decreasing_with fail
      · have hk2 : k = 0 ∨ k = 1 ∨ k = 2 ∨ k = 3 := by omega
        rcases hk2 with rfl | rfl | rfl | rfl
        · decreasing_with first | exact c0 | exact ia
        · decreasing_with first | exact c1 | exact ib
        · decreasing_with first | exact c2 | exact ic
        · decreasing_with first | exact c3 | exact id
    · decreasing_with fail
    apply x_seq
    · apply x_for
      · decreasing_with fail
      · have s1 := p_step (ns := ns) (zs := zs) (md := md) (L := L) (ts := [a, b, c, d]) (k := 1) (t := b) rfl
        have s2 := p_step (ns := ns) (zs := zs) (md := md) (L := L) (ts := [a, fx b, c, d]) (k := 3) (t := d) rfl
        exact (forM_nx (as := (Pt.nm 5).go) rfl s1).trans ((forM_nx (as := (Pt.nm 5).go) rfl s2).trans rfl)
    exact hr
  have fin : P2 (ppR (pE ns zs md L [a, fx b, c, fx d] (some (.fr (.int 3))))) := by
    by_cases h : 0 < md
    · have e : L = 10 ^ 30 := by rw [← hL, decide_eq_true h, cond_true]
      have lb : (10 ^ 30 : Int).natAbs < 2 ^ 100 := by decide
      rw [e] at ba bb bc bd ⊢
      have B : ∀ {x : Int}, x.natAbs < (10 ^ 30 : Int).natAbs → Bd 100 x := fun h => Nat.lt_trans h lb
      exact pp_more hz (by omega) (B ba) (fx_b (by decide) (B bb)) (B bc) (fx_b (by decide) (B bd)) (fx_ne b) (fx_ne d)
    · have e : L = 10 ^ 60 := by rw [← hL, decide_eq_false h, cond_false]
      have e0 : md = 0 := by omega
      have lb : (10 ^ 60 : Int).natAbs < 2 ^ 200 := by decide
      rw [e] at ba bb bc bd ⊢
      rw [e0]
      have B : ∀ {x : Int}, x.natAbs < (10 ^ 60 : Int).natAbs → Bd 200 x := fun h => Nat.lt_trans h lb
      exact pp_zero (B ba) (fx_b (by decide) (B bb)) (B bc) (fx_b (by decide) (B bd)) (fx_ne b) (fx_ne d)
  obtain ⟨P, Q, h1, h2, h3⟩ := fin
  exact ⟨P, Q, h1, h2, run h3⟩
end K00
set_option Elab.async false
set_option linter.all false
set_option maxRecDepth 100000
set_option maxHeartbeats 4000000
namespace K00
open PySem PySem.Spec L2 DL DM
open PyProof.Rows hiding St
local macro_rules | `(tactic| decreasing_with $ts:tacticSeq) => `(tactic| (repeat (first | (with_reducible first | exact x_C | exact x_bnil | exact x_nil | exact d_fr | exact d_ow | exact x_nop | exact x_ofalse | exact x_retN | apply x_B | apply x_BV | apply x_var | apply x_bin | apply x_un | apply x_bcons | apply x_cons | apply x_call | apply x_test | apply x_tnot | apply x_not | apply x_osome | apply x_sl | apply x_meth | apply x_iter | apply x_chain | apply x_and | apply x_or | apply x_tand | apply x_tor | intro _ | apply x_star | apply x_seqSet | apply x_seqUnp | apply x_seqApp | apply x_seqPut | apply x_set | apply x_ifset | apply x_ret | apply x_retV | apply x_drop | apply x_app | apply x_ext | apply x_unp | apply x_put | apply x_frz) | ($ts) | exact (rfl : (_ : Option (Option Sl)) = _) | exact (rfl : (_ : En) = _) | exact (rfl : (_ : Option Fn) = _) | exact l_add | exact l_sub | exact l_int | exact l_intB | exact l_mod (by first | decide | omega) | exact l_div (by first | decide | omega) (by first | decide | omega) | exact l_mulR (by omega) | exact l_mulL (by omega) | exact l_neg | exact l_abs | exact l_lt | exact l_le | exact l_gt | exact l_ge | exact l_eqI | exact l_neI | exact l_min | exact l_max | exact l_lenL | exact l_lenT | exact l_tuple | exact l_tupleT | exact l_list | exact l_listT | exact l_T0 | exact l_T1 | exact l_T2 | exact l_T3 | exact l_L0 | exact l_L1 | exact l_L2 | exact l_L3 | exact l_tup (by simp only [lim, List.length_cons, List.length_nil, List.length_map, List.length_append]; omega) | exact l_lst (by simp only [lim, List.length_cons, List.length_nil, List.length_map, List.length_append]; omega) | exact l_seqL | exact l_seqT | exact l_fld rfl rfl | exact (rfl : (_ : D) = D.tup _) | exact (rfl : (_ : Nat) = _))))
/-- a pair that a ratio is made of -/
structure Pg (p : Int × Int) : Prop where
  ne : p.2 ≠ 0
  b1 : Bd 220 p.1
  b2 : Bd 220 p.2
abbrev lw (p : Int × Int) : Int × Int := low p.1 p.2
theorem Pg.low {p : Int × Int} (h : Pg p) : Low (lw p) := by
  have b := Bd.low h.ne h.b1 h.b2
  exact ⟨low_pos h.ne, low_cop h.ne, b.1.mono (by decide), b.2.mono (by decide)⟩
theorem bif_int (c : Bool) (x y : Int) : (bif c then D.int x else D.int y) = D.int (bif c then x else y) := by cases c <;> rfl
section
variable {ns zs : List Int} {ps : List (Int × Int)} (hp : ∀ p ∈ ps, Pg p) (hn : ps.length = 4) (hz : zs.length = 8) (hzb : ∀ z ∈ zs, 0 ≤ z ∧ z < 5040) {w3 w4 : D}
abbrev lE (ns zs : List Int) (ps : List (Int × Int)) (w3 w4 : D) (o6 o8 o9 o10 o11 o12 o13 : Option Sl) : En := [some (.fr (.lst (ns.map .int))), some (.fr (.lst (zs.map .int))), some (.fr (.lst (ps.map pr))), some (.fr w3), some (.fr w4), some (.ow ((ps.map lw).map pr)), o6, some (.ow ((ps.map lw).map ob)), o8, o9, o10, o11, o12, o13]
include hp hn hz hzb
theorem at_ps {k : Nat} (hk : k < 4) : ∃ p, Pg p ∧ fIx (.lst (ps.map pr)) (.int k) = .ok (.fr (pr p)) ∧ fIx (.lst ((ps.map lw).map ob)) (.int k) = .ok (.fr (ob (lw p))) ∧ fIx (.lst ((ps.map lw).map pr)) (.int k) = .ok (.fr (pr (lw p))) := by
  obtain ⟨p, h⟩ : ∃ p, ps[k]? = some p := ⟨_, List.getElem?_eq_getElem (by omega)⟩
  exact ⟨p, hp p (List.mem_of_getElem? h), x_getL h, x_getL (by rw [List.getElem?_map, h]; rfl), x_getL (by rw [List.getElem?_map, h]; rfl)⟩
theorem l1 {k : Nat} (hk : k < 4) (o6 o9 o10 o11 o12 o13 : Option Sl) : b_law_1 (lE ns zs ps w3 w4 o6 (some (.fr (.int k))) o9 o10 o11 o12 o13) = .nx (lE ns zs ps w3 w4 o6 (some (.fr (.int k))) o9 o10 o11 o12 o13) := by
  obtain ⟨p, g, e1, e2, e3⟩ := at_ps hp hn hz hzb hk
  have i1 := is_is (p := p.1) g.ne (g.b2.mono (by decide))
  have i2 := no_whole_is p.1
  have n2 : 0 - p.2 ≠ 0 := by have := g.ne; omega
  have i3 := new_is (p := p.1) n2 (g.b2.neg.mono (by decide))
  have i4 := is_is (p := p.1) n2 (g.b2.neg.mono (by decide))
  have p0 : fIx (pr p) (.int 0) = .ok (.fr (.int p.1)) := l_T0
  have p1 : fIx (pr p) (.int 1) = .ok (.fr (.int p.2)) := l_T1
  apply x_seq
  · apply x_sifF
    · decreasing_with first | exact e1 | exact e2 | exact p0 | exact p1 | exact i1 | exact i2
    · rfl
    · exact x_nop
  apply x_sifF
  · decreasing_with first | exact e1 | exact p0 | exact p1 | exact i3 | exact i4
  · rfl
  · exact x_nop
theorem l5 {k : Nat} (hk : k < 4) (o6 o9 o10 o11 o12 o13 : Option Sl) : b_law_5 (lE ns zs ps w3 w4 o6 (some (.fr (.int k))) o9 o10 o11 o12 o13) = .nx (lE ns zs ps w3 w4 o6 (some (.fr (.int k))) o9 o10 o11 o12 o13) := by
  obtain ⟨p, g, e1, e2, e3⟩ := at_ps hp hn hz hzb hk
  have i1 := is_is (p := p.1) g.ne (g.b2.mono (by decide))
  have p0 : fIx (pr p) (.int 0) = .ok (.fr (.int p.1)) := l_T0
  have p1 : fIx (pr p) (.int 1) = .ok (.fr (.int p.2)) := l_T1
  apply x_sifF
  · decreasing_with first | exact e1 | exact e2 | exact p0 | exact p1 | exact i1
  · rfl
  · exact x_nop
theorem l2 {a b : Nat} (ha : a < 4) (hb : b < 4) (o6 o8 o10 o11 o12 o13 : Option Sl) : b_law_2 (lE ns zs ps w3 w4 o6 o8 (some (.fr (.tup [.int a, .int b]))) o10 o11 o12 o13) = .nx (lE ns zs ps w3 w4 o6 o8 (some (.fr (.tup [.int a, .int b]))) (some (.fr (.int a))) (some (.fr (.int b))) o12 o13) := by
  obtain ⟨p, g, e1, e2, e3⟩ := at_ps hp hn hz hzb ha
  obtain ⟨q, k, f1, f2, f3⟩ := at_ps hp hn hz hzb hb
  have s := sums_is g.low k.low
  apply x_seq
  · decreasing_with fail
  apply x_seq
  · decreasing_with fail
  apply x_finS
  · apply x_sifF
    · decreasing_with first | exact e2 | exact f2 | exact e3 | exact f3 | exact s
    · rfl
    · exact x_nop
  · rfl
theorem l3 {t : Nat} (ht : t ≤ 60) (o6 o8 o9 o10 o11 o12 : Option Sl) : b_law_3 (lE ns zs ps w3 w4 o6 o8 o9 o10 o11 o12 (some (.fr (.int t)))) = .nx (lE ns zs ps w3 w4 o6 o8 o9 o10 o11 o12 (some (.fr (.int t)))) := by
  obtain ⟨p, g, e1, e2, e3⟩ := at_ps hp hn hz hzb (k := 0) (by omega)
  obtain ⟨q, k, f1, f2, f3⟩ := at_ps hp hn hz hzb (k := 3) (by omega)
  have gl := g.low
  have kl := k.low
  have s1 := power_is gl.pos gl.cop gl.b1 gl.b2 ht
  have s2 := power_is kl.pos kl.cop kl.b1 kl.b2 ht
  apply x_sifF
  · decreasing_with first | exact e2 | exact f2 | exact e3 | exact f3 | exact s1 | exact s2
  · rfl
  · exact x_nop
theorem l4 {k : Nat} (hk : k < 2) (o6 o9 o10 o11 o12 o13 : Option Sl) : b_law_4 (lE ns zs ps w3 w4 o6 (some (.fr (.int k))) o9 o10 o11 o12 o13) = .nx (lE ns zs ps w3 w4 o6 (some (.fr (.int k))) o9 o10 o11 o12 o13) := by
  obtain ⟨p, g, e1, e2, e3⟩ := at_ps hp hn hz hzb (k := k) (by omega)
  have c4 := at0_in hzb (i := 4) (by omega)
  have c5 := at0_in hzb (i := 5) (by omega)
  have s1 := no_power_is (lw p) (n := 0 - 1 - at0 zs 4 % 3) (by omega)
  have s2 := no_power_is (lw p) (n := 61 + at0 zs 5 % 3) (by omega)
  apply x_sifF
  · decreasing_with first | exact e2 | exact l_row (by omega) | exact s1 | exact s2
  · rfl
  · exact x_nop
end
theorem x_env {m : MS} {e e' : En} {r : DL.RS} (h : e = e') (h2 : m e' = r) : m e = r := h ▸ h2
theorem f_law_true : ∀ ns : List Int, ns.length ≤ 63 → f_law [.lst (ns.map .int)] = .ok (.fr (.bl true)) := by
  intro ns _
  obtain ⟨v6, c6⟩ := cell_is ns (k := 6) (by omega)
  obtain ⟨zs, hz, hzb, hnum⟩ := nums v6 (m := 8) (by omega)
  have hi : ∀ {i : Int}, 0 ≤ i ∧ i < 8 → 0 ≤ i ∧ i < zs.length := fun h => by omega
  have z3 := at0_in hzb (i := 3) (by omega)
  obtain ⟨P, Q, ⟨nP, bP1, bP2⟩, ⟨nQ, bQ1, bQ2⟩, hpairs⟩ := pairs_is ns hz hzb
  have gP : Pg P := ⟨nP, bP1.mono (by decide), bP2.mono (by decide)⟩
  have gQ : Pg Q := ⟨nQ, bQ1.mono (by decide), bQ2.mono (by decide)⟩
  have lP := gP.low
  have bl := Bd.low nP bP1 bP2
  obtain ⟨L, hL⟩ : ∃ L, lw P = L := ⟨_, rfl⟩
  have hL0 : low P.1 P.2 = L := hL
  rw [hL0] at bl
  rw [hL] at lP
  have pos := lP.pos
  have g2 : Pg (L.1, bif decide (1 < L.2) then L.2 - 1 else 2) := by
    refine ⟨?_, bl.1.mono (by decide), ?_⟩
    · by_cases h : 1 < L.2
      · rw [decide_eq_true h]; show L.2 - 1 ≠ 0; omega
      · rw [decide_eq_false h]; show (2 : Int) ≠ 0; decide
    · by_cases h : 1 < L.2
      · rw [decide_eq_true h]
        exact (bl.2.sub (one_b 210 (by decide))).mono (by decide)
      · rw [decide_eq_false h]
        exact Nat.lt_of_lt_of_le (by decide : (2 : Int).natAbs < 2 ^ 2) (Nat.pow_le_pow_right (by decide) (by decide))
  have g3 : Pg (bif decide (0 < L.1) then L.1 - 1 else L.1 + 1, L.2) := by
    refine ⟨by show L.2 ≠ 0; omega, ?_, bl.2.mono (by decide)⟩
    by_cases h : 0 < L.1
    · rw [decide_eq_true h]
      exact (bl.1.sub (one_b 210 (by decide))).mono (by decide)
    · rw [decide_eq_false h]
      exact (bl.1.add (one_b 210 (by decide))).mono (by decide)
  obtain ⟨P2, hP2⟩ : ∃ x, (L.1, bif decide (1 < L.2) then L.2 - 1 else 2) = x := ⟨_, rfl⟩
  obtain ⟨P3, hP3⟩ : ∃ x, (bif decide (0 < L.1) then L.1 - 1 else L.1 + 1, L.2) = x := ⟨_, rfl⟩
  have pr2 : D.tup [.int L.1, .int (bif decide (1 < L.2) then L.2 - 1 else 2)] = pr P2 := by rw [← hP2]
  have pr3 : D.tup [.int (bif decide (0 < L.1) then L.1 - 1 else L.1 + 1), .int L.2] = pr P3 := by rw [← hP3]
  rw [hP2] at g2
  rw [hP3] at g3
  obtain ⟨ps, hps⟩ : ∃ ps, [P, Q, P2, P3] = ps := ⟨_, rfl⟩
  have hp : ∀ p ∈ ps, Pg p := by
    rw [← hps]
    intro p h
    simp only [List.mem_cons, List.mem_nil_iff, or_false] at h
    rcases h with rfl | rfl | rfl | rfl <;> assumption
  have hn : ps.length = 4 := by rw [← hps]; rfl
  have lowest : ∀ p ∈ ps, f_L_lowest [.int p.1, .int p.2] = .ok (.fr (pr (lw p))) := fun p h => lowest_is (hp p h).ne ((hp p h).b2.mono (by decide))
  have newr : ∀ p ∈ ps, new_Ratio [.int p.1, .int p.2] = .ok (.fr (ob (lw p))) := fun p h => new_is (hp p h).ne ((hp p h).b2.mono (by decide))
  have low0 : f_L_lowest [.int P.1, .int P.2] = .ok (.fr (pr L)) := by rw [← hL]; exact lowest P (by rw [← hps]; simp)
  have hcomp := compared_is (rs := ps.map lw) (fun r hr => by obtain ⟨p, h, rfl⟩ := List.mem_map.mp hr; exact (hp p h).low) (by rw [List.length_map]; exact hn)
  have hcomp : lent f_L_compared [.lst ((ps.map lw).map ob), .lst ((ps.map lw).map pr)] = .ok (.fr (.bl true)) := by unfold lent; rw [hcomp]; rfl
  have PL : [pr P, pr Q] ++ [pr P2] ++ [pr P3] = ps.map pr := by rw [← hps]; rfl
  obtain ⟨N4, hN4⟩ : ∃ d : D, (D.int (bif decide (0 < L.1) then L.1 - 1 else L.1 + 1)) = d := ⟨_, rfl⟩
  -- the loops
  have F : ∀ {b : MS} {n : Nat} {i : Nat} (mk : Option Sl → En), (∀ k, k < n → ∀ o, (mk o).set i (some (.fr (.int (k : Nat)))) = mk (some (.fr (.int k)))) → (∀ k, k < n → b (mk (some (.fr (.int (k : Nat))))) = .nx (mk (some (.fr (.int k))))) → ∀ o, ∃ q, DL.forM (Pt.nm i).go b ((List.range n).map fun k : Nat => D.int k) (mk o) = .nx (mk q) := by
    intro b n i mk h1 h2 o
    obtain ⟨e, g1, ⟨q, g2⟩, -⟩ := for_all (pt := .nm i) (b := b) (f := fun k : Nat => D.int k) (fun ks env => (∃ q, env = mk q) ∧ ∀ k ∈ ks, k < n) (List.range n) (mk o) ⟨⟨o, rfl⟩, fun k hk => List.mem_range.mp hk⟩ (by
      rintro k ks _ ⟨⟨q, rfl⟩, hk⟩
      have hk0 := hk k List.mem_cons_self
      exact ⟨_, _, rfl, .inl (by rw [h1 k hk0]; exact h2 k hk0), ⟨_, rfl⟩, fun j hj => hk j (List.mem_cons_of_mem _ hj)⟩)
    subst g2
    exact ⟨q, g1⟩
  unfold f_law m_law
  apply x_runR rfl
  decreasing_with first | exact c6 | exact hnum
  apply x_seq
  · decreasing_with first | exact hpairs
  apply x_env (e' := [some (.fr (.lst (ns.map .int))), some (.fr (.lst (zs.map .int))), some (.ow [pr P, pr Q]), none, none, none, none, none, none, none, none, none, none, none]) rfl
  apply x_seqSet
  · decreasing_with first | exact l_L0 | exact low0
  · decreasing_with fail
  decreasing_with fail
  apply x_seq
  · decreasing_with fail
  rw [bif_int]
  apply x_seqApp
  · decreasing_with fail
  · decreasing_with fail
  · decreasing_with fail
  · simp [lim]
  · decreasing_with fail
  rw [show L.2 + -1 = L.2 - 1 from rfl, pr2]
  decreasing_with fail
  apply x_seq
  · decreasing_with fail
  rw [bif_int]
  apply x_seqApp
  · decreasing_with fail
  · decreasing_with fail
  · decreasing_with fail
  · simp [lim]
  · decreasing_with fail
  rw [show L.1 + -1 = L.1 - 1 from rfl, pr3, PL, hN4]
  apply x_env (e' := [some (.fr (.lst (ns.map .int))), some (.fr (.lst (zs.map .int))), some (.ow (ps.map pr)), some (.fr (pr L)), some (.fr N4), none, none, none, none, none, none, none, none, none]) rfl
  apply x_seq
  · apply x_frz
    · exact rfl
    apply x_set
    · refine comp_nm (as := ps) (f := pr) (g := fun p => pr (lw p)) ?_ (by omega) fun p h => ⟨_, ?_, d_fr⟩
      · decreasing_with fail
      · decreasing_with first | exact lowest p h
    · decreasing_with fail
  apply x_seq
  · apply x_frz
    · exact rfl
    apply x_set
    · refine comp_nm (as := ps) (f := pr) (g := fun p => ob (lw p)) ?_ (by omega) fun p h => ⟨_, ?_, d_fr⟩
      · decreasing_with fail
      · decreasing_with first | exact newr p h
    · decreasing_with fail
  rw [show (ps.map fun p => pr (lw p)) = (ps.map lw).map pr by simp [List.map_map, Function.comp_def], show (ps.map fun p => ob (lw p)) = (ps.map lw).map ob by simp [List.map_map, Function.comp_def]]
  apply x_env (e' := lE ns zs ps (pr L) N4 none none none none none none none) rfl
  -- the loops over four
  obtain ⟨q1, r1⟩ := F (b := b_law_1) (n := 4) (i := 8) (fun o => lE ns zs ps (pr L) N4 none o none none none none none) (fun _ _ _ => rfl) (fun k hk => l1 hp hn hz hzb hk ..) none
  apply x_seq
  · apply x_for
    · exact x_rng1 (n := 4) rfl (by decide)
    · exact r1
  apply x_seq
  · apply x_for
    · apply x_iter
      · decreasing_with fail
      · exact rfl
    · refine (forM_nx rfl (l2 hp hn hz hzb (a := 0) (b := 1) (by omega) (by omega) ..)).trans ?_
      refine (forM_nx rfl (l2 hp hn hz hzb (a := 1) (b := 0) (by omega) (by omega) ..)).trans ?_
      refine (forM_nx rfl (l2 hp hn hz hzb (a := 0) (b := 0) (by omega) (by omega) ..)).trans ?_
      refine (forM_nx rfl (l2 hp hn hz hzb (a := 2) (b := 3) (by omega) (by omega) ..)).trans ?_
      rfl
  apply x_env (e' := lE ns zs ps (pr L) N4 none q1 (some (.fr (.tup [.int (2 : Nat), .int (3 : Nat)]))) (some (.fr (.int (2 : Nat)))) (some (.fr (.int (3 : Nat)))) none none) rfl
  apply x_guardF
  · decreasing_with first | exact hcomp
  · rfl
  apply x_seq
  · decreasing_with fail
  apply x_seq
  · decreasing_with first | exact l_row (by omega)
  rw [bif_int]
  obtain ⟨M, hM, hMe⟩ : ∃ M : Nat, M ≤ 60 ∧ (bif decide (at0 zs 2 % 4 = 0) then (60 : Int) else 2) = M := by
    by_cases h : at0 zs 2 % 4 = 0
    · exact ⟨60, by omega, by rw [decide_eq_true h]; rfl⟩
    · exact ⟨2, by omega, by rw [decide_eq_false h]; rfl⟩
  rw [hMe]
  obtain ⟨T, hT, hTe⟩ : ∃ T : Nat, T ≤ 60 ∧ at0 zs 3 % 61 = T := ⟨(at0 zs 3 % 61).toNat, by omega, by omega⟩
  apply x_env (e' := lE ns zs ps (pr L) N4 none q1 (some (.fr (.tup [.int (2 : Nat), .int (3 : Nat)]))) (some (.fr (.int (2 : Nat)))) (some (.fr (.int (3 : Nat)))) (some (.fr (.int M))) none) rfl
  apply x_seq
  · apply x_for
    · apply x_iter
      · decreasing_with first | exact l_row (by omega)
      · exact rfl
    · rw [hTe]
      refine (forM_nx rfl (l3 hp hn hz hzb (t := 0) (by omega) ..)).trans ?_
      refine (forM_nx rfl (l3 hp hn hz hzb (t := T) hT ..)).trans ?_
      refine (forM_nx rfl (l3 hp hn hz hzb (t := M) hM ..)).trans ?_
      rfl
  obtain ⟨q4, r4⟩ := F (b := b_law_4) (n := 2) (i := 8) (fun o => lE ns zs ps (pr L) N4 none o (some (.fr (.tup [.int (2 : Nat), .int (3 : Nat)]))) (some (.fr (.int (2 : Nat)))) (some (.fr (.int (3 : Nat)))) (some (.fr (.int M))) (some (.fr (.int M)))) (fun _ _ _ => rfl) (fun k hk => l4 hp hn hz hzb hk ..) q1
  apply x_seq
  · apply x_for
    · exact x_rng1 (n := 2) rfl (by decide)
    · exact r4
  apply x_guardF
  · decreasing_with first | exact no_whole_is 0
  · rfl
  obtain ⟨q5, r5⟩ := F (b := b_law_5) (n := 4) (i := 8) (fun o => lE ns zs ps (pr L) N4 none o (some (.fr (.tup [.int (2 : Nat), .int (3 : Nat)]))) (some (.fr (.int (2 : Nat)))) (some (.fr (.int (3 : Nat)))) (some (.fr (.int M))) (some (.fr (.int M)))) (fun _ _ _ => rfl) (fun k hk => l5 hp hn hz hzb hk ..) q4
  apply x_seq
  · apply x_for
    · exact x_rng1 (n := 4) rfl (by decide)
    · exact r5
  decreasing_with fail
end K00
set_option Elab.async false
set_option linter.all false
set_option maxRecDepth 100000
set_option maxHeartbeats 4000000
namespace K00
open PySem PySem.Spec L2 DL
open PyProof.Rows hiding St

def gOf (C : List Addr) : G0 := ⟨fun i => C.getD i 0, fun i => ([[], [], [], [], [], ["part", "whole"]] : List (List Str)).getD i []⟩
def spL (K : PySem.W.Frag) : Sp := fun vs H Q _ => ∃ (a : Addr) (ns : List Int), vs = [.ref a] ∧ SqL K H a (ns.map V.int) ∧ ns.length ≤ 63 ∧ ∀ H', Q (.bl true) H'
theorem prom_law (hf : ∀ ns : List Int, ns.length ≤ 63 → f_law [.lst (ns.map .int)] = .ok (.fr (.bl true))) {K : PySem.W.Frag} {g : G0} : ∀ vs H Q E, spL K vs H Q E → Prom K g f_law vs H Q E := fun vs H Q E ⟨a, ns, e, hs, hl, k⟩ => prom_of e hs (hf ns hl) k
theorem all_mk (hf : ∀ ns : List Int, ns.length ≤ 63 → f_law [.lst (ns.map .int)] = .ok (.fr (.bl true))) {P : Program} {w : World} {K : PySem.W.Frag} {h : Heap} {mg : Str → Option Value} {fa C0 C1 C2 C3 C4 O0 f0 f1 f2 f3 f4 f5 f6 f7 f8 f9 f10 f11 f12 f13 f14 f15 f16 f17 f18 f19 f20 : Addr} (X : K.In h) (G : h.Ns mainGlobals mg) (hfa : mg "law" = some (.ref fa))
    {od0 an0 od1 an1 od2 an2 od3 an3 od4 an4 od5 an5 od6 an6 od7 an7 od8 an8 od9 an9 od10 an10 od11 an11 od12 an12 od13 an13 od14 an14 od15 an15 od16 an16 od17 an17 od18 an18 od19 an19 od20 an20 : Option Addr} {sl0 sl1 sl2 sl3 sl4 sl5 sl6 sl7 sl8 sl9 sl10 sl11 sl12 sl13 sl14 sl15 sl16 sl17 sl18 sl19 sl20 : Array (Option Value)} {oc0 kV0 dc0 pm0 cd0 ct0 oc1 kV1 dc1 pm1 cd1 ct1 oc2 kV2 dc2 pm2 cd2 ct2 oc3 kV3 dc3 pm3 cd3 ct3 oc4 kV4 dc4 pm4 cd4 ct4 oc5 kV5 dc5 pm5 cd5 ct5 oc6 kV6 dc6 pm6 cd6 ct6 oc7 kV7 dc7 pm7 cd7 ct7 oc8 kV8 dc8 pm8 cd8 ct8 oc9 kV9 dc9 pm9 cd9 ct9 oc10 kV10 dc10 pm10 cd10 ct10 oc11 kV11 dc11 pm11 cd11 ct11 oc12 kV12 dc12 pm12 cd12 ct12 oc13 kV13 dc13 pm13 cd13 ct13 oc14 kV14 dc14 pm14 cd14 ct14 oc15 kV15 dc15 pm15 cd15 ct15 oc16 kV16 dc16 pm16 cd16 ct16 oc17 kV17 dc17 pm17 cd17 ct17 oc18 kV18 dc18 pm18 cd18 ct18 oc19 kV19 dc19 pm19 cd19 ct19 oc20 kV20 dc20 pm20 cd20 ct20 : Value} {t_MOST_TIMES : _}
    (nC0 : PySem.W.nsIn K mainGlobals "UnseenError" = some (some (.ref C0)))
    (xC0 : PySem.W.excIn K C0 [.type "ValueError", .type "Exception", .type "BaseException", .type "object"] "ValueError.__new__" = true)
    (kC0 : PySem.W.keepIn K (.ref C0) = true)
    (sC0 : PySem.W.subIn K (.ref C0) (.type "BaseException") = some true)
    (tC0 : PySem.W.typeIn K (.ref C0) = some (.type "type"))
    (dC0 : PySem.W.hasDictIn K C0 = true)
    (gC0 : PySem.W.findIn K (.ref C0) "__getattribute__" = some (some (.builtin "BaseException.__getattribute__")))
    (aC0 : PySem.W.findIn K (.ref C0) "__getattr__" = some none)
    (cC0 : PySem.W.findIn K (.ref C0) "__class__" = some (some (.builtin "object.__class__")))
    (mC0 : PySem.W.mroIn K C0 (.type "object") = some true)
    (nC1 : PySem.W.nsIn K mainGlobals "BadRatio" = some (some (.ref C1)))
    (xC1 : PySem.W.excIn K C1 [.type "ValueError", .type "Exception", .type "BaseException", .type "object"] "ValueError.__new__" = true)
    (kC1 : PySem.W.keepIn K (.ref C1) = true)
    (sC1 : PySem.W.subIn K (.ref C1) (.type "BaseException") = some true)
    (tC1 : PySem.W.typeIn K (.ref C1) = some (.type "type"))
    (dC1 : PySem.W.hasDictIn K C1 = true)
    (gC1 : PySem.W.findIn K (.ref C1) "__getattribute__" = some (some (.builtin "BaseException.__getattribute__")))
    (aC1 : PySem.W.findIn K (.ref C1) "__getattr__" = some none)
    (cC1 : PySem.W.findIn K (.ref C1) "__class__" = some (some (.builtin "object.__class__")))
    (mC1 : PySem.W.mroIn K C1 (.type "object") = some true)
    (nC2 : PySem.W.nsIn K mainGlobals "BadWeight" = some (some (.ref C2)))
    (xC2 : PySem.W.excIn K C2 [.type "ValueError", .type "Exception", .type "BaseException", .type "object"] "ValueError.__new__" = true)
    (kC2 : PySem.W.keepIn K (.ref C2) = true)
    (sC2 : PySem.W.subIn K (.ref C2) (.type "BaseException") = some true)
    (tC2 : PySem.W.typeIn K (.ref C2) = some (.type "type"))
    (dC2 : PySem.W.hasDictIn K C2 = true)
    (gC2 : PySem.W.findIn K (.ref C2) "__getattribute__" = some (some (.builtin "BaseException.__getattribute__")))
    (aC2 : PySem.W.findIn K (.ref C2) "__getattr__" = some none)
    (cC2 : PySem.W.findIn K (.ref C2) "__class__" = some (some (.builtin "object.__class__")))
    (mC2 : PySem.W.mroIn K C2 (.type "object") = some true)
    (nC3 : PySem.W.nsIn K mainGlobals "BadPermutation" = some (some (.ref C3)))
    (xC3 : PySem.W.excIn K C3 [.type "ValueError", .type "Exception", .type "BaseException", .type "object"] "ValueError.__new__" = true)
    (kC3 : PySem.W.keepIn K (.ref C3) = true)
    (sC3 : PySem.W.subIn K (.ref C3) (.type "BaseException") = some true)
    (tC3 : PySem.W.typeIn K (.ref C3) = some (.type "type"))
    (dC3 : PySem.W.hasDictIn K C3 = true)
    (gC3 : PySem.W.findIn K (.ref C3) "__getattribute__" = some (some (.builtin "BaseException.__getattribute__")))
    (aC3 : PySem.W.findIn K (.ref C3) "__getattr__" = some none)
    (cC3 : PySem.W.findIn K (.ref C3) "__class__" = some (some (.builtin "object.__class__")))
    (mC3 : PySem.W.mroIn K C3 (.type "object") = some true)
    (nC4 : PySem.W.nsIn K mainGlobals "BadDraw" = some (some (.ref C4)))
    (xC4 : PySem.W.excIn K C4 [.type "ValueError", .type "Exception", .type "BaseException", .type "object"] "ValueError.__new__" = true)
    (kC4 : PySem.W.keepIn K (.ref C4) = true)
    (sC4 : PySem.W.subIn K (.ref C4) (.type "BaseException") = some true)
    (tC4 : PySem.W.typeIn K (.ref C4) = some (.type "type"))
    (dC4 : PySem.W.hasDictIn K C4 = true)
    (gC4 : PySem.W.findIn K (.ref C4) "__getattribute__" = some (some (.builtin "BaseException.__getattribute__")))
    (aC4 : PySem.W.findIn K (.ref C4) "__getattr__" = some none)
    (cC4 : PySem.W.findIn K (.ref C4) "__class__" = some (some (.builtin "object.__class__")))
    (mC4 : PySem.W.mroIn K C4 (.type "object") = some true)
    (og : PySem.W.specialIn K (.builtin "object.__class__") "__get__" = some (some (.builtin "getset_descriptor.__get__")))
    (ot : PySem.W.takesIn K (.builtin "object.__class__") = some true)
    (e0_0 : PySem.W.subIn K (.ref C0) (.ref C0) = some true)
    (e1_0 : PySem.W.subIn K (.ref C1) (.ref C0) = some true)
    (e2_0 : PySem.W.subIn K (.ref C2) (.ref C0) = some true)
    (e3_0 : PySem.W.subIn K (.ref C3) (.ref C0) = some true)
    (e4_0 : PySem.W.subIn K (.ref C4) (.ref C0) = some true)
    (e0_1 : PySem.W.subIn K (.ref C0) (.ref C1) = some false)
    (e1_1 : PySem.W.subIn K (.ref C1) (.ref C1) = some true)
    (e2_1 : PySem.W.subIn K (.ref C2) (.ref C1) = some false)
    (e3_1 : PySem.W.subIn K (.ref C3) (.ref C1) = some false)
    (e4_1 : PySem.W.subIn K (.ref C4) (.ref C1) = some false)
    (e0_2 : PySem.W.subIn K (.ref C0) (.ref C2) = some false)
    (e1_2 : PySem.W.subIn K (.ref C1) (.ref C2) = some false)
    (e2_2 : PySem.W.subIn K (.ref C2) (.ref C2) = some true)
    (e3_2 : PySem.W.subIn K (.ref C3) (.ref C2) = some false)
    (e4_2 : PySem.W.subIn K (.ref C4) (.ref C2) = some false)
    (e0_3 : PySem.W.subIn K (.ref C0) (.ref C3) = some false)
    (e1_3 : PySem.W.subIn K (.ref C1) (.ref C3) = some false)
    (e2_3 : PySem.W.subIn K (.ref C2) (.ref C3) = some false)
    (e3_3 : PySem.W.subIn K (.ref C3) (.ref C3) = some true)
    (e4_3 : PySem.W.subIn K (.ref C4) (.ref C3) = some false)
    (e0_4 : PySem.W.subIn K (.ref C0) (.ref C4) = some false)
    (e1_4 : PySem.W.subIn K (.ref C1) (.ref C4) = some false)
    (e2_4 : PySem.W.subIn K (.ref C2) (.ref C4) = some false)
    (e3_4 : PySem.W.subIn K (.ref C3) (.ref C4) = some false)
    (e4_4 : PySem.W.subIn K (.ref C4) (.ref C4) = some true)
    (m_ValueError : PySem.W.kitMeta "ValueError" = true)
    (e0_ValueError : PySem.W.subIn K (.ref C0) (.type "ValueError") = some true)
    (e1_ValueError : PySem.W.subIn K (.ref C1) (.type "ValueError") = some true)
    (e2_ValueError : PySem.W.subIn K (.ref C2) (.type "ValueError") = some true)
    (e3_ValueError : PySem.W.subIn K (.ref C3) (.type "ValueError") = some true)
    (e4_ValueError : PySem.W.subIn K (.ref C4) (.type "ValueError") = some true)
    (nO0 : PySem.W.nsIn K mainGlobals "Ratio" = some (some (.ref O0)))
    (pO0 : PySem.W.plainGet K O0 Str.empty = true)
    (hO0 : PySem.W.hasDictIn K O0 = true)
    (qO0 : PySem.W.plainOver K O0 = true)
    (sO0 : PySem.W.findIn K (.ref O0) "__setattr__" = some (some (.builtin "object.__setattr__")))
    (mO0 : PySem.W.makesIn K O0 = true)
    (kO0 : PySem.W.keepIn K (.ref O0) = true)
    (iO0 : PySem.W.findIn K (.ref O0) "__init__" = some (some (.ref f7)))
    (jO0 : PySem.W.isFn K (.ref f7) = true)
    (rO0_part : PySem.W.findIn K (.ref O0) "part" = some none)
    (rO0_whole : PySem.W.findIn K (.ref O0) "whole" = some none)
    (tO0_add : PySem.W.findIn K (.ref O0) "__add__" = some (some (.ref f8)))
    (uO0_add : PySem.W.isFn K (.ref f8) = true)
    (wO0 : PySem.W.selfFirst K O0 = true)
    (tO0_eq : PySem.W.findIn K (.ref O0) "__eq__" = some (some (.ref f16)))
    (uO0_eq : PySem.W.isFn K (.ref f16) = true)
    (zO0_0 : PySem.W.notFirst K O0 (.type "NoneType") = true)
    (zO0_1 : PySem.W.notFirst K O0 (.type "bool") = true)
    (zO0_2 : PySem.W.notFirst K O0 (.type "int") = true)
    (zO0_3 : PySem.W.notFirst K O0 (.type "str") = true)
    (zO0_4 : PySem.W.notFirst K O0 (.type "tuple") = true)
    (zO0_5 : PySem.W.notFirst K O0 (.type "list") = true)
    (tO0_mul : PySem.W.findIn K (.ref O0) "__mul__" = some (some (.ref f9)))
    (uO0_mul : PySem.W.isFn K (.ref f9) = true)
    (tO0_str : PySem.W.findIn K (.ref O0) "__str__" = some (some (.ref f17)))
    (uO0_str : PySem.W.isFn K (.ref f17) = true)
    (tO0_sub : PySem.W.findIn K (.ref O0) "__sub__" = some (some (.ref f10)))
    (uO0_sub : PySem.W.isFn K (.ref f10) = true)
    (tO0_less : PySem.W.findIn K (.ref O0) "less" = some (some (.ref f18)))
    (uO0_less : PySem.W.isFn K (.ref f18) = true)
    (tO0_raised : PySem.W.findIn K (.ref O0) "raised" = some (some (.ref f12)))
    (uO0_raised : PySem.W.isFn K (.ref f12) = true)
    (gO0 : PySem.W.findIn K (.ref O0) "__class__" = some (some (.builtin "object.__class__")))
    (oO0 : PySem.W.mroIn K O0 (.type "object") = some true)
    (yO0 : PySem.W.typeIn K (.ref O0) = some (.type "type"))
    (eO0_0 : PySem.W.subIn K (.type "NoneType") (.ref O0) = some false)
    (eO0_1 : PySem.W.subIn K (.type "bool") (.ref O0) = some false)
    (eO0_2 : PySem.W.subIn K (.type "int") (.ref O0) = some false)
    (eO0_3 : PySem.W.subIn K (.type "str") (.ref O0) = some false)
    (eO0_4 : PySem.W.subIn K (.type "tuple") (.ref O0) = some false)
    (eO0_5 : PySem.W.subIn K (.type "list") (.ref O0) = some false)
    (eO0_O0 : PySem.W.subIn K (.ref O0) (.ref O0) = some true)
    (n_ValueError : PySem.W.nsIn K mainGlobals "ValueError" = some none)
    (n_abs : PySem.W.nsIn K mainGlobals "abs" = some none)
    (n_bool : PySem.W.nsIn K mainGlobals "bool" = some none)
    (n_int : PySem.W.nsIn K mainGlobals "int" = some none)
    (n_isinstance : PySem.W.nsIn K mainGlobals "isinstance" = some none)
    (n_len : PySem.W.nsIn K mainGlobals "len" = some none)
    (n_list : PySem.W.nsIn K mainGlobals "list" = some none)
    (n_range : PySem.W.nsIn K mainGlobals "range" = some none)
    (n_str : PySem.W.nsIn K mainGlobals "str" = some none)
    (n_tuple : PySem.W.nsIn K mainGlobals "tuple" = some none)
    (i_gcd : PySem.W.nsIn K mainGlobals "gcd" = some (some (.builtin "math.gcd")))
    (c_MOST_TIMES : PySem.W.nsIn K mainGlobals "MOST_TIMES" = some (some (.int 60 t_MOST_TIMES)))
    (a0 : PySem.W.nsIn K mainGlobals "_law_cell" = some (some (.ref f0)))
    (l0 : K.lookup f0 = some ⟨oc0, od0, .func (PySem.W.fnOf "_law_cell" "_law_cell" (defArgs s_L_cell) (defBody s_L_cell) (defScope s_L_cell) .none kV0 dc0 pm0 an0 cd0 ct0), sl0⟩)
    (c0 : PySem.W.codeIn K cd0 "_law_cell" = true)
    (k0 : PySem.W.keepIn K (.ref f0) = true)
    (a1 : PySem.W.nsIn K mainGlobals "_law_numbers" = some (some (.ref f1)))
    (l1 : K.lookup f1 = some ⟨oc1, od1, .func (PySem.W.fnOf "_law_numbers" "_law_numbers" (defArgs s_L_numbers) (defBody s_L_numbers) (defScope s_L_numbers) .none kV1 dc1 pm1 an1 cd1 ct1), sl1⟩)
    (c1 : PySem.W.codeIn K cd1 "_law_numbers" = true)
    (k1 : PySem.W.keepIn K (.ref f1) = true)
    (a2 : PySem.W.nsIn K mainGlobals "_law_same" = some (some (.ref f2)))
    (l2 : K.lookup f2 = some ⟨oc2, od2, .func (PySem.W.fnOf "_law_same" "_law_same" (defArgs s_L_same) (defBody s_L_same) (defScope s_L_same) .none kV2 dc2 pm2 an2 cd2 ct2), sl2⟩)
    (c2 : PySem.W.codeIn K cd2 "_law_same" = true)
    (k2 : PySem.W.keepIn K (.ref f2) = true)
    (a3 : PySem.W.nsIn K mainGlobals "_law_integer" = some (some (.ref f3)))
    (l3 : K.lookup f3 = some ⟨oc3, od3, .func (PySem.W.fnOf "_law_integer" "_law_integer" (defArgs s_L_integer) (defBody s_L_integer) (defScope s_L_integer) .none kV3 dc3 pm3 an3 cd3 ct3), sl3⟩)
    (c3 : PySem.W.codeIn K cd3 "_law_integer" = true)
    (k3 : PySem.W.keepIn K (.ref f3) = true)
    (a4 : PySem.W.nsIn K mainGlobals "_law_lowest" = some (some (.ref f4)))
    (l4 : K.lookup f4 = some ⟨oc4, od4, .func (PySem.W.fnOf "_law_lowest" "_law_lowest" (defArgs s_L_lowest) (defBody s_L_lowest) (defScope s_L_lowest) .none kV4 dc4 pm4 an4 cd4 ct4), sl4⟩)
    (c4 : PySem.W.codeIn K cd4 "_law_lowest" = true)
    (k4 : PySem.W.keepIn K (.ref f4) = true)
    (a5 : PySem.W.nsIn K mainGlobals "_law_pairs" = some (some (.ref f5)))
    (l5 : K.lookup f5 = some ⟨oc5, od5, .func (PySem.W.fnOf "_law_pairs" "_law_pairs" (defArgs s_L_pairs) (defBody s_L_pairs) (defScope s_L_pairs) .none kV5 dc5 pm5 an5 cd5 ct5), sl5⟩)
    (c5 : PySem.W.codeIn K cd5 "_law_pairs" = true)
    (k5 : PySem.W.keepIn K (.ref f5) = true)
    (a6 : PySem.W.nsIn K mainGlobals "_law_is" = some (some (.ref f6)))
    (l6 : K.lookup f6 = some ⟨oc6, od6, .func (PySem.W.fnOf "_law_is" "_law_is" (defArgs s_L_is) (defBody s_L_is) (defScope s_L_is) .none kV6 dc6 pm6 an6 cd6 ct6), sl6⟩)
    (c6 : PySem.W.codeIn K cd6 "_law_is" = true)
    (k6 : PySem.W.keepIn K (.ref f6) = true)
    (l7 : K.lookup f7 = some ⟨oc7, od7, .func (PySem.W.fnOf "__init__" "Ratio.__init__" (defArgs s_Ratio_init) (defBody s_Ratio_init) (defScope s_Ratio_init) .none kV7 dc7 pm7 an7 cd7 ct7), sl7⟩)
    (c7 : PySem.W.codeIn K cd7 "Ratio.__init__" = true)
    (k7 : PySem.W.keepIn K (.ref f7) = true)
    (l8 : K.lookup f8 = some ⟨oc8, od8, .func (PySem.W.fnOf "__add__" "Ratio.__add__" (defArgs s_Ratio_add) (defBody s_Ratio_add) (defScope s_Ratio_add) .none kV8 dc8 pm8 an8 cd8 ct8), sl8⟩)
    (c8 : PySem.W.codeIn K cd8 "Ratio.__add__" = true)
    (k8 : PySem.W.keepIn K (.ref f8) = true)
    (l9 : K.lookup f9 = some ⟨oc9, od9, .func (PySem.W.fnOf "__mul__" "Ratio.__mul__" (defArgs s_Ratio_mul) (defBody s_Ratio_mul) (defScope s_Ratio_mul) .none kV9 dc9 pm9 an9 cd9 ct9), sl9⟩)
    (c9 : PySem.W.codeIn K cd9 "Ratio.__mul__" = true)
    (k9 : PySem.W.keepIn K (.ref f9) = true)
    (l10 : K.lookup f10 = some ⟨oc10, od10, .func (PySem.W.fnOf "__sub__" "Ratio.__sub__" (defArgs s_Ratio_sub) (defBody s_Ratio_sub) (defScope s_Ratio_sub) .none kV10 dc10 pm10 an10 cd10 ct10), sl10⟩)
    (c10 : PySem.W.codeIn K cd10 "Ratio.__sub__" = true)
    (k10 : PySem.W.keepIn K (.ref f10) = true)
    (a11 : PySem.W.nsIn K mainGlobals "_law_sums" = some (some (.ref f11)))
    (l11 : K.lookup f11 = some ⟨oc11, od11, .func (PySem.W.fnOf "_law_sums" "_law_sums" (defArgs s_L_sums) (defBody s_L_sums) (defScope s_L_sums) .none kV11 dc11 pm11 an11 cd11 ct11), sl11⟩)
    (c11 : PySem.W.codeIn K cd11 "_law_sums" = true)
    (k11 : PySem.W.keepIn K (.ref f11) = true)
    (l12 : K.lookup f12 = some ⟨oc12, od12, .func (PySem.W.fnOf "raised" "Ratio.raised" (defArgs s_Ratio_raised) (defBody s_Ratio_raised) (defScope s_Ratio_raised) .none kV12 dc12 pm12 an12 cd12 ct12), sl12⟩)
    (c12 : PySem.W.codeIn K cd12 "Ratio.raised" = true)
    (k12 : PySem.W.keepIn K (.ref f12) = true)
    (a13 : PySem.W.nsIn K mainGlobals "_law_power" = some (some (.ref f13)))
    (l13 : K.lookup f13 = some ⟨oc13, od13, .func (PySem.W.fnOf "_law_power" "_law_power" (defArgs s_L_power) (defBody s_L_power) (defScope s_L_power) .none kV13 dc13 pm13 an13 cd13 ct13), sl13⟩)
    (c13 : PySem.W.codeIn K cd13 "_law_power" = true)
    (k13 : PySem.W.keepIn K (.ref f13) = true)
    (a14 : PySem.W.nsIn K mainGlobals "_law_no_whole" = some (some (.ref f14)))
    (l14 : K.lookup f14 = some ⟨oc14, od14, .func (PySem.W.fnOf "_law_no_whole" "_law_no_whole" (defArgs s_L_no_whole) (defBody s_L_no_whole) (defScope s_L_no_whole) .none kV14 dc14 pm14 an14 cd14 ct14), sl14⟩)
    (c14 : PySem.W.codeIn K cd14 "_law_no_whole" = true)
    (k14 : PySem.W.keepIn K (.ref f14) = true)
    (a15 : PySem.W.nsIn K mainGlobals "_law_no_power" = some (some (.ref f15)))
    (l15 : K.lookup f15 = some ⟨oc15, od15, .func (PySem.W.fnOf "_law_no_power" "_law_no_power" (defArgs s_L_no_power) (defBody s_L_no_power) (defScope s_L_no_power) .none kV15 dc15 pm15 an15 cd15 ct15), sl15⟩)
    (c15 : PySem.W.codeIn K cd15 "_law_no_power" = true)
    (k15 : PySem.W.keepIn K (.ref f15) = true)
    (l16 : K.lookup f16 = some ⟨oc16, od16, .func (PySem.W.fnOf "__eq__" "Ratio.__eq__" (defArgs s_Ratio_eq) (defBody s_Ratio_eq) (defScope s_Ratio_eq) .none kV16 dc16 pm16 an16 cd16 ct16), sl16⟩)
    (c16 : PySem.W.codeIn K cd16 "Ratio.__eq__" = true)
    (k16 : PySem.W.keepIn K (.ref f16) = true)
    (l17 : K.lookup f17 = some ⟨oc17, od17, .func (PySem.W.fnOf "__str__" "Ratio.__str__" (defArgs s_Ratio_str) (defBody s_Ratio_str) (defScope s_Ratio_str) .none kV17 dc17 pm17 an17 cd17 ct17), sl17⟩)
    (c17 : PySem.W.codeIn K cd17 "Ratio.__str__" = true)
    (k17 : PySem.W.keepIn K (.ref f17) = true)
    (l18 : K.lookup f18 = some ⟨oc18, od18, .func (PySem.W.fnOf "less" "Ratio.less" (defArgs s_Ratio_less) (defBody s_Ratio_less) (defScope s_Ratio_less) .none kV18 dc18 pm18 an18 cd18 ct18), sl18⟩)
    (c18 : PySem.W.codeIn K cd18 "Ratio.less" = true)
    (k18 : PySem.W.keepIn K (.ref f18) = true)
    (a19 : PySem.W.nsIn K mainGlobals "_law_compared" = some (some (.ref f19)))
    (l19 : K.lookup f19 = some ⟨oc19, od19, .func (PySem.W.fnOf "_law_compared" "_law_compared" (defArgs s_L_compared) (defBody s_L_compared) (defScope s_L_compared) .none kV19 dc19 pm19 an19 cd19 ct19), sl19⟩)
    (c19 : PySem.W.codeIn K cd19 "_law_compared" = true)
    (k19 : PySem.W.keepIn K (.ref f19) = true)
    (a20 : PySem.W.nsIn K mainGlobals "law" = some (some (.ref f20)))
    (l20 : K.lookup f20 = some ⟨oc20, od20, .func (PySem.W.fnOf "law" "law" (defArgs s_law) (defBody s_law) (defScope s_law) .none kV20 dc20 pm20 an20 cd20 ct20), sl20⟩)
    (c20 : PySem.W.codeIn K cd20 "law" = true)
    (k20 : PySem.W.keepIn K (.ref f20) = true)
    : ∃ fd : FuncData, (∀ (s : Shared) (v : Value), BindsTo s fd ⟨[v], []⟩ [("script", v)]) ∧ ∀ base : Heap, K.In base → base.Ns mainGlobals mg → FnOk P w K mg base (L2.CX P w) 11 fa fd ["script"] (spL K) := by
  have e := hfa.symm.trans (PySem.W.mg_of X G a20)
  cases e
  let g : G0 := gOf [C0, C1, C2, C3, C4, O0]
  have K0 : Cls K O0 := ⟨pO0, hO0, qO0, sO0⟩
  have T : Tx K mg g := {
    n_ValueError := PySem.W.mg_none_of X G n_ValueError,
    n_abs := PySem.W.mg_none_of X G n_abs,
    n_bool := PySem.W.mg_none_of X G n_bool,
    n_int := PySem.W.mg_none_of X G n_int,
    n_isinstance := PySem.W.mg_none_of X G n_isinstance,
    n_len := PySem.W.mg_none_of X G n_len,
    n_list := PySem.W.mg_none_of X G n_list,
    n_range := PySem.W.mg_none_of X G n_range,
    n_str := PySem.W.mg_none_of X G n_str,
    n_tuple := PySem.W.mg_none_of X G n_tuple,
    i_gcd := PySem.W.mg_of X G i_gcd,
    c_MOST_TIMES := ⟨_, PySem.W.mg_of X G c_MOST_TIMES⟩,
    e_UnseenError := ⟨PySem.W.mg_of X G nC0, xC0, kC0, sC0, tC0⟩,
    e_BadRatio := ⟨PySem.W.mg_of X G nC1, xC1, kC1, sC1, tC1⟩,
    e_BadWeight := ⟨PySem.W.mg_of X G nC2, xC2, kC2, sC2, tC2⟩,
    e_BadPermutation := ⟨PySem.W.mg_of X G nC3, xC3, kC3, sC3, tC3⟩,
    e_BadDraw := ⟨PySem.W.mg_of X G nC4, xC4, kC4, sC4, tC4⟩,
    m_Ratio := PySem.W.mg_of X G nO0,
    nf_Ratio := rfl,
    fld_part := fun c y h => (by
      unfold tf_part at h
      split at h
      · rename_i e; subst e; cases h; exact ⟨K0, rO0_part, (by show (["part", "whole"] : List Str).Nodup; decide +kernel), rfl⟩
      cases h),
    fld_whole := fun c y h => (by
      unfold tf_whole at h
      split at h
      · rename_i e; subst e; cases h; exact ⟨K0, rO0_whole, (by show (["part", "whole"] : List Str).Nodup; decide +kernel), rfl⟩
      cases h),
    put_Ratio_part := ⟨K0, rO0_part, rfl, (by show ("part" : Str) ∉ ([] : List Str); decide +kernel), by decide⟩,
    put_Ratio_whole := ⟨K0, rO0_whole, rfl, (by show ("whole" : Str) ∉ (["part"] : List Str); decide +kernel), by decide⟩,
    isc_Ratio := ⟨kit_own hO0 yO0 eO0_0 eO0_O0, kit_own hO0 yO0 eO0_1 eO0_O0, kit_own hO0 yO0 eO0_2 eO0_O0, kit_own hO0 yO0 eO0_3 eO0_O0, kit_own hO0 yO0 eO0_4 eO0_O0, kit_own hO0 yO0 eO0_5 eO0_O0, fun c y h => (by
      unfold ti_Ratio at h
      split at h
      · rename_i e; subst e; cases h; exact ⟨K0, kit_own hO0 yO0 eO0_O0 eO0_O0, gO0, oO0⟩
      cases h), og, ot⟩,
    xc := fun c hc => match c, hc with | 0, _ => ⟨gC0, aC0, sC0, dC0, cC0, og, ot, mC0⟩ | 1, _ => ⟨gC1, aC1, sC1, dC1, cC1, og, ot, mC1⟩ | 2, _ => ⟨gC2, aC2, sC2, dC2, cC2, og, ot, mC2⟩ | 3, _ => ⟨gC3, aC3, sC3, dC3, cC3, og, ot, mC3⟩ | 4, _ => ⟨gC4, aC4, sC4, dC4, cC4, og, ot, mC4⟩ | n + 5, h => absurd h (by omega),
    exm_BadRatio := fun c b e => match c, e with | 0, e => (by cases e; exact PySem.W.exm_ref sC1 dC1 tC1 e0_1) | 1, e => (by cases e; exact PySem.W.exm_ref sC1 dC1 tC1 e1_1) | 2, e => (by cases e; exact PySem.W.exm_ref sC1 dC1 tC1 e2_1) | 3, e => (by cases e; exact PySem.W.exm_ref sC1 dC1 tC1 e3_1) | 4, e => (by cases e; exact PySem.W.exm_ref sC1 dC1 tC1 e4_1) | n + 5, e => (by cases e),
    kit_BadDraw := fun c hc => match c, hc with | 0, _ => kit_own dC4 tC4 e0_4 e4_4 | 1, _ => kit_own dC4 tC4 e1_4 e4_4 | 2, _ => kit_own dC4 tC4 e2_4 e4_4 | 3, _ => kit_own dC4 tC4 e3_4 e4_4 | 4, _ => kit_own dC4 tC4 e4_4 e4_4 | n + 5, h => absurd h (by omega),
    kit_BadPermutation := fun c hc => match c, hc with | 0, _ => kit_own dC3 tC3 e0_3 e3_3 | 1, _ => kit_own dC3 tC3 e1_3 e3_3 | 2, _ => kit_own dC3 tC3 e2_3 e3_3 | 3, _ => kit_own dC3 tC3 e3_3 e3_3 | 4, _ => kit_own dC3 tC3 e4_3 e3_3 | n + 5, h => absurd h (by omega),
    kit_BadWeight := fun c hc => match c, hc with | 0, _ => kit_own dC2 tC2 e0_2 e2_2 | 1, _ => kit_own dC2 tC2 e1_2 e2_2 | 2, _ => kit_own dC2 tC2 e2_2 e2_2 | 3, _ => kit_own dC2 tC2 e3_2 e2_2 | 4, _ => kit_own dC2 tC2 e4_2 e2_2 | n + 5, h => absurd h (by omega),
    kit_UnseenError := fun c hc => match c, hc with | 0, _ => kit_own dC0 tC0 e0_0 e0_0 | 1, _ => kit_own dC0 tC0 e1_0 e0_0 | 2, _ => kit_own dC0 tC0 e2_0 e0_0 | 3, _ => kit_own dC0 tC0 e3_0 e0_0 | 4, _ => kit_own dC0 tC0 e4_0 e0_0 | n + 5, h => absurd h (by omega),
    kit_ValueError := fun c hc => match c, hc with | 0, _ => kit_blt m_ValueError e0_ValueError | 1, _ => kit_blt m_ValueError e1_ValueError | 2, _ => kit_blt m_ValueError e2_ValueError | 3, _ => kit_blt m_ValueError e3_ValueError | 4, _ => kit_blt m_ValueError e4_ValueError | n + 5, h => absurd h (by omega) }
  have F0 := fun_mk (st := s_L_cell) l0 c0 k0
  have b0 := F0.binds (ps := ["script", "k"]) fun _ _ _ _ _ _ us hl => match us, hl with | [_, _], _ => rfl
  have F1 := fun_mk (st := s_L_numbers) l1 c1 k1
  have b1 := F1.binds (ps := ["cell", "many"]) fun _ _ _ _ _ _ us hl => match us, hl with | [_, _], _ => rfl
  have F2 := fun_mk (st := s_L_same) l2 c2 k2
  have b2 := F2.binds (ps := ["value", "due"]) fun _ _ _ _ _ _ us hl => match us, hl with | [_, _], _ => rfl
  have F3 := fun_mk (st := s_L_integer) l3 c3 k3
  have b3 := F3.binds (ps := ["cell", "limit"]) fun _ _ _ _ _ _ us hl => match us, hl with | [_, _], _ => rfl
  have F4 := fun_mk (st := s_L_lowest) l4 c4 k4
  have b4 := F4.binds (ps := ["part", "whole"]) fun _ _ _ _ _ _ us hl => match us, hl with | [_, _], _ => rfl
  have F5 := fun_mk (st := s_L_pairs) l5 c5 k5
  have b5 := F5.binds (ps := ["script", "row"]) fun _ _ _ _ _ _ us hl => match us, hl with | [_, _], _ => rfl
  have F6 := fun_mk (st := s_L_is) l6 c6 k6
  have b6 := F6.binds (ps := ["ratio", "part", "whole"]) fun _ _ _ _ _ _ us hl => match us, hl with | [_, _, _], _ => rfl
  have F7 := fun_mk (st := s_Ratio_init) l7 c7 k7
  have b7 := F7.binds (ps := ["self", "part", "whole"]) fun _ _ _ _ _ _ us hl => match us, hl with | [_, _, _], _ => rfl
  have F8 := fun_mk (st := s_Ratio_add) l8 c8 k8
  have b8 := F8.binds (ps := ["self", "other"]) fun _ _ _ _ _ _ us hl => match us, hl with | [_, _], _ => rfl
  have F9 := fun_mk (st := s_Ratio_mul) l9 c9 k9
  have b9 := F9.binds (ps := ["self", "other"]) fun _ _ _ _ _ _ us hl => match us, hl with | [_, _], _ => rfl
  have F10 := fun_mk (st := s_Ratio_sub) l10 c10 k10
  have b10 := F10.binds (ps := ["self", "other"]) fun _ _ _ _ _ _ us hl => match us, hl with | [_, _], _ => rfl
  have F11 := fun_mk (st := s_L_sums) l11 c11 k11
  have b11 := F11.binds (ps := ["left", "right", "low", "other"]) fun _ _ _ _ _ _ us hl => match us, hl with | [_, _, _, _], _ => rfl
  have F12 := fun_mk (st := s_Ratio_raised) l12 c12 k12
  have b12 := F12.binds (ps := ["self", "times"]) fun _ _ _ _ _ _ us hl => match us, hl with | [_, _], _ => rfl
  have F13 := fun_mk (st := s_L_power) l13 c13 k13
  have b13 := F13.binds (ps := ["ratio", "low", "times"]) fun _ _ _ _ _ _ us hl => match us, hl with | [_, _, _], _ => rfl
  have F14 := fun_mk (st := s_L_no_whole) l14 c14 k14
  have b14 := F14.binds (ps := ["part"]) fun _ _ _ _ _ _ us hl => match us, hl with | [_], _ => rfl
  have F15 := fun_mk (st := s_L_no_power) l15 c15 k15
  have b15 := F15.binds (ps := ["ratio", "times"]) fun _ _ _ _ _ _ us hl => match us, hl with | [_, _], _ => rfl
  have F16 := fun_mk (st := s_Ratio_eq) l16 c16 k16
  have b16 := F16.binds (ps := ["self", "other"]) fun _ _ _ _ _ _ us hl => match us, hl with | [_, _], _ => rfl
  have F17 := fun_mk (st := s_Ratio_str) l17 c17 k17
  have b17 := F17.binds (ps := ["self"]) fun _ _ _ _ _ _ us hl => match us, hl with | [_], _ => rfl
  have F18 := fun_mk (st := s_Ratio_less) l18 c18 k18
  have b18 := F18.binds (ps := ["self", "other"]) fun _ _ _ _ _ _ us hl => match us, hl with | [_, _], _ => rfl
  have F19 := fun_mk (st := s_L_compared) l19 c19 k19
  have b19 := F19.binds (ps := ["ratios", "lows"]) fun _ _ _ _ _ _ us hl => match us, hl with | [_, _], _ => rfl
  have F20 := fun_mk (st := s_law) l20 c20 k20
  refine ⟨PySem.W.fnOf "law" "law" (defArgs s_law) (defBody s_law) (defScope s_law) .none kV20 dc20 pm20 an20 cd20 ct20, fun s v => .of_eq rfl, fun base _ _ => ?_⟩
  have D0 := ok_L_cell (P := P) (w := w) (base := base) F0 (PySem.W.mg_of X G a0) b0 T
  have D1 := ok_L_numbers (P := P) (w := w) (base := base) F1 (PySem.W.mg_of X G a1) b1 T
  have D2 := ok_L_same (P := P) (w := w) (base := base) F2 (PySem.W.mg_of X G a2) b2 T
  have D3 := ok_L_integer (P := P) (w := w) (base := base) F3 (PySem.W.mg_of X G a3) b3 T
  have D4 := ok_L_lowest (P := P) (w := w) (base := base) F4 (PySem.W.mg_of X G a4) b4 T
  have D5 := ok_L_pairs (P := P) (w := w) (base := base) F5 (PySem.W.mg_of X G a5) b5 T D0 D3
  have D6 := ok_L_is (P := P) (w := w) (base := base) F6 (PySem.W.mg_of X G a6) b6 T D2 D4
  have D7 := ok_Ratio_init (P := P) (w := w) (base := base) (g := g) F7 ⟨mO0, iO0, jO0, kO0⟩ b7 T
  have D8 := ok_Ratio_add (P := P) (w := w) (base := base) F8 T D7
  have D9 := ok_Ratio_mul (P := P) (w := w) (base := base) F9 T D7
  have D10 := ok_Ratio_sub (P := P) (w := w) (base := base) F10 T D7
  have M_add : ∀ c f, tab_add c = some f → OD P w K mg base g 3 "__add__" c f := fun c y h => (by
      unfold tab_add at h
      split at h
      · rename_i e; subst e; cases h; exact ⟨_, _, _, wO0, tO0_add, uO0_add, b8, D8.mono (by omega)⟩
      cases h)
  have M_mul : ∀ c f, tab_mul c = some f → OD P w K mg base g 3 "__mul__" c f := fun c y h => (by
      unfold tab_mul at h
      split at h
      · rename_i e; subst e; cases h; exact ⟨_, _, _, wO0, tO0_mul, uO0_mul, b9, D9.mono (by omega)⟩
      cases h)
  have M_sub : ∀ c f, tab_sub c = some f → OD P w K mg base g 3 "__sub__" c f := fun c y h => (by
      unfold tab_sub at h
      split at h
      · rename_i e; subst e; cases h; exact ⟨_, _, _, wO0, tO0_sub, uO0_sub, b10, D10.mono (by omega)⟩
      cases h)
  have D11 := ok_L_sums (P := P) (w := w) (base := base) F11 (PySem.W.mg_of X G a11) b11 T M_add M_mul M_sub D6
  have D12 := ok_Ratio_raised (P := P) (w := w) (base := base) F12 T M_mul D7
  have M_raised : ∀ c f, tab_raised c = some f → MD P w K mg base g 4 "raised" c f := fun c y h => (by
      unfold tab_raised at h
      split at h
      · rename_i e; subst e; cases h; exact ⟨_, _, _, K0, ⟨tO0_raised, uO0_raised, k12⟩, (by show ("raised" : Str) ∉ (["part", "whole"] : List Str); decide +kernel), b12, D12.mono (by omega)⟩
      cases h)
  have D13 := ok_L_power (P := P) (w := w) (base := base) F13 (PySem.W.mg_of X G a13) b13 T M_raised D2
  have D14 := ok_L_no_whole (P := P) (w := w) (base := base) F14 (PySem.W.mg_of X G a14) b14 T D7
  have D15 := ok_L_no_power (P := P) (w := w) (base := base) F15 (PySem.W.mg_of X G a15) b15 T M_raised
  have D16 := ok_Ratio_eq (P := P) (w := w) (base := base) F16 T
  have D17 := ok_Ratio_str (P := P) (w := w) (base := base) F17 T
  have D18 := ok_Ratio_less (P := P) (w := w) (base := base) F18 T
  have M_eq : ∀ c f, tab_eq c = some f → EqD P w K mg base g 1 c f := fun c y h => (by
      unfold tab_eq at h
      split at h
      · rename_i e; subst e; cases h; exact ⟨⟨_, _, _, tO0_eq, uO0_eq, b16, D16.mono (by omega)⟩, fun T hT => by rcases hT with rfl | rfl | rfl | rfl | rfl | rfl <;> first | exact zO0_0 | exact zO0_1 | exact zO0_2 | exact zO0_3 | exact zO0_4 | exact zO0_5⟩
      cases h)
  have M_str : ∀ c f, tab_str c = some f → SD P w K mg base g 1 c f := fun c y h => (by
      unfold tab_str at h
      split at h
      · rename_i e; subst e; cases h; exact ⟨_, _, _, tO0_str, uO0_str, b17, D17.mono (by omega)⟩
      cases h)
  have M_less : ∀ c f, tab_less c = some f → MD P w K mg base g 1 "less" c f := fun c y h => (by
      unfold tab_less at h
      split at h
      · rename_i e; subst e; cases h; exact ⟨_, _, _, K0, ⟨tO0_less, uO0_less, k18⟩, (by show ("less" : Str) ∉ (["part", "whole"] : List Str); decide +kernel), b18, D18.mono (by omega)⟩
      cases h)
  have D19 := ok_L_compared (P := P) (w := w) (base := base) F19 (PySem.W.mg_of X G a19) b19 T M_eq M_str M_less D2
  exact (ok_law F20 T D7 D0 D1 D4 D5 D6 D11 D13 D14 D15 D19).imp (prom_law hf)
theorem walk (hf : ∀ ns : List Int, ns.length ≤ 63 → f_law [.lst (ns.map .int)] = .ok (.fr (.bl true))) {l : PySem.W.OpenLaw} {q : Program} {loose : List Str} {XP : (Str → Option Value) → Heap → Prop} {YP : World → Heap → Prop} {d : DefRec} {K : Params → PySem.W.Frag} (hn : l.most = some 63) (hdf : d.params.defaults = [])
    (hY : ∀ (w : World) (h : Heap), YP w h → (K w.params).In h)
    (F : ∀ (w : World) (mg : Str → Option Value) (fa : Addr) (h : Heap), (K w.params).In h → h.Ns mainGlobals mg → mg d.name = some (.ref fa) →
      ∃ fd : FuncData, (∀ (s : Shared) (u : Value), BindsTo s fd ⟨[u], []⟩ [("script", u)]) ∧ ∀ base : Heap, (K w.params).In base → base.Ns mainGlobals mg → FnOk l.prog w (K w.params) mg base (L2.CX l.prog w) 11 fa fd ["script"] (spL (K w.params))) :
    PySem.W.WalkO q loose XP YP l.row.toRowW d [] (fun f vs => PySem.call f vs) :=
  L2.walk_of (n := 63) (k := 11) (x := "script") (CX := fun w => L2.CX l.prog w) (sp := fun w => spL (K w.params)) hn (by decide) hdf ⟨by decide, by decide, by decide⟩ hY F (fun _ _ a ns hl _ hS => ⟨a, ns, rfl, hS, hl, fun _ => rfl⟩) fun _ _ _ _ _ ⟨_, _, _, _, _, z⟩ => z.2.2.2.2.2.2.2
end K00

open PySem PySem.W PyProof.Rows in
set_option maxRecDepth 100000 in
set_option maxHeartbeats 0 in
theorem PySem.Challenge.cw_provedunseen_k00_exact_ratios_holds : PySem.Challenge.rw_provedunseen_k00_exact_ratios.Holds := by
  w_on; o_law; k_head; (case hw => w_witness2)
  k_fill
  refine K00.walk K00.f_law_true (l := PySem.Challenge.rw_provedunseen_k00_exact_ratios) rfl rfl (fun w h Y => PySem.W.kIn_of Y) ?F
  case F =>
    intro w mg fa h KX G hmg
    refine' K00.all_mk K00.f_law_true KX G hmg ?nC0 ?xC0 ?kC0 ?sC0 ?tC0 ?dC0 ?gC0 ?aC0 ?cC0 ?mC0 ?nC1 ?xC1 ?kC1 ?sC1 ?tC1 ?dC1 ?gC1 ?aC1 ?cC1 ?mC1 ?nC2 ?xC2 ?kC2 ?sC2 ?tC2 ?dC2 ?gC2 ?aC2 ?cC2 ?mC2 ?nC3 ?xC3 ?kC3 ?sC3 ?tC3 ?dC3 ?gC3 ?aC3 ?cC3 ?mC3 ?nC4 ?xC4 ?kC4 ?sC4 ?tC4 ?dC4 ?gC4 ?aC4 ?cC4 ?mC4 ?og ?ot ?e0_0 ?e1_0 ?e2_0 ?e3_0 ?e4_0 ?e0_1 ?e1_1 ?e2_1 ?e3_1 ?e4_1 ?e0_2 ?e1_2 ?e2_2 ?e3_2 ?e4_2 ?e0_3 ?e1_3 ?e2_3 ?e3_3 ?e4_3 ?e0_4 ?e1_4 ?e2_4 ?e3_4 ?e4_4 ?m_ValueError ?e0_ValueError ?e1_ValueError ?e2_ValueError ?e3_ValueError ?e4_ValueError ?nO0 ?pO0 ?hO0 ?qO0 ?sO0 ?mO0 ?kO0 ?iO0 ?jO0 ?rO0_part ?rO0_whole ?tO0_add ?uO0_add ?wO0 ?tO0_eq ?uO0_eq ?zO0_0 ?zO0_1 ?zO0_2 ?zO0_3 ?zO0_4 ?zO0_5 ?tO0_mul ?uO0_mul ?tO0_str ?uO0_str ?tO0_sub ?uO0_sub ?tO0_less ?uO0_less ?tO0_raised ?uO0_raised ?gO0 ?oO0 ?yO0 ?eO0_0 ?eO0_1 ?eO0_2 ?eO0_3 ?eO0_4 ?eO0_5 ?eO0_O0 ?n_ValueError ?n_abs ?n_bool ?n_int ?n_isinstance ?n_len ?n_list ?n_range ?n_str ?n_tuple ?i_gcd ?c_MOST_TIMES ?a0 ?l0 ?c0 ?k0 ?a1 ?l1 ?c1 ?k1 ?a2 ?l2 ?c2 ?k2 ?a3 ?l3 ?c3 ?k3 ?a4 ?l4 ?c4 ?k4 ?a5 ?l5 ?c5 ?k5 ?a6 ?l6 ?c6 ?k6 ?l7 ?c7 ?k7 ?l8 ?c8 ?k8 ?l9 ?c9 ?k9 ?l10 ?c10 ?k10 ?a11 ?l11 ?c11 ?k11 ?l12 ?c12 ?k12 ?a13 ?l13 ?c13 ?k13 ?a14 ?l14 ?c14 ?k14 ?a15 ?l15 ?c15 ?k15 ?l16 ?c16 ?k16 ?l17 ?c17 ?k17 ?l18 ?c18 ?k18 ?a19 ?l19 ?c19 ?k19 ?a20 ?l20 ?c20 ?k20
    (case nC0 => k_is)
    (case xC0 => k_exc)
    (case kC0 => k_is)
    (case sC0 => k_is)
    (case tC0 => k_is)
    (case dC0 => k_is)
    (case gC0 => k_is)
    (case aC0 => k_is)
    (case cC0 => k_is)
    (case mC0 => k_is)
    (case nC1 => k_is)
    (case xC1 => k_exc)
    (case kC1 => k_is)
    (case sC1 => k_is)
    (case tC1 => k_is)
    (case dC1 => k_is)
    (case gC1 => k_is)
    (case aC1 => k_is)
    (case cC1 => k_is)
    (case mC1 => k_is)
    (case nC2 => k_is)
    (case xC2 => k_exc)
    (case kC2 => k_is)
    (case sC2 => k_is)
    (case tC2 => k_is)
    (case dC2 => k_is)
    (case gC2 => k_is)
    (case aC2 => k_is)
    (case cC2 => k_is)
    (case mC2 => k_is)
    (case nC3 => k_is)
    (case xC3 => k_exc)
    (case kC3 => k_is)
    (case sC3 => k_is)
    (case tC3 => k_is)
    (case dC3 => k_is)
    (case gC3 => k_is)
    (case aC3 => k_is)
    (case cC3 => k_is)
    (case mC3 => k_is)
    (case nC4 => k_is)
    (case xC4 => k_exc)
    (case kC4 => k_is)
    (case sC4 => k_is)
    (case tC4 => k_is)
    (case dC4 => k_is)
    (case gC4 => k_is)
    (case aC4 => k_is)
    (case cC4 => k_is)
    (case mC4 => k_is)
    (case og => k_is)
    (case ot => k_is)
    (case e0_0 => first | rfl | k_is)
    (case e1_0 => first | rfl | k_is)
    (case e2_0 => first | rfl | k_is)
    (case e3_0 => first | rfl | k_is)
    (case e4_0 => first | rfl | k_is)
    (case e0_1 => first | rfl | k_is)
    (case e1_1 => first | rfl | k_is)
    (case e2_1 => first | rfl | k_is)
    (case e3_1 => first | rfl | k_is)
    (case e4_1 => first | rfl | k_is)
    (case e0_2 => first | rfl | k_is)
    (case e1_2 => first | rfl | k_is)
    (case e2_2 => first | rfl | k_is)
    (case e3_2 => first | rfl | k_is)
    (case e4_2 => first | rfl | k_is)
    (case e0_3 => first | rfl | k_is)
    (case e1_3 => first | rfl | k_is)
    (case e2_3 => first | rfl | k_is)
    (case e3_3 => first | rfl | k_is)
    (case e4_3 => first | rfl | k_is)
    (case e0_4 => first | rfl | k_is)
    (case e1_4 => first | rfl | k_is)
    (case e2_4 => first | rfl | k_is)
    (case e3_4 => first | rfl | k_is)
    (case e4_4 => first | rfl | k_is)
    (case m_ValueError => decide +kernel)
    (case e0_ValueError => first | rfl | k_is)
    (case e1_ValueError => first | rfl | k_is)
    (case e2_ValueError => first | rfl | k_is)
    (case e3_ValueError => first | rfl | k_is)
    (case e4_ValueError => first | rfl | k_is)
    (case nO0 => k_is)
    (case pO0 => k_is)
    (case hO0 => k_is)
    (case qO0 => k_is)
    (case sO0 => k_is)
    (case mO0 => k_is)
    (case kO0 => k_is)
    (case iO0 => k_is)
    (case jO0 => k_is)
    (case rO0_part => k_is)
    (case rO0_whole => k_is)
    (case tO0_add => k_is)
    (case uO0_add => k_is)
    (case wO0 => k_is)
    (case tO0_eq => k_is)
    (case uO0_eq => k_is)
    (case zO0_0 => k_is)
    (case zO0_1 => k_is)
    (case zO0_2 => k_is)
    (case zO0_3 => k_is)
    (case zO0_4 => k_is)
    (case zO0_5 => k_is)
    (case tO0_mul => k_is)
    (case uO0_mul => k_is)
    (case tO0_str => k_is)
    (case uO0_str => k_is)
    (case tO0_sub => k_is)
    (case uO0_sub => k_is)
    (case tO0_less => k_is)
    (case uO0_less => k_is)
    (case tO0_raised => k_is)
    (case uO0_raised => k_is)
    (case gO0 => k_is)
    (case oO0 => k_is)
    (case yO0 => k_is)
    (case eO0_0 => first | rfl | k_is)
    (case eO0_1 => first | rfl | k_is)
    (case eO0_2 => first | rfl | k_is)
    (case eO0_3 => first | rfl | k_is)
    (case eO0_4 => first | rfl | k_is)
    (case eO0_5 => first | rfl | k_is)
    (case eO0_O0 => first | rfl | k_is)
    (case n_ValueError => k_is)
    (case n_abs => k_is)
    (case n_bool => k_is)
    (case n_int => k_is)
    (case n_isinstance => k_is)
    (case n_len => k_is)
    (case n_list => k_is)
    (case n_range => k_is)
    (case n_str => k_is)
    (case n_tuple => k_is)
    (case i_gcd => k_is)
    (case c_MOST_TIMES => k_is)
    (case a0 => k_is)
    (case l0 => k_is)
    (case c0 => k_is)
    (case k0 => k_is)
    (case a1 => k_is)
    (case l1 => k_is)
    (case c1 => k_is)
    (case k1 => k_is)
    (case a2 => k_is)
    (case l2 => k_is)
    (case c2 => k_is)
    (case k2 => k_is)
    (case a3 => k_is)
    (case l3 => k_is)
    (case c3 => k_is)
    (case k3 => k_is)
    (case a4 => k_is)
    (case l4 => k_is)
    (case c4 => k_is)
    (case k4 => k_is)
    (case a5 => k_is)
    (case l5 => k_is)
    (case c5 => k_is)
    (case k5 => k_is)
    (case a6 => k_is)
    (case l6 => k_is)
    (case c6 => k_is)
    (case k6 => k_is)
    (case l7 => k_is)
    (case c7 => k_is)
    (case k7 => k_is)
    (case l8 => k_is)
    (case c8 => k_is)
    (case k8 => k_is)
    (case l9 => k_is)
    (case c9 => k_is)
    (case k9 => k_is)
    (case l10 => k_is)
    (case c10 => k_is)
    (case k10 => k_is)
    (case a11 => k_is)
    (case l11 => k_is)
    (case c11 => k_is)
    (case k11 => k_is)
    (case l12 => k_is)
    (case c12 => k_is)
    (case k12 => k_is)
    (case a13 => k_is)
    (case l13 => k_is)
    (case c13 => k_is)
    (case k13 => k_is)
    (case a14 => k_is)
    (case l14 => k_is)
    (case c14 => k_is)
    (case k14 => k_is)
    (case a15 => k_is)
    (case l15 => k_is)
    (case c15 => k_is)
    (case k15 => k_is)
    (case l16 => k_is)
    (case c16 => k_is)
    (case k16 => k_is)
    (case l17 => k_is)
    (case c17 => k_is)
    (case k17 => k_is)
    (case l18 => k_is)
    (case c18 => k_is)
    (case k18 => k_is)
    (case a19 => k_is)
    (case l19 => k_is)
    (case c19 => k_is)
    (case k19 => k_is)
    (case a20 => k_is)
    (case l20 => k_is)
    (case c20 => k_is)
    (case k20 => k_is)
#print axioms PySem.Challenge.cw_provedunseen_k00_exact_ratios_holds
