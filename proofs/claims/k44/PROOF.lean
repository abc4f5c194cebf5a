import PyProof.Rows.All
import Wide.All
import OpenK.AllK
import Wide.FinOn
import KE.KStateDown
import HandS.Base
import HandS.Call
import HandS.Exc
import HandS.Defaults
import HandS.Ends
import HandS.Head0
import HandS.Head1
import HandS.Head2
import HandS.Head3
import HandS.HeadHook1
import HandS.HeadHook2
import HandS.Words
import HandS.ForMost
import HandS.ForExc
import HandS.TupAny
import HandS.Conv
import HandS.RevRange
import HandS.RaiseMore
import HandS.FStr
import HandS.ExcIs
import HandS.IsInst
import HandS.Wide
import HandS.Gcd
import HandS.Zip
import KE.KMathGC
import KE.SortCalls
import KE.SortData
import KE.SortLaws
import HandS.Strs
import HandS.Deep
import KE.GoesEnum
import HandS.CallSlots
import HandS.More
import HandS.Text
import HandS.Rev
import HandS.Star
import HandS.TupMul
import HandS.SlotsOwn
import KE.KCallOwn
import KE.KOpsOwn
import HandS.ClsMeth
import HandS.ExcOwn
import HandS.TryMany
import HandS.Dict
import KE.DataFind
import KE.GoesEnumKw
import HandS.Style
import HandS.MakeKwOnly
import PySem.Challenge.RW_provedunseen_k44_best_by_one_more_color
set_option Elab.async false
set_option linter.all false
set_option maxRecDepth 100000
set_option maxHeartbeats 4000000
/-! the head's facts as one test of the part of the heap that the module's names reach -/
namespace HK
open PySem PySem.Spec PyProof.Rows L2
theorem exAt {l : List Bool} (h : l.all id = true) (i : Nat) {b : Bool} (hi : l[i]? = some b) : b = true := List.all_eq_true.mp h b (List.mem_of_getElem? hi)
def intB (K : PySem.W.Frag) (x : Str) (i : Int) : Bool := match PySem.W.nsIn K mainGlobals x with
  | some (some (.int j _)) => decide (j = i)
  | _ => false
theorem intB_ok {K : PySem.W.Frag} {x : Str} {i : Int} (h : intB K x i = true) : ∃ t, PySem.W.nsIn K mainGlobals x = some (some (.int i t)) := by
  unfold intB at h
  split at h
  · rename_i j t e
    exact ⟨t, by rw [e, of_decide_eq_true h]⟩
  · cases h
def strB (K : PySem.W.Frag) (x z : Str) : Bool := match PySem.W.nsIn K mainGlobals x with
  | some (some (.str j _)) => decide (j = z)
  | _ => false
theorem strB_ok {K : PySem.W.Frag} {x z : Str} (h : strB K x z = true) : ∃ t, PySem.W.nsIn K mainGlobals x = some (some (.str z t)) := by
  unfold strB at h
  split at h
  · rename_i j t e
    exact ⟨t, by rw [e, of_decide_eq_true h]⟩
  · cases h
/-- an int of a class -/
def conI (K : PySem.W.Frag) (C : Addr) (x : Str) (i : Int) : Bool := match PySem.W.findIn K (.ref C) x with
  | some (some (.int j t)) => decide (j = i) && decide (PySem.W.specialIn K (.int j t) "__get__" = some none)
  | _ => false
theorem conI_ok {K : PySem.W.Frag} {C : Addr} {x : Str} {i : Int} (h : conI K C x i = true) : ∃ t, PySem.W.findIn K (.ref C) x = some (some (.int i t)) ∧ PySem.W.specialIn K (.int i t) "__get__" = some none := by
  unfold conI at h
  split at h
  · rename_i j t e
    obtain ⟨h1, h2⟩ := He.ba h
    have h1 := of_decide_eq_true h1
    subst h1
    exact ⟨t, e, of_decide_eq_true h2⟩
  · cases h
def conS (K : PySem.W.Frag) (C : Addr) (x : Str) (i : Str) : Bool := match PySem.W.findIn K (.ref C) x with
  | some (some (.str j t)) => decide (j = i) && decide (PySem.W.specialIn K (.str j t) "__get__" = some none)
  | _ => false
theorem conS_ok {K : PySem.W.Frag} {C : Addr} {x : Str} {i : Str} (h : conS K C x i = true) : ∃ t, PySem.W.findIn K (.ref C) x = some (some (.str i t)) ∧ PySem.W.specialIn K (.str i t) "__get__" = some none := by
  unfold conS at h
  split at h
  · rename_i j t e
    obtain ⟨h1, h2⟩ := He.ba h
    have h1 := of_decide_eq_true h1
    subst h1
    exact ⟨t, e, of_decide_eq_true h2⟩
  · cases h
/-- a def: where it stands, its names, what the text has of it, its defaults -/
structure FnH where
  addr : Addr
  name : Str
  qual : Str
  params : Arguments
  body : List Stmt
  scope : Scope
  dfl : Value := .none
def fnO (K : PySem.W.Frag) (a : Addr) : He.FnV := match K.lookup a with
  | some o => (match o.data with
    | .func fd => some (fd.name, fd.qualname, fd.params, fd.body, fd.scope, fd.globals, fd.closure, fd.defaults, fd.builtins)
    | _ => none)
  | none => none
def fnC (K : PySem.W.Frag) (d : FnH) : Bool := match K.lookup d.addr with
  | some o => (match o.data with
    | .func fd => PySem.W.codeIn K fd.code d.qual && PySem.W.keepIn K (.ref d.addr)
    | _ => false)
  | none => false
def FnH.val (d : FnH) : He.FnV := some (d.name, d.qual, d.params, .stmts d.body, d.scope, mainGlobals, [], d.dfl, builtinsNs)
theorem fnH_ok {K : PySem.W.Frag} {d : FnH} (e : fnO K d.addr = d.val) (c : fnC K d = true) :
    ∃ oc od osl kV doc pm an cdv ct, (K.lookup d.addr = some ⟨oc, od, .func (PySem.W.fnOf d.name d.qual d.params d.body d.scope d.dfl kV doc pm an cdv ct), osl⟩) ∧ PySem.W.codeIn K cdv d.qual = true ∧ PySem.W.keepIn K (.ref d.addr) = true := by
  unfold fnC at c
  unfold fnO at e
  cases q : K.lookup d.addr with
  | none => rw [q] at c; cases c
  | some o =>
    rw [q] at c e
    obtain ⟨oc, od, dt, osl⟩ := o
    cases dt with
    | func fd =>
      obtain ⟨x1, x2, x3, x4, x5, x6, x7, x8, x9, x10, x11, x12, x13, x14, x15⟩ := fd
      have e : (some (x1, x2, x3, x4, x5, x6, x7, x8, x15) : He.FnV) = some (d.name, d.qual, d.params, .stmts d.body, d.scope, mainGlobals, [], d.dfl, builtinsNs) := e
      simp only [Option.some.injEq, Prod.mk.injEq] at e
      obtain ⟨r1, r2, r3, r4, r5, r6, r7, r8, r9⟩ := e
      subst r1 r2 r3 r4 r5 r6 r7 r8 r9
      obtain ⟨c1, c2⟩ := He.ba c
      exact ⟨oc, od, osl, x9, x10, x11, x12, x13, x14, rfl, c1, c2⟩
    | _ => cases c
/-- an int read off a class -/
def ccI (K : PySem.W.Frag) (C : Addr) (x : Str) (i : Int) : Bool := match PySem.W.findCls K (.ref C) (.type "type") x with
  | some (.val (.int j _)) => decide (j = i)
  | _ => false
theorem ccI_ok {K : PySem.W.Frag} {C : Addr} {x : Str} {i : Int} (h : ccI K C x i = true) : ∃ t, PySem.W.findCls K (.ref C) (.type "type") x = some (.val (.int i t)) := by
  unfold ccI at h
  split at h
  · rename_i j t e
    exact ⟨t, by rw [e, of_decide_eq_true h]⟩
  · cases h
abbrev AlH : Type := Bool × List He.FnV
def obsH (ex : PySem.W.Frag → Bool) (fs : List FnH) (K : PySem.W.Frag) : AlH := (ex K && fs.all (fnC K), fs.map fun d => fnO K d.addr)
def valH (fs : List FnH) : AlH := (true, fs.map FnH.val)
def SaysH (ex : PySem.W.Frag → Bool) (fs : List FnH) (K : PySem.W.Frag) : Prop := obsH ex fs K = valH fs
def lookH (as : List Addr) (ex : PySem.W.Frag → Bool) (fs : List FnH) (g : Addr → Option Obj) : AlH := obsH ex fs (He.frG g as)
def hookH (as : List Addr) (ex : PySem.W.Frag → Bool) (fs : List FnH) : PySem.W.Hook where
  α := AlH
  obs := fun s => lookH as ex fs s.heap.get?
  val := fun _ => valH fs
  says := fun _ h => ∃ K : PySem.W.Frag, K.In h ∧ SaysH ex fs K
  of := fun _ _ e => ⟨_, He.frG_in, e⟩
  keeps := fun _ _ _ z k => z.elim fun K y => ⟨K, PySem.W.Frag.In.keeps y.1 k, y.2⟩
theorem lookH_eq {as : List Addr} {ex : PySem.W.Frag → Bool} {fs : List FnH} {g : Addr → Option Obj} {s : Shared} (h : ∀ a, g a = s.heap.get? a) : lookH as ex fs g = (hookH as ex fs).obs s := by
  rw [show g = s.heap.get? from funext h]
  rfl
section
variable {ex : PySem.W.Frag → Bool} {fs : List FnH} {K : PySem.W.Frag}
theorem SaysH.all (c : SaysH ex fs K) : ex K = true ∧ (fs.all (fnC K)) = true := He.ba (show (ex K && fs.all (fnC K)) = true from congrArg (fun z : AlH => z.1) c)
theorem SaysH.fn (c : SaysH ex fs K) (i : Nat) {d : FnH} (h : fs[i]? = some d := by rfl) :
    ∃ oc od osl kV doc pm an cdv ct, (K.lookup d.addr = some ⟨oc, od, .func (PySem.W.fnOf d.name d.qual d.params d.body d.scope d.dfl kV doc pm an cdv ct), osl⟩) ∧ PySem.W.codeIn K cdv d.qual = true ∧ PySem.W.keepIn K (.ref d.addr) = true := by
  have e : fs.map (fun d => fnO K d.addr) = fs.map FnH.val := congrArg (fun z : AlH => z.2) c
  have e2 : (fs.map fun d => fnO K d.addr)[i]? = (fs.map FnH.val)[i]? := by rw [e]
  rw [List.getElem?_map, List.getElem?_map, h] at e2
  exact fnH_ok (Option.some.inj e2) (List.all_eq_true.mp c.all.2 d (List.mem_of_getElem? h))
end
/-- a law's end: the written part is found with the heap -/
theorem walk_h {l : PySem.W.OpenLaw} {n k : Nat} {q : Program} {loose : List Str} {XP : (Str → Option Value) → Heap → Prop} {YP : World → Heap → Prop} {d : DefRec} {CX : World → CXT} {x : Str} (hn : l.most = some n) (hn2 : n ≤ sizeLine) (hdf : d.params.defaults = []) (hr : Room k callerA)
    (F : ∀ (w : World) (mg : Str → Option Value) (fa : Addr) (h : Heap), YP w h → h.Ns mainGlobals mg → mg d.name = some (.ref fa) → ∃ (K : PySem.W.Frag) (fd : FuncData) (sp : Sp), K.In h ∧ (∀ (s : Shared) (u : Value), BindsTo s fd ⟨[u], []⟩ [(x, u)]) ∧
      (∀ (H : Hp) (a : Addr) (ns : List Int), ns.length ≤ n → SqL K H a (ns.map V.int) → sp [.ref a] H (fun v _ => v = .bl true) fun _ _ _ => False) ∧ (∀ base : Heap, K.In base → base.Ns mainGlobals mg → FnOk l.prog w K mg base (CX w) k fa fd [x] sp))
    (hC : ∀ (w : World) (H : Hp) (s : Shared) (e : Value) (s' : Shared), CX w [] H s (fun _ _ _ => False) e s' → False) : PySem.W.WalkO q loose XP YP l.row.toRowW d [] fun f vs => PySem.call f vs := by
  apply Att.attach_call hn hdf
  intro w s0 s1 mg mb fa o pm cd doc a vs ns G Y ho hd hcd hmg hobj hints hlen hg
  obtain ⟨K, fd, sp, KX, hb, hs, hF⟩ := F w mg fa _ Y G.T.g hmg
  exact law_call KX G.T.g G.T.b G.T.builtins G.T.nolimit hg hobj hints (Nat.le_trans hlen hn2) hr hF hb (fun H _ hS => hs H a ns hlen hS) fun H e s' => hC w H s1 e s'
end HK
set_option Elab.async false
set_option linter.all false
set_option maxRecDepth 100000
namespace HK
open PySem PySem.Spec PyProof.Rows L2
def emptyT (K : PySem.W.Frag) (T : Addr) : Bool := match K.lookup T with
  | some o => decide (o.cls = .type "tuple") && (o.dict.isNone && (match o.data with
    | .seq its _ => its.isEmpty
    | _ => false))
  | none => false
def kwV (K : PySem.W.Frag) (v : Value) (z : Str) : Bool := match v with
  | .ref D => (match PySem.W.nsIn K D z with
    | some (some (.ref T)) => emptyT K T
    | _ => false)
  | _ => false
/-- the keyword-only default of the def at a is an empty tuple -/
def kwB (K : PySem.W.Frag) (a : Addr) (z : Str) : Bool := match K.lookup a with
  | some o => (match o.data with
    | .func fd => kwV K fd.kwdefaults z
    | _ => false)
  | none => false
theorem kwB_at {K : PySem.W.Frag} {a : Addr} {z x qual : Str} {params : Arguments} {body : List Stmt} {scope : Scope} {dV kV doc pm cdv ct oc : Value} {an od : Option Addr} {osl : Array (Option Value)} (h : kwB K a z = true)
    (l : K.lookup a = some ⟨oc, od, .func (PySem.W.fnOf x qual params body scope dV kV doc pm an cdv ct), osl⟩) : ∃ T : Addr, KwdV K kV [(z, .ref T)] ∧ emptyT K T = true := by
  unfold kwB at h
  rw [l] at h
  have h2 : kwV K kV z = true := h
  clear h l
  unfold kwV at h2
  split at h2
  · rename_i D
    split at h2
    · rename_i T e
      exact ⟨T, .inr ⟨D, rfl, fun q m => by rw [List.mem_singleton.mp m]; exact ⟨_, e, rfl⟩⟩, h2⟩
    · cases h2
  · cases h2
end HK
set_option Elab.async false
set_option linter.all false
set_option maxRecDepth 100000
set_option maxHeartbeats 0
namespace K44H
open PySem PySem.Spec PyProof.Rows L2

def topS (i : Nat) : Stmt := PySem.Challenge.pw_provedunseen_k44_best_by_one_more_color.main.body.getD i (.Pass ⟨0, 0, 0, 0⟩)
abbrev s_make_graph : Stmt := topS 8
abbrev s_alike : Stmt := topS 14
abbrev s_is_gate : Stmt := topS 16
abbrev s_circuit : Stmt := topS 15
abbrev s_colors : Stmt := topS 17
abbrev s_require_kind : Stmt := topS 18
abbrev s_rows_of : Stmt := topS 20
abbrev s_are_different_colors : Stmt := topS 22
abbrev s_proper_edges : Stmt := topS 23
abbrev s_best_coloring : Stmt := topS 24
abbrev s_L_cell : Stmt := topS 26
abbrev s_L_numbers : Stmt := topS 27
abbrev s_L_same : Stmt := topS 28
abbrev s_L_pairs : Stmt := topS 29
abbrev s_L_edges : Stmt := topS 30
abbrev s_L_statement : Stmt := topS 31
abbrev s_L_number : Stmt := topS 32
abbrev s_L_best : Stmt := topS 33
abbrev s_L_is_told : Stmt := topS 34
abbrev s_L_best_told : Stmt := topS 35
abbrev s_L_refusal : Stmt := topS 36
abbrev s_L_refused : Stmt := topS 37
abbrev s_law : Stmt := topS 38
def ex0 (K : PySem.W.Frag) : List Bool := [decide (PySem.W.nsIn K mainGlobals "UnseenError" = some (some (.ref 24))),
  decide (PySem.W.excIn K 24 [.type "ValueError", .type "Exception", .type "BaseException", .type "object"] "ValueError.__new__" = true),
  decide (PySem.W.keepIn K (.ref 24) = true),
  decide (PySem.W.subIn K (.ref 24) (.type "BaseException") = some true),
  decide (PySem.W.typeIn K (.ref 24) = some (.type "type")),
  decide (PySem.W.hasDictIn K 24 = true),
  decide (PySem.W.findIn K (.ref 24) "__getattribute__" = some (some (.builtin "BaseException.__getattribute__"))),
  decide (PySem.W.findIn K (.ref 24) "__getattr__" = some none),
  decide (PySem.W.findIn K (.ref 24) "__class__" = some (some (.builtin "object.__class__"))),
  decide (PySem.W.mroIn K 24 (.type "object") = some true),
  decide (PySem.W.nsIn K mainGlobals "BadGraph" = some (some (.ref 37))),
  decide (PySem.W.excIn K 37 [.type "ValueError", .type "Exception", .type "BaseException", .type "object"] "ValueError.__new__" = true),
  decide (PySem.W.keepIn K (.ref 37) = true),
  decide (PySem.W.subIn K (.ref 37) (.type "BaseException") = some true),
  decide (PySem.W.typeIn K (.ref 37) = some (.type "type")),
  decide (PySem.W.hasDictIn K 37 = true),
  decide (PySem.W.findIn K (.ref 37) "__getattribute__" = some (some (.builtin "BaseException.__getattribute__"))),
  decide (PySem.W.findIn K (.ref 37) "__getattr__" = some none),
  decide (PySem.W.findIn K (.ref 37) "__class__" = some (some (.builtin "object.__class__"))),
  decide (PySem.W.mroIn K 37 (.type "object") = some true),
  decide (PySem.W.nsIn K mainGlobals "BadStatement" = some (some (.ref 49))),
  decide (PySem.W.excIn K 49 [.type "ValueError", .type "Exception", .type "BaseException", .type "object"] "ValueError.__new__" = true),
  decide (PySem.W.keepIn K (.ref 49) = true),
  decide (PySem.W.subIn K (.ref 49) (.type "BaseException") = some true),
  decide (PySem.W.typeIn K (.ref 49) = some (.type "type")),
  decide (PySem.W.hasDictIn K 49 = true),
  decide (PySem.W.findIn K (.ref 49) "__getattribute__" = some (some (.builtin "BaseException.__getattribute__"))),
  decide (PySem.W.findIn K (.ref 49) "__getattr__" = some none),
  decide (PySem.W.findIn K (.ref 49) "__class__" = some (some (.builtin "object.__class__"))),
  decide (PySem.W.mroIn K 49 (.type "object") = some true)]
def ex1 (K : PySem.W.Frag) : List Bool := [decide (PySem.W.nsIn K mainGlobals "BadWitness" = some (some (.ref 61))),
  decide (PySem.W.excIn K 61 [.type "ValueError", .type "Exception", .type "BaseException", .type "object"] "ValueError.__new__" = true),
  decide (PySem.W.keepIn K (.ref 61) = true),
  decide (PySem.W.subIn K (.ref 61) (.type "BaseException") = some true),
  decide (PySem.W.typeIn K (.ref 61) = some (.type "type")),
  decide (PySem.W.hasDictIn K 61 = true),
  decide (PySem.W.findIn K (.ref 61) "__getattribute__" = some (some (.builtin "BaseException.__getattribute__"))),
  decide (PySem.W.findIn K (.ref 61) "__getattr__" = some none),
  decide (PySem.W.findIn K (.ref 61) "__class__" = some (some (.builtin "object.__class__"))),
  decide (PySem.W.mroIn K 61 (.type "object") = some true),
  decide (PySem.W.nsIn K mainGlobals "BadContents" = some (some (.ref 73))),
  decide (PySem.W.excIn K 73 [.type "ValueError", .type "Exception", .type "BaseException", .type "object"] "ValueError.__new__" = true),
  decide (PySem.W.keepIn K (.ref 73) = true),
  decide (PySem.W.subIn K (.ref 73) (.type "BaseException") = some true),
  decide (PySem.W.typeIn K (.ref 73) = some (.type "type")),
  decide (PySem.W.hasDictIn K 73 = true),
  decide (PySem.W.findIn K (.ref 73) "__getattribute__" = some (some (.builtin "BaseException.__getattribute__"))),
  decide (PySem.W.findIn K (.ref 73) "__getattr__" = some none),
  decide (PySem.W.findIn K (.ref 73) "__class__" = some (some (.builtin "object.__class__"))),
  decide (PySem.W.mroIn K 73 (.type "object") = some true),
  decide (PySem.W.specialIn K (.builtin "object.__class__") "__get__" = some (some (.builtin "getset_descriptor.__get__"))),
  decide (PySem.W.takesIn K (.builtin "object.__class__") = some true),
  decide (PySem.W.subIn K (.ref 24) (.ref 24) = some true),
  decide (PySem.W.subIn K (.ref 37) (.ref 24) = some true),
  decide (PySem.W.subIn K (.ref 49) (.ref 24) = some true),
  decide (PySem.W.subIn K (.ref 61) (.ref 24) = some true),
  decide (PySem.W.subIn K (.ref 73) (.ref 24) = some true),
  decide (PySem.W.subIn K (.ref 24) (.ref 49) = some false),
  decide (PySem.W.subIn K (.ref 37) (.ref 49) = some false),
  decide (PySem.W.subIn K (.ref 49) (.ref 49) = some true)]
def ex2 (K : PySem.W.Frag) : List Bool := [decide (PySem.W.subIn K (.ref 61) (.ref 49) = some false),
  decide (PySem.W.subIn K (.ref 73) (.ref 49) = some false),
  decide (PySem.W.subIn K (.ref 24) (.ref 61) = some false),
  decide (PySem.W.subIn K (.ref 37) (.ref 61) = some false),
  decide (PySem.W.subIn K (.ref 49) (.ref 61) = some false),
  decide (PySem.W.subIn K (.ref 61) (.ref 61) = some true),
  decide (PySem.W.subIn K (.ref 73) (.ref 61) = some false),
  decide (PySem.W.kitMeta "ValueError" = true),
  decide (PySem.W.subIn K (.ref 24) (.type "ValueError") = some true),
  decide (PySem.W.subIn K (.ref 37) (.type "ValueError") = some true),
  decide (PySem.W.subIn K (.ref 49) (.type "ValueError") = some true),
  decide (PySem.W.subIn K (.ref 61) (.type "ValueError") = some true),
  decide (PySem.W.subIn K (.ref 73) (.type "ValueError") = some true),
  decide (PySem.W.nsIn K mainGlobals "ValueError" = some none),
  decide (PySem.W.nsIn K mainGlobals "abs" = some none),
  decide (PySem.W.nsIn K mainGlobals "all" = some none),
  decide (PySem.W.nsIn K mainGlobals "bool" = some none),
  decide (PySem.W.nsIn K mainGlobals "enumerate" = some none),
  decide (PySem.W.nsIn K mainGlobals "int" = some none),
  decide (PySem.W.nsIn K mainGlobals "isinstance" = some none),
  decide (PySem.W.nsIn K mainGlobals "len" = some none),
  decide (PySem.W.nsIn K mainGlobals "list" = some none),
  decide (PySem.W.nsIn K mainGlobals "max" = some none),
  decide (PySem.W.nsIn K mainGlobals "min" = some none),
  decide (PySem.W.nsIn K mainGlobals "range" = some none),
  decide (PySem.W.nsIn K mainGlobals "sorted" = some none),
  decide (PySem.W.nsIn K mainGlobals "str" = some none),
  decide (PySem.W.nsIn K mainGlobals "tuple" = some none),
  decide (PySem.W.nsIn K mainGlobals "type" = some none),
  HK.intB K "LEAST_COLORS" 2]
def ex3 (K : PySem.W.Frag) : List Bool := [HK.intB K "MOST_COLORS" 4,
  HK.intB K "MOST_GATES" 6,
  HK.intB K "MOST_INPUTS" 4,
  HK.intB K "MOST_NODES" 6,
  decide (PySem.W.nsIn K mainGlobals "make_graph" = some (some (.ref 82))),
  decide (PySem.W.nsIn K mainGlobals "alike" = some (some (.ref 89))),
  decide (PySem.W.nsIn K mainGlobals "is_gate" = some (some (.ref 101))),
  decide (PySem.W.nsIn K mainGlobals "circuit" = some (some (.ref 96))),
  decide (PySem.W.nsIn K mainGlobals "colors" = some (some (.ref 108))),
  decide (PySem.W.nsIn K mainGlobals "require_kind" = some (some (.ref 115))),
  decide (PySem.W.nsIn K mainGlobals "rows_of" = some (some (.ref 120))),
  decide (PySem.W.nsIn K mainGlobals "are_different_colors" = some (some (.ref 127))),
  decide (PySem.W.nsIn K mainGlobals "proper_edges" = some (some (.ref 132))),
  decide (PySem.W.nsIn K mainGlobals "best_coloring" = some (some (.ref 139))),
  HK.kwB K 139 "start",
  decide (PySem.W.nsIn K mainGlobals "_law_cell" = some (some (.ref 146))),
  decide (PySem.W.nsIn K mainGlobals "_law_numbers" = some (some (.ref 153))),
  decide (PySem.W.nsIn K mainGlobals "_law_same" = some (some (.ref 160))),
  decide (PySem.W.nsIn K mainGlobals "_law_pairs" = some (some (.ref 167))),
  decide (PySem.W.nsIn K mainGlobals "_law_edges" = some (some (.ref 172))),
  decide (PySem.W.nsIn K mainGlobals "_law_statement" = some (some (.ref 177))),
  decide (PySem.W.nsIn K mainGlobals "_law_number" = some (some (.ref 182))),
  decide (PySem.W.nsIn K mainGlobals "_law_best" = some (some (.ref 187))),
  decide (PySem.W.nsIn K mainGlobals "_law_is_told" = some (some (.ref 194))),
  decide (PySem.W.nsIn K mainGlobals "_law_best_told" = some (some (.ref 199))),
  decide (PySem.W.nsIn K mainGlobals "_law_refusal" = some (some (.ref 206))),
  decide (PySem.W.nsIn K mainGlobals "_law_refused" = some (some (.ref 213))),
  decide (PySem.W.nsIn K mainGlobals "law" = some (some (.ref 218)))]
def exB (K : PySem.W.Frag) : Bool := (ex0 K).all id && ( (ex1 K).all id && ( (ex2 K).all id && ( (ex3 K).all id && ( true))))

def dn_0 : HK.FnH := ⟨82, "make_graph", "make_graph", defArgs s_make_graph, defBody s_make_graph, defScope s_make_graph, .none⟩
def dn_1 : HK.FnH := ⟨89, "alike", "alike", defArgs s_alike, defBody s_alike, defScope s_alike, .none⟩
def dn_2 : HK.FnH := ⟨101, "is_gate", "is_gate", defArgs s_is_gate, defBody s_is_gate, defScope s_is_gate, .none⟩
def dn_3 : HK.FnH := ⟨96, "circuit", "circuit", defArgs s_circuit, defBody s_circuit, defScope s_circuit, .none⟩
def dn_4 : HK.FnH := ⟨108, "colors", "colors", defArgs s_colors, defBody s_colors, defScope s_colors, .none⟩
def dn_5 : HK.FnH := ⟨115, "require_kind", "require_kind", defArgs s_require_kind, defBody s_require_kind, defScope s_require_kind, .none⟩
def dn_6 : HK.FnH := ⟨120, "rows_of", "rows_of", defArgs s_rows_of, defBody s_rows_of, defScope s_rows_of, .none⟩
def dn_7 : HK.FnH := ⟨127, "are_different_colors", "are_different_colors", defArgs s_are_different_colors, defBody s_are_different_colors, defScope s_are_different_colors, .none⟩
def dn_8 : HK.FnH := ⟨132, "proper_edges", "proper_edges", defArgs s_proper_edges, defBody s_proper_edges, defScope s_proper_edges, .none⟩
def dn_9 : HK.FnH := ⟨139, "best_coloring", "best_coloring", defArgs s_best_coloring, defBody s_best_coloring, defScope s_best_coloring, .none⟩
def dn_10 : HK.FnH := ⟨146, "_law_cell", "_law_cell", defArgs s_L_cell, defBody s_L_cell, defScope s_L_cell, .none⟩
def dn_11 : HK.FnH := ⟨153, "_law_numbers", "_law_numbers", defArgs s_L_numbers, defBody s_L_numbers, defScope s_L_numbers, .none⟩
def dn_12 : HK.FnH := ⟨160, "_law_same", "_law_same", defArgs s_L_same, defBody s_L_same, defScope s_L_same, .none⟩
def dn_13 : HK.FnH := ⟨167, "_law_pairs", "_law_pairs", defArgs s_L_pairs, defBody s_L_pairs, defScope s_L_pairs, .none⟩
def dn_14 : HK.FnH := ⟨172, "_law_edges", "_law_edges", defArgs s_L_edges, defBody s_L_edges, defScope s_L_edges, .none⟩
def dn_15 : HK.FnH := ⟨177, "_law_statement", "_law_statement", defArgs s_L_statement, defBody s_L_statement, defScope s_L_statement, .none⟩
def dn_16 : HK.FnH := ⟨182, "_law_number", "_law_number", defArgs s_L_number, defBody s_L_number, defScope s_L_number, .none⟩
def dn_17 : HK.FnH := ⟨187, "_law_best", "_law_best", defArgs s_L_best, defBody s_L_best, defScope s_L_best, .none⟩
def dn_18 : HK.FnH := ⟨194, "_law_is_told", "_law_is_told", defArgs s_L_is_told, defBody s_L_is_told, defScope s_L_is_told, .none⟩
def dn_19 : HK.FnH := ⟨199, "_law_best_told", "_law_best_told", defArgs s_L_best_told, defBody s_L_best_told, defScope s_L_best_told, .none⟩
def dn_20 : HK.FnH := ⟨206, "_law_refusal", "_law_refusal", defArgs s_L_refusal, defBody s_L_refusal, defScope s_L_refusal, .none⟩
def dn_21 : HK.FnH := ⟨213, "_law_refused", "_law_refused", defArgs s_L_refused, defBody s_L_refused, defScope s_L_refused, .none⟩
def dn_22 : HK.FnH := ⟨218, "law", "law", defArgs s_law, defBody s_law, defScope s_law, .none⟩
def fsL : List HK.FnH := [dn_0, dn_1, dn_2, dn_3, dn_4, dn_5, dn_6, dn_7, dn_8, dn_9, dn_10, dn_11, dn_12, dn_13, dn_14, dn_15, dn_16, dn_17, dn_18, dn_19, dn_20, dn_21, dn_22]
abbrev hR : PySem.W.OpenRow := PySem.W.OpenLaw.row PySem.Challenge.rw_provedunseen_k44_best_by_one_more_color
abbrev qv : Program := PySem.W.view hR.prog [38]
def names0 : List PySem.Str := ["UnseenError", "BadGraph", "BadStatement", "BadWitness", "BadContents", "MOST_NODES", "make_graph", "MOST_INPUTS", "MOST_GATES", "LEAST_COLORS", "MOST_COLORS", "alike", "circuit", "is_gate", "colors", "require_kind", "rows_of", "are_different_colors", "proper_edges", "best_coloring", "_law_cell", "_law_numbers", "_law_same", "_law_pairs", "_law_edges", "_law_statement", "_law_number", "_law_best", "_law_is_told", "_law_best_told"]
def names1 : List PySem.Str := ["_law_refusal", "_law_refused"]
abbrev names : List PySem.Str := names0 ++ names1
def asL : List Addr := [3, 24, 37, 49, 61, 73, 82, 89, 96, 101, 108, 115, 120, 127, 132, 139, 146, 153, 160, 167, 172, 177, 182, 187, 194, 199, 206, 213, 218, 23, 36, 48, 60, 72, 81, 88, 95, 100, 107, 114, 119, 126, 131, 138, 134, 145, 152, 159, 166, 171, 176, 181, 186, 193, 198, 205, 212, 217, 133]
abbrev hk : PySem.W.Hook := HK.hookH asL exB fsL
def ob (s : PySem.W.SharedT) : HK.AlH := HK.lookH asL exB fsL (HandSHeadRun.getT s)
theorem ob_eq (s : PySem.W.SharedT) : ob s = hk.obs s.abs := HK.lookH_eq (HandSHeadRun.getT_eq s)
theorem run (w : World) : HandSHeadRun.RunEq hR qv hk ob 20000 names w := by
  unfold HandSHeadRun.RunEq
  intro os
  kernel_rfl
end K44H
set_option Elab.async false
set_option linter.all false
set_option maxRecDepth 100000
namespace DL
open PySem PySem.Spec L2
open PyProof.Rows hiding St

/-! ### values as data -/
inductive D where
  | non | bl (b : Bool) | int (i : Int) | str (x : Str) | tup (xs : List D) | lst (xs : List D) | obj (c : Nat) (fs : List D)
  /-- a dict of text keys that is not changed -/
  | dct (ks : List Str) (fs : List D)

structure G0 where
  cl : Nat → Addr
  fl : Nat → List Str
abbrev Av := Addr → Prop

/-- a tuple whose object is known to have no dict: one that the program made, or one of the written part -/
def Tu (K : PySem.W.Frag) (H : Hp) (a : Addr) (vs : List V) : Prop :=
  (∃ o : Obj, H a = some (.frz o (.tup vs)) ∧ o.cls = .type "tuple" ∧ o.dict = none) ∨
    ∃ (o : Obj) (its : Array Value) (n : Nat), K.lookup a = some o ∧ o.cls = .type "tuple" ∧ o.dict = none ∧ o.data = .seq its n ∧ its.size ≤ sizeLine ∧ Vals vs its.toList
theorem Tu.sqT {K : PySem.W.Frag} {H : Hp} {a : Addr} {vs : List V} (h : Tu K H a vs) : SqT K H a vs := by
  rcases h with ⟨o, e, _⟩ | ⟨o, its, n, h1, h2, _, h3, h4, h5⟩
  · exact .inl (.inr ⟨o, e⟩)
  · exact .inr ⟨o, its, n, h1, h2, h3, h4, h5⟩

/-- a list that no slot owns -/
def Ls (K : PySem.W.Frag) (H : Hp) (Z : Av) (a : Addr) (vs : List V) : Prop :=
  (¬ Z a ∧ Rd H a (.lst vs)) ∨
    ∃ (o : Obj) (its : Array Value) (n : Nat), K.lookup a = some o ∧ o.cls = .type "list" ∧ o.dict = none ∧ o.data = .seq its n ∧ its.size ≤ sizeLine ∧ Vals vs its.toList
theorem Ls.sq {K : PySem.W.Frag} {H : Hp} {Z : Av} {a : Addr} {vs : List V} (h : Ls K H Z a vs) : SqL K H a vs := h.elim (fun h => .inl h.2) .inr

section
variable (K : PySem.W.Frag) (g : G0) (H : Hp) (Z : Av)
mutual
def Rep : D → V → Prop
  | .non, v => v = .non
  | .bl b, v => v = .bl b
  | .int i, v => v = .int i
  | .str x, v => v = .str x
  | .tup xs, v => ∃ a vs, v = .ref a ∧ Tu K H a vs ∧ RepL xs vs
  | .lst xs, v => ∃ a vs, v = .ref a ∧ Ls K H Z a vs ∧ RepL xs vs
  | .obj c fs, v => ∃ a dx vs, v = .ref a ∧ ¬ Z a ∧ H a = some (.ins (g.cl c) dx ((g.fl c).zip vs)) ∧ (g.fl c).length = vs.length ∧ RepL fs vs
  | .dct ks fs, v => ∃ a kvs, v = .ref a ∧ ¬ Z a ∧ H a = some (.dK kvs) ∧ kvs.map (fun kv => kv.1) = ks.map Sum.inr ∧ RepL fs (kvs.map fun kv => kv.2)
def RepL : List D → List V → Prop
  | [], vs => vs = []
  | x :: xs, vs => ∃ v r, vs = v :: r ∧ Rep x v ∧ RepL xs r
end
end

/-- what is read of (H, Z) is there in (H', Z') -/
structure Kp (H : Hp) (Z : Av) (H' : Hp) (Z' : Av) : Prop where
  same : ∀ a o, H a = some o → ¬ Z a → H' a = some o
  tups : ∀ a o xs, H a = some (.frz o (.tup xs)) → H' a = some (.frz o (.tup xs))
  z : ∀ a, H a ≠ none → ¬ Z a → ¬ Z' a
theorem Kp.of {H H' : Hp} {Z Z' : Av} (s : Same H H') (z : ∀ a, H a ≠ none → Z' a → Z a) : Kp H Z H' Z' :=
  ⟨fun a o e _ => s a o e, fun a o xs h => s a _ h, fun a h n z' => n (z a h z')⟩
theorem Kp.same_ {H H' : Hp} {Z : Av} (s : Same H H') : Kp H Z H' Z := .of s fun _ _ z => z
theorem Kp.tu {H H' : Hp} {Z Z' : Av} {K : PySem.W.Frag} {a : Addr} {vs : List V} (k : Kp H Z H' Z') (h : Tu K H a vs) : Tu K H' a vs := by
  rcases h with ⟨o, e, c⟩ | h
  · exact .inl ⟨o, k.tups _ _ _ e, c⟩
  · exact .inr h
theorem Kp.rd {H H' : Hp} {Z Z' : Av} {a : Addr} {o : HO} (k : Kp H Z H' Z') (n : ¬ Z a) (h : Rd H a o) : Rd H' a o ∧ ¬ Z' a := by
  rcases h with h | ⟨u, h⟩
  · exact ⟨.inl (k.same _ _ h n), k.z a (by rw [h]; simp) n⟩
  · exact ⟨.inr ⟨u, k.same _ _ h n⟩, k.z a (by rw [h]; simp) n⟩

theorem Kp.ls {H H' : Hp} {Z Z' : Av} {K : PySem.W.Frag} {a : Addr} {vs : List V} (k : Kp H Z H' Z') (h : Ls K H Z a vs) : Ls K H' Z' a vs := by
  rcases h with ⟨n, h⟩ | h
  · exact .inl ⟨(k.rd n h).2, (k.rd n h).1⟩
  · exact .inr h
section
variable {K : PySem.W.Frag} {g : G0} {H H' : Hp} {Z Z' : Av}
mutual
theorem Rep.mono (k : Kp H Z H' Z') : ∀ (d : D) (v : V), Rep K g H Z d v → Rep K g H' Z' d v
  | .non, v, h => by unfold Rep at h ⊢; exact h
  | .bl b, v, h => by unfold Rep at h ⊢; exact h
  | .int i, v, h => by unfold Rep at h ⊢; exact h
  | .str x, v, h => by unfold Rep at h ⊢; exact h
  | .tup xs, v, h => by
    unfold Rep at h ⊢
    obtain ⟨a, vs, e, s, r⟩ := h
    exact ⟨a, vs, e, k.tu s, RepL.mono k xs vs r⟩
  | .lst xs, v, h => by
    unfold Rep at h ⊢
    obtain ⟨a, vs, e, s, r⟩ := h
    exact ⟨a, vs, e, k.ls s, RepL.mono k xs vs r⟩
  | .obj c fs, v, h => by
    unfold Rep at h ⊢
    obtain ⟨a, dx, vs, e, n, s, l, r⟩ := h
    exact ⟨a, dx, vs, e, k.z a (by rw [s]; simp) n, k.same _ _ s n, l, RepL.mono k fs vs r⟩
  | .dct ks fs, v, h => by
    unfold Rep at h ⊢
    obtain ⟨a, kvs, e, n, s, l, r⟩ := h
    exact ⟨a, kvs, e, k.z a (by rw [s]; simp) n, k.same _ _ s n, l, RepL.mono k fs _ r⟩
theorem RepL.mono (k : Kp H Z H' Z') : ∀ (ds : List D) (vs : List V), RepL K g H Z ds vs → RepL K g H' Z' ds vs
  | [], vs, h => by unfold RepL at h ⊢; exact h
  | d :: ds, vs, h => by
    unfold RepL at h ⊢
    obtain ⟨v, r, e, h1, h2⟩ := h
    exact ⟨v, r, e, Rep.mono k d v h1, RepL.mono k ds r h2⟩
end
theorem Rep.tup_ {xs : List D} {v : V} : Rep K g H Z (.tup xs) v ↔ ∃ a vs, v = .ref a ∧ Tu K H a vs ∧ RepL K g H Z xs vs := by unfold Rep; exact Iff.rfl
theorem Rep.lst_ {xs : List D} {v : V} : Rep K g H Z (.lst xs) v ↔ ∃ a vs, v = .ref a ∧ Ls K H Z a vs ∧ RepL K g H Z xs vs := by unfold Rep; exact Iff.rfl
theorem Rep.obj_ {c : Nat} {fs : List D} {v : V} : Rep K g H Z (.obj c fs) v ↔ ∃ a dx vs, v = .ref a ∧ ¬ Z a ∧ H a = some (.ins (g.cl c) dx ((g.fl c).zip vs)) ∧ (g.fl c).length = vs.length ∧ RepL K g H Z fs vs := by unfold Rep; exact Iff.rfl
theorem Rep.dct_ {ks : List Str} {fs : List D} {v : V} : Rep K g H Z (.dct ks fs) v ↔ ∃ a kvs, v = .ref a ∧ ¬ Z a ∧ H a = some (.dK kvs) ∧ kvs.map (fun kv => kv.1) = ks.map Sum.inr ∧ RepL K g H Z fs (kvs.map fun kv => kv.2) := by unfold Rep; exact Iff.rfl
theorem Rep.int_ {i : Int} {v : V} : Rep K g H Z (.int i) v ↔ v = .int i := by unfold Rep; exact Iff.rfl
theorem Rep.bl_ {i : Bool} {v : V} : Rep K g H Z (.bl i) v ↔ v = .bl i := by unfold Rep; exact Iff.rfl
theorem Rep.str_ {i : Str} {v : V} : Rep K g H Z (.str i) v ↔ v = .str i := by unfold Rep; exact Iff.rfl
theorem Rep.non_ {v : V} : Rep K g H Z .non v ↔ v = .non := by unfold Rep; exact Iff.rfl
theorem RepL.nil_ {vs : List V} : RepL K g H Z [] vs ↔ vs = [] := by unfold RepL; exact Iff.rfl
theorem RepL.cons_ {d : D} {ds : List D} {vs : List V} : RepL K g H Z (d :: ds) vs ↔ ∃ v r, vs = v :: r ∧ Rep K g H Z d v ∧ RepL K g H Z ds r := by
  constructor
  · intro h; unfold RepL at h; exact h
  · intro h; unfold RepL; exact h
theorem RepL.length : ∀ {ds : List D} {vs : List V}, RepL K g H Z ds vs → ds.length = vs.length
  | [], vs, h => by rw [RepL.nil_.mp h]; rfl
  | d :: ds, vs, h => by
    obtain ⟨v, r, e, _, h2⟩ := RepL.cons_.mp h
    rw [e, List.length_cons, List.length_cons, RepL.length h2]
theorem RepL.append : ∀ {ds es : List D} {vs ws : List V}, RepL K g H Z ds vs → RepL K g H Z es ws → RepL K g H Z (ds ++ es) (vs ++ ws)
  | [], es, vs, ws, h, h' => by rw [RepL.nil_.mp h]; exact h'
  | d :: ds, es, vs, ws, h, h' => by
    obtain ⟨v, r, e, h1, h2⟩ := RepL.cons_.mp h
    rw [e]
    exact RepL.cons_.mpr ⟨v, r ++ ws, rfl, h1, RepL.append h2 h'⟩
theorem RepL.one {d : D} {v : V} (h : Rep K g H Z d v) : RepL K g H Z [d] [v] := RepL.cons_.mpr ⟨v, [], rfl, h, RepL.nil_.mpr rfl⟩
theorem RepL.get : ∀ {ds : List D} {vs : List V} {i : Nat} {d : D}, RepL K g H Z ds vs → ds[i]? = some d → ∃ v, vs[i]? = some v ∧ Rep K g H Z d v
  | [], vs, i, d, h, e => by simp at e
  | c :: ds, vs, 0, d, h, e => by
    obtain ⟨v, r, ev, h1, h2⟩ := RepL.cons_.mp h
    simp at e
    subst e ev
    exact ⟨v, rfl, h1⟩
  | c :: ds, vs, i + 1, d, h, e => by
    obtain ⟨v, r, ev, h1, h2⟩ := RepL.cons_.mp h
    subst ev
    obtain ⟨w, e2, h3⟩ := RepL.get (i := i) h2 (by simpa using e)
    exact ⟨w, by simpa using e2, h3⟩
theorem RepL.set : ∀ {ds : List D} {vs : List V} (i : Nat) {d : D} {v : V}, RepL K g H Z ds vs → Rep K g H Z d v → RepL K g H Z (ds.set i d) (vs.set i v)
  | [], vs, i, d, v, h, _ => by rw [RepL.nil_.mp h]; exact RepL.nil_.mpr rfl
  | c :: ds, vs, 0, d, v, h, hd => by
    obtain ⟨v', r, ev, h1, h2⟩ := RepL.cons_.mp h
    subst ev
    exact RepL.cons_.mpr ⟨v, r, rfl, hd, h2⟩
  | c :: ds, vs, i + 1, d, v, h, hd => by
    obtain ⟨v', r, ev, h1, h2⟩ := RepL.cons_.mp h
    subst ev
    exact RepL.cons_.mpr ⟨v', r.set i v, rfl, h1, RepL.set i h2 hd⟩
theorem RepL.drop : ∀ {ds : List D} {vs : List V} (n : Nat), RepL K g H Z ds vs → RepL K g H Z (ds.drop n) (vs.drop n)
  | ds, vs, 0, h => h
  | [], vs, n + 1, h => by rw [RepL.nil_.mp h]; exact RepL.nil_.mpr rfl
  | c :: ds, vs, n + 1, h => by
    obtain ⟨v', r, ev, h1, h2⟩ := RepL.cons_.mp h
    subst ev
    exact RepL.drop n h2
theorem RepL.take : ∀ {ds : List D} {vs : List V} (n : Nat), RepL K g H Z ds vs → RepL K g H Z (ds.take n) (vs.take n)
  | ds, vs, 0, h => by rw [List.take_zero, List.take_zero]; exact RepL.nil_.mpr rfl
  | [], vs, n + 1, h => by rw [RepL.nil_.mp h]; exact RepL.nil_.mpr rfl
  | c :: ds, vs, n + 1, h => by
    obtain ⟨v', r, ev, h1, h2⟩ := RepL.cons_.mp h
    subst ev
    exact RepL.cons_.mpr ⟨v', r.take n, rfl, h1, RepL.take n h2⟩
theorem RepL.eraseIdx : ∀ {ds : List D} {vs : List V} (i : Nat), RepL K g H Z ds vs → RepL K g H Z (ds.eraseIdx i) (vs.eraseIdx i)
  | [], vs, i, h => by rw [RepL.nil_.mp h]; exact RepL.nil_.mpr rfl
  | c :: ds, vs, 0, h => by
    obtain ⟨v', r, ev, h1, h2⟩ := RepL.cons_.mp h
    subst ev
    exact h2
  | c :: ds, vs, i + 1, h => by
    obtain ⟨v', r, ev, h1, h2⟩ := RepL.cons_.mp h
    subst ev
    exact RepL.cons_.mpr ⟨v', r.eraseIdx i, rfl, h1, RepL.eraseIdx i h2⟩
end

/-! ### slots -/
inductive Sl where
  | fr (d : D) | ow (xs : List D)
def Sl.d : Sl → D
  | .fr d => d
  | .ow xs => .lst xs
abbrev En := List (Option Sl)
abbrev Pl := Option (Str × D)
inductive R (α : Type) where
  | ok (a : α) | ex (c : Nat) (p : Pl) | st
def R.bind {α β : Type} : R α → (α → R β) → R β
  | .ok a, f => f a
  | .ex c p, _ => .ex c p
  | .st, _ => .st
inductive RS where
  | nx (e : En) | rt (s : Sl) | bk (e : En) | ct (e : En) | ex (c : Nat) (p : Pl) (e : En) | st
abbrev M := En → R Sl
abbrev MS := En → RS

def SlIn (K : PySem.W.Frag) (g : G0) (H : Hp) (Z : Av) : Sl → V → Prop
  | .fr d, v => Rep K g H Z d v
  | .ow xs, v => ∃ a vs, v = .ref a ∧ Z a ∧ H a = some (.lst vs) ∧ RepL K g H Z xs vs
structure ERel (K : PySem.W.Frag) (g : G0) (x : St → Prop) (Z : Av) (env : En) (σ : St) (H : Hp) : Prop where
  dom : ∀ a, Z a → H a ≠ none
  ex : x σ
  len : env.length = σ.length
  at_ : ∀ (i : Nat) (s : Sl), env[i]? = some (some s) → ∃ v, σ[i]? = some (some v) ∧ SlIn K g H Z s v
def ExP (K : PySem.W.Frag) (g : G0) (H : Hp) (Z : Av) : Pl → Option Addr → Prop
  | none, dd => dd = none
  | some (f, x), dd => ∃ da v, dd = some da ∧ H da = some (.xd [(f, v)]) ∧ Rep K g H Z x v
def PostE (K : PySem.W.Frag) (g : G0) (W : WX) (Z : Av) (σ : St) (H : Hp) (Q : VK) : R Sl → Prop
  | .ok (.fr d) => ∀ v H', Same H H' → Rep K g H' Z d v → Q v H'
  | .ok (.ow xs) => ∀ a vs H', Same H H' → H a = none → H' a = some (.lst vs) → RepL K g H' (fun b => Z b ∨ b = a) xs vs → Q (.ref a) H'
  | .ex c p => ∀ H' dd, Same H H' → ExP K g H' Z p dd → W (.ref (g.cl c)) dd σ H'
  | .st => False
def PostD (K : PySem.W.Frag) (g : G0) (W : WX) (Z : Av) (σ : St) (H : Hp) (Q : VK) : R Sl → Prop
  | .ok s => ∀ v H', Same H H' → Rep K g H' Z s.d v → Q v H'
  | .ex c p => ∀ H' dd, Same H H' → ExP K g H' Z p dd → W (.ref (g.cl c)) dd σ H'
  | .st => False
def PostA (K : PySem.W.Frag) (g : G0) (W : WX) (Z : Av) (σ : St) (H : Hp) (Q : List V → Hp → Prop) : R (List D) → Prop
  | .ok ds => ∀ vs H', Same H H' → RepL K g H' Z ds vs → Q vs H'
  | .ex c p => ∀ H' dd, Same H H' → ExP K g H' Z p dd → W (.ref (g.cl c)) dd σ H'
  | .st => False
def PostT (K : PySem.W.Frag) (g : G0) (W : WX) (Z : Av) (σ : St) (H : Hp) (Q : Bool → Hp → Prop) : R Bool → Prop
  | .ok b => ∀ H', Same H H' → Q b H'
  | .ex c p => ∀ H' dd, Same H H' → ExP K g H' Z p dd → W (.ref (g.cl c)) dd σ H'
  | .st => False

def tM (K : PySem.W.Frag) (g : G0) (x : St → Prop) (W : WX) (m : M) : TE := fun σ H Q => ∃ env Z, ERel K g x Z env σ H ∧ PostE K g W Z σ H Q (m env)
def tA (K : PySem.W.Frag) (g : G0) (x : St → Prop) (W : WX) (m : En → R (List D)) : TA := fun σ H Q => ∃ env Z, ERel K g x Z env σ H ∧ PostA K g W Z σ H Q (m env)
def tT (K : PySem.W.Frag) (g : G0) (x : St → Prop) (W : WX) (m : En → R Bool) : TT := fun σ H Q => ∃ env Z, ERel K g x Z env σ H ∧ PostT K g W Z σ H Q (m env)
abbrev PEd (g : G0) (x : St → Prop) (W : WX) (X : Cx) (e : Expr) (m : M) : Prop := PE X e (tM X.K g x W m)
abbrev PAd (g : G0) (x : St → Prop) (W : WX) (X : Cx) (es : List Expr) (m : En → R (List D)) : Prop := PA X es (tA X.K g x W m)
abbrev PTd (g : G0) (x : St → Prop) (W : WX) (X : Cx) (e : Expr) (m : En → R Bool) : Prop := PT X e (tT X.K g x W m)

theorem weakE {X : Cx} {e : Expr} {t t' : TE} (h : PE X e t) (w : ∀ σ H Q, t' σ H Q → t σ H Q) : PE X e t' := ⟨fun pins s σ H Q I q => h.run pins s σ H Q I (w _ _ _ q)⟩
theorem weakA {X : Cx} {e : List Expr} {t t' : TA} (h : PA X e t) (w : ∀ σ H Q, t' σ H Q → t σ H Q) : PA X e t' := ⟨fun pos pins s σ H Q I q => h.run pos pins s σ H Q I (w _ _ _ q)⟩
theorem weakT {X : Cx} {e : Expr} {t t' : TT} (h : PT X e t) (w : ∀ σ H Q, t' σ H Q → t σ H Q) : PT X e t' := ⟨fun pins s σ H Q I q => h.run pins s σ H Q I (w _ _ _ q)⟩
theorem weakS {X : Cx} {e : Stmt} {t t' : TS} (h : PS X e t) (w : ∀ D σ H, t' D σ H → t D σ H) : PS X e t' := ⟨fun pins s σ H D I q => h.run pins s σ H D I (w _ _ _ q)⟩
theorem weakSs {X : Cx} {e : List Stmt} {t t' : TS} (h : PSs X e t) (w : ∀ D σ H, t' D σ H → t D σ H) : PSs X e t' := ⟨fun pins s σ H D I q => h.run pins s σ H D I (w _ _ _ q)⟩

section
variable {K : PySem.W.Frag} {g : G0} {x : St → Prop} {W : WX} {Z : Av} {env : En} {σ : St} {H H' : Hp}
theorem SlIn.mono {s : Sl} {v : V} (k : Same H H') (h : SlIn K g H Z s v) : SlIn K g H' Z s v := by
  cases s with
  | fr d => exact Rep.mono (.same_ k) d v h
  | ow xs =>
    obtain ⟨a, vs, e, z, p, r⟩ := h
    exact ⟨a, vs, e, z, k _ _ p, RepL.mono (.same_ k) xs vs r⟩
theorem dom_mono (k : Same H H') (h : ∀ a, Z a → H a ≠ none) : ∀ a, Z a → H' a ≠ none := fun a z e => h a z (k.free e)
theorem ERel.mono (k : Same H H') (h : ERel K g x Z env σ H) : ERel K g x Z env σ H' :=
  ⟨dom_mono k h.dom, h.ex, h.len, fun i s e => let ⟨v, e2, r⟩ := h.at_ i s e; ⟨v, e2, r.mono k⟩⟩
theorem PostE.later {Q : VK} {r : R Sl} (k : Same H H') (h : PostE K g W Z σ H Q r) : PostE K g W Z σ H' Q r := by
  cases r with
  | ok s =>
    cases s with
    | fr d => exact fun v H2 k2 q => h v H2 (k.trans k2) q
    | ow xs => exact fun a vs H2 k2 n e q => h a vs H2 (k.trans k2) (k.free n) e q
  | ex c p => exact fun H2 dd k2 q => h H2 dd (k.trans k2) q
  | st => exact h
theorem PostA.later {Q : List V → Hp → Prop} {r : R (List D)} (k : Same H H') (h : PostA K g W Z σ H Q r) : PostA K g W Z σ H' Q r := by
  cases r with
  | ok s => exact fun v H2 k2 q => h v H2 (k.trans k2) q
  | ex c p => exact fun H2 dd k2 q => h H2 dd (k.trans k2) q
  | st => exact h
theorem PostT.later {Q : Bool → Hp → Prop} {r : R Bool} (k : Same H H') (h : PostT K g W Z σ H Q r) : PostT K g W Z σ H' Q r := by
  cases r with
  | ok s => exact fun H2 k2 => h H2 (k.trans k2)
  | ex c p => exact fun H2 dd k2 q => h H2 dd (k.trans k2) q
  | st => exact h
/-- a fresh list's value, kept -/
theorem rep_fresh {xs : List D} {a : Addr} {vs : List V} (dom : ∀ a, Z a → H a ≠ none) (n : H a = none) (e : H' a = some (.lst vs)) (r : RepL K g H' (fun b => Z b ∨ b = a) xs vs) : Rep K g H' Z (.lst xs) (.ref a) :=
  Rep.lst_.mpr ⟨a, vs, rfl, .inl ⟨fun z => dom a z n, .inl e⟩, RepL.mono (.of (Same.refl _) fun b _ z => .inl z) xs vs r⟩
theorem use {m : M} {Q : VK} (er : ERel K g x Z env σ H) (h : PostD K g W Z σ H Q (m env)) : tM K g x W m σ H Q := by
  refine ⟨env, Z, er, ?_⟩
  cases e : m env with
  | ok s =>
    rw [e] at h
    cases s with
    | fr d => exact h
    | ow xs => exact fun a vs H' k n p r => h (.ref a) H' k (rep_fresh er.dom n p r)
  | ex c p => rw [e] at h; exact h
  | st => rw [e] at h; exact h
/-- operands, one behind the other -/
theorem use1 {m : M} {f : Sl → R Sl} {Q Q' : VK} (er : ERel K g x Z env σ H) (hp : PostE K g W Z σ H Q ((m env).bind f))
    (h : ∀ s v H', m env = .ok s → Same H H' → Rep K g H' Z s.d v → PostE K g W Z σ H' Q (f s) → Q' v H') : tM K g x W m σ H Q' := by
  refine use er ?_
  cases e : m env with
  | ok s =>
    rw [e] at hp
    exact fun v H' k r => h s v H' e k r (hp.later k)
  | ex c p => rw [e] at hp; exact hp
  | st => rw [e] at hp; exact hp
theorem use1A {m : M} {f : Sl → R (List D)} {Q : List V → Hp → Prop} {Q' : VK} (er : ERel K g x Z env σ H) (hp : PostA K g W Z σ H Q ((m env).bind f))
    (h : ∀ s v H', m env = .ok s → Same H H' → Rep K g H' Z s.d v → PostA K g W Z σ H' Q (f s) → Q' v H') : tM K g x W m σ H Q' := by
  refine use er ?_
  cases e : m env with
  | ok s =>
    rw [e] at hp
    exact fun v H' k r => h s v H' e k r (hp.later k)
  | ex c p => rw [e] at hp; exact hp
  | st => rw [e] at hp; exact hp
theorem use1T {m : M} {f : Sl → R Bool} {Q : Bool → Hp → Prop} {Q' : VK} (er : ERel K g x Z env σ H) (hp : PostT K g W Z σ H Q ((m env).bind f))
    (h : ∀ s v H', m env = .ok s → Same H H' → Rep K g H' Z s.d v → PostT K g W Z σ H' Q (f s) → Q' v H') : tM K g x W m σ H Q' := by
  refine use er ?_
  cases e : m env with
  | ok s =>
    rw [e] at hp
    exact fun v H' k r => h s v H' e k r (hp.later k)
  | ex c p => rw [e] at hp; exact hp
  | st => rw [e] at hp; exact hp
theorem useA {m : En → R (List D)} {f : List D → R Sl} {Q : VK} {Q' : List V → Hp → Prop} (er : ERel K g x Z env σ H) (hp : PostE K g W Z σ H Q ((m env).bind f))
    (h : ∀ ds vs H', m env = .ok ds → Same H H' → RepL K g H' Z ds vs → PostE K g W Z σ H' Q (f ds) → Q' vs H') : tA K g x W m σ H Q' := by
  refine ⟨env, Z, er, ?_⟩
  cases e : m env with
  | ok s =>
    rw [e] at hp
    exact fun v H' k r => h s v H' e k r (hp.later k)
  | ex c p => rw [e] at hp; exact hp
  | st => rw [e] at hp; exact hp
theorem useAA {m : En → R (List D)} {f : List D → R (List D)} {Q : List V → Hp → Prop} {Q' : List V → Hp → Prop} (er : ERel K g x Z env σ H) (hp : PostA K g W Z σ H Q ((m env).bind f))
    (h : ∀ ds vs H', m env = .ok ds → Same H H' → RepL K g H' Z ds vs → PostA K g W Z σ H' Q (f ds) → Q' vs H') : tA K g x W m σ H Q' := by
  refine ⟨env, Z, er, ?_⟩
  cases e : m env with
  | ok s =>
    rw [e] at hp
    exact fun v H' k r => h s v H' e k r (hp.later k)
  | ex c p => rw [e] at hp; exact hp
  | st => rw [e] at hp; exact hp
theorem useT {m : En → R Bool} {f : Bool → R Sl} {Q : VK} {Q' : Bool → Hp → Prop} (er : ERel K g x Z env σ H) (hp : PostE K g W Z σ H Q ((m env).bind f))
    (h : ∀ b H', m env = .ok b → Same H H' → PostE K g W Z σ H' Q (f b) → Q' b H') : tT K g x W m σ H Q' := by
  refine ⟨env, Z, er, ?_⟩
  cases e : m env with
  | ok s =>
    rw [e] at hp
    exact fun H' k => h s H' e k (hp.later k)
  | ex c p => rw [e] at hp; exact hp
  | st => rw [e] at hp; exact hp
theorem useTT {m : En → R Bool} {f : Bool → R Bool} {Q : Bool → Hp → Prop} {Q' : Bool → Hp → Prop} (er : ERel K g x Z env σ H) (hp : PostT K g W Z σ H Q ((m env).bind f))
    (h : ∀ b H', m env = .ok b → Same H H' → PostT K g W Z σ H' Q (f b) → Q' b H') : tT K g x W m σ H Q' := by
  refine ⟨env, Z, er, ?_⟩
  cases e : m env with
  | ok s =>
    rw [e] at hp
    exact fun H' k => h s H' e k (hp.later k)
  | ex c p => rw [e] at hp; exact hp
  | st => rw [e] at hp; exact hp
theorem PostE.put {Q : VK} {d : D} {v : V} {W : WX} (h : PostE K g W Z σ H Q (.ok (.fr d))) (r : Rep K g H Z d v) : Q v H := h v H (Same.refl _) r
end
end DL
set_option Elab.async false
set_option linter.all false
set_option maxRecDepth 100000
namespace DL
open PySem PySem.Spec L2
open PyProof.Rows hiding St

/-! ### expressions -/
def mVar (i : Nat) : M := fun env => match env[i]? with
  | some (some (.fr d)) => .ok (.fr d)
  | _ => .st
def mC (d : D) : M := fun _ => .ok (.fr d)
abbrev B := En → R D
def mB (m : M) : B := fun env => (m env).bind fun s => .ok s.d
def mBV (i : Nat) : B := fun env => match env[i]? with
  | some (some s) => .ok s.d
  | _ => .st
def mBin (F : D → D → R Sl) (ma mb : B) : M := fun env => (ma env).bind fun x => (mb env).bind fun y => F x y
def mUn (F : D → R Sl) (ma : B) : M := fun env => (ma env).bind F
def bNil : En → R (List D) := fun _ => .ok []
def bCons (ma : B) (mr : En → R (List D)) : En → R (List D) := fun env => (ma env).bind fun x => (mr env).bind fun xs => .ok (x :: xs)
def mNil : En → R (List D) := fun _ => .ok []
def mCons (ma : M) (mr : En → R (List D)) : En → R (List D) := fun env => (ma env).bind fun x => (mr env).bind fun xs => .ok (x.d :: xs)
def mCall (F : List D → R Sl) (ma : En → R (List D)) : M := fun env => (ma env).bind F
def lim : Nat := 1000000
def fTup (xs : List D) : R Sl := if xs.length ≤ lim then .ok (.fr (.tup xs)) else .st
def fLst (xs : List D) : R Sl := if xs.length ≤ lim then .ok (.ow xs) else .st
def asB : D → R Bool
  | .bl b => .ok b
  | _ => .st
def mTest (m : B) : En → R Bool := fun env => (m env).bind asB
def tNotM (t : En → R Bool) : En → R Bool := fun env => (t env).bind fun b => .ok (!b)
def tAndM (t u : En → R Bool) : En → R Bool := fun env => (t env).bind fun b => if b = true then u env else .ok false
def tOrM (t u : En → R Bool) : En → R Bool := fun env => (t env).bind fun b => if b = true then .ok true else u env
def mAnd (a b : B) : M := fun env => (a env).bind fun s => (asB s).bind fun c => if c = true then (b env).bind fun s => (asB s).bind fun e => .ok (.fr (.bl e)) else .ok (.fr (.bl false))
def mOr (a b : B) : M := fun env => (a env).bind fun s => (asB s).bind fun c => if c = true then .ok (.fr (.bl true)) else (b env).bind fun s => (asB s).bind fun e => .ok (.fr (.bl e))
def mNot (a : B) : M := fun env => (a env).bind fun s => (asB s).bind fun c => .ok (.fr (.bl (!c)))
def mIf (t : En → R Bool) (a b : M) : M := fun env => (t env).bind fun c => if c = true then (a env).bind fun s => .ok (.fr s.d) else (b env).bind fun s => .ok (.fr s.d)

/-! ### rules of values -/
/-- a value that is looked at: a list may be one that a slot owns -/
def RepB (K : PySem.W.Frag) (g : G0) (H : Hp) (Z : Av) (d : D) (v : V) : Prop :=
  Rep K g H Z d v ∨ ∃ xs a vs, d = .lst xs ∧ v = .ref a ∧ H a = some (.lst vs) ∧ RepL K g H Z xs vs
def RepBL (K : PySem.W.Frag) (g : G0) (H : Hp) (Z : Av) : List D → List V → Prop
  | [], vs => vs = []
  | d :: ds, vs => ∃ v r, vs = v :: r ∧ RepB K g H Z d v ∧ RepBL K g H Z ds r
def PostB (K : PySem.W.Frag) (g : G0) (W : WX) (Z : Av) (σ : L2.St) (H : Hp) (Q : VK) : R D → Prop
  | .ok d => ∀ v H', Same H H' → RepB K g H' Z d v → Q v H'
  | .ex c p => ∀ H' dd, Same H H' → ExP K g H' Z p dd → W (.ref (g.cl c)) dd σ H'
  | .st => False
def PostBA (K : PySem.W.Frag) (g : G0) (W : WX) (Z : Av) (σ : L2.St) (H : Hp) (Q : List V → Hp → Prop) : R (List D) → Prop
  | .ok ds => ∀ vs H', Same H H' → RepBL K g H' Z ds vs → Q vs H'
  | .ex c p => ∀ H' dd, Same H H' → ExP K g H' Z p dd → W (.ref (g.cl c)) dd σ H'
  | .st => False
def tB (K : PySem.W.Frag) (g : G0) (x : L2.St → Prop) (W : WX) (m : B) : TE := fun σ H Q => ∃ env Z, ERel K g x Z env σ H ∧ PostB K g W Z σ H Q (m env)
def tBA (K : PySem.W.Frag) (g : G0) (x : L2.St → Prop) (W : WX) (m : En → R (List D)) : TA := fun σ H Q => ∃ env Z, ERel K g x Z env σ H ∧ PostBA K g W Z σ H Q (m env)
abbrev PBd (g : G0) (x : L2.St → Prop) (W : WX) (X : Cx) (e : Expr) (m : B) : Prop := PE X e (tB X.K g x W m)
abbrev PBAd (g : G0) (x : L2.St → Prop) (W : WX) (X : Cx) (es : List Expr) (m : En → R (List D)) : Prop := PA X es (tBA X.K g x W m)
section
variable {K : PySem.W.Frag} {g : G0} {x : L2.St → Prop} {W : WX} {Z : Av} {env : En} {σ : L2.St} {H H' : Hp}
theorem RepB.mono (k : Same H H') {d : D} {v : V} (h : RepB K g H Z d v) : RepB K g H' Z d v := by
  rcases h with h | ⟨xs, a, vs, e1, e2, e3, r⟩
  · exact .inl (Rep.mono (.same_ k) _ _ h)
  · exact .inr ⟨xs, a, vs, e1, e2, k _ _ e3, RepL.mono (.same_ k) _ _ r⟩
theorem RepBL.mono (k : Same H H') : ∀ {ds : List D} {vs : List V}, RepBL K g H Z ds vs → RepBL K g H' Z ds vs
  | [], vs, h => h
  | d :: ds, vs, ⟨v, r, e, h1, h2⟩ => ⟨v, r, e, h1.mono k, RepBL.mono k h2⟩
theorem RepB.int_ {i : Int} {v : V} (h : RepB K g H Z (.int i) v) : v = .int i := h.elim Rep.int_.mp fun ⟨_, _, _, e, _⟩ => by cases e
theorem RepB.bl_ {i : Bool} {v : V} (h : RepB K g H Z (.bl i) v) : v = .bl i := h.elim Rep.bl_.mp fun ⟨_, _, _, e, _⟩ => by cases e
theorem RepB.str_ {i : Str} {v : V} (h : RepB K g H Z (.str i) v) : v = .str i := h.elim Rep.str_.mp fun ⟨_, _, _, e, _⟩ => by cases e
theorem RepB.non_ {v : V} (h : RepB K g H Z .non v) : v = .non := h.elim Rep.non_.mp fun ⟨_, _, _, e, _⟩ => by cases e
theorem RepB.tup_ {xs : List D} {v : V} (h : RepB K g H Z (.tup xs) v) : ∃ a vs, v = .ref a ∧ Tu K H a vs ∧ RepL K g H Z xs vs := h.elim Rep.tup_.mp fun ⟨_, _, _, e, _⟩ => by cases e
theorem RepB.lst_ {xs : List D} {v : V} (h : RepB K g H Z (.lst xs) v) : ∃ a vs, v = .ref a ∧ SqL K H a vs ∧ RepL K g H Z xs vs := by
  rcases h with h | ⟨ys, a, vs, e1, e2, e3, r⟩
  · obtain ⟨a, vs, e, rd, r⟩ := Rep.lst_.mp h
    exact ⟨a, vs, e, rd.sq, r⟩
  · cases e1
    exact ⟨a, vs, e2, SqL.of e3, r⟩
theorem PostB.later {Q : VK} {r : R D} (k : Same H H') (h : PostB K g W Z σ H Q r) : PostB K g W Z σ H' Q r := by
  cases r with
  | ok s => exact fun v H2 k2 q => h v H2 (k.trans k2) q
  | ex c p => exact fun H2 dd k2 q => h H2 dd (k.trans k2) q
  | st => exact h
theorem PostBA.later {Q : List V → Hp → Prop} {r : R (List D)} (k : Same H H') (h : PostBA K g W Z σ H Q r) : PostBA K g W Z σ H' Q r := by
  cases r with
  | ok s => exact fun v H2 k2 q => h v H2 (k.trans k2) q
  | ex c p => exact fun H2 dd k2 q => h H2 dd (k.trans k2) q
  | st => exact h
theorem useB {m : B} {f : D → R Sl} {Q Q' : VK} (er : ERel K g x Z env σ H) (hp : PostE K g W Z σ H Q ((m env).bind f))
    (h : ∀ d v H', m env = .ok d → Same H H' → RepB K g H' Z d v → PostE K g W Z σ H' Q (f d) → Q' v H') : tB K g x W m σ H Q' := by
  refine ⟨env, Z, er, ?_⟩
  cases e : m env with
  | ok s => rw [e] at hp; exact fun v H' k r => h s v H' e k r (hp.later k)
  | ex c p => rw [e] at hp; exact hp
  | st => rw [e] at hp; exact hp
theorem useBA {m : B} {f : D → R (List D)} {Q : List V → Hp → Prop} {Q' : VK} (er : ERel K g x Z env σ H) (hp : PostBA K g W Z σ H Q ((m env).bind f))
    (h : ∀ d v H', m env = .ok d → Same H H' → RepB K g H' Z d v → PostBA K g W Z σ H' Q (f d) → Q' v H') : tB K g x W m σ H Q' := by
  refine ⟨env, Z, er, ?_⟩
  cases e : m env with
  | ok s => rw [e] at hp; exact fun v H' k r => h s v H' e k r (hp.later k)
  | ex c p => rw [e] at hp; exact hp
  | st => rw [e] at hp; exact hp
theorem useBT {m : B} {f : D → R Bool} {Q : Bool → Hp → Prop} {Q' : VK} (er : ERel K g x Z env σ H) (hp : PostT K g W Z σ H Q ((m env).bind f))
    (h : ∀ d v H', m env = .ok d → Same H H' → RepB K g H' Z d v → PostT K g W Z σ H' Q (f d) → Q' v H') : tB K g x W m σ H Q' := by
  refine ⟨env, Z, er, ?_⟩
  cases e : m env with
  | ok s => rw [e] at hp; exact fun v H' k r => h s v H' e k r (hp.later k)
  | ex c p => rw [e] at hp; exact hp
  | st => rw [e] at hp; exact hp
theorem useBL {m : En → R (List D)} {f : List D → R Sl} {Q : VK} {Q' : List V → Hp → Prop} (er : ERel K g x Z env σ H) (hp : PostE K g W Z σ H Q ((m env).bind f))
    (h : ∀ ds vs H', m env = .ok ds → Same H H' → RepBL K g H' Z ds vs → PostE K g W Z σ H' Q (f ds) → Q' vs H') : tBA K g x W m σ H Q' := by
  refine ⟨env, Z, er, ?_⟩
  cases e : m env with
  | ok s => rw [e] at hp; exact fun v H' k r => h s v H' e k r (hp.later k)
  | ex c p => rw [e] at hp; exact hp
  | st => rw [e] at hp; exact hp
theorem useBLA {m : En → R (List D)} {f : List D → R (List D)} {Q : List V → Hp → Prop} {Q' : List V → Hp → Prop} (er : ERel K g x Z env σ H) (hp : PostBA K g W Z σ H Q ((m env).bind f))
    (h : ∀ ds vs H', m env = .ok ds → Same H H' → RepBL K g H' Z ds vs → PostBA K g W Z σ H' Q (f ds) → Q' vs H') : tBA K g x W m σ H Q' := by
  refine ⟨env, Z, er, ?_⟩
  cases e : m env with
  | ok s => rw [e] at hp; exact fun v H' k r => h s v H' e k r (hp.later k)
  | ex c p => rw [e] at hp; exact hp
  | st => rw [e] at hp; exact hp
end
def OpF (K : PySem.W.Frag) (r : R2) (F : D → D → R Sl) : Prop := ∀ (g : G0) (W : WX) (H : Hp) (Z : Av) (σ : L2.St) (x y : D) (v u : V) (Q : VK),
  (∀ a, Z a → H a ≠ none) → RepB K g H Z x v → RepB K g H Z y u → PostE K g W Z σ H Q (F x y) → r v u H Q
def UnF (K : PySem.W.Frag) (r : V → Hp → VK → Prop) (F : D → R Sl) : Prop := ∀ (g : G0) (W : WX) (H : Hp) (Z : Av) (σ : L2.St) (x : D) (v : V) (Q : VK),
  (∀ a, Z a → H a ≠ none) → RepB K g H Z x v → PostE K g W Z σ H Q (F x) → r v H Q
def CallF (K : PySem.W.Frag) (r : List V → Hp → VK → Prop) (F : List D → R Sl) : Prop := ∀ (g : G0) (W : WX) (H : Hp) (Z : Av) (σ : L2.St) (xs : List D) (vs : List V) (Q : VK),
  (∀ a, Z a → H a ≠ none) → RepBL K g H Z xs vs → PostE K g W Z σ H Q (F xs) → r vs H Q

theorem limLine {n : Nat} (h : n ≤ lim) : n ≤ sizeLine := by rw [sizeLine_eq]; unfold lim at h; omega
theorem limLine' {n : Nat} (h : n < lim) : n < sizeLine := by rw [sizeLine_eq]; unfold lim at h; omega

section
variable {g : G0} {x : L2.St → Prop} {W : WX} {X : Cx} {a b e : Expr} {es : List Expr} {pos : Pos} {m mA : M} {ma mb mt : B} {mr : En → R (List D)}
theorem tM.imp {Q Q' : VK} {σ : L2.St} {H : Hp} (h : tM X.K g x W m σ H Q) (q : ∀ v H', Q v H' → Q' v H') : tM X.K g x W m σ H Q' := by
  obtain ⟨env, Z, er, hp⟩ := h
  refine ⟨env, Z, er, ?_⟩
  cases e : m env with
  | ok s =>
    rw [e] at hp
    cases s with
    | fr d => exact fun v H' k r => q _ _ (hp v H' k r)
    | ow xs => exact fun a vs H' k n p r => q _ _ (hp a vs H' k n p r)
  | ex c p => rw [e] at hp; exact hp
  | st => rw [e] at hp; exact hp

theorem de_var (i : Nat) {y : Str} (hN : X.N[i]? = some y := by rfl) (hv : Vis X.env.scope y := by first | exact Or.inl rfl | exact Or.inr (Or.inl rfl) | exact Or.inr (Or.inr rfl)) (hd : (y == ("__debug__" : Str)) = false := by decide)
    (hcd : (y == ("__classdict__" : Str)) = false := by decide) : PEd g x W X (.Name y pos) (mVar i) := by
  refine weakE (pe_var hN hv hd hcd) fun σ H Q ⟨env, Z, er, hp⟩ => ?_
  unfold mVar at hp
  split at hp
  · rename_i d e
    obtain ⟨v, e2, r⟩ := er.at_ i _ e
    exact ⟨v, e2, hp v H (Same.refl _) r⟩
  · exact hp.elim
theorem de_C {d : D} {v : V} (h : PE X e (tC v)) (hr : ∀ (K : PySem.W.Frag) (g : G0) (H : Hp) (Z : Av), Rep K g H Z d v) : PEd g x W X e (mC d) :=
  weakE h fun σ H Q ⟨env, Z, er, hp⟩ => hp v H (Same.refl _) (hr _ _ _ _)
theorem de_int {i : Int} {j : Nat} : PEd g x W X (.Constant (.int i) j pos) (mC (.int i)) := de_C pe_int fun _ _ _ _ => Rep.int_.mpr rfl
theorem de_bl {i : Bool} {j : Nat} : PEd g x W X (.Constant (.bool i) j pos) (mC (.bl i)) := de_C pe_bl fun _ _ _ _ => Rep.bl_.mpr rfl
theorem de_non {j : Nat} : PEd g x W X (.Constant .none j pos) (mC .non) := de_C pe_non fun _ _ _ _ => Rep.non_.mpr rfl
theorem de_str {i : Str} {j : Nat} : PEd g x W X (.Constant (.str i) j pos) (mC (.str i)) := de_C pe_str fun _ _ _ _ => Rep.str_.mpr rfl
theorem de_globI {y : Str} {i : Int} {t : Tok} (hg : Gl X y) (hm : X.mg y = some (.int i t)) (hd : (y == ("__debug__" : Str)) = false := by decide) : PEd g x W X (.Name y pos) (mC (.int i)) :=
  de_C (pe_glob (v := V.int i) hg hm ⟨t, rfl⟩ hd) fun _ _ _ _ => Rep.int_.mpr rfl
theorem de_globS {y : Str} {i : Str} {t : Tok} (hg : Gl X y) (hm : X.mg y = some (.str i t)) (hd : (y == ("__debug__" : Str)) = false := by decide) : PEd g x W X (.Name y pos) (mC (.str i)) :=
  de_C (pe_glob (v := V.str i) hg hm ⟨t, rfl⟩ hd) fun _ _ _ _ => Rep.str_.mpr rfl

theorem de_b (h : PEd g x W X e m) : PBd g x W X e (mB m) := by
  refine weakE h fun σ H Q ⟨env, Z, er, hp⟩ => use er ?_
  unfold mB at hp
  cases em : m env with
  | ok s => rw [em] at hp; exact fun v H' k r => hp v H' k (.inl r)
  | ex c p => rw [em] at hp; exact hp
  | st => rw [em] at hp; exact hp
theorem de_v (i : Nat) {y : Str} (hN : X.N[i]? = some y := by rfl) (hv : Vis X.env.scope y := by first | exact Or.inl rfl | exact Or.inr (Or.inl rfl) | exact Or.inr (Or.inr rfl)) (hd : (y == ("__debug__" : Str)) = false := by decide)
    (hcd : (y == ("__classdict__" : Str)) = false := by decide) : PBd g x W X (.Name y pos) (mBV i) := by
  refine weakE (pe_var hN hv hd hcd) fun σ H Q ⟨env, Z, er, hp⟩ => ?_
  unfold mBV at hp
  split at hp
  · rename_i s e
    obtain ⟨v, e2, r⟩ := er.at_ i _ e
    refine ⟨v, e2, hp v H (Same.refl _) ?_⟩
    cases s with
    | fr d => exact .inl r
    | ow xs =>
      obtain ⟨a, vs, ev, _, p, rr⟩ := r
      exact .inr ⟨xs, a, vs, rfl, ev, p, rr⟩
  · exact hp.elim
theorem op2 {r : R2} {F : D → D → R Sl} (hF : OpF X.K r F) {σ : L2.St} {H : Hp} {Q : VK} (h : tM X.K g x W (mBin F ma mb) σ H Q) : tOp r (tB X.K g x W ma) (tB X.K g x W mb) σ H Q := by
  obtain ⟨env, Z, er, hp⟩ := h
  refine useB er hp fun s v H1 e1 k1 r1 hp1 => ?_
  refine useB (er.mono k1) hp1 fun s2 u H2 e2 k2 r2 hp2 => ?_
  exact hF g W H2 Z σ _ _ _ _ _ (dom_mono (k1.trans k2) er.dom) (r1.mono k2) r2 hp2
theorem de_op {op : Operator} {r : R2} {F : D → D → R Sl} (ho : OpR X (binaryOp op) r) (hF : OpF X.K r F) (ha : PBd g x W X a ma) (hb : PBd g x W X b mb) : PEd g x W X (.BinOp a op b pos) (mBin F ma mb) :=
  weakE (pe_op ho ha hb) fun σ H Q h => op2 hF h
theorem de_cmp {op : CmpOp} {r : R2} {F : D → D → R Sl} (ho : OpR X (compareOp op) r) (hF : OpF X.K r F) (ha : PBd g x W X a ma) (hb : PBd g x W X b mb) (hm : behindInMarks op b = false) : PEd g x W X (.Compare a [op] [b] pos) (mBin F ma mb) :=
  weakE (pe_cmpR ho ha hb hm) fun σ H Q h => op2 hF h
theorem toTest {m : B} {σ : L2.St} {H : Hp} {Q : Bool → Hp → Prop} (h : tT X.K g x W (mTest m) σ H Q) : tB X.K g x W m σ H fun v H' => ∃ k, v = .bl k ∧ Q k H' := by
  obtain ⟨env, Z, er, hp⟩ := h
  refine useBT er hp fun d v H1 e1 k1 r1 hp1 => ?_
  cases d with
  | bl b => exact ⟨b, r1.bl_, hp1 H1 (Same.refl _)⟩
  | _ => exact hp1.elim
theorem toTestM {m : M} {σ : L2.St} {H : Hp} {Q : Bool → Hp → Prop} (h : tT X.K g x W (mTest (mB m)) σ H Q) : tM X.K g x W m σ H fun v H' => ∃ k, v = .bl k ∧ Q k H' := by
  obtain ⟨env, Z, er, hp⟩ := h
  refine use er ?_
  unfold mTest mB at hp
  cases em : m env with
  | ok s =>
    rw [em] at hp
    have hp : PostT X.K g W Z σ H Q (asB s.d) := hp
    intro v H' k r
    cases ed : s.d with
    | bl b => rw [ed] at hp r; exact ⟨b, Rep.bl_.mp r, hp H' k⟩
    | _ => rw [ed] at hp; exact hp.elim
  | ex c p => rw [em] at hp; exact hp
  | st => rw [em] at hp; exact hp
theorem dt_cmp {op : CmpOp} {r : R2} {F : D → D → R Sl} (ho : OpR X (compareOp op) r) (hF : OpF X.K r F) (ha : PBd g x W X a ma) (hb : PBd g x W X b mb) (hm : behindInMarks op b = false) : PTd g x W X (.Compare a [op] [b] pos) (mTest (mB (mBin F ma mb))) :=
  weakT (pt_cmpR ho ha hb hm) fun σ H Q h => op2 hF (toTestM h)
theorem dt_val (h : PBd g x W X e mt) (he : ∀ whole, isTrue e X.env whole = (do let v ← whole; standAt e.pos; holding [v] (truthy v)) := by intro _; rfl) : PTd g x W X e (mTest mt) :=
  weakT (pt_val h he) fun σ H Q h => toTest h
theorem dt_not {t : En → R Bool} (h : PTd g x W X e t) : PTd g x W X (.UnaryOp .Not e pos) (tNotM t) :=
  weakT (pt_not h) fun σ H Q ⟨env, Z, er, hp⟩ => useTT er hp fun b H' e k hp' => hp' H' (Same.refl _)
abbrev PWd (g : G0) (x : L2.St → Prop) (W : WX) (X : Cx) (e : Expr) (m : En → R Bool) : Prop := PW X e (tT X.K g x W m)
theorem weakW {X : Cx} {e : Expr} {t t' : TT} (h : PW X e t) (w : ∀ σ H Q, t' σ H Q → t σ H Q) : PW X e t' := ⟨fun wh pins s σ H Q I q => h.run wh pins s σ H Q I (w _ _ _ q)⟩
theorem dw_and1 {t : En → R Bool} (h : PTd g x W X e t) : PWd g x W X (.BoolOp .And [e] pos) t := pw_and1 h
theorem dw_or1 {t : En → R Bool} (h : PTd g x W X e t) : PWd g x W X (.BoolOp .Or [e] pos) t := pw_or1 h
theorem dw_and {t u : En → R Bool} (ha : PTd g x W X a t) (hb : PWd g x W X (.BoolOp .And (b :: es) pos) u) : PWd g x W X (.BoolOp .And (a :: b :: es) pos) (tAndM t u) :=
  weakW (pw_and ha hb) fun σ H Q ⟨env, Z, er, hp⟩ => useTT er hp fun c H' e k hp' => by
    cases c with
    | true => rw [if_pos rfl] at hp' ⊢; exact ⟨env, Z, er.mono k, hp'⟩
    | false => exact hp' H' (Same.refl _)
theorem dw_or {t u : En → R Bool} (ha : PTd g x W X a t) (hb : PWd g x W X (.BoolOp .Or (b :: es) pos) u) : PWd g x W X (.BoolOp .Or (a :: b :: es) pos) (tOrM t u) :=
  weakW (pw_or ha hb) fun σ H Q ⟨env, Z, er, hp⟩ => useTT er hp fun c H' e k hp' => by
    cases c with
    | true => exact hp' H' (Same.refl _)
    | false => exact ⟨env, Z, er.mono k, hp'⟩
theorem dt_w {t : En → R Bool} (h : PWd g x W X e t) : PTd g x W X e t := h.pt
theorem postFr {K : PySem.W.Frag} {Z : Av} {σ : L2.St} {H : Hp} {Q : VK} {r : R Sl} (h : PostE K g W Z σ H Q (r.bind fun s => .ok (.fr s.d))) : PostD K g W Z σ H Q r := by
  cases r with
  | ok s => exact h
  | ex c p => exact h
  | st => exact h
theorem de_one {op : BoolOp} (h : PBd g x W X a ma) : PBd g x W X (.BoolOp op [a] pos) ma := pe_one h
theorem andPart {Z : Av} {env : En} {σ : L2.St} {H H1 : Hp} {Q : VK} {K : PySem.W.Frag} (er : ERel K g x Z env σ H) (k1 : Same H H1) (hp : PostE K g W Z σ H1 Q ((mb env).bind fun s => (asB s).bind fun e => .ok (.fr (.bl e)))) : tB K g x W mb σ H1 Q := by
  refine useB (er.mono k1) hp fun d v H2 e2 k2 r2 hp2 => ?_
  cases d with
  | bl e => rw [r2.bl_]; exact hp2 _ H2 (Same.refl _) (Rep.bl_.mpr rfl)
  | _ => exact hp2.elim
theorem de_and (ha : PBd g x W X a ma) (hb : PBd g x W X (.BoolOp .And (b :: es) pos) mb) : PEd g x W X (.BoolOp .And (a :: b :: es) pos) (mAnd ma mb) :=
  weakE (pe_and ha hb) fun σ H Q ⟨env, Z, er, hp⟩ => useB er hp fun d v H1 e1 k1 r1 hp1 => by
    cases d with
    | bl c =>
      refine ⟨c, r1.bl_, ?_⟩
      cases c with
      | true => exact andPart er k1 hp1
      | false => exact hp1 _ H1 (Same.refl _) (Rep.bl_.mpr rfl)
    | _ => exact hp1.elim
theorem de_or (ha : PBd g x W X a ma) (hb : PBd g x W X (.BoolOp .Or (b :: es) pos) mb) : PEd g x W X (.BoolOp .Or (a :: b :: es) pos) (mOr ma mb) :=
  weakE (pe_or ha hb) fun σ H Q ⟨env, Z, er, hp⟩ => useB er hp fun d v H1 e1 k1 r1 hp1 => by
    cases d with
    | bl c =>
      refine ⟨c, r1.bl_, ?_⟩
      cases c with
      | true => exact hp1 _ H1 (Same.refl _) (Rep.bl_.mpr rfl)
      | false => exact andPart er k1 hp1
    | _ => exact hp1.elim
theorem de_not (ha : PBd g x W X a ma) : PEd g x W X (.UnaryOp .Not a pos) (mNot ma) :=
  weakE (pe_not ha) fun σ H Q ⟨env, Z, er, hp⟩ => useB er hp fun d v H1 e1 k1 r1 hp1 => by
    cases d with
    | bl c => exact ⟨c, r1.bl_, hp1 _ H1 (Same.refl _) (Rep.bl_.mpr rfl)⟩
    | _ => exact hp1.elim
theorem de_if {t : En → R Bool} {c : Expr} (hc : PTd g x W X c t) (ha : PEd g x W X a m) (hb : PEd g x W X b mA) : PEd g x W X (.IfExp c a b pos) (mIf t m mA) :=
  weakE (pe_ifExp hc ha hb) fun σ H Q ⟨env, Z, er, hp⟩ => useT er hp fun c H1 e1 k1 hp1 => by
    cases c with
    | true => exact use (er.mono k1) (postFr hp1)
    | false => exact use (er.mono k1) (postFr hp1)
theorem de_un {op : UnaryOp} {r : V → Hp → VK → Prop} {F : D → R Sl} (ho : UnR X (unaryOp op) r) (hF : UnF X.K r F) (ha : PBd g x W X a ma) : PEd g x W X (.UnaryOp op a pos) (mUn F ma) :=
  weakE (pe_un ho ha) fun σ H Q ⟨env, Z, er, hp⟩ => useB er hp fun s v H1 e1 k1 r1 hp1 => hF g W H1 Z σ _ _ _ (dom_mono k1 er.dom) r1 hp1

/-! ### arguments, displays, calls of built-ins -/
theorem da_nil : PAd g x W X [] mNil := weakA pa_nil fun σ H Q ⟨env, Z, er, hp⟩ => hp [] H (Same.refl _) (RepL.nil_.mpr rfl)
theorem db_nil : PBAd g x W X [] bNil := weakA pa_nil fun σ H Q ⟨env, Z, er, hp⟩ => hp [] H (Same.refl _) rfl
theorem db_cons (ha : PBd g x W X a ma) (hr : PBAd g x W X es mr) (hs : starEach (a :: es) X.env = (false, eval a X.env) :: starEach es X.env := by rfl) : PBAd g x W X (a :: es) (bCons ma mr) :=
  weakA (pa_cons ha hr hs) fun σ H Q ⟨env, Z, er, hp⟩ => useBA er hp fun s v H1 e1 k1 r1 hp1 =>
    useBLA (er.mono k1) hp1 fun ds vs H2 e2 k2 r2 hp2 => hp2 _ H2 (Same.refl _) ⟨v, vs, rfl, r1.mono k2, r2⟩
theorem da_cons (ha : PEd g x W X a m) (hr : PAd g x W X es mr) (hs : starEach (a :: es) X.env = (false, eval a X.env) :: starEach es X.env := by rfl) : PAd g x W X (a :: es) (mCons m mr) :=
  weakA (pa_cons ha hr hs) fun σ H Q ⟨env, Z, er, hp⟩ => use1A er hp fun s v H1 e1 k1 r1 hp1 =>
    useAA (er.mono k1) hp1 fun ds vs H2 e2 k2 r2 hp2 => hp2 _ H2 (Same.refl _) (RepL.cons_.mpr ⟨v, vs, rfl, Rep.mono (.same_ k2) _ _ r1, r2⟩)
theorem callF {r : List V → Hp → VK → Prop} {F : List D → R Sl} (hF : CallF X.K r F) {σ : L2.St} {H : Hp} {Q : VK} (h : tM X.K g x W (mCall F mr) σ H Q) : tBA X.K g x W mr σ H fun vs H1 => r vs H1 Q := by
  obtain ⟨env, Z, er, hp⟩ := h
  exact useBL er hp fun ds vs H1 e1 k1 r1 hp1 => hF g W H1 Z σ _ _ _ (dom_mono k1 er.dom) r1 hp1
theorem callA {r : List V → Hp → VK → Prop} {F : List D → R Sl} (hF : ∀ (g : G0) (W : WX) (H : Hp) (Z : Av) (σ : L2.St) (xs : List D) (vs : List V) (Q : VK), (∀ a, Z a → H a ≠ none) → RepL X.K g H Z xs vs → PostE X.K g W Z σ H Q (F xs) → r vs H Q)
    {σ : L2.St} {H : Hp} {Q : VK} (h : tM X.K g x W (mCall F mr) σ H Q) : tA X.K g x W mr σ H fun vs H1 => r vs H1 Q := by
  obtain ⟨env, Z, er, hp⟩ := h
  exact useA er hp fun ds vs H1 e1 k1 r1 hp1 => hF g W H1 Z σ _ _ _ (dom_mono k1 er.dom) r1 hp1
theorem same_upd {H : Hp} {p : Addr} {o : HO} (h : H p = none) : Same H (upd H p o) := fun b u e => by rw [upd_ne (ne_of_none e h)]; exact e
/-- a new tuple -/
def NewT (H : Hp) (vs : List V) (Q : VK) : Prop := ∀ (p : Addr) (o : Obj), H p = none → o.cls = .type "tuple" → o.dict = none → Q (.ref p) (upd H p (.frz o (.tup vs)))
theorem rtup_new {K : PySem.W.Frag} {H : Hp} {Z : Av} {p : Addr} {o : Obj} {ds : List D} {vs : List V} (h : H p = none) (c : o.cls = .type "tuple") (d : o.dict = none) (r : RepL K g H Z ds vs) : Rep K g (upd H p (.frz o (.tup vs))) Z (.tup ds) (.ref p) :=
  Rep.tup_.mpr ⟨p, vs, rfl, .inl ⟨o, upd_same, c, d⟩, RepL.mono (.same_ (same_upd h)) _ _ r⟩
theorem newT {pins : List (Addr × Obj)} {σ : L2.St} {H : Hp} {s : Shared} {h' : Heap} {p : Addr} {us : List Value} {vs : List V} {Q : VK} {t' : Nat} (I : Inv X pins σ H s) (k : ∀ b o, s.heap.get? b = some o → h'.get? b = some o) (hp : s.heap.objs.size ≤ p)
    (e : h'.get? p = some { cls := .type "tuple", data := .seq us.toArray }) (r : Vals vs us) (z : vs.length ≤ sizeLine) (q : NewT H vs Q) : EP X pins σ Q (.ref p) { s with heap := h', toks := t' } :=
  ⟨.ref p, _, I.laid (t' := t') k hp (o := .frz { cls := .type "tuple", data := .seq us.toArray } (.tup vs)) ⟨e, z, us, r, ⟨_, e, rfl, _, rfl⟩⟩, rfl, q p _ (I.hok.fresh hp) rfl rfl⟩
theorem pe_tupN {x1} {t : TA} (h : PA X es t) : PE X (.Tuple es x1 pos) (fun σ H Q => t σ H fun xs H1 => xs.length ≤ sizeLine ∧ NewT H1 xs Q) := by
  refine ⟨fun pins s σ H Q I hq => ?_⟩
  refine wpAny_Tuple_spliced (thn (h.run pos pins s σ H _ I hq) fun us s1 ⟨xs, H1, I1, r, z, q⟩ => ⟨by rw [← r.length]; exact z, ?_⟩)
  exact newT (t' := s1.toks) I1 (fun b u e => Heap.get?_push_of_some _ e) (Nat.le_refl _) (Heap.get?_push_size _ rfl) r z q
theorem rlst_new {K : PySem.W.Frag} {H : Hp} {Z : Av} {p : Addr} {o : HO} {ds : List D} {vs : List V} (h : H p = none) (r : RepL K g H Z ds vs) : RepL K g (upd H p o) (fun b => Z b ∨ b = p) ds vs :=
  RepL.mono (.of (same_upd h) fun b n z => z.elim id fun e => absurd h (by rw [← e]; exact n)) _ _ r
theorem post_tup {K : PySem.W.Frag} {H : Hp} {Z : Av} {σ : L2.St} {Q : VK} {ds : List D} {vs : List V} (hp : PostE K g W Z σ H Q (.ok (.fr (.tup ds)))) (r : RepL K g H Z ds vs) : NewT H vs Q :=
  fun p o h c d => hp _ _ (same_upd h) (rtup_new h c d r)
theorem post_ow {K : PySem.W.Frag} {H : Hp} {Z : Av} {σ : L2.St} {Q : VK} {p : Addr} {ds : List D} {vs : List V} (hp : PostE K g W Z σ H Q (.ok (.ow ds))) (h : H p = none) (r : RepL K g H Z ds vs) : Q (.ref p) (upd H p (.lst vs)) :=
  hp p vs _ (same_upd h) h upd_same (rlst_new h r)
theorem de_tup {x1} (h : PAd g x W X es mr) : PEd g x W X (.Tuple es x1 pos) (mCall fTup mr) :=
  weakE (pe_tupN h) fun σ H Q h => callA (r := fun xs H1 Q => xs.length ≤ sizeLine ∧ NewT H1 xs Q) (fun g W H Z σ xs vs Q dom r hp => by
    unfold fTup at hp
    split at hp
    · rename_i hl
      exact ⟨by rw [← r.length]; exact limLine hl, post_tup hp r⟩
    · exact hp.elim) h
theorem de_lst (h : PAd g x W X es mr) : PEd g x W X (.List es pos) (mCall fLst mr) :=
  weakE (pe_lst h) fun σ H Q h => callA (r := fun xs H1 Q => xs.length ≤ sizeLine ∧ ∀ p, H1 p = none → Q (.ref p) (upd H1 p (.lst xs))) (fun g W H Z σ xs vs Q dom r hp => by
    unfold fLst at hp
    split at hp
    · rename_i hl
      exact ⟨by rw [← r.length]; exact limLine hl, fun p n => post_ow hp n r⟩
    · exact hp.elim) h
theorem de_callB {r : List V → Hp → VK → Prop} {F : List D → R Sl} {id : String} {y : Str} {p : Pos} (hc : CallR X (.builtin id) r) (hF : CallF X.K r F) (hg : Gl X y) (hm : X.mg y = none) (hv : bootBuiltins y = some (.builtin id)) (ha : PBAd g x W X (e :: es) mr) (hn : y ≠ "__name__" := by decide)
    (hdb : (y == ("__debug__" : Str)) = false := by decide) (he : starEach (e :: es) X.env = (false, eval e X.env) :: starEach es X.env := by rfl) (hpl : (backTo pos (starEach es X.env)).any (·.1) = false := by rfl) :
    PEd g x W X (.Call (.Name y p) (e :: es) [] pos) (mCall F mr) :=
  weakE (pe_callB hc hg hm hv ha hn hdb he hpl) fun σ H Q h => callF hF h
theorem de_callT {r : List V → Hp → VK → Prop} {F : List D → R Sl} {id : String} {y : Str} {p : Pos} (hc : CallR X (.type id) r) (hF : CallF X.K r F) (hg : Gl X y) (hm : X.mg y = none) (hv : bootBuiltins y = some (.type id)) (ha : PBAd g x W X (e :: es) mr) (hn : y ≠ "__name__" := by decide)
    (hdb : (y == ("__debug__" : Str)) = false := by decide) (he : starEach (e :: es) X.env = (false, eval e X.env) :: starEach es X.env := by rfl) (hpl : (backTo pos (starEach es X.env)).any (·.1) = false := by rfl) :
    PEd g x W X (.Call (.Name y p) (e :: es) [] pos) (mCall F mr) :=
  weakE (pe_callTy hc hg hm hv ha hn hdb he hpl) fun σ H Q h => callF hF h
end
end DL
set_option Elab.async false
set_option linter.all false
set_option maxRecDepth 100000
namespace DL
open PySem PySem.Spec L2
open PyProof.Rows hiding St

/-! ### statements -/
/-- the addresses that slots own, and those that are kept away from outside -/
def zz (A : Av) (env : En) (σ : L2.St) : Av := fun a => A a ∨ ∃ (i : Nat) (xs : List D), env[i]? = some (some (Sl.ow xs)) ∧ σ[i]? = some (some (V.ref a))
structure SRel (K : PySem.W.Frag) (g : G0) (x : L2.St → Prop) (A : Av) (H0 : Hp) (env : En) (σ : L2.St) (H : Hp) : Prop where
  er : ERel K g x (zz A env σ) env σ H
  same : Same H0 H
  adom : ∀ a, A a → H0 a ≠ none
  fresh : ∀ (i : Nat) (xs : List D) (a : Addr), env[i]? = some (some (Sl.ow xs)) → σ[i]? = some (some (V.ref a)) → H0 a = none
  dist : ∀ (i j : Nat) (xs ys : List D) (a : Addr), env[i]? = some (some (Sl.ow xs)) → env[j]? = some (some (Sl.ow ys)) → σ[i]? = some (some (V.ref a)) → σ[j]? = some (some (V.ref a)) → i = j
  len : env.length = σ.length
def PostS (K : PySem.W.Frag) (g : G0) (x : L2.St → Prop) (W : WX) (A : Av) (H0 : Hp) (D : Ends) : RS → Prop
  | .nx e => ∀ σ' H', SRel K g x A H0 e σ' H' → D.nx σ' H'
  | .bk e => ∀ σ' H', SRel K g x A H0 e σ' H' → D.bk σ' H'
  | .ct e => ∀ σ' H', SRel K g x A H0 e σ' H' → D.ct σ' H'
  | .rt (.fr d) => ∀ v H', Same H0 H' → Rep K g H' A d v → D.rt v H'
  | .rt (.ow xs) => ∀ a vs H', Same H0 H' → H0 a = none → H' a = some (.lst vs) → RepL K g H' (fun b => A b ∨ b = a) xs vs → D.rt (.ref a) H'
  | .ex c p e => ∀ σ' H' dd, SRel K g x A H0 e σ' H' → ExP K g H' A p dd → W (.ref (g.cl c)) dd σ' H'
  | .st => False
def tS (K : PySem.W.Frag) (g : G0) (x : L2.St → Prop) (W : WX) (m : MS) : TS := fun D σ H => ∃ env A H0, SRel K g x A H0 env σ H ∧ PostS K g x W A H0 D (m env)
abbrev PSd (g : G0) (x : L2.St → Prop) (W : WX) (X : Cx) (s : Stmt) (m : MS) : Prop := PS X s (tS X.K g x W m)
abbrev PSsd (g : G0) (x : L2.St → Prop) (W : WX) (X : Cx) (s : List Stmt) (m : MS) : Prop := PSs X s (tS X.K g x W m)

def sNop : MS := fun env => .nx env
def sSeq (m n : MS) : MS := fun env => match m env with
  | .nx e => n e
  | r => r
def sIf (t : En → R Bool) (m n : MS) : MS := fun env => match t env with
  | .ok b => if b = true then m env else n env
  | .ex c p => .ex c p env
  | .st => .st
def sRet (m : M) : MS := fun env => match m env with
  | .ok s => .rt s
  | .ex c p => .ex c p env
  | .st => .st
def sRetN : MS := fun _ => .rt (.fr .non)
def sRetV (i : Nat) : MS := fun env => match env[i]? with
  | some (some s) => .rt s
  | _ => .st
def sSet (i : Nat) (m : M) : MS := fun env => match m env with
  | .ok s => .nx (env.set i (some s))
  | .ex c p => .ex c p env
  | .st => .st
def sDrop (m : M) : MS := fun env => match m env with
  | .ok _ => .nx env
  | .ex c p => .ex c p env
  | .st => .st
def frz1 (i : Nat) (env : En) : En := match env[i]? with
  | some (some (.ow xs)) => env.set i (some (.fr (.lst xs)))
  | _ => env
def frz : List Nat → En → En
  | [], env => env
  | i :: is, env => frz is (frz1 i env)
def sFrz (is : List Nat) (m : MS) : MS := fun env => m (frz is env)
def sApp (i : Nat) (m : M) : MS := fun env => match env[i]? with
  | some (some (.ow xs)) => match m env with
    | .ok s => if xs.length < lim then .nx (env.set i (some (.ow (xs ++ [s.d])))) else .st
    | .ex c p => .ex c p env
    | .st => .st
  | _ => .st
def sBrk : MS := fun env => .bk env
def sCnt : MS := fun env => .ct env

section
variable {K : PySem.W.Frag} {g : G0} {x : L2.St → Prop} {W : WX} {A : Av} {H0 H H' : Hp} {env : En} {σ : L2.St}
theorem SRel.later (r : SRel K g x A H0 env σ H) (k : Same H H') : SRel K g x A H0 env σ H' :=
  ⟨r.er.mono k, r.same.trans k, r.adom, r.fresh, r.dist, r.len⟩
theorem zz_sub {a : Addr} (h : A a) : zz A env σ a := .inl h
theorem SRel.kpA (r : SRel K g x A H0 env σ H) : Kp H (zz A env σ) H A := .of (Same.refl _) fun _ _ z => zz_sub z
/-- an anchor below -/
theorem SRel.anchor {H1 : Hp} (k : Same H0 H1) (ad : ∀ a, A a → H0 a ≠ none) (r : SRel K g x A H1 env σ H) : SRel K g x A H0 env σ H :=
  ⟨r.er, k.trans r.same, ad, fun i xs a e1 e2 => k.free (r.fresh i xs a e1 e2), r.dist, r.len⟩
theorem set_get {α : Type} {l : List α} {i j : Nat} {u w : α} (h : (l.set i u)[j]? = some w) : (i = j ∧ w = u ∧ i < l.length) ∨ (i ≠ j ∧ l[j]? = some w) := by
  by_cases e : i = j
  · subst e
    by_cases hl : i < l.length
    · rw [List.getElem?_set_self hl] at h
      exact .inl ⟨rfl, (Option.some.inj h).symm, hl⟩
    · rw [List.getElem?_eq_none (by simpa using hl)] at h
      cases h
  · rw [List.getElem?_set_ne e] at h
    exact .inr ⟨e, h⟩
/-- a value goes into a slot -/
theorem SRel.setFr (hx : ∀ σ, x σ) (r : SRel K g x A H0 env σ H) {i : Nat} {d : D} {v : V} (k : Same H H') (h : Rep K g H' (zz A env σ) d v) : SRel K g x A H0 (env.set i (some (.fr d))) (σ.set i (some v)) H' := by
  have r := r.later k
  have zs : ∀ a, zz A (env.set i (some (.fr d))) (σ.set i (some v)) a → zz A env σ a := by
    rintro a (z | ⟨j, xs, e1, e2⟩)
    · exact .inl z
    · rcases set_get e1 with ⟨_, e, _⟩ | ⟨ne, e1⟩
      · cases e
      · rcases set_get e2 with ⟨e, _⟩ | ⟨_, e2⟩
        · exact absurd e ne
        · exact .inr ⟨j, xs, e1, e2⟩
  refine ⟨⟨fun a z => r.er.dom a (zs a z), hx _, by rw [List.length_set, List.length_set, r.len], fun j s e => ?_⟩, r.same, r.adom, fun j xs a e1 e2 => ?_, fun j l xs ys a e1 e2 e3 e4 => ?_, by rw [List.length_set, List.length_set, r.len]⟩
  · rcases set_get e with ⟨ij, e, hl⟩ | ⟨ne, e⟩
    · cases e
      subst ij
      exact ⟨v, by rw [List.getElem?_set_self (by rw [← r.len]; exact hl)], Rep.mono (.of (Same.refl _) fun a _ z => zs a z) _ _ h⟩
    · obtain ⟨u, e2, q⟩ := r.er.at_ j s e
      refine ⟨u, by rw [List.getElem?_set_ne ne]; exact e2, ?_⟩
      cases s with
      | fr d2 => exact Rep.mono (.of (Same.refl _) fun a _ z => zs a z) _ _ q
      | ow xs =>
        obtain ⟨a, vs, ev, z, p, rr⟩ := q
        subst ev
        exact ⟨a, vs, rfl, .inr ⟨j, xs, by rw [List.getElem?_set_ne ne]; exact e, by rw [List.getElem?_set_ne ne]; exact e2⟩, p, RepL.mono (.of (Same.refl _) fun a _ z => zs a z) _ _ rr⟩
  · rcases set_get e1 with ⟨_, e, _⟩ | ⟨ne, e1⟩
    · cases e
    · rw [List.getElem?_set_ne ne] at e2
      exact r.fresh j xs a e1 e2
  · rcases set_get e1 with ⟨_, e, _⟩ | ⟨ne, e1⟩
    · cases e
    · rcases set_get e2 with ⟨_, e, _⟩ | ⟨ne2, e2⟩
      · cases e
      · rw [List.getElem?_set_ne ne] at e3
        rw [List.getElem?_set_ne ne2] at e4
        exact r.dist j l xs ys a e1 e2 e3 e4
/-- a fresh list goes into a slot -/
theorem SRel.setOw (hx : ∀ σ, x σ) (r : SRel K g x A H0 env σ H) {i : Nat} {xs : List D} {a : Addr} {vs : List V} (k : Same H H') (n : H a = none) (e : H' a = some (.lst vs)) (h : RepL K g H' (fun b => zz A env σ b ∨ b = a) xs vs) :
    SRel K g x A H0 (env.set i (some (.ow xs))) (σ.set i (some (.ref a))) H' := by
  have r' := r.later k
  have zs : ∀ b, zz A (env.set i (some (.ow xs))) (σ.set i (some (.ref a))) b → zz A env σ b ∨ b = a := by
    rintro b (z | ⟨j, ys, e1, e2⟩)
    · exact .inl (.inl z)
    · rcases set_get e1 with ⟨ij, _, _⟩ | ⟨ne, e1⟩
      · subst ij
        rcases set_get e2 with ⟨_, e, _⟩ | ⟨ne, _⟩
        · cases e; exact .inr rfl
        · exact absurd rfl ne
      · rcases set_get e2 with ⟨e, _⟩ | ⟨_, e2⟩
        · exact absurd e ne
        · exact .inl (.inr ⟨j, ys, e1, e2⟩)
  have nH0 : H0 a = none := r.same.free n
  have old : ∀ b, H b ≠ none → zz A (env.set i (some (.ow xs))) (σ.set i (some (.ref a))) b → zz A env σ b := fun b hb z => (zs b z).elim id fun e => absurd n (by rw [← e]; exact hb)
  have kp : Kp H (zz A env σ) H' (zz A (env.set i (some (.ow xs))) (σ.set i (some (.ref a)))) := .of k old
  refine ⟨⟨fun b z => ?_, hx _, by rw [List.length_set, List.length_set, r.len], fun j s e1 => ?_⟩, r'.same, r.adom, fun j ys b e1 e2 => ?_, fun j l ys zs' b e1 e2 e3 e4 => ?_, by rw [List.length_set, List.length_set, r.len]⟩
  · rcases zs b z with z | z
    · exact r'.er.dom b z
    · rw [z, e]; simp
  · rcases set_get e1 with ⟨ij, ee, hl⟩ | ⟨ne, e1⟩
    · cases ee
      subst ij
      have hs : (σ.set i (some (V.ref a)))[i]? = some (some (V.ref a)) := by rw [List.getElem?_set_self (by rw [← r.len]; exact hl)]
      exact ⟨.ref a, hs, a, vs, rfl, .inr ⟨i, xs, by rw [List.getElem?_set_self hl], hs⟩, e, RepL.mono (.of (Same.refl _) fun b _ z => zs b z) _ _ h⟩
    · obtain ⟨u, e2, q⟩ := r.er.at_ j s e1
      refine ⟨u, by rw [List.getElem?_set_ne ne]; exact e2, ?_⟩
      cases s with
      | fr d2 => exact Rep.mono kp _ _ q
      | ow ys =>
        obtain ⟨b, ws, ev, z, p, rr⟩ := q
        subst ev
        exact ⟨b, ws, rfl, .inr ⟨j, ys, by rw [List.getElem?_set_ne ne]; exact e1, by rw [List.getElem?_set_ne ne]; exact e2⟩, k _ _ p, RepL.mono kp _ _ rr⟩
  · rcases set_get e1 with ⟨ij, _, hl⟩ | ⟨ne, e1⟩
    · subst ij
      rw [List.getElem?_set_self (by rw [← r.len]; exact hl)] at e2
      cases e2
      exact nH0
    · rw [List.getElem?_set_ne ne] at e2
      exact r.fresh j ys b e1 e2
  · have own : ∀ {j : Nat} {ys : List D}, env[j]? = some (some (.ow ys)) → σ[j]? = some (some (.ref a)) → False := fun {j ys} f1 f2 => by
      obtain ⟨u, f3, b, ws, ev, _, p, _⟩ := r.er.at_ j _ f1
      rw [f2] at f3
      cases f3
      cases ev
      rw [n] at p
      cases p
    rcases set_get e1 with ⟨ij, _, hl⟩ | ⟨ne, e1⟩
    · subst ij
      rw [List.getElem?_set_self (by rw [← r.len]; exact hl)] at e3
      cases e3
      rcases set_get e2 with ⟨il, _, _⟩ | ⟨ne2, e2⟩
      · exact il
      · rw [List.getElem?_set_ne ne2] at e4
        exact (own e2 e4).elim
    · rw [List.getElem?_set_ne ne] at e3
      rcases set_get e2 with ⟨il, _, hl⟩ | ⟨ne2, e2⟩
      · subst il
        rw [List.getElem?_set_self (by rw [← r.len]; exact hl)] at e4
        cases e4
        exact (own e1 e3).elim
      · rw [List.getElem?_set_ne ne2] at e4
        exact r.dist j l ys zs' b e1 e2 e3 e4
/-- an owned list changes -/
theorem SRel.mut (r : SRel K g x A H0 env σ H) {i : Nat} {xs ys : List D} {a : Addr} {vs : List V} (e1 : env[i]? = some (some (.ow xs))) (e2 : σ[i]? = some (some (.ref a))) (h : RepL K g H (zz A env σ) ys vs) :
    SRel K g x A H0 (env.set i (some (.ow ys))) σ (upd H a (.lst vs)) := by
  have hi : i < env.length := (List.getElem?_eq_some_iff.mp e1).1
  have za : zz A env σ a := .inr ⟨i, xs, e1, e2⟩
  have zs : ∀ b, zz A (env.set i (some (.ow ys))) σ b ↔ zz A env σ b := fun b => by
    constructor
    · rintro (z | ⟨j, ws, f1, f2⟩)
      · exact .inl z
      · rcases set_get f1 with ⟨ij, _, _⟩ | ⟨ne, f1⟩
        · subst ij; exact .inr ⟨i, xs, e1, f2⟩
        · exact .inr ⟨j, ws, f1, f2⟩
    · rintro (z | ⟨j, ws, f1, f2⟩)
      · exact .inl z
      · by_cases ij : i = j
        · subst ij; exact .inr ⟨i, ys, by rw [List.getElem?_set_self hi], f2⟩
        · exact .inr ⟨j, ws, by rw [List.getElem?_set_ne ij]; exact f1, f2⟩
  obtain ⟨u, f3, b, ws, ev, _, p, _⟩ := r.er.at_ i _ e1
  rw [e2] at f3
  cases f3
  cases ev
  have kp : Kp H (zz A env σ) (upd H a (.lst vs)) (zz A (env.set i (some (.ow ys))) σ) :=
    ⟨fun b o e n => by rw [upd_ne (fun q => n (by rw [q]; exact za))]; exact e, fun b o us t => by
      have nb : b ≠ a := fun q => by
        subst q
        rw [p] at t
        cases t
      rw [upd_ne nb]
      exact t, fun b _ n z => n ((zs b).mp z)⟩
  have nH0 : H0 a = none := r.fresh i xs a e1 e2
  refine ⟨⟨fun b z => ?_, r.er.ex, by rw [List.length_set, r.len], fun j s f => ?_⟩, fun b o e => ?_, r.adom, fun j ws b f1 f2 => ?_, fun j l ws us b f1 f2 f3 f4 => ?_, by rw [List.length_set, r.len]⟩
  · by_cases q : b = a
    · rw [q, upd_same]; simp
    · rw [upd_ne q]; exact r.er.dom b ((zs b).mp z)
  · rcases set_get f with ⟨ij, ee, _⟩ | ⟨ne, f⟩
    · cases ee
      subst ij
      exact ⟨.ref a, e2, a, vs, rfl, (zs a).mpr za, upd_same, RepL.mono kp _ _ h⟩
    · obtain ⟨v, f2, q⟩ := r.er.at_ j s f
      refine ⟨v, f2, ?_⟩
      cases s with
      | fr d => exact Rep.mono kp _ _ q
      | ow us =>
        obtain ⟨b, ts, ev, z, p2, rr⟩ := q
        subst ev
        have nb : b ≠ a := fun q => ne (r.dist i j xs us a e1 f e2 (by rw [← q]; exact f2))
        exact ⟨b, ts, rfl, (zs b).mpr z, by rw [upd_ne nb]; exact p2, RepL.mono kp _ _ rr⟩
  · rw [upd_ne (ne_of_none e nH0)]; exact r.same b o e
  · rcases set_get f1 with ⟨ij, _, _⟩ | ⟨ne, f1⟩
    · subst ij; exact r.fresh i xs b e1 f2
    · exact r.fresh j ws b f1 f2
  · have fix : ∀ {j : Nat} {ws : List D}, (env.set i (some (.ow ys)))[j]? = some (some (.ow ws)) → ∃ ws', env[j]? = some (some (.ow ws')) := fun {j ws} f => by
      rcases set_get f with ⟨ij, _, _⟩ | ⟨ne, f⟩
      · exact ⟨xs, ij ▸ e1⟩
      · exact ⟨ws, f⟩
    obtain ⟨w1, g1⟩ := fix f1
    obtain ⟨w2, g2⟩ := fix f2
    exact r.dist j l w1 w2 b g1 g2 f3 f4
/-- a list is not changed any more -/
theorem SRel.frz1 (r : SRel K g x A H0 env σ H) (i : Nat) : SRel K g x A H0 (DL.frz1 i env) σ H := by
  unfold DL.frz1
  split
  · rename_i xs e1
    have hi : i < env.length := (List.getElem?_eq_some_iff.mp e1).1
    obtain ⟨v, e2, a, vs, ev, za, p, rr⟩ := r.er.at_ i _ e1
    subst ev
    have zs : ∀ b, zz A (env.set i (some (.fr (.lst xs)))) σ b → zz A env σ b := by
      rintro b (z | ⟨j, ws, f1, f2⟩)
      · exact .inl z
      · rcases set_get f1 with ⟨_, ee, _⟩ | ⟨ne, f1⟩
        · cases ee
        · exact .inr ⟨j, ws, f1, f2⟩
    have na : ¬ zz A (env.set i (some (.fr (.lst xs)))) σ a := by
      rintro (z | ⟨j, ws, f1, f2⟩)
      · exact r.adom a z (r.fresh i xs a e1 e2)
      · rcases set_get f1 with ⟨_, ee, _⟩ | ⟨ne, f1⟩
        · cases ee
        · exact ne (r.dist i j xs ws a e1 f1 e2 f2)
    have kp : Kp H (zz A env σ) H (zz A (env.set i (some (.fr (.lst xs)))) σ) := .of (Same.refl _) fun b _ z => zs b z
    refine ⟨⟨fun b z => r.er.dom b (zs b z), r.er.ex, by rw [List.length_set, r.len], fun j s f => ?_⟩, r.same, r.adom, fun j ws b f1 f2 => ?_, fun j l ws us b f1 f2 f3 f4 => ?_, by rw [List.length_set, r.len]⟩
    · rcases set_get f with ⟨ij, ee, _⟩ | ⟨ne, f⟩
      · cases ee
        subst ij
        exact ⟨.ref a, e2, Rep.lst_.mpr ⟨a, vs, rfl, .inl ⟨na, .inl p⟩, RepL.mono kp _ _ rr⟩⟩
      · obtain ⟨w, f2, q⟩ := r.er.at_ j s f
        refine ⟨w, f2, ?_⟩
        cases s with
        | fr d => exact Rep.mono kp _ _ q
        | ow us =>
          obtain ⟨b, ts, ev, z, p2, r2⟩ := q
          subst ev
          exact ⟨b, ts, rfl, .inr ⟨j, us, by rw [List.getElem?_set_ne ne]; exact f, f2⟩, p2, RepL.mono kp _ _ r2⟩
    · rcases set_get f1 with ⟨_, ee, _⟩ | ⟨ne, f1⟩
      · cases ee
      · exact r.fresh j ws b f1 f2
    · rcases set_get f1 with ⟨_, ee, _⟩ | ⟨_, f1⟩
      · cases ee
      · rcases set_get f2 with ⟨_, ee, _⟩ | ⟨_, f2⟩
        · cases ee
        · exact r.dist j l ws us b f1 f2 f3 f4
  · exact r
theorem SRel.frz : ∀ (is : List Nat) {env : En}, SRel K g x A H0 env σ H → SRel K g x A H0 (DL.frz is env) σ H
  | [], _, r => r
  | i :: is, _, r => SRel.frz is (r.frz1 i)
end

section
variable {g : G0} {x : L2.St → Prop} {W : WX} {X : Cx} {e : Expr} {st : Stmt} {rest body orelse : List Stmt} {pos : Pos} {m : M} {s t : MS}
theorem dss_nil : PSsd g x W X [] sNop := weakSs pss_nil fun D σ H ⟨env, A, H0, r, hp⟩ => hp σ H r
theorem tS.imp {D D' : Ends} {σ : L2.St} {H : Hp} (h : tS X.K g x W s D σ H) (h1 : ∀ σ H, D.nx σ H → D'.nx σ H) (h2 : ∀ v H, D.rt v H → D'.rt v H) (h3 : ∀ σ H, D.bk σ H → D'.bk σ H) (h4 : ∀ σ H, D.ct σ H → D'.ct σ H) : tS X.K g x W s D' σ H := by
  obtain ⟨env, A, H0, r, hp⟩ := h
  refine ⟨env, A, H0, r, ?_⟩
  cases e : s env with
  | nx e' => rw [e] at hp; exact fun σ' H' q => h1 _ _ (hp σ' H' q)
  | bk e' => rw [e] at hp; exact fun σ' H' q => h3 _ _ (hp σ' H' q)
  | ct e' => rw [e] at hp; exact fun σ' H' q => h4 _ _ (hp σ' H' q)
  | rt u =>
    rw [e] at hp
    cases u with
    | fr d => exact fun v H' k q => h2 _ _ (hp v H' k q)
    | ow xs => exact fun a vs H' k n p q => h2 _ _ (hp a vs H' k n p q)
  | ex c p e' => rw [e] at hp; exact hp
  | st => rw [e] at hp; exact hp
theorem seqPost {K : PySem.W.Frag} {A : Av} {H0 : Hp} {D : Ends} {u : RS} (h : PostS K g x W A H0 D (match u with | .nx e => t e | r => r)) : PostS K g x W A H0 { D with nx := tS K g x W t D } u := by
  cases u with
  | nx e' => exact fun σ' H' q => ⟨e', A, H0, q, h⟩
  | bk e' => exact h
  | ct e' => exact h
  | rt v => cases v <;> exact h
  | ex c p e' => exact h
  | st => exact h
theorem dss_cons (h1 : PSd g x W X st s) (h2 : PSsd g x W X rest t) : PSsd g x W X (st :: rest) (sSeq s t) :=
  weakSs (pss_cons h1 h2) fun D σ H ⟨env, A, H0, r, hp⟩ => ⟨env, A, H0, r, seqPost hp⟩
theorem dss_one (h1 : PSd g x W X st s) : PSsd g x W X [st] s := pss_one h1
theorem ds_pass : PSd g x W X (.Pass pos) sNop := weakS ps_pass fun D σ H ⟨env, A, H0, r, hp⟩ => hp σ H r
theorem ds_brk : PSd g x W X (.Break pos) sBrk := weakS ps_break fun D σ H ⟨env, A, H0, r, hp⟩ => hp σ H r
theorem ds_cnt : PSd g x W X (.Continue pos) sCnt := weakS ps_continue fun D σ H ⟨env, A, H0, r, hp⟩ => hp σ H r
/-- an expression of a statement -/
theorem runE {env : En} {A : Av} {H0 H : Hp} {σ : L2.St} {D : Ends} {f : Sl → RS} {Q : VK} (r : SRel X.K g x A H0 env σ H)
    (hp : PostS X.K g x W A H0 D (match m env with | .ok s => f s | .ex c p => .ex c p env | .st => .st))
    (h1 : ∀ d v H', m env = .ok (.fr d) → Same H H' → Rep X.K g H' (zz A env σ) d v → PostS X.K g x W A H0 D (f (.fr d)) → Q v H')
    (h2 : ∀ xs a vs H', m env = .ok (.ow xs) → Same H H' → H a = none → H' a = some (.lst vs) → RepL X.K g H' (fun b => zz A env σ b ∨ b = a) xs vs → PostS X.K g x W A H0 D (f (.ow xs)) → Q (.ref a) H') : tM X.K g x W m σ H Q := by
  refine ⟨env, _, r.er, ?_⟩
  cases e : m env with
  | ok s =>
    rw [e] at hp
    cases s with
    | fr d => exact fun v H' k q => h1 d v H' e k q hp
    | ow xs => exact fun a vs H' k n p q => h2 xs a vs H' e k n p q hp
  | ex c p =>
    rw [e] at hp
    refine fun H' dd k q => hp σ H' dd (r.later k) ?_
    cases p with
    | none => exact q
    | some fx =>
      obtain ⟨da, v, e1, e2, e3⟩ := q
      exact ⟨da, v, e1, e2, Rep.mono (.of (Same.refl _) fun _ _ z => .inl z) _ _ e3⟩
  | st => rw [e] at hp; exact hp
theorem ds_set {i : Nat} {y : Str} {pos' : Pos} (hx : ∀ σ, x σ) (hN : X.N.Nodup) (hi : X.N[i]? = some y) (hl : Loc X.env.scope y) (he : PEd g x W X e m) (hs : swapsWith e (some (.Name y pos')) pos.line X.env = pure false := by rfl)
    (hf : X.fn y = true ∨ X.env.scope.names.lookup y = some .local := by first | exact .inl rfl | exact .inr rfl | assumption) : PSd g x W X (.Assign [.Name y pos'] e pos) (sSet i m) :=
  weakS (ps_set hN hi hl he hs hf) fun D σ H ⟨env, A, H0, r, hp⟩ =>
    runE (f := fun s => .nx (env.set i (some s))) r hp (fun d v H' _ k q hp => hp _ _ (r.setFr hx k q)) fun xs a vs H' _ k n p q hp => hp _ _ (r.setOw hx k n p q)
theorem ds_ret (he : PEd g x W X e m) : PSd g x W X (.Return (some e) pos) (sRet m) :=
  weakS (ps_ret he) fun D σ H ⟨env, A, H0, r, hp⟩ =>
    runE (f := fun s => .rt s) r hp (fun d v H' _ k q hp => hp _ _ (r.same.trans k) (Rep.mono (.of (Same.refl _) fun _ _ z => .inl z) _ _ q)) fun xs a vs H' _ k n p q hp => hp _ _ _ (r.same.trans k) (r.same.free n) p (RepL.mono (.of (Same.refl _) fun _ _ z => z.elim (fun z => .inl (.inl z)) .inr) _ _ q)
theorem ds_retN : PSd g x W X (.Return none pos) sRetN :=
  weakS ps_retN fun D σ H ⟨env, A, H0, r, hp⟩ => hp _ _ r.same (Rep.non_.mpr rfl)
theorem ds_retV (i : Nat) {y : Str} {p : Pos} (hN : X.N[i]? = some y := by rfl) (hv : Vis X.env.scope y := by first | exact Or.inl rfl | exact Or.inr (Or.inl rfl) | exact Or.inr (Or.inr rfl)) (hd : (y == ("__debug__" : Str)) = false := by decide)
    (hcd : (y == ("__classdict__" : Str)) = false := by decide) : PSd g x W X (.Return (some (.Name y p)) pos) (sRetV i) :=
  weakS (ps_ret (pe_var hN hv hd hcd)) fun D σ H ⟨env, A, H0, r, hp⟩ => by
    unfold sRetV at hp
    split at hp
    · rename_i s e
      obtain ⟨v, e2, q⟩ := r.er.at_ i _ e
      cases s with
      | fr d => exact ⟨v, e2, hp _ _ r.same (Rep.mono (.of (Same.refl _) fun _ _ z => .inl z) _ _ q)⟩
      | ow xs =>
        obtain ⟨a, vs, ev, z, p, rr⟩ := q
        subst ev
        exact ⟨_, e2, hp _ _ _ r.same (r.fresh i xs a e e2) p (RepL.mono (.of (Same.refl _) fun b _ z => z.elim .inl fun q => by rw [q]; assumption) _ _ rr)⟩
    · exact hp.elim
theorem ds_expr (he : PEd g x W X e m) (hs : swapsWith e none pos.line X.env = pure false := by rfl) : PSd g x W X (.Expr e pos) (sDrop m) :=
  weakS (ps_expr he hs) fun D σ H ⟨env, A, H0, r, hp⟩ =>
    runE (f := fun s => .nx env) r hp (fun d v H' _ k q hp => hp _ _ (r.later k)) fun xs a vs H' _ k n p q hp => hp _ _ (r.later k)
theorem ds_doc {z : Str} {j : Nat} {pos' : Pos} : PSd g x W X (.Expr (.Constant (.str z) j pos) pos') sNop := weakS ps_doc fun D σ H ⟨env, A, H0, r, hp⟩ => hp σ H r
theorem ds_if {c : Expr} {b : En → R Bool} (hc : PTd g x W X c b) (ha : PSsd g x W X body s) (hb : PSsd g x W X orelse t) : PSd g x W X (.If c body orelse pos) (sIf b s t) :=
  weakS (ps_if hc ha hb) fun D σ H ⟨env, A, H0, r, hp⟩ => by
    refine ⟨env, _, r.er, ?_⟩
    unfold sIf at hp
    cases e : b env with
    | ok c =>
      rw [e] at hp
      intro H' k
      cases c with
      | true => exact ⟨env, A, H0, r.later k, hp⟩
      | false => exact ⟨env, A, H0, r.later k, hp⟩
    | ex c p =>
      rw [e] at hp
      refine fun H' dd k q => hp σ H' dd (r.later k) ?_
      cases p with
      | none => exact q
      | some fx =>
        obtain ⟨da, v, e1, e2, e3⟩ := q
        exact ⟨da, v, e1, e2, Rep.mono (.of (Same.refl _) fun _ _ z => .inl z) _ _ e3⟩
    | st => rw [e] at hp; exact hp
theorem ds_frz (is : List Nat) (h : PSd g x W X st s) : PSd g x W X st (sFrz is s) :=
  weakS h fun D σ H ⟨env, A, H0, r, hp⟩ => ⟨_, A, H0, r.frz is, hp⟩
theorem ds_app (i : Nat) {y : Str} {p apos cpos : Pos} (hN : X.N[i]? = some y := by rfl) (hv : Vis X.env.scope y := by first | exact Or.inl rfl | exact Or.inr (Or.inl rfl) | exact Or.inr (Or.inr rfl)) (hd : (y == ("__debug__" : Str)) = false := by decide)
    (hcd : (y == ("__classdict__" : Str)) = false := by decide) (he : PEd g x W X e m) (hx : ∀ σ, x σ)
    (hbase : attributeBase (.Name y p) "append" X.env (eval (.Name y p) X.env) = eval (.Name y p) X.env := by rfl)
    (hline : (apos.endLine == cpos.line) = true := by rfl)
    (hse : starEach [e] X.env = [(false, eval e X.env)] := by rfl)
    (hs : swapsWith (.Call (.Attribute (.Name y p) "append" apos) [e] [] cpos) none pos.line X.env = pure false := by rfl) : PSd g x W X (.Expr (.Call (.Attribute (.Name y p) "append" apos) [e] [] cpos) pos) (sApp i m) :=
  weakS (ps_expr (pe_bm PySem.F.plainAttrs_list PySem.F.slot_list_append PySem.F.type_list_append mt_append (pe_var hN hv hd hcd) (pa_cons he pa_nil hse) hbase (by rw [hse]; rfl) hline hse (by rfl)) hs) fun D σ H ⟨env, A, H0, r, hp⟩ => by
    unfold sApp at hp
    split at hp
    · rename_i xs e1
      obtain ⟨v, e2, a, vs, ev, z, p, rr⟩ := r.er.at_ i _ e1
      subst ev
      refine ⟨.ref a, e2, .inl ⟨rfl, vs, SqL.of p⟩, ?_⟩
      refine use (Z := zz A env σ) r.er ?_
      cases em : m env with
      | ok s =>
        rw [em] at hp
        intro u H' k q
        have hp : PostS X.K g x W A H0 D (if xs.length < lim then RS.nx (env.set i (some (.ow (xs ++ [s.d])))) else RS.st) := hp
        split at hp
        · rename_i hl
          have lv := rr.length
          exact ⟨a, vs, u, rfl, rfl, k _ _ p, by rw [← lv]; exact limLine' hl, hp _ _ ((r.later k).mut e1 e2 ((RepL.mono (.same_ k) _ _ rr).append (.one q)))⟩
        · exact hp.elim
      | ex c p =>
        rw [em] at hp
        refine fun H' dd k q => hp σ H' dd (r.later k) ?_
        cases p with
        | none => exact q
        | some fx =>
          obtain ⟨da, v, e1, e2, e3⟩ := q
          exact ⟨da, v, e1, e2, Rep.mono (.of (Same.refl _) fun _ _ z => .inl z) _ _ e3⟩
      | st => rw [em] at hp; exact hp
    · exact hp.elim
end
end DL
set_option Elab.async false
set_option linter.all false
set_option maxRecDepth 100000
namespace DL
open PySem PySem.Spec L2
open PyProof.Rows hiding St

/-! ### what a loop walks -/
structure Walk (K : PySem.W.Frag) (g : G0) (Z : Av) (H : Hp) (J : It) (xs : List D) : Prop where
  go : ∀ (i : Nat) (d : D) (H' : Hp), xs[i]? = some d → Kp H Z H' (fun _ => False) → J.go i H'
  yld : ∀ (i : Nat) (d : D) (H' : Hp) (v : V) (H'' : Hp), xs[i]? = some d → Kp H Z H' (fun _ => False) → J.yld i H' v H'' → Same H' H'' ∧ ∀ Z', Kp H Z H'' Z' → (∀ a, Z' a → H' a ≠ none) → Rep K g H'' Z' d v
  stop : ∀ (i : Nat) (H' : Hp), xs.length ≤ i → Kp H Z H' (fun _ => False) → J.stop i H'
def PostI (K : PySem.W.Frag) (g : G0) (W : WX) (Z : Av) (σ : L2.St) (H : Hp) (Rn : It → Hp → Prop) : R (List D) → Prop
  | .ok xs => ∀ J H', Same H H' → Walk K g Z H' J xs → Rn J H'
  | .ex c p => ∀ H' dd, Same H H' → ExP K g H' Z p dd → W (.ref (g.cl c)) dd σ H'
  | .st => False
def tI (K : PySem.W.Frag) (g : G0) (x : L2.St → Prop) (W : WX) (m : En → R (List D)) : TI := fun σ H R => ∃ env Z, ERel K g x Z env σ H ∧ PostI K g W Z σ H R (m env)
abbrev PId (g : G0) (x : L2.St → Prop) (W : WX) (X : Cx) (tg e : Expr) (m : En → R (List D)) : Prop := PI X tg e (tI X.K g x W m)
def asSeq : D → R (List D)
  | .lst xs => .ok xs
  | .tup xs => .ok xs
  | _ => .st
def mIter (m : M) : En → R (List D) := fun env => (m env).bind fun s => asSeq s.d
def rangeD (lo : Int) (n : Nat) : List D := (List.range n).map fun i => .int (lo + (i : Nat))
def big : Int := 1000000000
def mRng1 (m : B) : En → R (List D) := fun env => (m env).bind fun s => match s with
  | .int j => if -big ≤ j ∧ j ≤ big then .ok (rangeD 0 j.toNat) else .st
  | _ => .st
def mRng2 (m n : B) : En → R (List D) := fun env => (m env).bind fun s => (n env).bind fun t => match s, t with
  | .int i, .int j => if -big ≤ i ∧ i ≤ big ∧ -big ≤ j ∧ j ≤ big then .ok (rangeD i (j - i).toNat) else .st
  | _, _ => .st
def revD (a b : Int) : List D := (List.range (b - a).toNat).map fun i => .int (a + (((b - a).toNat : Nat) : Int) - 1 + (i : Nat) * (-1))
def mRev1 (m : B) : En → R (List D) := fun env => (m env).bind fun s => match s with
  | .int j => if -big ≤ j ∧ j ≤ big then .ok (revD 0 j) else .st
  | _ => .st
theorem rangeD_get {lo : Int} {n i : Nat} {d : D} (h : (rangeD lo n)[i]? = some d) : i < n ∧ d = .int (lo + (i : Nat)) := by
  unfold rangeD at h
  rw [List.getElem?_map] at h
  cases e : (List.range n)[i]? with
  | none => rw [e] at h; cases h
  | some k =>
    rw [e] at h
    obtain ⟨h1, h2⟩ := List.getElem?_eq_some_iff.mp e
    rw [List.getElem_range] at h2
    rw [List.length_range] at h1
    subst h2
    exact ⟨h1, (Option.some.inj h).symm⟩
theorem rangeD_length {lo : Int} {n : Nat} : (rangeD lo n).length = n := by unfold rangeD; rw [List.length_map, List.length_range]
theorem revD_get {a b : Int} {i : Nat} {d : D} (h : (revD a b)[i]? = some d) : i < (b - a).toNat ∧ d = .int (a + (((b - a).toNat : Nat) : Int) - 1 + (i : Nat) * (-1)) := by
  unfold revD at h
  rw [List.getElem?_map] at h
  cases e : (List.range (b - a).toNat)[i]? with
  | none => rw [e] at h; cases h
  | some k =>
    rw [e] at h
    obtain ⟨h1, h2⟩ := List.getElem?_eq_some_iff.mp e
    rw [List.getElem_range] at h2
    rw [List.length_range] at h1
    subst h2
    exact ⟨h1, (Option.some.inj h).symm⟩
theorem revD_length {a b : Int} : (revD a b).length = (b - a).toNat := by unfold revD; rw [List.length_map, List.length_range]
section
variable {K : PySem.W.Frag} {g : G0} {x : L2.St → Prop} {W : WX} {Z : Av} {env : En} {σ : L2.St} {H H' : Hp}
theorem walk_list {a : Addr} {ds : List D} {vs : List V} (h : Ls K H Z a vs) (r : RepL K g H Z ds vs) : Walk K g Z H (Itl K a) ds where
  go := fun i d H' e k => by
    obtain ⟨v, e2, _⟩ := r.get e
    exact ⟨vs, v, (k.ls h).sq, e2⟩
  yld := fun i d H' v H'' e k y => by
    obtain ⟨rfl, y⟩ := y
    obtain ⟨w, e2, q⟩ := r.get e
    have := y vs (k.ls h).sq
    rw [e2] at this
    cases this
    exact ⟨Same.refl _, fun Z' k2 _ => Rep.mono k2 _ _ q⟩
  stop := fun i H' l k => ⟨vs, (k.ls h).sq, by rw [← r.length]; exact l⟩
theorem walk_tup {a : Addr} {ds : List D} {vs : List V} (h : Tu K H a vs) (r : RepL K g H Z ds vs) : Walk K g Z H (Itt K a) ds where
  go := fun i d H' e k => by
    obtain ⟨v, e2, _⟩ := r.get e
    exact ⟨vs, v, (k.tu h).sqT, e2⟩
  yld := fun i d H' v H'' e k y => by
    obtain ⟨rfl, y⟩ := y
    obtain ⟨w, e2, q⟩ := r.get e
    have := y vs (k.tu h).sqT
    rw [e2] at this
    cases this
    exact ⟨Same.refl _, fun Z' k2 _ => Rep.mono k2 _ _ q⟩
  stop := fun i H' l k => ⟨vs, (k.tu h).sqT, by rw [← r.length]; exact l⟩
theorem walk_range {lo : Int} {n : Nat} : Walk K g Z H (Itr lo n) (rangeD lo n) where
  go := fun i d H' e k => (rangeD_get e).1
  yld := fun i d H' v H'' e k y => by
    obtain ⟨rfl, rfl⟩ := y
    rw [(rangeD_get e).2]
    exact ⟨Same.refl _, fun Z' k2 _ => Rep.int_.mpr rfl⟩
  stop := fun i H' l k => by rw [rangeD_length] at l; exact l
theorem walk_rev {a b : Int} : Walk K g Z H (Itc (a + (((b - a).toNat : Nat) : Int) - 1) (-1) (b - a).toNat) (revD a b) where
  go := fun i d H' e k => (revD_get e).1
  yld := fun i d H' v H'' e k y => by
    obtain ⟨rfl, rfl⟩ := y
    rw [(revD_get e).2]
    exact ⟨Same.refl _, fun Z' k2 _ => Rep.int_.mpr rfl⟩
  stop := fun i H' l k => by rw [revD_length] at l; exact l
theorem use1I {m : B} {f : D → R (List D)} {Q : It → Hp → Prop} {Q' : VK} (er : ERel K g x Z env σ H) (hp : PostI K g W Z σ H Q ((m env).bind f))
    (h : ∀ s v H', m env = .ok s → Same H H' → RepB K g H' Z s v → PostI K g W Z σ H' Q (f s) → Q' v H') : tB K g x W m σ H Q' := by
  refine ⟨env, Z, er, ?_⟩
  cases e : m env with
  | ok s =>
    rw [e] at hp
    refine fun v H' k r => h s v H' e k r ?_
    have hp : PostI K g W Z σ H Q (f s) := hp
    cases ef : f s with
    | ok xs => rw [ef] at hp; exact fun J H2 k2 w => hp J H2 (k.trans k2) w
    | ex c p => rw [ef] at hp; exact fun H2 dd k2 q => hp H2 dd (k.trans k2) q
    | st => rw [ef] at hp; exact hp
  | ex c p => rw [e] at hp; exact hp
  | st => rw [e] at hp; exact hp
end
section
variable {g : G0} {x : L2.St → Prop} {W : WX} {X : Cx} {tg e a b : Expr} {pos p : Pos} {m n : B}
theorem PI.or {w1 w2 : TI} (h1 : PI X tg e w1) (h2 : PI X tg e w2) : PI X tg e (fun σ H R => w1 σ H R ∨ w2 σ H R) :=
  ⟨fun pins s σ H R I h => h.elim (h1.run pins s σ H R I) (h2.run pins s σ H R I)⟩
theorem weakI {t t' : TI} (h : PI X tg e t) (w : ∀ σ H R, t' σ H R → t σ H R) : PI X tg e t' := ⟨fun pins s σ H R I q => h.run pins s σ H R I (w _ _ _ q)⟩
theorem di_seq {m : M} (he : PEd g x W X e m) : PId g x W X tg e (mIter m) := by
  refine weakI (PI.or (pi_list he) (pi_tup he)) fun σ H Rn ⟨env, Z, er, hp⟩ => ?_
  unfold mIter at hp
  cases em : m env with
  | ok s =>
    rw [em] at hp
    have hp : PostI X.K g W Z σ H Rn (asSeq s.d) := hp
    cases ed : s.d with
    | lst xs =>
      refine .inl (use er ?_)
      rw [em]
      intro v H' k r
      rw [ed] at r hp
      obtain ⟨a, vs, ev, rd, rr⟩ := Rep.lst_.mp r
      exact ⟨a, ev, ⟨vs, rd.sq⟩, hp _ H' k (walk_list rd rr)⟩
    | tup xs =>
      refine .inr (use er ?_)
      rw [em]
      intro v H' k r
      rw [ed] at r hp
      obtain ⟨a, vs, ev, rd, rr⟩ := Rep.tup_.mp r
      exact ⟨a, ev, ⟨vs, rd.sqT⟩, hp _ H' k (walk_tup rd rr)⟩
    | _ => rw [ed] at hp; exact hp.elim
  | ex c p => rw [em] at hp; refine .inl (use er ?_); rw [em]; exact hp
  | st => rw [em] at hp; exact hp.elim
theorem di_rng1 (hg : Gl X "range") (hm : X.mg "range" = none) (ha : PBd g x W X a m) (hs : starEach [a] X.env = [(false, eval a X.env)] := by rfl) : PId g x W X tg (.Call (.Name "range" p) [a] [] pos) (mRng1 m) :=
  weakI (pi_range1 hg hm (pa_cons ha pa_nil hs) hs) fun σ H R ⟨env, Z, er, hp⟩ => use1I er hp fun s v H1 e1 k r hp => by
    split at hp
    · rename_i j
      split at hp
      · rename_i hb
        unfold big at hb
        refine ⟨j, by rw [r.int_], by omega, by omega, hp _ H1 (Same.refl _) walk_range⟩
      · exact hp.elim
    · exact hp.elim
theorem di_rng2 (hg : Gl X "range") (hm : X.mg "range" = none) (ha : PBd g x W X a m) (hb : PBd g x W X b n) (hs : starEach [a, b] X.env = [(false, eval a X.env), (false, eval b X.env)] := by rfl) (hs2 : starEach [b] X.env = [(false, eval b X.env)] := by rfl) :
    PId g x W X tg (.Call (.Name "range" p) [a, b] [] pos) (mRng2 m n) :=
  weakI (pi_range2 hg hm (pa_cons ha (pa_cons hb pa_nil hs2) (by rw [hs, hs2])) hs hs2) fun σ H R ⟨env, Z, er, hp⟩ => use1I er hp fun s v H1 e1 k r hp => use1I (er.mono k) hp fun s2 v2 H2 e2 k2 r2 hp => by
    cases s with
    | int i =>
      cases s2 with
      | int j =>
        have hp : PostI X.K g W Z σ H2 R (if -big ≤ i ∧ i ≤ big ∧ -big ≤ j ∧ j ≤ big then .ok (rangeD i (j - i).toNat) else .st) := hp
        split at hp
        · rename_i hb
          unfold big at hb
          refine ⟨i, j, by rw [r.int_, r2.int_], ⟨by omega, by omega, by omega, by omega⟩, hp _ H2 (Same.refl _) walk_range⟩
        · exact hp.elim
      | _ => exact hp.elim
    | _ => exact hp.elim
theorem di_rev1 {pos' p' : Pos} (hg : Gl X "reversed") (hm : X.mg "reversed" = none) (hg' : Gl X "range") (hm' : X.mg "range" = none) (ha : PBd g x W X a m) (hs : starEach [a] X.env = (false, eval a X.env) :: starEach [] X.env := by rfl)
    (hs2 : starEach [.Call (.Name "range" p) [a] [] pos] X.env = (false, eval (.Call (.Name "range" p) [a] [] pos) X.env) :: starEach [] X.env := by rfl) : PId g x W X tg (.Call (.Name "reversed" p') [.Call (.Name "range" p) [a] [] pos] [] pos') (mRev1 m) :=
  weakI (pi_revR hg hm (prg_1 hg' hm' ha hs) hs2) fun σ H R ⟨env, Z, er, hp⟩ => use1I er hp fun s v H1 e1 k r hp => by
    split at hp
    · rename_i j
      split at hp
      · rename_i hb
        unfold big at hb
        refine ⟨j, by rw [r.int_], by omega, by omega, by omega, by omega, hp _ H1 (Same.refl _) walk_rev⟩
      · exact hp.elim
    · exact hp.elim
end

/-! ### targets -/
/-- a part of a target: a name, or a tuple of names -/
inductive Pq where
  | n (i : Nat) | t (is : List Nat)
inductive Pt where
  | nm (i : Nat) | tp (is : List Nat) | tn (qs : List Pq)
def setAll : List Nat → List D → En → En
  | i :: is, d :: ds, env => setAll is ds (env.set i (some (.fr d)))
  | _, _, env => env
def Pq.go : Pq → D → En → Option En
  | .n i, d, env => some (env.set i (some (.fr d)))
  | .t is, .tup ds, env => if ds.length = is.length then some (setAll is ds env) else none
  | _, _, _ => none
def setQ : List Pq → List D → En → Option En
  | [], [], env => some env
  | q :: qs, d :: ds, env => match q.go d env with
    | some e => setQ qs ds e
    | none => none
  | _, _, _ => none
def Pt.go : Pt → D → En → Option En
  | .nm i, d, env => some (env.set i (some (.fr d)))
  | .tp is, .tup ds, env => if ds.length = is.length then some (setAll is ds env) else none
  | .tn qs, .tup ds, env => setQ qs ds env
  | _, _, _ => none
def gAll : List Nat → TGs
  | [] => gNil
  | i :: is => gCons (gName i) (gAll is)
def Pq.tg (K : PySem.W.Frag) : Pq → TG
  | .n i => gName i
  | .t is => gTup K is.length (gAll is)
def gAllQ (K : PySem.W.Frag) : List Pq → TGs
  | [] => gNil
  | q :: qs => gCons (q.tg K) (gAllQ K qs)
def Pt.tg (K : PySem.W.Frag) : Pt → TG
  | .nm i => gName i
  | .tp is => gTup K is.length (gAll is)
  | .tn qs => gTup K qs.length (gAllQ K qs)
theorem setQ_len : ∀ {qs : List Pq} {ds : List D} {env e : En}, setQ qs ds env = some e → ds.length = qs.length
  | [], [], _, _, _ => rfl
  | q :: qs, d :: ds, env, e, h => by
    have h : (match q.go d env with | some e => setQ qs ds e | none => none) = some e := h
    cases c : q.go d env with
    | none => rw [c] at h; cases h
    | some e1 =>
      rw [c] at h
      exact congrArg (· + 1) (setQ_len (qs := qs) (ds := ds) h)
  | [], _ :: _, _, _, h => by cases h
  | _ :: _, [], _, _, h => by cases h
section
variable {K : PySem.W.Frag} {g : G0} {x : L2.St → Prop} {A : Av} {H0 H : Hp}
theorem gAll_ok (hx : ∀ σ, x σ) : ∀ (is : List Nat) (ds : List D) (vs : List V) (env : En) (σ : L2.St) (Q : L2.St → Hp → Prop), SRel K g x A H0 env σ H → RepL K g H (zz A env σ) ds vs → ds.length = is.length →
    (∀ σ', SRel K g x A H0 (setAll is ds env) σ' H → Q σ' H) → gAll is vs σ H Q
  | [], [], vs, env, σ, Q, r, rr, l, h => ⟨RepL.nil_.mp rr, h σ r⟩
  | i :: is, d :: ds, vs, env, σ, Q, r, rr, l, h => by
    obtain ⟨v, w, ev, h1, h2⟩ := RepL.cons_.mp rr
    refine ⟨v, w, ev, ?_⟩
    have r2 := r.setFr hx (i := i) (Same.refl _) h1
    refine gAll_ok hx is ds w _ _ Q r2 (RepL.mono ?_ _ _ h2) (by simpa using l) h
    refine .of (Same.refl _) fun a _ z => ?_
    rcases z with z | ⟨j, xs, e1, e2⟩
    · exact .inl z
    · rcases set_get e1 with ⟨_, e, _⟩ | ⟨ne, e1⟩
      · cases e
      · rcases set_get e2 with ⟨e, _⟩ | ⟨_, e2⟩
        · exact absurd e ne
        · exact .inr ⟨j, xs, e1, e2⟩
  | [], d :: ds, vs, env, σ, Q, r, rr, l, h => by simp at l
  | i :: is, [], vs, env, σ, Q, r, rr, l, h => by simp at l
theorem zz_frA {env : En} {σ : L2.St} {i : Nat} {d : D} {v : V} {a : Addr} (z : zz A (env.set i (some (.fr d))) (σ.set i (some v)) a) : zz A env σ a := by
  rcases z with z | ⟨j, xs, e1, e2⟩
  · exact .inl z
  · rcases set_get e1 with ⟨_, e, _⟩ | ⟨ne, e1⟩
    · cases e
    · rcases set_get e2 with ⟨e, _⟩ | ⟨_, e2⟩
      · exact absurd e ne
      · exact .inr ⟨j, xs, e1, e2⟩
theorem gAll_ok2 (hx : ∀ σ, x σ) : ∀ (is : List Nat) (ds : List D) (vs : List V) (env : En) (σ : L2.St) (Q : L2.St → Hp → Prop), SRel K g x A H0 env σ H → RepL K g H (zz A env σ) ds vs → ds.length = is.length →
    (∀ σ', SRel K g x A H0 (setAll is ds env) σ' H → (∀ a, zz A (setAll is ds env) σ' a → zz A env σ a) → Q σ' H) → gAll is vs σ H Q
  | [], [], vs, env, σ, Q, r, rr, l, h => ⟨RepL.nil_.mp rr, h σ r fun _ z => z⟩
  | i :: is, d :: ds, vs, env, σ, Q, r, rr, l, h => by
    obtain ⟨v, w, ev, h1, h2⟩ := RepL.cons_.mp rr
    refine ⟨v, w, ev, ?_⟩
    have r2 := r.setFr hx (i := i) (Same.refl _) h1
    refine gAll_ok2 hx is ds w _ _ Q r2 (RepL.mono ?_ _ _ h2) (by simpa using l) fun σ' q z => h σ' q fun a za => zz_frA (z a za)
    exact .of (Same.refl _) fun a _ z => zz_frA z
  | [], d :: ds, vs, env, σ, Q, r, rr, l, h => by simp at l
  | i :: is, [], vs, env, σ, Q, r, rr, l, h => by simp at l
theorem Pq.ok (hx : ∀ σ, x σ) {q : Pq} {env e1 : En} {σ : L2.St} {d : D} {v : V} {Q : L2.St → Hp → Prop} (r : SRel K g x A H0 env σ H) (p : Rep K g H (zz A env σ) d v) (h : q.go d env = some e1)
    (k : ∀ σ', SRel K g x A H0 e1 σ' H → (∀ a, zz A e1 σ' a → zz A env σ a) → Q σ' H) : q.tg K v σ H Q := by
  cases q with
  | n i => cases h; exact k _ (r.setFr hx (Same.refl _) p) fun a z => zz_frA z
  | t is =>
    cases d with
    | tup ds =>
      have h : (if ds.length = is.length then some (setAll is ds env) else none) = some e1 := h
      split at h
      · rename_i l
        cases h
        obtain ⟨a, vs, ev, sq, rr⟩ := Rep.tup_.mp p
        exact ⟨a, vs, ev, sq.sqT, by rw [← rr.length]; exact l, gAll_ok2 hx is ds vs env σ Q r rr l k⟩
      · cases h
    | _ => cases h
theorem gAllQ_ok (hx : ∀ σ, x σ) : ∀ (qs : List Pq) (ds : List D) (vs : List V) (env e1 : En) (σ : L2.St) (Q : L2.St → Hp → Prop), SRel K g x A H0 env σ H → RepL K g H (zz A env σ) ds vs → setQ qs ds env = some e1 →
    (∀ σ', SRel K g x A H0 e1 σ' H → Q σ' H) → gAllQ K qs vs σ H Q
  | [], [], vs, env, e1, σ, Q, r, rr, h, k => by cases h; exact ⟨RepL.nil_.mp rr, k σ r⟩
  | q :: qs, d :: ds, vs, env, e1, σ, Q, r, rr, h, k => by
    obtain ⟨v, w, ev, h1, h2⟩ := RepL.cons_.mp rr
    have h : (match q.go d env with | some e => setQ qs ds e | none => none) = some e1 := h
    cases c : q.go d env with
    | none => rw [c] at h; cases h
    | some e =>
      rw [c] at h
      refine ⟨v, w, ev, Pq.ok hx r h1 c fun σ' r' z => ?_⟩
      exact gAllQ_ok hx qs ds w e e1 σ' Q r' (RepL.mono (.of (Same.refl _) fun a _ za => z a za) _ _ h2) h k
  | [], _ :: _, _, _, _, _, _, _, _, h, _ => by cases h
  | _ :: _, [], _, _, _, _, _, _, _, h, _ => by cases h
theorem Pt.ok (hx : ∀ σ, x σ) {pt : Pt} {env e1 : En} {σ : L2.St} {d : D} {v : V} {Q : L2.St → Hp → Prop} (r : SRel K g x A H0 env σ H) (q : Rep K g H (zz A env σ) d v) (h : pt.go d env = some e1)
    (k : ∀ σ', SRel K g x A H0 e1 σ' H → Q σ' H) : pt.tg K v σ H Q := by
  cases pt with
  | nm i => cases h; exact k _ (r.setFr hx (Same.refl _) q)
  | tp is =>
    cases d with
    | tup ds =>
      have h : (if ds.length = is.length then some (setAll is ds env) else none) = some e1 := h
      split at h
      · rename_i l
        cases h
        obtain ⟨a, vs, ev, sq, rr⟩ := Rep.tup_.mp q
        exact ⟨a, vs, ev, sq.sqT, by rw [← rr.length]; exact l, gAll_ok hx is ds vs env σ Q r rr l k⟩
      · cases h
    | _ => cases h
  | tn qs =>
    cases d with
    | tup ds =>
      have h : setQ qs ds env = some e1 := h
      obtain ⟨a, vs, ev, sq, rr⟩ := Rep.tup_.mp q
      exact ⟨a, vs, ev, sq.sqT, by rw [← rr.length]; exact setQ_len h, gAllQ_ok hx qs ds vs env e1 σ Q r rr h k⟩
    | _ => cases h
end

/-! ### for -/
def RS.out : RS → RS
  | .nx e => .nx e
  | .ct e => .nx e
  | .bk e => .nx e
  | .rt s => .rt s
  | .ex c p e => .ex c p e
  | .st => .st
def forM (as : D → En → Option En) (b : MS) : List D → MS
  | [], env => .nx env
  | d :: ds, env => match as d env with
    | none => .st
    | some e1 => match b e1 with
      | .nx e => forM as b ds e
      | .ct e => forM as b ds e
      | .bk e => .nx e
      | .rt s => .rt s
      | .ex c p e => .ex c p e
      | .st => .st
def sFor (mi : En → R (List D)) (pt : Pt) (b : MS) : MS := fun env => match mi env with
  | .ok xs => forM pt.go b xs env
  | .ex c p => .ex c p env
  | .st => .st
def whM (t : En → R Bool) (b : MS) : Nat → MS
  | 0, _ => .st
  | n + 1, env => match t env with
    | .ok true => match b env with
      | .nx e => whM t b n e
      | .ct e => whM t b n e
      | .bk e => .nx e
      | .rt s => .rt s
      | .ex c p e => .ex c p e
      | .st => .st
    | .ok false => .nx env
    | .ex c p => .ex c p env
    | .st => .st
section
variable {K : PySem.W.Frag} {g : G0} {x : L2.St → Prop} {W : WX} {A : Av} {H0 H H' : Hp} {env : En} {σ : L2.St}
/-- the heap without the lists that slots own -/
noncomputable def hid (env : En) (σ : L2.St) (H : Hp) : Hp := fun b => open Classical in if ∃ (i : Nat) (xs : List D), env[i]? = some (some (Sl.ow xs)) ∧ σ[i]? = some (some (V.ref b)) then none else H b
theorem hid_some {b : Addr} {o : HO} (h : hid env σ H b = some o) : H b = some o ∧ ¬ ∃ (i : Nat) (xs : List D), env[i]? = some (some (Sl.ow xs)) ∧ σ[i]? = some (some (V.ref b)) := by
  unfold hid at h
  split at h
  · cases h
  · exact ⟨h, by assumption⟩
theorem hid_ne {b : Addr} (n : ¬ ∃ (i : Nat) (xs : List D), env[i]? = some (some (Sl.ow xs)) ∧ σ[i]? = some (some (V.ref b))) : hid env σ H b = H b := by
  unfold hid
  exact if_neg n
theorem SRel.same_hid (r : SRel K g x A H0 env σ H) : Same H0 (hid env σ H) := fun b o e => by
  rw [hid_ne]
  · exact r.same b o e
  · rintro ⟨i, xs, e1, e2⟩
    rw [r.fresh i xs b e1 e2] at e
    cases e
theorem SRel.to_hid (r : SRel K g x A H0 env σ H) : SRel K g x A (hid env σ H) env σ H :=
  ⟨r.er, fun b o e => (hid_some e).1, fun a z => by
    have n := r.adom a z
    obtain ⟨o, e⟩ : ∃ o, H0 a = some o := by
      cases q : H0 a with
      | none => exact absurd q n
      | some o => exact ⟨o, rfl⟩
    rw [r.same_hid a o e]
    simp, fun i xs a e1 e2 => by unfold hid; exact if_pos ⟨i, xs, e1, e2⟩, r.dist, r.len⟩
/-- from a later state with this anchor: what was read then is there -/
theorem SRel.kp_hid {env' : En} {σ' : L2.St} (r : SRel K g x A H0 env σ H) (r' : SRel K g x A (hid env σ H) env' σ' H') : Kp H (zz A env σ) H' (zz A env' σ') := by
  have ke : ∀ b o, H b = some o → (¬ ∃ (i : Nat) (xs : List D), env[i]? = some (some (Sl.ow xs)) ∧ σ[i]? = some (some (V.ref b))) → H' b = some o := fun b o e n => r'.same b o (by rw [hid_ne n]; exact e)
  refine ⟨fun b o e n => ke b o e fun z => n (.inr z), fun b o xs t => ?_, fun b n nz z => ?_⟩
  · have no : ¬ ∃ (i : Nat) (xs : List D), env[i]? = some (some (Sl.ow xs)) ∧ σ[i]? = some (some (V.ref b)) := by
      rintro ⟨i, ys, e1, e2⟩
      obtain ⟨v, e3, a, vs, ev, _, p, _⟩ := r.er.at_ i _ e1
      rw [e2] at e3
      cases e3
      cases ev
      rw [p] at t
      cases t
    exact ke _ _ t no
  · rcases z with z | ⟨i, xs, e1, e2⟩
    · exact nz (.inl z)
    · have q := r'.fresh i xs b e1 e2
      rw [hid_ne fun z => nz (.inr z)] at q
      exact n q
theorem Kp.toF {Z Z' : Av} (k : Kp H Z H' Z') : Kp H Z H' (fun _ => False) := ⟨k.same, k.tups, fun _ _ _ z => z⟩
/-- a loop's turn: what the body does, seen from outside -/
theorem turnPost {D : Ends} {N : L2.St → Hp → Prop} {u : RS} (r : SRel K g x A H0 env σ H)
    (hn : ∀ e, (u = .nx e ∨ u = .ct e) → ∀ σ' H', SRel K g x A (hid env σ H) e σ' H' → N σ' H')
    (hp : PostS K g x W A H0 D u.out ∨ (∃ e, u = .nx e ∨ u = .ct e)) :
    PostS K g x W A (hid env σ H) { D with nx := N, ct := N, bk := D.nx } u := by
  have sm := r.same_hid
  cases u with
  | nx e' => exact fun σ' H' q => hn e' (.inl rfl) σ' H' q
  | ct e' => exact fun σ' H' q => hn e' (.inr rfl) σ' H' q
  | bk e' =>
    rcases hp with hp | ⟨e, h | h⟩
    · exact fun σ' H' q => hp σ' H' (q.anchor sm r.adom)
    · cases h
    · cases h
  | rt s =>
    rcases hp with hp | ⟨e, h | h⟩
    · cases s with
      | fr d => exact fun v H' k q => hp v H' (sm.trans k) q
      | ow xs => exact fun a vs H' k n p q => hp a vs H' (sm.trans k) (sm.free n) p q
    · cases h
    · cases h
  | ex c p e' =>
    rcases hp with hp | ⟨e, h | h⟩
    · exact fun σ' H' dd q z => hp σ' H' dd (q.anchor sm r.adom) z
    · cases h
    · cases h
  | st =>
    rcases hp with hp | ⟨e, h | h⟩
    · exact hp
    · cases h
    · cases h
end
section
variable {g : G0} {x : L2.St → Prop} {W : WX} {X : Cx} {tg iter c : Expr} {body : List Stmt} {pos : Pos} {mi : En → R (List D)} {pt : Pt} {b : MS} {t : En → R Bool}
theorem drop_get {α : Type} {xs : List α} {i : Nat} (h : i < xs.length) : ∃ d, xs[i]? = some d ∧ xs.drop i = d :: xs.drop (i + 1) := ⟨xs[i], List.getElem?_eq_getElem h, List.drop_eq_getElem_cons h⟩
theorem ds_for (hx : ∀ σ, x σ) (hp : PassesOwn (model X.prog X.w) X.A X.env X.xe) (hc : X.calm = true) (hi : PId g x W X tg iter mi) (hg : PG X tg (pt.tg X.K)) (hb : PSsd g x W X body b)
    (hs : ∀ x, foldedSetIterable iter X.env x = pure x := by intro _; rfl) : PSd g x W X (.For tg iter body [] pos) (sFor mi pt b) := by
  refine weakS (ps_for hp hc hi hg hb hs) fun D σ H ⟨env, A, H0, r, hp⟩ => ?_
  refine ⟨env, zz A env σ, r.er, ?_⟩
  unfold sFor at hp
  cases ei : mi env with
  | ok xs =>
    rw [ei] at hp
    intro J H1 k walk
    have r1 := r.later k
    refine ⟨fun i m σ' H' => m = xs.length - i ∧ i ≤ xs.length ∧ ∃ env', SRel X.K g x A (hid env σ H1) env' σ' H' ∧ PostS X.K g x W A H0 D (forM pt.go b (xs.drop i) env'), ⟨xs.length, rfl, Nat.zero_le _, env, r1.to_hid, hp⟩, ?_⟩
    rintro i m σ' H' ⟨rfl, hi, env', r', hp⟩
    have kp := r1.kp_hid r'
    by_cases hl : i < xs.length
    · obtain ⟨d, ed, edr⟩ := drop_get hl
      rw [edr] at hp
      refine .inr ⟨walk.go i d H' ed kp.toF, fun σ2 H2 => ∃ env2, SRel X.K g x A (hid env σ H1) env2 σ2 H2 ∧ PostS X.K g x W A H0 D (forM pt.go b (xs.drop (i + 1)) env2), ?_, ?_⟩
      · rintro σ2 H2 ⟨env2, r2, hp2⟩
        exact ⟨xs.length - (i + 1), by omega, rfl, hl, env2, r2, hp2⟩
      · intro v H2 y
        obtain ⟨k2, rep⟩ := walk.yld i d H' v H2 ed kp.toF y
        have r2 := r'.later k2
        have kp2 := r1.kp_hid r2
        unfold forM at hp
        cases ea : pt.go d env' with
        | none => rw [ea] at hp; exact hp.elim
        | some e1 =>
          rw [ea] at hp
          have hp : PostS X.K g x W A H0 D (match b e1 with | .nx e => forM pt.go b (xs.drop (i + 1)) e | .ct e => forM pt.go b (xs.drop (i + 1)) e | .bk e => .nx e | .rt s => .rt s | .ex c p e => .ex c p e | .st => .st) := hp
          refine Pt.ok hx r2 (rep _ kp2 r'.er.dom) ea fun σ3 r3 => ?_
          refine ⟨e1, A, _, r3, turnPost r1 (fun e ee σ4 H4 r4 => ⟨e, r4, ?_⟩) ?_⟩
          · rcases ee with ee | ee <;> (rw [ee] at hp; exact hp)
          · cases eb : b e1 with
            | nx e => exact .inr ⟨e, .inl rfl⟩
            | ct e => exact .inr ⟨e, .inr rfl⟩
            | bk e => rw [eb] at hp; exact .inl hp
            | rt s => rw [eb] at hp; exact .inl hp
            | ex c p e => rw [eb] at hp; exact .inl hp
            | st => rw [eb] at hp; exact .inl hp
    · have ei : i = xs.length := by omega
      subst ei
      rw [List.drop_length] at hp
      exact .inl ⟨walk.stop _ H' (Nat.le_refl _) kp.toF, hp σ' H' (r'.anchor r1.same_hid r.adom)⟩
  | ex c p =>
    rw [ei] at hp
    refine fun H' dd k q => hp σ H' dd (r.later k) ?_
    cases p with
    | none => exact q
    | some fx =>
      obtain ⟨da, v, e1, e2, e3⟩ := q
      exact ⟨da, v, e1, e2, Rep.mono (.of (Same.refl _) fun _ _ z => .inl z) _ _ e3⟩
  | st => rw [ei] at hp; exact hp
theorem turnPost' {K : PySem.W.Frag} {A : Av} {H0 : Hp} {D : Ends} {N : L2.St → Hp → Prop} {u : RS}
    (hn : ∀ e, (u = .nx e ∨ u = .ct e) → ∀ σ' H', SRel K g x A H0 e σ' H' → N σ' H')
    (hp : PostS K g x W A H0 D u.out ∨ (∃ e, u = .nx e ∨ u = .ct e)) :
    PostS K g x W A H0 { D with nx := N, ct := N, bk := D.nx } u := by
  cases u with
  | nx e' => exact fun σ' H' q => hn e' (.inl rfl) σ' H' q
  | ct e' => exact fun σ' H' q => hn e' (.inr rfl) σ' H' q
  | bk e' => rcases hp with hp | ⟨e, h | h⟩ <;> first | exact hp | cases h
  | rt s => rcases hp with hp | ⟨e, h | h⟩ <;> first | (cases s <;> exact hp) | cases h
  | ex c p e' => rcases hp with hp | ⟨e, h | h⟩ <;> first | exact hp | cases h
  | st => rcases hp with hp | ⟨e, h | h⟩ <;> first | exact hp | cases h
theorem ds_while (n : Nat) (hp : PassesOwn (model X.prog X.w) X.A X.env X.xe) (hc : PTd g x W X c t) (hb : PSsd g x W X body b) : PSd g x W X (.While c body [] pos) (whM t b n) := by
  refine weakS (ps_while hp hc hb) fun D σ H ⟨env, A, H0, r, hp⟩ => ?_
  refine ⟨fun m σ' H' => ∃ env', SRel X.K g x A H0 env' σ' H' ∧ PostS X.K g x W A H0 D (whM t b m env'), ⟨n, env, r, hp⟩, ?_⟩
  rintro m σ' H' ⟨env', r', hp⟩
  cases m with
  | zero => exact hp.elim
  | succ m =>
    refine ⟨env', zz A env' σ', r'.er, ?_⟩
    unfold whM at hp
    cases et : t env' with
    | ok v =>
      rw [et] at hp
      intro H2 k
      have r2 := r'.later k
      cases v with
      | true =>
        rw [if_pos rfl]
        refine ⟨fun σ3 H3 => ∃ env3, SRel X.K g x A H0 env3 σ3 H3 ∧ PostS X.K g x W A H0 D (whM t b m env3), fun σ3 H3 h => ⟨m, Nat.lt_succ_self _, h⟩, env', A, H0, r2, turnPost' (fun e ee σ4 H4 r4 => ⟨e, r4, ?_⟩) ?_⟩
        · rcases ee with ee | ee <;> (rw [ee] at hp; exact hp)
        · have hp : PostS X.K g x W A H0 D (match b env' with | .nx e => whM t b m e | .ct e => whM t b m e | .bk e => .nx e | .rt s => .rt s | .ex c p e => .ex c p e | .st => .st) := hp
          cases eb : b env' with
          | nx e => exact .inr ⟨e, .inl rfl⟩
          | ct e => exact .inr ⟨e, .inr rfl⟩
          | bk e => rw [eb] at hp; exact .inl hp
          | rt s => rw [eb] at hp; exact .inl hp
          | ex c p e => rw [eb] at hp; exact .inl hp
          | st => rw [eb] at hp; exact .inl hp
      | false => exact hp σ' H2 r2
    | ex c p =>
      rw [et] at hp
      refine fun H2 dd k q => hp σ' H2 dd (r'.later k) ?_
      cases p with
      | none => exact q
      | some fx =>
        obtain ⟨da, v, e1, e2, e3⟩ := q
        exact ⟨da, v, e1, e2, Rep.mono (.of (Same.refl _) fun _ _ z => .inl z) _ _ e3⟩
    | st => rw [et] at hp; exact hp.elim
end
end DL
set_option Elab.async false
set_option linter.all false
set_option maxRecDepth 100000
namespace DL
open PySem PySem.Spec L2
open PyProof.Rows hiding St
abbrev T : L2.St → Prop := fun _ => True
abbrev W0 : WX := fun _ _ _ _ => False
theorem hT : ∀ σ, T σ := fun _ => trivial

/-! ### defs -/
abbrev Fn := List D → R Sl
def Prom (K : PySem.W.Frag) (g : G0) (f : Fn) : Sp := fun vs H Q E => ∃ Z ds, (∀ a, Z a → H a ≠ none) ∧ RepL K g H Z ds vs ∧ PostE K g (fun c d _ H => E c d H) Z [] H Q (f ds)
structure FD (P : Program) (w : World) (K : PySem.W.Frag) (mg : Str → Option Value) (base : Heap) (g : G0) (k : Nat) (y : Str) (ps : List Str) (f : Fn) : Prop where
  ex : ∃ a fd, mg y = some (.ref a) ∧ PySem.W.keepIn K (.ref a) = true ∧ Binds K fd ps [] ∧ FnOk P w K mg base (L2.CX P w) k a fd ps (Prom K g f)
theorem FD.mono {P : Program} {w : World} {K : PySem.W.Frag} {mg : Str → Option Value} {base : Heap} {g : G0} {j k : Nat} {y : Str} {ps : List Str} {f : Fn} (F : FD P w K mg base g j y ps f) (h : j ≤ k) : FD P w K mg base g k y ps f := by
  obtain ⟨a, fd, h1, h2, h3, h4⟩ := F.ex
  exact ⟨a, fd, h1, h2, h3, h4.mono h⟩
def env0 (n slots : Nat) (ds : List D) : En := ds.map (fun d => some (.fr d)) ++ List.replicate (slots - n) none
def fin : RS → R Sl
  | .nx _ => .ok (.fr .non)
  | .rt s => .ok s
  | .ex c p _ => .ex c p
  | _ => .st
def runF (n slots : Nat) (m : MS) : Fn := fun ds => if ds.length = n then fin (m (env0 n slots ds)) else .st
theorem postW {K : PySem.W.Frag} {g : G0} {Z : Av} {σ : L2.St} {W : WX} {H : Hp} {Q : VK} {r : R Sl} (h : PostE K g W Z σ H Q r) : PostE K g (fun c d _ H => W c d σ H) Z [] H Q r := by
  cases r with
  | ok s => cases s <;> exact h
  | ex c p => exact h
  | st => exact h
section
variable {g : G0} {x : L2.St → Prop} {W : WX} {X : Cx} {e : Expr} {es : List Expr} {mr : En → R (List D)} {pos p : Pos}
theorem de_fn {k : Nat} {y : Str} {ps : List Str} {f : Fn} (F : FD X.prog X.w X.K X.mg X.base g k y ps f) (hr : Room k X.A) (tk : Takes X W) (hg : Gl X y) (ha : PAd g x W X (e :: es) mr)
    (hdb : (y == ("__debug__" : Str)) = false := by decide) (he : starEach (e :: es) X.env = (false, eval e X.env) :: starEach es X.env := by rfl) (hpl : (backTo pos (starEach es X.env)).any (·.1) = false := by rfl) :
    PEd g x W X (.Call (.Name y p) (e :: es) [] pos) (mCall f mr) := by
  obtain ⟨a, fd, hm, hk, hb, hF⟩ := F.ex
  exact weakE (pe_callS hF hr hg hm hk hb (fun σ => passAt tk σ) ha hdb he hpl) fun σ H Q ⟨env, Z, er, hp⟩ =>
    useA er hp fun ds vs H1 e1 k1 r1 hp1 => ⟨Z, ds, dom_mono k1 er.dom, r1, postW hp1⟩
end
section
variable {P : Program} {w : World} {K : PySem.W.Frag} {mg : Str → Option Value} {base : Heap} {g : G0}
theorem repl_map {H : Hp} {Z : Av} : ∀ {ds : List D} {vs : List V} {i : Nat} {s : Sl}, RepL K g H Z ds vs → (ds.map fun d => some (Sl.fr d))[i]? = some (some s) → ∃ v, (vs.map some)[i]? = some (some v) ∧ SlIn K g H Z s v := fun {ds vs i s} r e => by
  rw [List.getElem?_map] at e
  cases ed : ds[i]? with
  | none => rw [ed] at e; cases e
  | some d =>
    rw [ed] at e
    cases e
    obtain ⟨v, ev, q⟩ := r.get ed
    exact ⟨v, by rw [List.getElem?_map, ev]; rfl, q⟩
theorem env0_get {n k : Nat} {ds : List D} {i : Nat} {s : Sl} (h : (env0 n k ds)[i]? = some (some s)) : (ds.map fun d => some (Sl.fr d))[i]? = some (some s) := by
  unfold env0 at h
  by_cases l : i < ds.length
  · rw [List.getElem?_append_left (by simpa using l)] at h
    exact h
  · rw [List.getElem?_append_right (by simpa using l), List.getElem?_replicate] at h
    split at h <;> cases h
theorem okF0 {y qual : Str} {st : Stmt} {a : Addr} {fd : FuncData} {N ps : List Str} {k : Nat} (F : Fun K y qual st a fd) (S : FnScope N ps (defScope st)) (m : MS)
    (body : ∀ (cdv : Value) (A : Around) (outer : List Env) (s : Shared) (H : Hp) (E : XK), Room k (A.deeper (envOfC qual (defScope st) s.heap.objs.size a cdv)) →
      PSsd g T (fun c d _ H => E c d H) (cxOf (L2.CX P w) P w K mg base N qual (defScope st) a cdv A outer s H E) (defBody st) m) : FnOk P w K mg base (L2.CX P w) (k + 1) a fd ps (Prom K g (runF ps.length N.length m)) := by
  have hl : ps.length ≤ N.length := by have := congrArg List.length S.pre; rw [List.length_take] at this; omega
  have len : ∀ vs H Q E, Prom K g (runF ps.length N.length m) vs H Q E → vs.length = ps.length := fun vs H Q E ⟨Z, ds, dom, r, hp⟩ => by
    unfold runF at hp
    split at hp
    · rw [← r.length]; assumption
    · exact hp.elim
  refine F.okX S len fun cdv A outer s H vs Q E hr hsp => ?_
  have lv := len _ _ _ _ hsp
  obtain ⟨Z, ds, dom, r, hp⟩ := hsp
  refine ⟨_, body cdv A outer s H E hr, ?_⟩
  have ld : ds.length = ps.length := by rw [r.length, lv]
  unfold runF at hp
  rw [if_pos ld] at hp
  have zZ : ∀ b, zz Z (env0 ps.length N.length ds) (L2.start N vs) b → Z b := by
    rintro b (z | ⟨i, xs, e1, e2⟩)
    · exact z
    · have e1 := env0_get e1
      rw [List.getElem?_map] at e1
      cases ed : ds[i]? with
      | none => rw [ed] at e1; cases e1
      | some d => rw [ed] at e1; cases e1
  have noow : ∀ (i : Nat) (xs : List D), (env0 ps.length N.length ds)[i]? = some (some (Sl.ow xs)) → False := fun i xs e1 => by
    have e1 := env0_get e1
    rw [List.getElem?_map] at e1
    cases ed : ds[i]? with
    | none => rw [ed] at e1; cases e1
    | some d => rw [ed] at e1; cases e1
  have hlen : (env0 ps.length N.length ds).length = (L2.start N vs).length := by
    unfold env0 L2.start
    rw [List.length_append, List.length_append, List.length_map, List.length_map, List.length_replicate, List.length_replicate, lv, ld]
  have sr : SRel K g T Z H (env0 ps.length N.length ds) (L2.start N vs) H := by
    refine ⟨⟨fun b z => dom b (zZ b z), trivial, hlen, fun i s e1 => ?_⟩, Same.refl _, dom, fun i xs a e1 _ => (noow i xs e1).elim, fun i j xs ys a e1 _ _ _ => (noow i xs e1).elim, hlen⟩
    obtain ⟨v, e2, q⟩ := repl_map r (env0_get e1)
    refine ⟨v, ?_, ?_⟩
    · unfold L2.start
      rw [List.getElem?_append_left]
      · exact e2
      · exact (List.getElem?_eq_some_iff.mp e2).1
    · cases s with
      | fr d => exact Rep.mono (.of (Same.refl _) fun b _ z => zZ b z) _ _ q
      | ow xs => exact (noow i xs e1).elim
  refine ⟨env0 ps.length N.length ds, Z, H, sr, ?_⟩
  cases e : m (env0 ps.length N.length ds) with
  | nx e' => rw [e] at hp; exact fun σ' H' q => hp .non H' q.same (Rep.non_.mpr rfl)
  | rt s => rw [e] at hp; cases s <;> exact hp
  | ex c p e' => rw [e] at hp; exact fun σ' H' dd q z => hp H' dd q.same z
  | bk e' => rw [e] at hp; exact hp.elim
  | ct e' => rw [e] at hp; exact hp.elim
  | st => rw [e] at hp; exact hp.elim
theorem okF {y qual : Str} {st : Stmt} {a : Addr} {fd : FuncData} {N ps : List Str} {k : Nat} (F : Fun K y qual st a fd) (S : FnScope N ps (defScope st)) (hm : mg y = some (.ref a)) (hb : Binds K fd ps []) (m : MS)
    (body : ∀ (cdv : Value) (A : Around) (outer : List Env) (s : Shared) (H : Hp) (E : XK), Room k (A.deeper (envOfC qual (defScope st) s.heap.objs.size a cdv)) →
      PSsd g T (fun c d _ H => E c d H) (cxOf (L2.CX P w) P w K mg base N qual (defScope st) a cdv A outer s H E) (defBody st) m) : FD P w K mg base g (k + 1) y ps (runF ps.length N.length m) :=
  ⟨a, fd, hm, F.kp, hb, okF0 F S m body⟩
end

/-! ### raise -/
def sRaise (c : Nat) : MS := fun env => .ex c none env
def sRaise1 (c : Nat) (m : M) : MS := fun env => match m env with
  | .ok _ => .ex c none env
  | .ex c p => .ex c p env
  | .st => .st
/-- an own error class without an own __init__ -/
structure ECls (K : PySem.W.Frag) (mg : Str → Option Value) (g : G0) (c : Nat) (y : Str) : Prop where
  mg : mg y = some (.ref (g.cl c))
  ex : PySem.W.excIn K (g.cl c) [.type "ValueError", .type "Exception", .type "BaseException", .type "object"] "ValueError.__new__" = true
  kp : PySem.W.keepIn K (.ref (g.cl c)) = true
  sub : PySem.W.subIn K (.ref (g.cl c)) (.type "BaseException") = some true
  ty : PySem.W.typeIn K (.ref (g.cl c)) = some (.type "type")
section
variable {g : G0} {x : L2.St → Prop} {W : WX} {X : Cx} {e : Expr} {m : M} {pos p pos' : Pos}
theorem ds_raise {c : Nat} {y z : Str} {j : Nat} {p2 : Pos} (hc : X.calm = true) (tk : Takes X W) (E : ECls X.K X.mg g c y) (hg : Gl X y) (hdb : (y == ("__debug__" : Str)) = false := by decide) :
    PSd g x W X (.Raise (some (.Call (.Name y p) [.Constant (.str z) j p2] [] pos)) none pos') (sRaise c) :=
  weakS (ps_raise hc tk (pmk_own PySem.F.excBase_ValueError E.ex E.mg E.kp (raises_own E.sub E.ty) hg hdb)) fun D σ H ⟨env, A, H0, r, hp⟩ => hp σ H none r rfl
theorem ds_raise1 {c : Nat} {y : Str} (hc : X.calm = true) (tk : Takes X W) (E : ECls X.K X.mg g c y) (hg : Gl X y) (he : PEd g x W X e m) (hs : starEach [e] X.env = (false, eval e X.env) :: starEach [] X.env := by rfl)
    (hdb : (y == ("__debug__" : Str)) = false := by decide) : PSd g x W X (.Raise (some (.Call (.Name y p) [e] [] pos)) none pos') (sRaise1 c m) :=
  weakS (ps_raise hc tk (SkE.pmk_own1 PySem.F.excBase_ValueError E.ex E.mg E.kp (raises_own E.sub E.ty) hg he hs hdb)) fun D σ H ⟨env, A, H0, r, hp⟩ => by
    refine runE (f := fun _ => .ex c none env) r hp (fun d v H' _ k q hp => hp _ _ none (r.later k) rfl) fun xs a vs H' _ k n p q hp => hp _ _ none (r.later k) rfl
end

/-! ### try -/
def RS.clr (i : Nat) : RS → RS
  | .nx e => .nx (e.set i none)
  | .bk e => .bk (e.set i none)
  | .ct e => .ct (e.set i none)
  | .rt s => .rt s
  | .ex _ _ _ => .st
  | .st => .st
def RS.noex : RS → RS
  | .ex _ _ _ => .st
  | r => r
def sTry (cat : Nat → Option Bool) (mb : MS) (su : Nat → Pl → MS) : MS := fun env => match mb env with
  | .ex c p e => match cat c with
    | some true => (su c p e).noex
    | some false => .ex c p e
    | none => .st
  | r => r
def sTryAs (i : Nat) (cat : Nat → Option Bool) (mb : MS) (su : Nat → Pl → MS) : MS := fun env => match mb env with
  | .ex c p e => match cat c with
    | some true => if i < e.length then (su c p (e.set i none)).clr i else .st
    | some false => .ex c p e
    | none => .st
  | r => r
def xS (a : Addr) (i : Nat) : L2.St → Prop := fun σ => σ[i]? = some (some (.ref a))
section
variable {K : PySem.W.Frag} {g : G0} {x x' : L2.St → Prop} {W : WX} {A : Av} {H0 H H' : Hp} {env : En} {σ : L2.St}
theorem SRel.clr (r : SRel K g x A H0 env σ H) (i : Nat) (u : Option V) (hx : x' (σ.set i u)) : SRel K g x' A H0 (env.set i none) (σ.set i u) H := by
  have fix : ∀ {j : Nat} {s : Sl}, (env.set i none)[j]? = some (some s) → i ≠ j ∧ env[j]? = some (some s) := fun {j s} f => by
    rcases set_get f with ⟨_, e, _⟩ | h
    · cases e
    · exact h
  have zs : ∀ a, zz A (env.set i none) (σ.set i u) a → zz A env σ a := by
    rintro a (z | ⟨j, xs, e1, e2⟩)
    · exact .inl z
    · obtain ⟨ne, e1⟩ := fix e1
      rw [List.getElem?_set_ne ne] at e2
      exact .inr ⟨j, xs, e1, e2⟩
  have kp : Kp H (zz A env σ) H (zz A (env.set i none) (σ.set i u)) := .of (Same.refl _) fun a _ z => zs a z
  refine ⟨⟨fun a z => r.er.dom a (zs a z), hx, by rw [List.length_set, List.length_set, r.len], fun j s f => ?_⟩, r.same, r.adom, fun j xs a e1 e2 => ?_, fun j l xs ys a e1 e2 e3 e4 => ?_, by rw [List.length_set, List.length_set, r.len]⟩
  · obtain ⟨ne, f⟩ := fix f
    obtain ⟨v, e2, q⟩ := r.er.at_ j s f
    refine ⟨v, by rw [List.getElem?_set_ne ne]; exact e2, ?_⟩
    cases s with
    | fr d => exact Rep.mono kp _ _ q
    | ow xs =>
      obtain ⟨a, vs, ev, z, p, rr⟩ := q
      subst ev
      exact ⟨a, vs, rfl, .inr ⟨j, xs, by rw [List.getElem?_set_ne ne]; exact f, by rw [List.getElem?_set_ne ne]; exact e2⟩, p, RepL.mono kp _ _ rr⟩
  · obtain ⟨ne, e1⟩ := fix e1
    rw [List.getElem?_set_ne ne] at e2
    exact r.fresh j xs a e1 e2
  · obtain ⟨ne, e1⟩ := fix e1
    obtain ⟨ne2, e2⟩ := fix e2
    rw [List.getElem?_set_ne ne] at e3
    rw [List.getElem?_set_ne ne2] at e4
    exact r.dist j l xs ys a e1 e2 e3 e4
theorem noexPost {D : Ends} {u : RS} (h : PostS K g x W A H0 D u.noex) : PostS K g x W0 A H0 D u := by
  cases u with
  | rt s => cases s <;> exact h
  | ex c p e => exact h.elim
  | _ => exact h
theorem clrPost {a : Addr} {i : Nat} {D : Ends} {u : RS} (h : PostS K g T W A H0 D (u.clr i)) :
    PostS K g (xS a i) W0 A H0 { nx := fun σ' H' => D.nx (σ'.set i none) H', rt := D.rt, bk := fun σ' H' => D.bk (σ'.set i none) H', ct := fun σ' H' => D.ct (σ'.set i none) H' } u := by
  cases u with
  | nx e => exact fun σ' H' q => h _ _ (q.clr i none trivial)
  | bk e => exact fun σ' H' q => h _ _ (q.clr i none trivial)
  | ct e => exact fun σ' H' q => h _ _ (q.clr i none trivial)
  | rt s => cases s <;> exact h
  | ex c p e => exact h.elim
  | st => exact h
end
section
variable {g : G0} {W : WX} {X : Cx} {y n : Str} {cv : Value} {i : Nat} {body suite : List Stmt} {b₀ : Stmt} {np pos pos' : Pos} {mb : MS} {su : Nat → Pl → MS} {cat : Nat → Option Bool}
theorem ds_tryAs (hs : X.stack = X.env :: X.outer) (hf : X.env.frame = some X.env.locals) (hN : X.N.Nodup) (hi : X.N[i]? = some n) (hln : X.env.kindOf n = some .local) (hc : Names X y cv) (tk : Takes X W)
    (hcat : ∀ c b, cat c = some b → PySem.W.exmOne X.K (.ref (g.cl c)) cv = some b)
    (hb : ∀ (W' : WX) (pn : List (Addr × Obj)) (xe : Value → Shared → Prop), Takes (X.tr pn xe) W' → PassesOwn (model X.prog X.w) X.A X.env xe → PSsd g T W' (X.tr pn xe) body mb)
    (hsu : ∀ (c : Nat) (p : Pl) (a : Addr) (oe : Obj) (d : Option Addr) (pn : List (Addr × Obj)), cat c = some true → (p = none → d = none) → Zc (.ref (g.cl c)) d oe → (∃ vs, oe.data = .fields vs) → PSsd g (xS a i) W0 (X.suite a ((a, oe) :: pn)) (b₀ :: suite) (su c p)) :
    PSd g T W X (.Try body [.ExceptHandler (some (.Name y np)) (some n) (b₀ :: suite) pos'] [] [] pos) (sTryAs i cat mb su) := by
  refine weakS (ps_try_as (tb := fun W' => tS X.K g T W' mb)
    (ts := fun a cls d D σ H => ∃ c p, cls = .ref (g.cl c) ∧ cat c = some true ∧ (p = none → d = none) ∧ tS X.K g (xS a i) W0 (su c p) D σ H) hs hf hN hi hln hc tk hb (fun a oe cls d pn hz hd => ⟨fun pins s σ H D I ⟨c, p, e, ct, pd, h⟩ => ?_⟩)) fun D σ H ⟨env, A, H0, r, hp⟩ => ?_
  · subst e
    exact (hsu c p a oe d pn ct pd hz hd).run pins s σ H D I h
  · refine ⟨env, A, H0, r, ?_⟩
    unfold sTryAs at hp
    cases eb : mb env with
    | ex c p e =>
      rw [eb] at hp
      intro σ' H' dd q pl
      have hp : PostS X.K g T W A H0 D (match cat c with | some true => (if i < e.length then (su c p (e.set i none)).clr i else .st) | some false => .ex c p e | none => .st) := hp
      cases ec : cat c with
      | none => rw [ec] at hp; exact hp.elim
      | some b =>
        rw [ec] at hp
        refine ⟨b, hcat c b ec, fun hb a na => ?_, fun hb => ?_⟩
        · subst hb
          have hp : PostS X.K g T W A H0 D (if i < e.length then (su c p (e.set i none)).clr i else .st) := hp
          split at hp
          case isFalse => exact hp.elim
          rename_i hi'
          rw [q.len] at hi'
          have nd : p = none → dd = none := fun e => by subst e; exact pl
          exact ⟨c, p, rfl, ec, nd, e.set i none, A, H0, q.clr i (some (.ref a)) (by unfold xS; rw [List.getElem?_set_self hi']), clrPost hp⟩
        · subst hb
          exact hp σ' H' dd q pl
    | rt s => rw [eb] at hp; cases s <;> exact hp
    | nx e => rw [eb] at hp; exact hp
    | bk e => rw [eb] at hp; exact hp
    | ct e => rw [eb] at hp; exact hp
    | st => rw [eb] at hp; exact hp
theorem ds_try (hs : X.stack = X.env :: X.outer) (hf : X.env.frame = some X.env.locals) (hc : Names X y cv) (tk : Takes X W)
    (hcat : ∀ c b, cat c = some b → PySem.W.exmOne X.K (.ref (g.cl c)) cv = some b)
    (hb : ∀ (W' : WX) (pn : List (Addr × Obj)) (xe : Value → Shared → Prop), Takes (X.tr pn xe) W' → PassesOwn (model X.prog X.w) X.A X.env xe → PSsd g T W' (X.tr pn xe) body mb)
    (hsu : ∀ (c : Nat) (p : Pl) (a : Addr) (oe : Obj) (pn : List (Addr × Obj)), cat c = some true → PSsd g T W0 (X.suite a ((a, oe) :: pn)) (b₀ :: suite) (su c p)) :
    PSd g T W X (.Try body [.ExceptHandler (some (.Name y np)) none (b₀ :: suite) pos'] [] [] pos) (sTry cat mb su) := by
  refine weakS (ps_try_only (tb := fun W' => tS X.K g T W' mb) (ts := fun a cls d D σ H => ∃ c p, cat c = some true ∧ tS X.K g T W0 (su c p) D σ H) hs hf hc tk hb (fun a oe cls d pn hz hd => ⟨fun pins s σ H D I ⟨c, p, ct, h⟩ => (hsu c p a oe pn ct).run pins s σ H D I h⟩)) fun D σ H ⟨env, A, H0, r, hp⟩ => ?_
  refine ⟨env, A, H0, r, ?_⟩
  unfold sTry at hp
  cases eb : mb env with
  | ex c p e =>
    rw [eb] at hp
    intro σ' H' dd q pl
    have hp : PostS X.K g T W A H0 D (match cat c with | some true => (su c p e).noex | some false => .ex c p e | none => .st) := hp
    cases ec : cat c with
    | none => rw [ec] at hp; exact hp.elim
    | some b =>
      rw [ec] at hp
      refine ⟨b, hcat c b ec, fun hb a na => ?_, fun hb => ?_⟩
      · subst hb
        exact ⟨c, p, ec, e, A, H0, q, noexPost hp⟩
      · subst hb
        exact hp σ' H' dd q pl
  | rt s => rw [eb] at hp; cases s <;> exact hp
  | nx e => rw [eb] at hp; exact hp
  | bk e => rw [eb] at hp; exact hp
  | ct e => rw [eb] at hp; exact hp
  | st => rw [eb] at hp; exact hp
end
end DL
set_option Elab.async false
set_option linter.all false
set_option maxRecDepth 100000
namespace DL
open PySem PySem.Spec L2
open PyProof.Rows hiding St

/-! ### comprehensions -/
def R.quiet {α : Type} : R α → R α
  | .ok a => .ok a
  | _ => .st
def compL (as : D → En → Option En) (t : En → R Bool) (me : M) (env : En) : List D → R (List D)
  | [] => .ok []
  | d :: ds => match as d env with
    | none => .st
    | some e1 => (t e1).quiet.bind fun b => if b = true then (me e1).quiet.bind fun s => (compL as t me env ds).bind fun r => .ok (s.d :: r) else compL as t me env ds
def wipeE (env : En) : List Nat → En
  | [] => env
  | v :: vs => (wipeE env vs).set v none
def mComp (mi : En → R (List D)) (pt : Pt) (t : En → R Bool) (me : M) (vs : List Nat) : M := fun env => (mi env).bind fun xs =>
  if xs.length ≤ lim then (compL pt.go t me (wipeE env vs) xs).quiet.bind fun r => .ok (.ow r) else .st
def Pq.slots : Pq → List Nat
  | .n i => [i]
  | .t is => is
def Pt.slots : Pt → List Nat
  | .nm i => [i]
  | .tp is => is
  | .tn qs => qs.flatMap Pq.slots
section
variable {K : PySem.W.Frag} {g : G0} {x : L2.St → Prop} {W : WX} {Z Z' : Av} {env e1 : En} {σ : L2.St} {H H' : Hp}
theorem ERel.setFr (er : ERel K g T Z env σ H) {i : Nat} {d : D} {v : V} (h : Rep K g H Z d v) : ERel K g T Z (env.set i (some (.fr d))) (σ.set i (some v)) H := by
  refine ⟨er.dom, trivial, by rw [List.length_set, List.length_set, er.len], fun j s e => ?_⟩
  rcases set_get e with ⟨ij, e, hl⟩ | ⟨ne, e⟩
  · cases e
    subst ij
    exact ⟨v, by rw [List.getElem?_set_self (by rw [← er.len]; exact hl)], h⟩
  · obtain ⟨u, e2, q⟩ := er.at_ j s e
    exact ⟨u, by rw [List.getElem?_set_ne ne]; exact e2, q⟩
theorem ERel.wipe (er : ERel K g x Z env σ H) : ∀ vs : List Nat, ERel K g T Z (wipeE env vs) (wipe σ vs) H
  | [] => ⟨er.dom, trivial, er.len, er.at_⟩
  | v :: vs => by
    have r := er.wipe vs
    refine ⟨r.dom, trivial, by unfold wipeE L2.wipe; rw [List.length_set, List.length_set, r.len], fun j s e => ?_⟩
    unfold wipeE at e
    rcases set_get e with ⟨_, e, _⟩ | ⟨ne, e⟩
    · cases e
    · obtain ⟨u, e2, q⟩ := r.at_ j s e
      refine ⟨u, ?_, q⟩
      unfold L2.wipe
      rw [List.getElem?_set_ne ne]
      exact e2
theorem SlIn.kp {s : Sl} {v : V} (k : Kp H Z H' Z') (ow : ∀ a, Z a → Z' a) (lst : ∀ a o, Z a → H a = some o → H' a = some o) (h : SlIn K g H Z s v) : SlIn K g H' Z' s v := by
  cases s with
  | fr d => exact Rep.mono k _ _ h
  | ow xs =>
    obtain ⟨a, vs, ev, z, p, rr⟩ := h
    exact ⟨a, vs, ev, ow a z, lst a _ z p, RepL.mono k _ _ rr⟩
theorem wipe_set {i : Nat} {u : Option V} : ∀ {vs : List Nat} {σ : L2.St}, i ∈ vs → wipe (σ.set i u) vs = wipe σ vs
  | v :: vs, σ, h => by
    unfold L2.wipe
    by_cases hi : i ∈ vs
    · rw [wipe_set hi]
    · have e : i = v := (List.mem_cons.mp h).elim id fun q => absurd q hi
      subst e
      have c : ∀ (vs : List Nat) (σ : L2.St), i ∉ vs → wipe (σ.set i u) vs = (wipe σ vs).set i u := by
        intro vs
        induction vs with
        | nil => intro σ _; rfl
        | cons w ws ih =>
          intro σ hn
          unfold L2.wipe
          rw [ih σ fun q => hn (List.mem_cons_of_mem _ q), List.set_comm]
          intro q
          exact hn (by rw [q]; exact List.mem_cons_self)
      rw [c vs σ hi, List.set_set]
  | [], _, h => absurd h (by simp)
theorem wipe_wipe : ∀ (vs : List Nat) (σ : L2.St), wipe (wipe σ vs) vs = wipe σ vs := by
  have gen : ∀ (ws vs : List Nat) (σ : L2.St), (∀ v ∈ ws, v ∈ vs) → wipe (wipe σ ws) vs = wipe σ vs := by
    intro ws
    induction ws with
    | nil => intro vs σ _; rfl
    | cons v ws ih =>
      intro vs σ h
      show wipe ((wipe σ ws).set v none) vs = _
      rw [wipe_set (h v List.mem_cons_self), ih vs σ fun u hu => h u (List.mem_cons_of_mem _ hu)]
  exact fun vs σ => gen vs vs σ fun _ h => h
theorem gAll_okE {vs : List Nat} : ∀ (is : List Nat) (ds : List D) (ws : List V) (env : En) (σ : L2.St) (Q : L2.St → Hp → Prop), (∀ i ∈ is, i ∈ vs) → ERel K g T Z env σ H → RepL K g H Z ds ws → ds.length = is.length →
    (∀ σ', wipe σ' vs = wipe σ vs → ERel K g T Z (setAll is ds env) σ' H → Q σ' H) → gAll is ws σ H Q
  | [], [], ws, env, σ, Q, _, r, rr, l, h => ⟨RepL.nil_.mp rr, h σ rfl r⟩
  | i :: is, d :: ds, ws, env, σ, Q, sub, r, rr, l, h => by
    obtain ⟨v, w, ev, h1, h2⟩ := RepL.cons_.mp rr
    refine ⟨v, w, ev, ?_⟩
    refine gAll_okE is ds w _ _ Q (fun j hj => sub j (List.mem_cons_of_mem _ hj)) (r.setFr (i := i) h1) h2 (by simpa using l) fun σ' e er => h σ' ?_ er
    rw [e, wipe_set (sub i List.mem_cons_self)]
  | [], d :: ds, ws, env, σ, Q, _, r, rr, l, h => by simp at l
  | i :: is, [], ws, env, σ, Q, _, r, rr, l, h => by simp at l
theorem Pq.okE {vs : List Nat} {q : Pq} {d : D} {v : V} {Q : L2.St → Hp → Prop} {env e1 : En} {σ : L2.St} (sub : ∀ i ∈ q.slots, i ∈ vs) (r : ERel K g T Z env σ H) (p : Rep K g H Z d v) (h : q.go d env = some e1)
    (k : ∀ σ', wipe σ' vs = wipe σ vs → ERel K g T Z e1 σ' H → Q σ' H) : q.tg K v σ H Q := by
  cases q with
  | n i => cases h; exact k _ (wipe_set (sub i (by simp [Pq.slots]))) (r.setFr p)
  | t is =>
    cases d with
    | tup ds =>
      have h : (if ds.length = is.length then some (setAll is ds env) else none) = some e1 := h
      split at h
      · rename_i l
        cases h
        obtain ⟨a, ws, ev, sq, rr⟩ := Rep.tup_.mp p
        exact ⟨a, ws, ev, sq.sqT, by rw [← rr.length]; exact l, gAll_okE is ds ws env σ Q sub r rr l k⟩
      · cases h
    | _ => cases h
theorem gAllQ_okE {vs : List Nat} : ∀ (qs : List Pq) (ds : List D) (ws : List V) (env e1 : En) (σ : L2.St) (Q : L2.St → Hp → Prop), (∀ i ∈ qs.flatMap Pq.slots, i ∈ vs) → ERel K g T Z env σ H → RepL K g H Z ds ws → setQ qs ds env = some e1 →
    (∀ σ', wipe σ' vs = wipe σ vs → ERel K g T Z e1 σ' H → Q σ' H) → gAllQ K qs ws σ H Q
  | [], [], ws, env, e1, σ, Q, _, r, rr, h, k => by cases h; exact ⟨RepL.nil_.mp rr, k σ rfl r⟩
  | q :: qs, d :: ds, ws, env, e1, σ, Q, sub, r, rr, h, k => by
    obtain ⟨v, w, ev, h1, h2⟩ := RepL.cons_.mp rr
    have h : (match q.go d env with | some e => setQ qs ds e | none => none) = some e1 := h
    rw [List.flatMap_cons] at sub
    cases c : q.go d env with
    | none => rw [c] at h; cases h
    | some e =>
      rw [c] at h
      refine ⟨v, w, ev, Pq.okE (fun i m => sub i (List.mem_append_left _ m)) r h1 c fun σ' ew r' => ?_⟩
      exact gAllQ_okE qs ds w e e1 σ' Q (fun i m => sub i (List.mem_append_right _ m)) r' h2 h fun σ2 ew2 r2 => k σ2 (ew2.trans ew) r2
  | [], _ :: _, _, _, _, _, _, _, _, _, h, _ => by cases h
  | _ :: _, [], _, _, _, _, _, _, _, _, h, _ => by cases h
theorem Pt.okE {vs : List Nat} {pt : Pt} {d : D} {v : V} {Q : L2.St → Hp → Prop} (sub : ∀ i ∈ pt.slots, i ∈ vs) (r : ERel K g T Z env σ H) (q : Rep K g H Z d v) (h : pt.go d env = some e1)
    (k : ∀ σ', wipe σ' vs = wipe σ vs → ERel K g T Z e1 σ' H → Q σ' H) : pt.tg K v σ H Q := by
  cases pt with
  | nm i => cases h; exact k _ (wipe_set (sub i (by simp [Pt.slots]))) (r.setFr q)
  | tp is =>
    cases d with
    | tup ds =>
      have h : (if ds.length = is.length then some (setAll is ds env) else none) = some e1 := h
      split at h
      · rename_i l
        cases h
        obtain ⟨a, ws, ev, sq, rr⟩ := Rep.tup_.mp q
        exact ⟨a, ws, ev, sq.sqT, by rw [← rr.length]; exact l, gAll_okE is ds ws env σ Q sub r rr l k⟩
      · cases h
    | _ => cases h
  | tn qs =>
    cases d with
    | tup ds =>
      have h : setQ qs ds env = some e1 := h
      obtain ⟨a, ws, ev, sq, rr⟩ := Rep.tup_.mp q
      exact ⟨a, ws, ev, sq.sqT, by rw [← rr.length]; exact setQ_len h, gAllQ_okE qs ds ws env e1 σ Q sub r rr h k⟩
    | _ => cases h
theorem compL_len {as : D → En → Option En} {t : En → R Bool} {me : M} : ∀ {ds r : List D}, compL as t me env ds = .ok r → r.length ≤ ds.length
  | [], r, h => by cases h; exact Nat.le_refl _
  | d :: ds, r, h => by
    unfold compL at h
    cases ea : as d env with
    | none => rw [ea] at h; cases h
    | some e1 =>
      rw [ea] at h
      have h : ((t e1).quiet.bind fun b => if b = true then (me e1).quiet.bind fun s => (compL as t me env ds).bind fun r => .ok (s.d :: r) else compL as t me env ds) = .ok r := h
      cases et : (t e1).quiet with
      | ok b =>
        rw [et] at h
        have h : (if b = true then (me e1).quiet.bind fun s => (compL as t me env ds).bind fun r => .ok (s.d :: r) else compL as t me env ds) = .ok r := h
        split at h
        · cases em : (me e1).quiet with
          | ok s =>
            rw [em] at h
            have h : ((compL as t me env ds).bind fun r => R.ok (s.d :: r)) = .ok r := h
            cases ec : compL as t me env ds with
            | ok r2 => rw [ec] at h; cases h; exact Nat.succ_le_succ (compL_len ec)
            | ex c p => rw [ec] at h; cases h
            | st => rw [ec] at h; cases h
          | ex c p => rw [em] at h; cases h
          | st => rw [em] at h; cases h
        · exact Nat.le_succ_of_le (compL_len h)
      | ex c p => rw [et] at h; cases h
      | st => rw [et] at h; cases h
theorem quiet_ok {α : Type} {r : R α} {a : α} (h : r.quiet = .ok a) : r = .ok a := by
  cases r with
  | ok b => exact h
  | ex c p => cases h
  | st => cases h
/-- what a comprehension reads -/
theorem lcOk {mi : En → R (List D)} {pt : Pt} {t : En → R Bool} {me : M} {vs : List Nat} {Q : VK} (sub : ∀ i ∈ pt.slots, i ∈ vs) (h : tM K g x W (mComp mi pt t me vs) σ H Q) :
    tLc (tI K g x W mi) (pt.tg K) (tT K g T W0 t) (tM K g T W0 me) vs σ H Q := by
  obtain ⟨env, Z, er, hp⟩ := h
  refine ⟨env, Z, er, ?_⟩
  unfold mComp at hp
  cases ei : mi env with
  | ex c p => rw [ei] at hp; exact hp
  | st => rw [ei] at hp; exact hp
  | ok xs =>
    rw [ei] at hp
    have hp : PostE K g W Z σ H Q (if xs.length ≤ lim then (compL pt.go t me (wipeE env vs) xs).quiet.bind fun r => .ok (.ow r) else .st) := hp
    split at hp
    case isFalse => exact hp.elim
    rename_i hlim
    cases ec : (compL pt.go t me (wipeE env vs) xs).quiet with
    | ex c p => exact absurd ec (by intro q; cases e : compL pt.go t me (wipeE env vs) xs <;> rw [e] at q <;> cases q)
    | st => rw [ec] at hp; exact hp.elim
    | ok total =>
      rw [ec] at hp
      have hp : PostE K g W Z σ H Q (.ok (.ow total)) := hp
      have ec := quiet_ok ec
      intro J H1 k walk L hL
      have er1 := er.mono k
      refine ⟨fun i m H' => m = xs.length - i ∧ i ≤ xs.length ∧ Same H1 H' ∧ ∃ acc ds0 r, H' L = some (.lst acc) ∧ RepL K g H' (fun b => Z b ∨ b = L) ds0 acc ∧ acc.length ≤ i ∧ compL pt.go t me (wipeE env vs) (xs.drop i) = .ok r ∧ total = ds0 ++ r,
        ⟨xs.length, rfl, Nat.zero_le _, same_upd hL, [], [], total, upd_same, RepL.nil_.mpr rfl, Nat.le_refl _, ec, rfl⟩, ?_⟩
      rintro i m H' ⟨rfl, hi, s1, acc, ds0, r, hD, hacc, hal, hc, ht⟩
      have kp : Kp H1 Z H' Z := .same_ s1
      by_cases hl : i < xs.length
      · obtain ⟨d, ed, edr⟩ := drop_get hl
        rw [edr] at hc
        unfold compL at hc
        refine .inr ⟨walk.go i d H' ed kp.toF, fun H2 => Same H1 H2 ∧ ∃ acc ds0 r, H2 L = some (.lst acc) ∧ RepL K g H2 (fun b => Z b ∨ b = L) ds0 acc ∧ acc.length ≤ i + 1 ∧ compL pt.go t me (wipeE env vs) (xs.drop (i + 1)) = .ok r ∧ total = ds0 ++ r, ?_, ?_⟩
        · rintro H2 h2
          exact ⟨xs.length - (i + 1), by omega, rfl, hl, h2⟩
        · intro v H2 y
          obtain ⟨k2, rep⟩ := walk.yld i d H' v H2 ed kp.toF y
          have s2 : Same H1 H2 := s1.trans k2
          have hD2 : H2 L = some (.lst acc) := k2 _ _ hD
          have kz : Kp H1 Z H2 (fun b => Z b ∨ b = L) := .of s2 fun b n z => z.elim id fun e => absurd hL (by rw [← e]; exact n)
          have dom2 : ∀ a, (Z a ∨ a = L) → H2 a ≠ none := fun a z => z.elim (fun z => dom_mono s2 er1.dom a z) fun e => by rw [e, hD2]; simp
          have ew : ERel K g T (fun b => Z b ∨ b = L) (wipeE env vs) (wipe σ vs) H2 := by
            have w := er1.wipe vs
            refine ⟨dom2, trivial, w.len, fun j s e => ?_⟩
            obtain ⟨u, e2, q⟩ := w.at_ j s e
            exact ⟨u, e2, q.kp kz (fun a z => .inl z) fun a o _ e => s2 a o e⟩
          cases ea : pt.go d (wipeE env vs) with
          | none => rw [ea] at hc; cases hc
          | some e1 =>
            rw [ea] at hc
            have hc : ((t e1).quiet.bind fun b => if b = true then (me e1).quiet.bind fun s => (compL pt.go t me (wipeE env vs) (xs.drop (i + 1))).bind fun r => .ok (s.d :: r) else compL pt.go t me (wipeE env vs) (xs.drop (i + 1))) = .ok r := hc
            refine Pt.okE sub ew (rep _ kz (fun a z => z.elim (fun z => dom_mono s1 er1.dom a z) fun e => by rw [e, hD]; simp)) ea fun σ2 ws er2 => ?_
            refine ⟨by rw [ws, wipe_wipe], e1, _, er2, ?_⟩
            cases et : t e1 with
            | ex c p => rw [et] at hc; cases hc
            | st => rw [et] at hc; cases hc
            | ok b =>
              rw [et] at hc
              have hc : (if b = true then (me e1).quiet.bind fun s => (compL pt.go t me (wipeE env vs) (xs.drop (i + 1))).bind fun r => .ok (s.d :: r) else compL pt.go t me (wipeE env vs) (xs.drop (i + 1))) = .ok r := hc
              intro H3 k3
              cases b with
              | false => exact ⟨s2.trans k3, acc, ds0, r, k3 _ _ hD2, RepL.mono (.same_ (k2.trans k3)) _ _ hacc, Nat.le_succ_of_le hal, hc, ht⟩
              | true =>
                rw [if_pos rfl] at hc ⊢
                refine use (Z := fun b => Z b ∨ b = L) (er2.mono k3) ?_
                cases em : me e1 with
                | ex c p => rw [em] at hc; cases hc
                | st => rw [em] at hc; cases hc
                | ok s =>
                  rw [em] at hc
                  have hc : ((compL pt.go t me (wipeE env vs) (xs.drop (i + 1))).bind fun r => R.ok (s.d :: r)) = .ok r := hc
                  cases ec2 : compL pt.go t me (wipeE env vs) (xs.drop (i + 1)) with
                  | ex c p => rw [ec2] at hc; cases hc
                  | st => rw [ec2] at hc; cases hc
                  | ok r2 =>
                    rw [ec2] at hc
                    cases hc
                    intro y H4 k4 q
                    have hD4 : H4 L = some (.lst acc) := k4 _ _ (k3 _ _ hD2)
                    have zL : (fun b => Z b ∨ b = L) L := Or.inr rfl
                    have km : Kp H4 (fun b => Z b ∨ b = L) (upd H4 L (.lst (acc ++ [y]))) (fun b => Z b ∨ b = L) :=
                      ⟨fun b o e n => by rw [upd_ne (fun q => n (by rw [q]; exact zL))]; exact e, fun b o us tt => by
                        have nb : b ≠ L := fun q => by
                          subst q
                          rw [hD4] at tt
                          cases tt
                        rw [upd_ne nb]
                        exact tt, fun b _ n => n⟩
                    refine ⟨acc, hD4, Nat.lt_of_le_of_lt hal (Nat.lt_of_lt_of_le hl (limLine hlim)), fun b o e => ?_, acc ++ [y], ds0 ++ [s.d], r2, upd_same, ?_, by rw [List.length_append, List.length_singleton]; omega, rfl, by rw [ht, List.append_assoc]; rfl⟩
                    · rw [upd_ne (ne_of_none e hL)]
                      exact k4 _ _ (k3 _ _ (s2 b o e))
                    · exact RepL.mono km _ _ ((RepL.mono (.same_ ((k2.trans k3).trans k4)) _ _ hacc).append (.one q))
      · have ei : i = xs.length := by omega
        subst ei
        rw [List.drop_length] at hc
        cases hc
        rw [List.append_nil] at ht
        subst ht
        exact .inl ⟨walk.stop _ H' (Nat.le_refl _) kp.toF, hp L acc H' (k.trans s1) (k.free hL) hD hacc⟩
end
section
variable {g : G0} {x : L2.St → Prop} {W : WX} {X : Cx} {elt tg iter : Expr} {ifs : List Expr} {scope : Scope} {own : List (Str × Nat)} {pos : Pos} {mi : En → R (List D)} {pt : Pt} {t : En → R Bool} {me : M}
abbrev PTsd (g : G0) (x : L2.St → Prop) (W : WX) (X : Cx) (es : List Expr) (m : En → R Bool) : Prop := PTs X es (tT X.K g x W m)
def tYesM : En → R Bool := fun _ => .ok true
theorem dts_nil : PTsd g x W X [] tYesM := ⟨fun pins s σ H Q I ⟨env, Z, er, hp⟩ => pts_nil.run pins s σ H Q I (hp H (Same.refl _))⟩
theorem dts_one {c : Expr} {t : En → R Bool} (h : PTd g x W X c t) : PTsd g x W X [c] t := pts_one h
theorem de_lc (hc : X.calm = true) (hN : X.N.Nodup) (hi : PId g x W X tg iter mi) (ok : BlkOk X.N X.env.scope scope own) (sub : ∀ i ∈ pt.slots, i ∈ own.map (·.2))
    (hg : ∀ (s : Shared) (H : Hp) (C : Addr) (cl : List (Str × Addr)) (fp : List Addr), PG (X.blk s H scope (compEnvC scope cl C X.env) fp) tg (pt.tg X.K))
    (ht : ∀ (s : Shared) (H : Hp) (C : Addr) (cl : List (Str × Addr)) (fp : List Addr), PTsd g T W0 (X.blk s H scope (compEnvC scope cl C X.env) fp) ifs t)
    (he : ∀ (s : Shared) (H : Hp) (C : Addr) (cl : List (Str × Addr)) (fp : List Addr), PEd g T W0 (X.blk s H scope (compEnvC scope cl C X.env) fp) elt me) (hs : ∀ x, foldedSetIterable iter X.env x = pure x := by intro _; rfl) :
    PEd g x W X (.ListComp elt [⟨tg, iter, ifs, 0⟩] scope pos) (mComp mi pt t me (own.map (·.2))) :=
  weakE (pe_lc hc hN hi ok hg ht he hs) fun σ H Q h => lcOk sub h
theorem ds_setLc {i : Nat} {y : Str} {py spos : Pos} (hx : ∀ σ, x σ) (hc : X.calm = true) (hN : X.N.Nodup) (hy : X.N[i]? = some y) (hyl : X.env.scope.names.lookup y = some .local)
    (hsw : swapsWith (.ListComp elt [⟨tg, iter, ifs, 0⟩] scope pos) (some (.Name y py)) spos.line X.env = pure true) (hi : PId g x W X tg iter mi) (ok : BlkOk X.N X.env.scope scope own) (sub : ∀ i ∈ pt.slots, i ∈ own.map (·.2))
    (hg : ∀ (s : Shared) (H : Hp) (C : Addr) (cl : List (Str × Addr)) (fp : List Addr), PG (X.blk s H scope (compEnvC scope cl C X.env) fp) tg (pt.tg X.K))
    (ht : ∀ (s : Shared) (H : Hp) (C : Addr) (cl : List (Str × Addr)) (fp : List Addr), PTsd g T W0 (X.blk s H scope (compEnvC scope cl C X.env) fp) ifs t)
    (he : ∀ (s : Shared) (H : Hp) (C : Addr) (cl : List (Str × Addr)) (fp : List Addr), PEd g T W0 (X.blk s H scope (compEnvC scope cl C X.env) fp) elt me) (hs : ∀ x, foldedSetIterable iter X.env x = pure x := by intro _; rfl) :
    PSd g x W X (.Assign [.Name y py] (.ListComp elt [⟨tg, iter, ifs, 0⟩] scope pos) spos) (sSet i (mComp mi pt t me (own.map (·.2)))) :=
  weakS (ps_setLc hc hN hy hyl hsw hi ok hg ht he hs) fun D σ H ⟨env, A, H0, r, hp⟩ => lcOk sub
    (runE (f := fun s => .nx (env.set i (some s))) r hp (fun d v H' _ k q hp => hp _ _ (r.setFr hx k q)) fun xs a vs H' _ k n p q hp => hp _ _ (r.setOw hx k n p q))
end

/-! ### further statements -/
def sUnp (pt : Pt) (m : M) : MS := fun env => match m env with
  | .ok s => match pt.go s.d env with
    | some e => .nx e
    | none => .st
  | .ex c p => .ex c p env
  | .st => .st
def ixD (n : Nat) (i : Int) : Option Nat := if 0 ≤ i then (if i < n then some i.toNat else none) else if -(n : Int) ≤ i then some (i + n).toNat else none
def sPut (i : Nat) (mk : B) (me : M) : MS := fun env => match me env with
  | .ok s => match env[i]? with
    | some (some (.ow xs)) => match mk env with
      | .ok k => match k with
        | .int j => match ixD xs.length j with
          | some n => .nx (env.set i (some (.ow (xs.set n s.d))))
          | none => .st
        | _ => .st
      | .ex c p => .ex c p env
      | .st => .st
    | _ => .st
  | .ex c p => .ex c p env
  | .st => .st
section
variable {g : G0} {x : L2.St → Prop} {W : WX} {X : Cx} {e ek tg : Expr} {pos : Pos} {m me : M} {mk : B}
theorem exA {K : PySem.W.Frag} {A : Av} {H : Hp} {env : En} {σ : L2.St} {p : Pl} {dd : Option Addr} (q : ExP K g H (zz A env σ) p dd) : ExP K g H A p dd := by
  cases p with
  | none => exact q
  | some fx =>
    obtain ⟨da, v, e1, e2, e3⟩ := q
    exact ⟨da, v, e1, e2, Rep.mono (.of (Same.refl _) fun _ _ z => .inl z) _ _ e3⟩
theorem ds_unp (pt : Pt) (hx : ∀ σ, x σ) (he : PEd g x W X e m) (hg : PG X tg (pt.tg X.K)) (hs : swapsWithSole [tg] e pos.line X.env = pure false := by rfl) (hw : swappedStores [tg] e X.env = pure none := by rfl) (h1 : (assignEach [tg] X.env).map (·.2) = [assign tg X.env] := by rfl) : PSd g x W X (.Assign [tg] e pos) (sUnp pt m) :=
  weakS (ps_asg he hg hs hw h1) fun D σ H ⟨env, A, H0, r, hp⟩ => by
    refine use r.er ?_
    unfold sUnp at hp
    cases em : m env with
    | ok s =>
      rw [em] at hp
      intro v H' k q
      have hp : PostS X.K g x W A H0 D (match pt.go s.d env with | some e => .nx e | none => .st) := hp
      cases ep : pt.go s.d env with
      | none => rw [ep] at hp; exact hp.elim
      | some e1 =>
        rw [ep] at hp
        exact Pt.ok hx (r.later k) q ep fun σ' r' => hp σ' H' r'
    | ex c p => rw [em] at hp; exact fun H' dd k q => hp σ H' dd (r.later k) (exA q)
    | st => rw [em] at hp; exact hp
theorem ds_put (i : Nat) {y : Str} {p pi : Pos} (he : PEd g x W X e me) (hk : PBd g x W X ek mk) (hN : X.N[i]? = some y := by rfl) (hv : Vis X.env.scope y := by first | exact Or.inl rfl | exact Or.inr (Or.inl rfl) | exact Or.inr (Or.inr rfl)) (hd : (y == ("__debug__" : Str)) = false := by decide)
    (hcd : (y == ("__classdict__" : Str)) = false := by decide) (hg : PG X (.Subscript (.Name y p) ek pi) (gSub (tVar i) (tB X.K g x W mk) rSetL)) (hs : swapsWithSole [.Subscript (.Name y p) ek pi] e pos.line X.env = pure false := by rfl)
    (hw : swappedStores [.Subscript (.Name y p) ek pi] e X.env = pure none := by rfl) : PSd g x W X (.Assign [.Subscript (.Name y p) ek pi] e pos) (sPut i mk me) :=
  weakS (ps_asg he hg hs hw) fun D σ H ⟨env, A, H0, r, hp⟩ => by
    refine use r.er ?_
    unfold sPut at hp
    cases em : me env with
    | ok s =>
      rw [em] at hp
      intro v H' k q
      have r1 := r.later k
      have hp : PostS X.K g x W A H0 D (match env[i]? with
        | some (some (.ow xs)) => match mk env with
          | .ok k => match k with
            | .int j => match ixD xs.length j with
              | some n => .nx (env.set i (some (.ow (xs.set n s.d))))
              | none => .st
            | _ => .st
          | .ex c p => .ex c p env
          | .st => .st
        | _ => .st) := hp
      split at hp
      · rename_i xs e1
        obtain ⟨w, e2, a, vs, ev, z, p, rr⟩ := r1.er.at_ i _ e1
        subst ev
        refine ⟨.ref a, e2, ?_⟩
        refine ⟨env, zz A env σ, r1.er, ?_⟩
        cases ek : mk env with
        | ok kk =>
          rw [ek] at hp
          intro w H2 k2 q2
          cases kk with
          | int j =>
            have hp : PostS X.K g x W A H0 D (match ixD xs.length j with
              | some n => .nx (env.set i (some (.ow (xs.set n s.d))))
              | none => .st) := hp
            split at hp
            · rename_i n en
              exact ⟨a, vs, j, n, rfl, q2.int_, k2 _ _ p, by rw [← rr.length]; exact en, hp σ _ ((r1.later k2).mut e1 e2 (RepL.set n (RepL.mono (.same_ k2) _ _ rr) (Rep.mono (.same_ k2) _ _ q)))⟩
            · exact hp.elim
          | _ => exact hp.elim
        | ex c p => rw [ek] at hp; exact fun H2 dd k2 q => hp σ H2 dd (r1.later k2) (exA q)
        | st => rw [ek] at hp; exact hp
      · exact hp.elim
    | ex c p => rw [em] at hp; exact fun H' dd k q => hp σ H' dd (r.later k) (exA q)
    | st => rw [em] at hp; exact hp
/-- xs.append(ys.pop(k)) -/
def sAppPop (i j : Nat) (mk : B) : MS := fun env => match env[i]?, env[j]? with
  | some (some (.ow xs)), some (some (.ow ys)) => match mk env with
    | .ok k => match k with
      | .int n => match ixD ys.length n with
        | some l => match ys[l]? with
          | some d => if i ≠ j ∧ xs.length < lim ∧ -1000000 ≤ n ∧ n ≤ 1000000 then .nx ((env.set j (some (.ow (ys.eraseIdx l)))).set i (some (.ow (xs ++ [d])))) else .st
          | none => .st
        | none => .st
      | _ => .st
    | .ex c p => .ex c p env
    | .st => .st
  | _, _ => .st
end
end DL
set_option Elab.async false
set_option linter.all false
set_option maxRecDepth 100000
namespace DL
open PySem PySem.Spec L2
open PyProof.Rows hiding St
section
variable {prog : Program} {w : World} {A : Around} {E : Value → Shared → Prop} {s : Shared}
theorem gather_tup {t : Addr} {us : List Value} {Q : List Value → Shared → Prop} (ht : IsTup s.heap t us.toArray) (hz : us.length ≤ sizeLine)
    (h : Q us { s with heap := (s.heap.push (seqObj "list" #[] 0)).update s.heap.objs.size (Obj.mapSeq (· ++ us.toArray)) }) :
    wpAny (model prog w) A (collect (.ref t)) Q E s := by
  obtain ⟨ob, hob, hcl, k, hda⟩ := id ht
  unfold collect
  refine wpAny_bind (wpAny_runValue (codeAny_builtin entry_proto_collect' (show wpAny _ _ (do again (.builtin "list.__iadd__" ⟨[← newList [], .ref t], []⟩)) _ _ s from ?_)))
  refine wpAny_bind (wpAny_newList (wpAny_pure ⟨Code.quiet_builtin _ (by decide +kernel), codeAny_builtin entry_list_iadd' (show wpAny _ _ (Builtin.List.listExtendWith (.ref s.heap.objs.size) (.ref t) (.ref s.heap.objs.size)) _ _ { s with heap := s.heap.push (seqObj "list" #[] 0) } from ?_)⟩))
  unfold Builtin.List.listExtendWith
  have hob' : (s.heap.push (seqObj "list" #[] 0)).get? t = some ob := Heap.get?_push_of_some _ hob
  refine wpAny_bind (wpAny_typeOf (T := "tuple") ⟨ob, hob', hcl⟩ ?_)
  have tt : (Value.type "tuple" == Value.type "tuple") = true := by rfl
  rw [if_pos (by rw [tt]; simp)]
  refine wpAny_bind (listItems_at hob' hda (wpAny_bind (listItems_at (xs := #[]) (n := 0) (Heap.get?_push_size _ rfl) rfl ?_)))
  rw [if_neg (by simp)]
  refine wpAny_bind (listUpdate_at (xs := #[]) (n := 0) (Heap.get?_push_size _ rfl) rfl (wpAny_pure ?_) (Nat.zero_le _) (by show (#[] ++ us.toArray).size ≤ _; rw [Array.size_append]; simp; omega))
  show wpAny (model prog w) A (do
      let ob ← load s.heap.objs.size
      match ob.data with
      | .seq xs _ => pure xs.toList
      | _ => unsupported "internal:collect") Q E { s with heap := (s.heap.push (seqObj "list" #[] 0)).update s.heap.objs.size (Obj.mapSeq (· ++ us.toArray)) }
  refine wpAny_bind (wpAny_load (get?_update_seq (Heap.get?_push_size _ rfl) _) ?_)
  show wpAny _ _ (pure ((#[] : Array Value) ++ us.toArray).toList) Q E _
  rw [show ((#[] : Array Value) ++ us.toArray).toList = us by simp]
  exact wpAny_pure h
open PySem.W in
theorem sorted_tup {t : Addr} {us : List Value} {Q : Value → Shared → Prop} (ht : IsTup s.heap t us.toArray) (hL : us.length ≤ sizeLine)
    (body : ∀ E' : Value → Shared → Prop, wpAny (model prog w) A.in1.in1 (Builtin.«list.sort» ⟨[.ref (s.heap.objs.size + 1)], []⟩) (fun f s' => f = .done (.ret .none) ∧ Q (.ref (s.heap.objs.size + 1)) s') E' { s with heap := copyHeap s.heap us }) :
    wpAny (model prog w) A (call (.builtin "sorted") [.ref t]) Q E s := by
  refine Calls.call_function_entry kind_sorted plain_sorted entry_sorted (args_sorted1 _) ?_
  unfold Builtin.«sorted»
  refine wpAny_bind (m := checkCount "sorted" 1 1 _) (wpAny_pure (wpAny_bind (gather_tup ht hL (wpAny_bind (wpAny_newList ?_ hL)))))
  have hs : ((s.heap.push (seqObj "list" #[] 0)).update s.heap.objs.size (Obj.mapSeq (· ++ us.toArray))).objs.size = s.heap.objs.size + 1 := by rw [Heap.size_update, size_push']
  show wpAny _ _ _ _ _ { s with heap := copyHeap s.heap us }
  rw [hs]
  refine wpAny_bind (wpAny_holding (wpAny_call_entry slot_list_sort ⟨_, copyHeap_at s.heap us, rfl⟩ entry_list_sort ?_ (args_list_sort _)))
  refine wpAny_mono (body _) (fun f s' hf => ?_) fun _ _ e => e
  obtain ⟨rfl, hq⟩ := hf
  exact ⟨_, rfl, wpAny_pure ⟨_, rfl, hq⟩⟩
end

/-! ### numbers and texts -/
def fAdd : D → D → R Sl
  | .int a, .int b => .ok (.fr (.int (a + b)))
  | .str a, .str b => if a.length + b.length ≤ lim then .ok (.fr (.str (a ++ b))) else .st
  | .tup a, .tup b => if a.length + b.length ≤ lim then .ok (.fr (.tup (a ++ b))) else .st
  | _, _ => .st
def fSub : D → D → R Sl
  | .int a, .int b => .ok (.fr (.int (a - b)))
  | _, _ => .st
def MulOk (i j : Int) : Bool := decide (i.natAbs < 2 ^ 64) || decide (j.natAbs < 2 ^ 64) || (decide (i.natAbs < 2 ^ 4000) && decide (j.natAbs < 2 ^ 4000))
def fMul : D → D → R Sl
  | .int a, .int b => if MulOk a b = true then .ok (.fr (.int (a * b))) else .st
  | _, _ => .st
def fDiv : D → D → R Sl
  | .int a, .int b => if 0 < b ∧ b.natAbs < 2 ^ 4000 then .ok (.fr (.int (a / b))) else .st
  | _, _ => .st
def fMod : D → D → R Sl
  | .int a, .int b => if 0 < b then .ok (.fr (.int (a % b))) else .st
  | _, _ => .st
def fNeg : D → R Sl
  | .int a => .ok (.fr (.int (-a)))
  | _ => .st
def fLt : D → D → R Sl
  | .int a, .int b => .ok (.fr (.bl (decide (a < b))))
  | _, _ => .st
def fLe : D → D → R Sl
  | .int a, .int b => .ok (.fr (.bl (decide (a ≤ b))))
  | _, _ => .st
def fGt : D → D → R Sl
  | .int a, .int b => .ok (.fr (.bl (decide (b < a))))
  | _, _ => .st
def fGe : D → D → R Sl
  | .int a, .int b => .ok (.fr (.bl (decide (b ≤ a))))
  | _, _ => .st
section
variable {X : Cx}
/-- t + u, a new tuple where one is made -/
def rCatN (K : PySem.W.Frag) : R2 := fun x y H Q => ∃ a b xs ys, x = .ref a ∧ y = .ref b ∧ SqT K H a xs ∧ SqT K H b ys ∧ xs.length + ys.length ≤ sizeLine ∧
  (xs = [] → Q (.ref b) H) ∧ (xs ≠ [] → ys = [] → Q (.ref a) H) ∧ (xs ≠ [] → ys ≠ [] → NewT H (xs ++ ys) Q)
theorem op_catN : OpR X (binaryOp .Add) (rCatN X.K) := by
  intro pins s σ H x y v u Q I rx ry h
  obtain ⟨a, b, xs, ys, rfl, rfl, ha, hb, hz, q0, q1, q2⟩ := h
  cases rx
  cases ry
  obtain ⟨its, r1, p1, _⟩ := I.tuple ha
  obtain ⟨its2, r2, p2, _⟩ := I.tuple hb
  by_cases hx : xs = []
  · subst hx
    cases r1
    exact cat_tup0 p1 p2 ⟨.ref b, H, I, rfl, q0 rfl⟩
  · have hi : its ≠ [] := fun e => hx ((Vals.nil_iff r1).mp e)
    refine HT.cat_tup p1 p2 hi (fun e => ⟨.ref a, H, I, rfl, q1 hx ((Vals.nil_iff r2).mp e)⟩) (fun e => ?_) (by rw [← r1.length, ← r2.length]; exact hz)
    exact newT (t' := s.toks) I (fun b u e => Heap.get?_push_of_some _ e) (Nat.le_refl _) (Heap.get?_push_size _ rfl) (r1.append r2) (by rw [List.length_append]; exact hz) (q2 hx fun e2 => e ((Vals.nil_iff r2).mpr e2))
end
section
variable {K : PySem.W.Frag}
theorem of_add : OpF K (fun x y H Q => (rI0 (fun i j => .int (i + j)) x y H Q ∨ ∃ i j, x = .str i ∧ y = .str j ∧ i.length + j.length ≤ sizeLine ∧ Q (.str (i ++ j)) H) ∨ rCatN K x y H Q) fAdd := by
  intro g W H Z σ x y v u Q dom rx ry hp
  cases x <;> cases y <;> first | exact hp.elim | skip
  · rw [rx.int_, ry.int_]
    exact .inl (.inl ⟨_, _, rfl, rfl, hp _ H (Same.refl _) (Rep.int_.mpr rfl)⟩)
  · simp only [fAdd] at hp
    split at hp
    · rw [rx.str_, ry.str_]
      exact .inl (.inr ⟨_, _, rfl, rfl, limLine (by assumption), hp _ H (Same.refl _) (Rep.str_.mpr rfl)⟩)
    · exact hp.elim
  · simp only [fAdd] at hp
    split at hp
    · rename_i hl
      obtain ⟨a, vs, e1, t1, r1⟩ := rx.tup_
      obtain ⟨b, ws, e2, t2, r2⟩ := ry.tup_
      refine .inr ⟨a, b, vs, ws, e1, e2, t1.sqT, t2.sqT, by rw [← r1.length, ← r2.length]; exact limLine hl, fun e => ?_, fun _ e => ?_, fun _ _ => post_tup hp (r1.append r2)⟩
      · subst e
        have z := r1.length
        rw [List.length_nil, List.length_eq_zero_iff] at z
        subst z
        exact hp _ H (Same.refl _) (Rep.tup_.mpr ⟨b, ws, rfl, t2, r2⟩)
      · subst e
        have z := r2.length
        rw [List.length_nil, List.length_eq_zero_iff] at z
        subst z
        rw [List.append_nil] at hp
        exact hp _ H (Same.refl _) (Rep.tup_.mpr ⟨a, vs, rfl, t1, r1⟩)
    · exact hp.elim
theorem of_sub : OpF K (rI0 fun i j => .int (i - j)) fSub := by
  intro g W H Z σ x y v u Q dom rx ry hp
  cases x <;> cases y <;> first | exact hp.elim | skip
  rw [rx.int_, ry.int_]
  exact ⟨_, _, rfl, rfl, hp _ H (Same.refl _) (Rep.int_.mpr rfl)⟩
theorem of_mul : OpF K (fun x y H Q => rI CMul (fun i j => .int (i * j)) x y H Q ∨ rI CMulW (fun i j => .int (i * j)) x y H Q) fMul := by
  intro g W H Z σ x y v u Q dom rx ry hp
  cases x <;> cases y <;> first | exact hp.elim | skip
  rename_i i j
  simp only [fMul] at hp
  split at hp
  · rename_i hm
    rw [rx.int_, ry.int_]
    have q := hp _ H (Same.refl _) (Rep.int_.mpr rfl)
    unfold MulOk at hm
    rw [Bool.or_eq_true, Bool.or_eq_true, Bool.and_eq_true, decide_eq_true_eq, decide_eq_true_eq, decide_eq_true_eq, decide_eq_true_eq] at hm
    rcases hm with (hm | hm) | hm
    · exact .inl ⟨_, _, rfl, rfl, .inl (by omega), q⟩
    · exact .inl ⟨_, _, rfl, rfl, .inr (by omega), q⟩
    · exact .inr ⟨_, _, rfl, rfl, wide_mul hm.1 hm.2 (by decide) (by decide) (by decide), q⟩
  · exact hp.elim
theorem of_div : OpF K (rI CDivW fun i j => .int (i / j)) fDiv := by
  intro g W H Z σ x y v u Q dom rx ry hp
  cases x <;> cases y <;> first | exact hp.elim | skip
  simp only [fDiv] at hp
  split at hp
  · rename_i hm
    rw [rx.int_, ry.int_]
    exact ⟨_, _, rfl, rfl, wide_div hm.1 hm.2 (by decide) (by decide), hp _ H (Same.refl _) (Rep.int_.mpr rfl)⟩
  · exact hp.elim
theorem of_mod : OpF K (rI (fun _ j => 0 < j) fun i j => .int (i % j)) fMod := by
  intro g W H Z σ x y v u Q dom rx ry hp
  cases x <;> cases y <;> first | exact hp.elim | skip
  simp only [fMod] at hp
  split at hp
  · rename_i hm
    rw [rx.int_, ry.int_]
    exact ⟨_, _, rfl, rfl, hm, hp _ H (Same.refl _) (Rep.int_.mpr rfl)⟩
  · exact hp.elim
theorem of_cmp {p : Int → Int → Bool} {F : D → D → R Sl} (h : ∀ x y, (∃ i j, x = .int i ∧ y = .int j ∧ F x y = .ok (.fr (.bl (p i j)))) ∨ F x y = .st) : OpF K (rI0 fun i j => .bl (p i j)) F := by
  intro g W H Z σ x y v u Q dom rx ry hp
  rcases h x y with ⟨i, j, rfl, rfl, e⟩ | e
  · rw [e] at hp
    rw [rx.int_, ry.int_]
    exact ⟨_, _, rfl, rfl, hp _ H (Same.refl _) (Rep.bl_.mpr rfl)⟩
  · rw [e] at hp; exact hp.elim
theorem of_lt : OpF K (rI0 fun i j => .bl (decide (i < j))) fLt := of_cmp fun x y => by cases x <;> cases y <;> first | exact .inl ⟨_, _, rfl, rfl, rfl⟩ | exact .inr rfl
theorem of_le : OpF K (rI0 fun i j => .bl (decide (i ≤ j))) fLe := of_cmp fun x y => by cases x <;> cases y <;> first | exact .inl ⟨_, _, rfl, rfl, rfl⟩ | exact .inr rfl
theorem of_gt : OpF K (rI0 fun i j => .bl (decide (j < i))) fGt := of_cmp fun x y => by cases x <;> cases y <;> first | exact .inl ⟨_, _, rfl, rfl, rfl⟩ | exact .inr rfl
theorem of_ge : OpF K (rI0 fun i j => .bl (decide (j ≤ i))) fGe := of_cmp fun x y => by cases x <;> cases y <;> first | exact .inl ⟨_, _, rfl, rfl, rfl⟩ | exact .inr rfl
theorem of_neg : UnF K (rU fun i => .int (-i)) fNeg := by
  intro g W H Z σ x v Q dom rx hp
  cases x <;> first | exact hp.elim | skip
  rw [rx.int_]
  exact ⟨_, rfl, hp _ H (Same.refl _) (Rep.int_.mpr rfl)⟩
end
section
variable {g : G0} {x : L2.St → Prop} {W : WX} {X : Cx} {a b e : Expr} {es : List Expr} {pos p : Pos} {ma mb : B}
theorem de_add (ha : PBd g x W X a ma) (hb : PBd g x W X b mb) : PEd g x W X (.BinOp a .Add b pos) (mBin fAdd ma mb) := de_op ((op_add.or op_add_str).or op_catN) of_add ha hb
theorem de_sub (ha : PBd g x W X a ma) (hb : PBd g x W X b mb) : PEd g x W X (.BinOp a .Sub b pos) (mBin fSub ma mb) := de_op op_sub of_sub ha hb
theorem de_mul (ha : PBd g x W X a ma) (hb : PBd g x W X b mb) : PEd g x W X (.BinOp a .Mult b pos) (mBin fMul ma mb) := de_op (op_mul.or op_mulW) of_mul ha hb
theorem de_div (ha : PBd g x W X a ma) (hb : PBd g x W X b mb) : PEd g x W X (.BinOp a .FloorDiv b pos) (mBin fDiv ma mb) := de_op op_fdivW of_div ha hb
theorem de_mod (ha : PBd g x W X a ma) (hb : PBd g x W X b mb) : PEd g x W X (.BinOp a .Mod b pos) (mBin fMod ma mb) := de_op op_mod of_mod ha hb
theorem de_neg (ha : PBd g x W X a ma) : PEd g x W X (.UnaryOp .USub a pos) (mUn fNeg ma) := de_un un_neg of_neg ha
theorem de_lt (ha : PBd g x W X a ma) (hb : PBd g x W X b mb) : PEd g x W X (.Compare a [.Lt] [b] pos) (mBin fLt ma mb) := de_cmp op_lt of_lt ha hb (nomark _)
theorem de_le (ha : PBd g x W X a ma) (hb : PBd g x W X b mb) : PEd g x W X (.Compare a [.LtE] [b] pos) (mBin fLe ma mb) := de_cmp op_le of_le ha hb (nomark _)
theorem de_gt (ha : PBd g x W X a ma) (hb : PBd g x W X b mb) : PEd g x W X (.Compare a [.Gt] [b] pos) (mBin fGt ma mb) := de_cmp op_gt of_gt ha hb (nomark _)
theorem de_ge (ha : PBd g x W X a ma) (hb : PBd g x W X b mb) : PEd g x W X (.Compare a [.GtE] [b] pos) (mBin fGe ma mb) := de_cmp op_ge of_ge ha hb (nomark _)
theorem dt_lt (ha : PBd g x W X a ma) (hb : PBd g x W X b mb) : PTd g x W X (.Compare a [.Lt] [b] pos) (mTest (mB (mBin fLt ma mb))) := dt_cmp op_lt of_lt ha hb (nomark _)
theorem dt_le (ha : PBd g x W X a ma) (hb : PBd g x W X b mb) : PTd g x W X (.Compare a [.LtE] [b] pos) (mTest (mB (mBin fLe ma mb))) := dt_cmp op_le of_le ha hb (nomark _)
theorem dt_gt (ha : PBd g x W X a ma) (hb : PBd g x W X b mb) : PTd g x W X (.Compare a [.Gt] [b] pos) (mTest (mB (mBin fGt ma mb))) := dt_cmp op_gt of_gt ha hb (nomark _)
theorem dt_ge (ha : PBd g x W X a ma) (hb : PBd g x W X b mb) : PTd g x W X (.Compare a [.GtE] [b] pos) (mTest (mB (mBin fGe ma mb))) := dt_cmp op_ge of_ge ha hb (nomark _)
end

/-! ### == and != of data -/
mutual
def toPy : D → PyData
  | .non => .none
  | .bl b => .bool b
  | .int i => .int i
  | .str x => .str x
  | .tup xs => .tuple (toPyL xs)
  | .lst xs => .list (toPyL xs)
  | .obj _ _ => .none
  | .dct _ _ => .none
def toPyL : List D → List PyData
  | [] => []
  | d :: ds => toPy d :: toPyL ds
end
mutual
def noObj : D → Bool
  | .obj _ _ => false
  | .dct _ _ => false
  | .tup xs => noObjL xs
  | .lst xs => noObjL xs
  | _ => true
def noObjL : List D → Bool
  | [] => true
  | d :: ds => noObj d && noObjL ds
end
mutual
def eqD : D → D → Bool
  | .non, .non => true
  | .bl a, .bl b => a == b
  | .bl a, .int j => (if a then 1 else 0) == j
  | .int i, .bl b => i == (if b then 1 else 0)
  | .int i, .int j => i == j
  | .str a, .str b => a == b
  | .tup a, .tup b => eqDL a b
  | .lst a, .lst b => eqDL a b
  | _, _ => false
def eqDL : List D → List D → Bool
  | [], [] => true
  | x :: xs, y :: ys => eqD x y && eqDL xs ys
  | _, _ => false
end
mutual
theorem eqv_py : ∀ a b : D, noObj a = true → noObj b = true → PyData.eqv (toPy a) (toPy b) = eqD a b
  | .tup xs, b, ha, hb => by
    cases b <;> simp only [toPy, PyData.eqv, eqD]
    · rename_i ys
      exact eqvL_py xs ys (by simpa [noObj] using ha) (by simpa [noObj] using hb)
  | .lst xs, b, ha, hb => by
    cases b <;> simp only [toPy, PyData.eqv, eqD]
    · rename_i ys
      exact eqvL_py xs ys (by simpa [noObj] using ha) (by simpa [noObj] using hb)
  | .obj c fs, b, ha, hb => by simp [noObj] at ha
  | .dct c fs, b, ha, hb => by simp [noObj] at ha
  | .non, b, ha, hb => by cases b <;> first | (simp [noObj] at hb; done) | simp only [toPy, PyData.eqv, eqD]
  | .bl x, b, ha, hb => by cases b <;> first | (simp [noObj] at hb; done) | simp only [toPy, PyData.eqv, eqD]
  | .int i, b, ha, hb => by cases b <;> first | (simp [noObj] at hb; done) | simp only [toPy, PyData.eqv, eqD]
  | .str z, b, ha, hb => by cases b <;> first | (simp [noObj] at hb; done) | simp only [toPy, PyData.eqv, eqD]
theorem eqvL_py : ∀ xs ys : List D, noObjL xs = true → noObjL ys = true → PyData.eqvAll (toPyL xs) (toPyL ys) = eqDL xs ys
  | [], ys, ha, hb => by cases ys <;> simp only [toPyL, PyData.eqvAll, eqDL]
  | x :: xs, [], ha, hb => by simp only [toPyL, PyData.eqvAll, eqDL]
  | x :: xs, y :: ys, ha, hb => by
    simp only [noObjL, Bool.and_eq_true] at ha hb
    simp only [toPyL, PyData.eqvAll, eqDL]
    rw [eqv_py x y ha.1 hb.1, eqvL_py xs ys ha.2 hb.2]
end
def okE (d : D) : Bool := noObj d && SeqAt.shaped (toPy d)
def fEq (a b : D) : R Sl := if (okE a && okE b) = true then .ok (.fr (.bl (eqD a b))) else .st
def fNe (a b : D) : R Sl := if (okE a && okE b) = true then .ok (.fr (.bl (!eqD a b))) else .st
section
variable {K : PySem.W.Frag} {g : G0} {H : Hp} {Z : Av}
mutual
theorem Rep.dp : ∀ (d : D) (v : V), noObj d = true → Rep K g H Z d v → Dp K H v (toPy d)
  | .non, v, _, h => by rw [Rep.non_.mp h]; exact .non
  | .bl b, v, _, h => by rw [Rep.bl_.mp h]; exact .bl b
  | .int i, v, _, h => by rw [Rep.int_.mp h]; exact .int i
  | .str x, v, _, h => by rw [Rep.str_.mp h]; exact .str x
  | .tup xs, v, n, h => by
    obtain ⟨a, vs, e, t, r⟩ := Rep.tup_.mp h
    subst e
    exact .tup t.sqT (RepL.dp xs vs (by simpa [noObj] using n) r)
  | .lst xs, v, n, h => by
    obtain ⟨a, vs, e, t, r⟩ := Rep.lst_.mp h
    subst e
    exact .lst t.sq (RepL.dp xs vs (by simpa [noObj] using n) r)
  | .obj c fs, v, n, h => by simp [noObj] at n
  | .dct c fs, v, n, h => by simp [noObj] at n
theorem RepL.dp : ∀ (ds : List D) (vs : List V), noObjL ds = true → RepL K g H Z ds vs → DpAll K H vs (toPyL ds)
  | [], vs, _, h => by rw [RepL.nil_.mp h]; exact .nil
  | d :: ds, vs, n, h => by
    obtain ⟨v, r, e, h1, h2⟩ := RepL.cons_.mp h
    subst e
    simp only [noObjL, Bool.and_eq_true] at n
    exact .cons (Rep.dp d v n.1 h1) (RepL.dp ds r n.2 h2)
end
theorem RepB.dp {d : D} {v : V} (n : noObj d = true) (h : RepB K g H Z d v) : Dp K H v (toPy d) := by
  rcases h with h | ⟨xs, a, vs, e1, e2, e3, r⟩
  · exact Rep.dp d v n h
  · subst e1 e2
    exact .lst (SqL.of e3) (RepL.dp xs vs (by simpa [noObj] using n) r)
theorem of_eq : OpF K (rEqD K) fEq := by
  intro g W H Z σ x y v u Q dom rx ry hp
  unfold fEq at hp
  split at hp
  · rename_i hm
    simp only [okE, Bool.and_eq_true] at hm
    refine ⟨toPy x, toPy y, rx.dp hm.1.1, ry.dp hm.2.1, hm.1.2, hm.2.2, ?_⟩
    rw [eqv_py x y hm.1.1 hm.2.1]
    exact hp _ H (Same.refl _) (Rep.bl_.mpr rfl)
  · exact hp.elim
theorem of_ne : OpF K (rNeD K) fNe := by
  intro g W H Z σ x y v u Q dom rx ry hp
  unfold fNe at hp
  split at hp
  · rename_i hm
    simp only [okE, Bool.and_eq_true] at hm
    refine ⟨toPy x, toPy y, rx.dp hm.1.1, ry.dp hm.2.1, hm.1.2, hm.2.2, ?_⟩
    rw [eqv_py x y hm.1.1 hm.2.1]
    exact hp _ H (Same.refl _) (Rep.bl_.mpr rfl)
  · exact hp.elim
end
section
variable {g : G0} {x : L2.St → Prop} {W : WX} {X : Cx} {a b e : Expr} {es : List Expr} {pos p : Pos} {ma mb : B}
theorem de_eq (hu : X.A.units + 64 < cLine) (ha : PBd g x W X a ma) (hb : PBd g x W X b mb) : PEd g x W X (.Compare a [.Eq] [b] pos) (mBin fEq ma mb) := de_cmp (op_eqD hu) of_eq ha hb (nomark _)
theorem de_ne (hu : X.A.units + 64 < cLine) (ha : PBd g x W X a ma) (hb : PBd g x W X b mb) : PEd g x W X (.Compare a [.NotEq] [b] pos) (mBin fNe ma mb) := de_cmp (op_neD hu) of_ne ha hb (nomark _)
theorem dt_eq (hu : X.A.units + 64 < cLine) (ha : PBd g x W X a ma) (hb : PBd g x W X b mb) : PTd g x W X (.Compare a [.Eq] [b] pos) (mTest (mB (mBin fEq ma mb))) := dt_cmp (op_eqD hu) of_eq ha hb (nomark _)
theorem dt_ne (hu : X.A.units + 64 < cLine) (ha : PBd g x W X a ma) (hb : PBd g x W X b mb) : PTd g x W X (.Compare a [.NotEq] [b] pos) (mTest (mB (mBin fNe ma mb))) := dt_cmp (op_neD hu) of_ne ha hb (nomark _)
end
end DL
set_option Elab.async false
set_option linter.all false
set_option maxRecDepth 100000
namespace DL
open PySem PySem.Spec L2
open PyProof.Rows hiding St

/-! ### methods of a tuple that the program made -/
section
variable {X : Cx} {o e : Expr} {es : List Expr} {to : TE} {t : TA} {name : Str} {apos cpos : Pos} {T id : String} {r : V → List V → Hp → VK → Prop}
theorem Tu.obj {pins : List (Addr × Obj)} {σ : L2.St} {H : Hp} {s : Shared} {a : Addr} {vs : List V} (I : Inv X pins σ H s) (h : Tu X.K H a vs) : ∃ ob, s.heap.get? a = some ob ∧ ob.cls = .type "tuple" ∧ ob.dict = none := by
  rcases h with ⟨ob, e, c, d⟩ | ⟨ob, its, n, hk, c, d, _⟩
  · exact ⟨ob, (I.hok a _ e).1, c, d⟩
  · exact ⟨ob, I.kIn a ob hk, c, d⟩
theorem pe_bmT (pa : PlainAttrs "tuple") (slot : Slot "tuple" name id) (hty : typeOf (.builtin id) = pure (.type "method_descriptor")) (hm : MtR X id r) (ho : PE X o to) (ha : PA X (e :: es) t)
    (hbase : attributeBase o name X.env (eval o X.env) = eval o X.env := by rfl)
    (hfew : ((backTo cpos (starEach (e :: es) X.env)).all (fun x => !x.1) && (backToKw cpos (keywordEach [] X.env)).all (fun x => x.1.isSome)
      && decide ((e :: es).length + ([] : List Keyword).length + (if ([] : List Keyword).isEmpty then 0 else 1) < 30)) = true := by rfl)
    (hline : (apos.endLine == cpos.line) = true := by rfl) (hs : starEach (e :: es) X.env = (false, eval e X.env) :: starEach es X.env := by rfl) (hplain : (backTo cpos (starEach es X.env)).any (·.1) = false := by rfl) :
    PE X (.Call (.Attribute o name apos) (e :: es) [] cpos) (fun σ H Q => to σ H fun v H1 => (∃ a ws, v = .ref a ∧ Tu X.K H1 a ws) ∧ t σ H1 fun xs H2 => r v xs H2 Q) := by
  refine ⟨fun pins s σ H Q I h => ?_⟩
  refine wpAny_Call_method_late hbase hfew hline rfl (thn (ho.run pins s σ H _ I h) fun v s1 ⟨y, H1, I1, r1, ⟨a, ws, ey, tu⟩, q1⟩ => ?_)
  subst ey
  cases r1
  obtain ⟨ob, h1, h2, h3⟩ := tu.obj I1
  refine ⟨"tuple", id, pa, slot, hty, ⟨ob, h1, h2⟩, fun b e => ⟨ob, by cases e; exact h1, h3⟩, ?_⟩
  have hA := ha.run cpos pins s1 σ H1 _ I1 q1
  rw [hs] at hA ⊢
  refine Calls.callWith_builtin (by show (false || (backTo cpos (starEach es X.env)).any (·.1)) = false; rw [hplain] <;> rfl) (Calls.evalArgs_plain ?_)
  exact thn hA fun us s2 ⟨vs, H2, I2, r2, q2⟩ => hm pins s2 σ H2 (.ref a) vs _ us Q I2 rfl r2 q2
/-- t.index(x) of flat items -/
theorem mt_tupIndex : MtR X "tuple.index" (fun x xs H Q => ∃ (a : Addr) (ys : List V) (y : V) (j : Nat) (z : V), x = V.ref a ∧ xs = [y] ∧ SqT X.K H a ys ∧ flatV y = true ∧ ys.all flatV = true ∧ ys[j]? = some z ∧ eqV z y = true ∧
    (∀ (m : Nat) (z' : V), m < j → ys[m]? = some z' → eqV z' y = false) ∧ Q (.int (j : Nat)) H) := by
  intro pins s σ H x xs v us Q I rx rxs h
  obtain ⟨a, ys, y, j, z, rfl, rfl, hq, fy, fys, hz, hzj, hno, q⟩ := h
  cases rx
  obtain ⟨uy, rfl, ry⟩ := vals1 rxs
  obtain ⟨its, rv, ⟨⟨cls, dd, data, sl⟩, ho, hc, n, hd⟩, hlen⟩ := I.tuple hq
  simp only at hc hd
  subst hc hd
  obtain ⟨u, hu, ru⟩ := rv.get hz
  obtain ⟨hjl, hje⟩ := List.getElem?_eq_some_iff.mp hu
  have hvl := rv.length
  refine call_meets PySem.F.slot_tuple_index ⟨_, ho, rfl⟩ PySem.F.entry_tuple_index (PySem.F.args_tuple_index_2 _ _)
    (TI.tuple_indexAt a its.toArray n dd sl uy (eqU y) j (by simpa using hjl) ?_ fun m hm hmj => ?_) ⟨ho, fun w hw => mem_eqAt ry fy rv fys w (by simpa using hw), ⟨.int (j : Nat), H, I.tok _, ⟨_, rfl⟩, q⟩⟩
  · have e1 : its.toArray[j] = u := by simpa using hje
    rw [e1, eqU_of ru (flat_at fys hz)]
    exact hzj
  · have hml : m < its.length := by simpa using hm
    have hy' : ys[m]? = some ys[m] := List.getElem?_eq_getElem (by omega)
    obtain ⟨u2, hu2, ru2⟩ := rv.get hy'
    obtain ⟨_, hme⟩ := List.getElem?_eq_some_iff.mp hu2
    have e1 : its.toArray[m] = u2 := by simpa using hme
    rw [e1, eqU_of ru2 (flat_at fys hy')]
    exact hno m _ hmj hy'
end

/-! ### lengths, places -/
def fLen : List D → R Sl
  | [.lst xs] => .ok (.fr (.int xs.length))
  | [.tup xs] => .ok (.fr (.int xs.length))
  | [.str z] => if z.length ≤ lim then .ok (.fr (.int z.length)) else .st
  | _ => .st
def atD (xs : List D) (i : Int) : R Sl := match ixD xs.length i with
  | some j => match xs[j]? with
    | some d => .ok (.fr d)
    | none => .st
  | none => .st
def fIx : D → D → R Sl
  | .lst xs, .int i => atD xs i
  | .tup xs, .int i => atD xs i
  | .str z, .int i => if z.length ≤ lim then match ixD z.cps.toList.length i with
    | some j => match z.cps.toList[j]? with
      | some c => .ok (.fr (.str ⟨#[c]⟩))
      | none => .st
    | none => .st else .st
  | _, _ => .st
section
variable {K : PySem.W.Frag} {g : G0} {H : Hp} {Z : Av}
theorem RepBL.one_ {d : D} {vs : List V} (h : RepBL K g H Z [d] vs) : ∃ v, vs = [v] ∧ RepB K g H Z d v := by
  obtain ⟨v, r, e, h1, h2⟩ := h
  have h2 : r = [] := h2
  subst h2
  exact ⟨v, e, h1⟩
theorem RepBL.two_ {d e : D} {vs : List V} (h : RepBL K g H Z [d, e] vs) : ∃ v u, vs = [v, u] ∧ RepB K g H Z d v ∧ RepB K g H Z e u := by
  obtain ⟨v, r, e1, h1, h2⟩ := h
  obtain ⟨u, e2, h3⟩ := RepBL.one_ h2
  subst e2
  exact ⟨v, u, e1, h1, h3⟩
theorem cf_len : CallF K (fun xs H Q => (∃ p ys, xs = [.ref p] ∧ (SqL K H p ys ∨ SqT K H p ys) ∧ Q (.int ys.length) H) ∨ ∃ z, xs = [.str z] ∧ z.length ≤ sizeLine ∧ Q (.int z.length) H) fLen := by
  intro g W H Z σ xs vs Q dom r hp
  unfold fLen at hp
  split at hp
  · obtain ⟨v, rfl, rv⟩ := r.one_
    obtain ⟨a, ws, rfl, t, rr⟩ := rv.lst_
    exact .inl ⟨a, ws, rfl, .inl t, by rw [← rr.length]; exact hp _ H (Same.refl _) (Rep.int_.mpr rfl)⟩
  · obtain ⟨v, rfl, rv⟩ := r.one_
    obtain ⟨a, ws, rfl, t, rr⟩ := rv.tup_
    exact .inl ⟨a, ws, rfl, .inr t.sqT, by rw [← rr.length]; exact hp _ H (Same.refl _) (Rep.int_.mpr rfl)⟩
  · obtain ⟨v, rfl, rv⟩ := r.one_
    split at hp
    · exact .inr ⟨_, by rw [rv.str_], limLine (by assumption), hp _ H (Same.refl _) (Rep.int_.mpr rfl)⟩
    · exact hp.elim
  · exact hp.elim
theorem atI_of {xs : List V} {i : Int} {j : Nat} {v : V} (h : ixD xs.length i = some j) (e : xs[j]? = some v) : atI xs i = some v := by
  have h' : ixN xs.length i = some j := h
  unfold atI
  rw [h']
  exact e
theorem atD_get {W : WX} {σ : L2.St} {Q : VK} {xs : List D} {vs : List V} {i : Int} (r : RepL K g H Z xs vs) (hp : PostE K g W Z σ H Q (atD xs i)) : ∃ v, atI vs i = some v ∧ Q v H := by
  unfold atD at hp
  split at hp
  · rename_i j hj
    split at hp
    · rename_i d hd
      obtain ⟨v, hv, q⟩ := r.get hd
      exact ⟨v, atI_of (by rw [← r.length]; exact hj) hv, hp _ H (Same.refl _) q⟩
    · exact hp.elim
  · exact hp.elim
theorem of_ix : OpF K (rIx K) fIx := by
  intro g W H Z σ x y v u Q dom rx ry hp
  unfold fIx at hp
  split at hp
  · obtain ⟨a, ws, rfl, t, rr⟩ := rx.lst_
    obtain ⟨w, h1, h2⟩ := atD_get rr hp
    exact .inl ⟨a, ws, _, w, rfl, ry.int_, t, h1, h2⟩
  · obtain ⟨a, ws, rfl, t, rr⟩ := rx.tup_
    obtain ⟨w, h1, h2⟩ := atD_get rr hp
    exact .inr (.inl ⟨a, ws, _, w, rfl, ry.int_, t.sqT, h1, h2⟩)
  · split at hp
    · rename_i z i hl
      split at hp
      · rename_i j hj
        split at hp
        · rename_i c hc
          refine .inr (.inr ⟨z, i, c, rx.str_, ry.int_, limLine hl, ?_, hp _ H (Same.refl _) (Rep.str_.mpr rfl)⟩)
          have h' : ixN z.cps.toList.length i = some j := hj
          unfold atI
          rw [h']
          exact hc
        · exact hp.elim
      · exact hp.elim
    · exact hp.elim
  · exact hp.elim
end
section
variable {g : G0} {x : L2.St → Prop} {W : WX} {X : Cx} {a b e : Expr} {es : List Expr} {pos p : Pos} {ma mb : B} {mr : En → R (List D)}
theorem de_len (hg : Gl X "len") (hm : X.mg "len" = none) (ha : PBAd g x W X (e :: es) mr) (he : starEach (e :: es) X.env = (false, eval e X.env) :: starEach es X.env := by rfl) (hpl : (backTo pos (starEach es X.env)).any (·.1) = false := by rfl) :
    PEd g x W X (.Call (.Name "len" p) (e :: es) [] pos) (mCall fLen mr) := de_callB (call_len_seq.or call_len_str) cf_len hg hm PySem.boot_len ha (by decide) (by decide) he hpl
theorem de_ix (ha : PBd g x W X a ma) (hb : PBd g x W X b mb) (hs : PlainIx b) : PEd g x W X (.Subscript a b pos) (mBin fIx ma mb) :=
  weakE (pe_ix ix_seq ha hb hs) fun σ H Q h => op2 of_ix h
end

/-! ### list(..), tuple(..), list(range(..)), abs, int, min, max, factorial -/
def fList : List D → R Sl
  | [.lst xs] => .ok (.ow xs)
  | [.tup xs] => .ok (.ow xs)
  | _ => .st
def fTuple : List D → R Sl
  | [.lst xs] => .ok (.fr (.tup xs))
  | [.tup xs] => .ok (.fr (.tup xs))
  | _ => .st
def fAbs : List D → R Sl
  | [.int i] => .ok (.fr (.int (if i < 0 then -i else i)))
  | _ => .st
def fInt : List D → R Sl
  | [.int i] => .ok (.fr (.int i))
  | [.bl b] => .ok (.fr (.int (if b then 1 else 0)))
  | _ => .st
def fMin : List D → R Sl
  | [.int i, .int j] => .ok (.fr (.int (if j < i then j else i)))
  | _ => .st
def fMax : List D → R Sl
  | [.int i, .int j] => .ok (.fr (.int (if j > i then j else i)))
  | _ => .st
def facN : Nat → Nat
  | 0 => 1
  | n + 1 => facN n * (n + 1)
def fFac : List D → R Sl
  | [.int i] => if 0 ≤ i ∧ i ≤ 1000 then .ok (.fr (.int (facN i.toNat))) else .st
  | _ => .st
def mListR1 (m : B) : M := fun env => (m env).bind fun d => match d with
  | .int n => if n ≤ 1000000 ∧ -1000000 ≤ n then .ok (.ow (rangeD 0 n.toNat)) else .st
  | _ => .st
section
variable {K : PySem.W.Frag} {g : G0} {H : Hp} {Z : Av}
theorem facN_eq : ∀ n : Nat, Builtin.Math.factorialNat n = facN n
  | 0 => by unfold Builtin.Math.factorialNat facN; first | rfl | simp
  | n + 1 => by rw [PySem.W.mc_fac_succ, facN_eq n]; rfl
theorem cf_list : CallF K (fun xs H Q => ∃ p ys, xs = [.ref p] ∧ (SqL K H p ys ∨ SqT K H p ys) ∧ ∀ l, H l = none → Q (.ref l) (upd H l (.lst ys))) fList := by
  intro g W H Z σ xs vs Q dom r hp
  unfold fList at hp
  split at hp
  · obtain ⟨v, rfl, rv⟩ := r.one_
    obtain ⟨a, ws, rfl, t, rr⟩ := rv.lst_
    exact ⟨a, ws, rfl, .inl t, fun l hl => post_ow hp hl rr⟩
  · obtain ⟨v, rfl, rv⟩ := r.one_
    obtain ⟨a, ws, rfl, t, rr⟩ := rv.tup_
    exact ⟨a, ws, rfl, .inr t.sqT, fun l hl => post_ow hp hl rr⟩
  · exact hp.elim
theorem call_tupleN {X : Cx} : CallR X (.type "tuple") (fun xs H Q => ∃ p ys, xs = [.ref p] ∧ ((SqL X.K H p ys ∧ NewT H ys Q) ∨ (SqT X.K H p ys ∧ Q (.ref p) H))) := by
  intro pins s σ H xs us Q I r h
  obtain ⟨p, ys, rfl, h⟩ := h
  obtain ⟨u, rfl, rx⟩ := vals1 r
  cases rx
  rcases h with ⟨hq, q⟩ | ⟨hq, q⟩
  · obtain ⟨its, r', pl, hz⟩ := I.list hq
    refine call_tuple_list pl.isList (fun h' kp => ?_) (by rw [List.size_toArray, ← r'.length]; exact hz)
    have I1 : Inv X pins σ H { s with heap := h' } := I.kept (t' := s.toks) kp
    exact newT (s := { s with heap := h' }) (t' := s.toks) I1 (fun b o e => Heap.get?_push_of_some _ e) (Nat.le_refl _) (Heap.get?_push_size _ rfl) r' hz q
  · obtain ⟨its, r', pl, hz⟩ := I.tuple hq
    exact call_tuple_same pl ⟨.ref p, H, I, rfl, q⟩
theorem cf_tuple : CallF K (fun xs H Q => ∃ p ys, xs = [.ref p] ∧ ((SqL K H p ys ∧ NewT H ys Q) ∨ (SqT K H p ys ∧ Q (.ref p) H))) fTuple := by
  intro g W H Z σ xs vs Q dom r hp
  unfold fTuple at hp
  split at hp
  · obtain ⟨v, rfl, rv⟩ := r.one_
    obtain ⟨a, ws, rfl, t, rr⟩ := rv.lst_
    exact ⟨a, ws, rfl, .inl ⟨t, post_tup hp rr⟩⟩
  · obtain ⟨v, rfl, rv⟩ := r.one_
    obtain ⟨a, ws, rfl, t, rr⟩ := rv.tup_
    exact ⟨a, ws, rfl, .inr ⟨t.sqT, hp _ H (Same.refl _) (Rep.tup_.mpr ⟨a, ws, rfl, t, rr⟩)⟩⟩
  · exact hp.elim
theorem cf_abs : CallF K (fun xs H Q => ∃ i, xs = [.int i] ∧ Q (.int (if i < 0 then -i else i)) H) fAbs := by
  intro g W H Z σ xs vs Q dom r hp
  unfold fAbs at hp
  split at hp
  · obtain ⟨v, rfl, rv⟩ := r.one_
    exact ⟨_, by rw [rv.int_], hp _ H (Same.refl _) (Rep.int_.mpr rfl)⟩
  · exact hp.elim
theorem cf_int : CallF K (fun xs H Q => (∃ i, xs = [.int i] ∧ Q (.int i) H) ∨ ∃ k, xs = [.bl k] ∧ Q (.int (if k then 1 else 0)) H) fInt := by
  intro g W H Z σ xs vs Q dom r hp
  unfold fInt at hp
  split at hp
  · obtain ⟨v, rfl, rv⟩ := r.one_
    exact .inl ⟨_, by rw [rv.int_], hp _ H (Same.refl _) (Rep.int_.mpr rfl)⟩
  · obtain ⟨v, rfl, rv⟩ := r.one_
    exact .inr ⟨_, by rw [rv.bl_], hp _ H (Same.refl _) (Rep.int_.mpr rfl)⟩
  · exact hp.elim
theorem cf_min : CallF K (fun xs H Q => ∃ i j, xs = [.int i, .int j] ∧ Q (.int (if j < i then j else i)) H) fMin := by
  intro g W H Z σ xs vs Q dom r hp
  unfold fMin at hp
  split at hp
  · obtain ⟨v, u, rfl, r1, r2⟩ := r.two_
    exact ⟨_, _, by rw [r1.int_, r2.int_], hp _ H (Same.refl _) (Rep.int_.mpr rfl)⟩
  · exact hp.elim
theorem cf_max : CallF K (fun xs H Q => ∃ i j, xs = [.int i, .int j] ∧ Q (.int (if j > i then j else i)) H) fMax := by
  intro g W H Z σ xs vs Q dom r hp
  unfold fMax at hp
  split at hp
  · obtain ⟨v, u, rfl, r1, r2⟩ := r.two_
    exact ⟨_, _, by rw [r1.int_, r2.int_], hp _ H (Same.refl _) (Rep.int_.mpr rfl)⟩
  · exact hp.elim
theorem call_fac {X : Cx} : CallR X (.builtin "math.factorial") (fun xs H Q => ∃ i, xs = [.int i] ∧ 0 ≤ i ∧ i ≤ 20000 ∧ Q (.int (facN i.toNat)) H) := by
  intro pins s σ H xs us Q I r h
  obtain ⟨i, rfl, h0, h1, q⟩ := h
  obtain ⟨u, rfl, t, rfl⟩ := vals1 r
  exact PySem.W.mc_factorial h0 h1 fun _ => ⟨.int (facN i.toNat), H, I.tok _, ⟨_, by rw [facN_eq]⟩, q⟩
theorem cf_fac : CallF K (fun xs H Q => ∃ i, xs = [.int i] ∧ 0 ≤ i ∧ i ≤ 20000 ∧ Q (.int (facN i.toNat)) H) fFac := by
  intro g W H Z σ xs vs Q dom r hp
  unfold fFac at hp
  split at hp
  · obtain ⟨v, rfl, rv⟩ := r.one_
    split at hp
    · rename_i hi
      exact ⟨_, by rw [rv.int_], hi.1, by omega, hp _ H (Same.refl _) (Rep.int_.mpr rfl)⟩
    · exact hp.elim
  · exact hp.elim
theorem rangeD_rg {lo hi : Int} : RepL K g H Z (rangeD lo (hi - lo).toNat) (rgV lo hi) := by
  unfold rangeD rgV
  generalize List.range (hi - lo).toNat = l
  induction l with
  | nil => exact RepL.nil_.mpr rfl
  | cons n l ih => exact RepL.cons_.mpr ⟨_, _, rfl, Rep.int_.mpr rfl, ih⟩
end
section
variable {g : G0} {x : L2.St → Prop} {W : WX} {X : Cx} {a b e : Expr} {es : List Expr} {pos p p2 pos2 : Pos} {ma mb : B} {mr : En → R (List D)}
theorem de_list (hg : Gl X "list") (hm : X.mg "list" = none) (ha : PBAd g x W X (e :: es) mr) (he : starEach (e :: es) X.env = (false, eval e X.env) :: starEach es X.env := by rfl) (hpl : (backTo pos (starEach es X.env)).any (·.1) = false := by rfl) :
    PEd g x W X (.Call (.Name "list" p) (e :: es) [] pos) (mCall fList mr) := de_callT call_list_of cf_list hg hm (by decide +kernel) ha (by decide) (by decide) he hpl
theorem de_tuple (hg : Gl X "tuple") (hm : X.mg "tuple" = none) (ha : PBAd g x W X (e :: es) mr) (he : starEach (e :: es) X.env = (false, eval e X.env) :: starEach es X.env := by rfl) (hpl : (backTo pos (starEach es X.env)).any (·.1) = false := by rfl) :
    PEd g x W X (.Call (.Name "tuple" p) (e :: es) [] pos) (mCall fTuple mr) := de_callT call_tupleN cf_tuple hg hm (by decide +kernel) ha (by decide) (by decide) he hpl
theorem de_abs (hg : Gl X "abs") (hm : X.mg "abs" = none) (ha : PBAd g x W X (e :: es) mr) (he : starEach (e :: es) X.env = (false, eval e X.env) :: starEach es X.env := by rfl) (hpl : (backTo pos (starEach es X.env)).any (·.1) = false := by rfl) :
    PEd g x W X (.Call (.Name "abs" p) (e :: es) [] pos) (mCall fAbs mr) := de_callB call_abs cf_abs hg hm (by decide +kernel) ha (by decide) (by decide) he hpl
theorem de_int1 (hg : Gl X "int") (hm : X.mg "int" = none) (ha : PBAd g x W X (e :: es) mr) (he : starEach (e :: es) X.env = (false, eval e X.env) :: starEach es X.env := by rfl) (hpl : (backTo pos (starEach es X.env)).any (·.1) = false := by rfl) :
    PEd g x W X (.Call (.Name "int" p) (e :: es) [] pos) (mCall fInt mr) := de_callT call_int1 cf_int hg hm (by decide +kernel) ha (by decide) (by decide) he hpl
theorem de_min (hc : X.calm = true) (hg : Gl X "min") (hm : X.mg "min" = none) (ha : PBAd g x W X (e :: es) mr) (he : starEach (e :: es) X.env = (false, eval e X.env) :: starEach es X.env := by rfl) (hpl : (backTo pos (starEach es X.env)).any (·.1) = false := by rfl) :
    PEd g x W X (.Call (.Name "min" p) (e :: es) [] pos) (mCall fMin mr) := de_callB (call_min2 hc) cf_min hg hm (by decide +kernel) ha (by decide) (by decide) he hpl
theorem de_max (hc : X.calm = true) (hg : Gl X "max") (hm : X.mg "max" = none) (ha : PBAd g x W X (e :: es) mr) (he : starEach (e :: es) X.env = (false, eval e X.env) :: starEach es X.env := by rfl) (hpl : (backTo pos (starEach es X.env)).any (·.1) = false := by rfl) :
    PEd g x W X (.Call (.Name "max" p) (e :: es) [] pos) (mCall fMax mr) := de_callB (call_max2 hc) cf_max hg hm (by decide +kernel) ha (by decide) (by decide) he hpl
/-- f(..), f a name of the module for a built-in function -/
theorem de_callM {r : List V → Hp → VK → Prop} {F : List D → R Sl} {id : String} {y : Str} (hc : CallR X (.builtin id) r) (hF : CallF X.K r F) (hg : Gl X y) (hm : X.mg y = some (.builtin id)) (ha : PBAd g x W X (e :: es) mr)
    (hdb : (y == ("__debug__" : Str)) = false := by decide) (he : starEach (e :: es) X.env = (false, eval e X.env) :: starEach es X.env := by rfl) (hpl : (backTo pos (starEach es X.env)).any (·.1) = false := by rfl) :
    PEd g x W X (.Call (.Name y p) (e :: es) [] pos) (mCall F mr) :=
  weakE (pe_callBfun hc hg hm ha hdb he hpl) fun σ H Q h => callF hF h
theorem de_listR1 (hc : X.calm = true) (hg : Gl X "list") (hm : X.mg "list" = none) (hg2 : Gl X "range") (hm2 : X.mg "range" = none) (ha : PBd g x W X a ma) (na : starEach [a] X.env = (false, eval a X.env) :: starEach [] X.env := by rfl)
    (na2 : starEach [.Call (.Name "range" p2) [a] [] pos2] X.env = (false, eval (.Call (.Name "range" p2) [a] [] pos2) X.env) :: starEach [] X.env := by rfl) : PEd g x W X (.Call (.Name "list" p) [.Call (.Name "range" p2) [a] [] pos2] [] pos) (mListR1 ma) :=
  weakE (pe_listRg hc hg hm (prg_1 hg2 hm2 ha na) na2) fun σ H Q ⟨env, Z, er, hp⟩ => useB er hp fun d v H1 e1 k1 r1 hp1 => by
    cases d with
    | int n =>
      have hp1 : PostE X.K g W Z σ H1 Q (if n ≤ 1000000 ∧ -1000000 ≤ n then .ok (.ow (rangeD 0 n.toNat)) else .st) := hp1
      split at hp1
      · rename_i hn
        refine ⟨n, r1.int_, ⟨by omega, by omega, by omega, by omega, by omega⟩, fun q hq => ?_⟩
        have rr : RepL X.K g H1 Z (rangeD 0 (n - 0).toNat) (rgV 0 n) := rangeD_rg
        rw [Int.sub_zero] at rr
        exact post_ow hp1 hq rr
      · exact hp1.elim
    | _ => exact hp1.elim
end
end DL
set_option Elab.async false
set_option linter.all false
set_option maxRecDepth 100000
namespace DL
open PySem PySem.Spec L2
open PyProof.Rows hiding St

/-! ### sorting -/
section
variable {α : Type}
def ins (le : α → α → Bool) (a : α) : List α → List α
  | [] => [a]
  | b :: l => if le a b = true then a :: b :: l else b :: ins le a l
def isort (le : α → α → Bool) : List α → List α
  | [] => []
  | a :: l => ins le a (isort le l)
open PySem.W in
theorem ins_mem {le : α → α → Bool} {a x : α} : ∀ {l : List α}, x ∈ ins le a l → x = a ∨ x ∈ l
  | [], h => by simp [ins] at h; exact .inl h
  | b :: l, h => by
    unfold ins at h
    split at h
    · rcases List.mem_cons.mp h with e | e
      · exact .inl e
      · exact .inr e
    · rcases List.mem_cons.mp h with e | e
      · exact .inr (by rw [e]; exact List.mem_cons_self)
      · rcases ins_mem e with e | e
        · exact .inl e
        · exact .inr (List.mem_cons_of_mem _ e)
open PySem.W in
theorem ins_sorted {le : α → α → Bool} (h : TotalLe le) {a : α} : ∀ {l : List α}, l.Pairwise (fun a b => le a b = true) → (ins le a l).Pairwise (fun a b => le a b = true)
  | [], _ => by simp [ins]
  | b :: l, q => by
    obtain ⟨q1, q2⟩ := List.pairwise_cons.mp q
    unfold ins
    split
    · rename_i hab
      refine List.pairwise_cons.mpr ⟨fun x hx => ?_, q⟩
      rcases List.mem_cons.mp hx with e | e
      · rw [e]; exact hab
      · exact h.trans _ _ _ hab (q1 x e)
    · rename_i hab
      have hba : le b a = true := (h.total a b).elim (fun e => absurd e hab) id
      refine List.pairwise_cons.mpr ⟨fun x hx => ?_, ins_sorted h q2⟩
      rcases ins_mem hx with e | e
      · rw [e]; exact hba
      · exact q1 x e
open PySem.W in
theorem ins_filter {le : α → α → Bool} (h : TotalLe le) {a c : α} : ∀ {l : List α}, (ins le a l).filter (sameRank le c) = (a :: l).filter (sameRank le c)
  | [] => rfl
  | b :: l => by
    unfold ins
    split
    · rfl
    · rename_i hab
      rw [List.filter_cons, ins_filter h, List.filter_cons, List.filter_cons, List.filter_cons]
      cases pa : sameRank le c a with
      | true =>
        have pb : sameRank le c b = false := by
          cases e : sameRank le c b with
          | false => rfl
          | true =>
            unfold sameRank at pa e
            rw [Bool.and_eq_true] at pa e
            exact absurd (h.trans _ _ _ pa.2 e.1) hab
        rw [pb]
        simp only [Bool.false_eq_true, if_false, if_true]
      | false =>
        simp only [Bool.false_eq_true, if_false]
open PySem.W in
theorem isort_eq {le : α → α → Bool} (h : TotalLe le) (l : List α) : isort le l = l.mergeSort le := by
  refine sort_unique h ?_ fun c => ?_
  · induction l with
    | nil => exact List.Pairwise.nil
    | cons a l ih => exact ins_sorted h ih
  · induction l with
    | nil => rfl
    | cons a l ih =>
      show (ins le a (isort le l)).filter _ = _
      rw [ins_filter h, List.filter_cons, List.filter_cons, ih]
end
def leD (a b : D) : Bool := PySem.W.dataLe false toPy a b
def isTupC : D → Bool
  | .tup (_ :: _) => true
  | _ => false
def noTN : D → Bool
  | .non => false
  | .tup _ => false
  | _ => true
def okSort (xs : List D) : Bool := (xs.all fun a => noObj a && decide ((toPy a).depth ≤ 60)) && (xs.all fun a => xs.all fun b => PySem.W.alike (toPy a) (toPy b)) && (xs.all isTupC || xs.all noTN) && decide (xs.length ≤ lim)
def fSorted : List D → R Sl
  | [.lst xs] => if okSort xs = true then .ok (.ow (isort leD xs)) else .st
  | [.tup xs] => if okSort xs = true then .ok (.ow (isort leD xs)) else .st
  | _ => .st
section
variable {K : PySem.W.Frag} {g : G0} {H : Hp} {Z : Av}
open PySem.W
theorem leD_total : TotalLe leD := (sortLe_total (PyProof.Rows.listOrd PyProof.Rows.itemOrd) false fun d => keyToks (toPy d) : TotalLe (dataLe false toPy))
theorem okSort_parts {xs : List D} (h : okSort xs = true) : (∀ a ∈ xs, noObj a = true ∧ (toPy a).depth ≤ 60) ∧ AllAlike (xs.map toPy) ∧ Sortable (xs.map toPy) ∧ xs.length ≤ lim := by
  unfold okSort at h
  simp only [Bool.and_eq_true, Bool.or_eq_true, List.all_eq_true, decide_eq_true_eq] at h
  obtain ⟨⟨⟨h1, h2⟩, h3⟩, h4⟩ := h
  refine ⟨h1, fun d hd d' hd' => ?_, ?_, h4⟩
  · obtain ⟨a, ha, rfl⟩ := List.mem_map.mp hd
    obtain ⟨b, hb, rfl⟩ := List.mem_map.mp hd'
    exact h2 a ha b hb
  · rcases h3 with h3 | h3
    · refine .inl fun d hd => ?_
      obtain ⟨a, ha, rfl⟩ := List.mem_map.mp hd
      have q := h3 a ha
      cases a with
      | tup ys => cases ys with
        | nil => cases q
        | cons y ys => exact ⟨toPy y, toPyL ys, by simp only [toPy, toPyL]⟩
      | _ => cases q
    · refine .inr fun d hd => ?_
      obtain ⟨a, ha, rfl⟩ := List.mem_map.mp hd
      have q := h3 a ha
      have o := (h1 a ha).1
      cases a <;> first | (cases q; done) | (simp [noObj] at o; done) | exact ⟨(by simp only [toPy]; intro z; cases z), fun xs => (by simp only [toPy]; intro z; cases z)⟩
theorem each_reps {X : Cx} {pins : List (Addr × Obj)} {σ : L2.St} {H : Hp} {s : Shared} (I : Inv X pins σ H s) : ∀ {ds : List D} {vs : List V} {us : List Value}, (∀ a ∈ ds, noObj a = true) → RepL X.K g H Z ds vs → Vals vs us →
    EachIs (fun u d => ∃ v, RelV v u ∧ Rep X.K g H Z d v) us ds ∧ EachIs (fun u d => ∃ as, Reads s.heap u (toPy d) as) us ds
  | [], vs, us, _, r, q => by
    rw [RepL.nil_.mp r] at q
    cases q
    exact ⟨.nil, .nil⟩
  | d :: ds, vs, us, n, r, q => by
    obtain ⟨v, ws, e, h1, h2⟩ := RepL.cons_.mp r
    subst e
    cases q with
    | cons r1 r2 =>
      obtain ⟨i1, i2⟩ := each_reps I (fun a ha => n a (List.mem_cons_of_mem _ ha)) h2 r2
      obtain ⟨as, rd⟩ := Dp.reads I (toPy d) v _ (Rep.dp d v (n d List.mem_cons_self) h1) r1
      exact ⟨.cons ⟨v, r1, h1⟩ i1, .cons ⟨as, rd⟩ i2⟩
theorem reps_each {R : Value → D → Prop} : ∀ {us : List Value} {ds : List D}, EachIs (fun u d => ∃ v, RelV v u ∧ Rep K g H Z d v) us ds → ∃ vs, Vals vs us ∧ RepL K g H Z ds vs
  | _, _, .nil => ⟨[], .nil, RepL.nil_.mpr rfl⟩
  | _, _, .cons ⟨v, h1, h2⟩ t => by
    obtain ⟨vs, q1, q2⟩ := reps_each (R := R) t
    exact ⟨v :: vs, .cons h1 q1, RepL.cons_.mpr ⟨v, vs, rfl, h2, q2⟩⟩
def rSortD (K : PySem.W.Frag) : List V → Hp → VK → Prop := fun vs H Q => ∃ (a : Addr) (ws : List V) (g : G0) (Z : Av) (ds : List D), vs = [.ref a] ∧ (SqL K H a ws ∨ SqT K H a ws) ∧ RepL K g H Z ds ws ∧ okSort ds = true ∧
  ∀ p ys, H p = none → RepL K g H Z (isort leD ds) ys → Q (.ref p) (upd H p (.lst ys))
theorem cr_sortD {X : Cx} (hu : X.A.units + 65 < cLine) : CallR X (.builtin "sorted") (rSortD X.K) := by
  intro pins s σ H xs us Q I r h
  obtain ⟨a, ws, g, Z, ds, rfl, hq, rr, ok, q⟩ := h
  obtain ⟨u, rfl, ru⟩ := vals1 r
  cases ru
  obtain ⟨o1, o2, o3, o4⟩ := okSort_parts ok
  have fin : ∀ {its : List Value}, Vals ws its → ∀ out : List Value, out.length = ds.length → EachIs (fun u d => ∃ v, RelV v u ∧ Rep X.K g H Z d v) out (ds.mergeSort (dataLe false toPy)) →
      EP X pins σ Q (.ref (s.heap.objs.size + 1)) { s with heap := sortedAll s.heap its (List.toArray out) } := fun {its} rv out hl e => by
    obtain ⟨ys, q1, q2⟩ := reps_each (R := fun _ _ => True) e
    obtain ⟨ep, he'⟩ := PyProof.Rows.sortedAll_at s.heap its (List.toArray out)
    have em : ds.mergeSort (dataLe false toPy) = isort leD ds := (isort_eq leD_total ds).symm
    rw [em] at q2
    exact ⟨.ref _, upd H (s.heap.objs.size + 1) (.lst ys), I.laid (t' := s.toks) (fun _ _ => PyProof.Rows.sortedAll_old) (Nat.le_succ _) ⟨by rw [q1.length, hl]; exact limLine o4, out, ep, q1, he'⟩, rfl, q _ ys (I.hok.fresh (Nat.le_succ _)) q2⟩
  have hdep : ∀ b, b ∈ ds → X.A.units + 2 + (toPy b).depth < cLine := fun b hb => by
    have := (o1 b hb).2
    omega
  rcases hq with hq | hq
  · obtain ⟨its, rv, pl, hz⟩ := I.list hq
    obtain ⟨e1, e2⟩ := each_reps I (fun a ha => (o1 a ha).1) rr rv
    exact sorted_data pl.isList e1 e2 o2 o3 (limLine o4) hdep (fin rv)
  · obtain ⟨its, rv, pl, hz⟩ := I.tuple hq
    obtain ⟨e1, e2⟩ := each_reps I (fun a ha => (o1 a ha).1) rr rv
    have hL : its.length ≤ sizeLine := by rw [← rv.length]; exact hz
    refine sorted_tup pl hL fun E' => ?_
    have er : EachIs (fun v b => ∃ as, Reads (sortingHeap (copyHeap s.heap its) (s.heap.objs.size + 1) its) v (toPy b) as) its ds := e2.mono fun _ _ ⟨as, r⟩ => ⟨as, PyProof.Rows.Reads.keeps (fun _ _ => sorting_copy_old) r⟩
    exact list_sort_vals (s := { s with heap := copyHeap s.heap its }) (copyHeap_at s.heap its)
      (SortsAt.data (A := X.A.in1.in1) (s := { s with heap := sortingHeap (copyHeap s.heap its) (s.heap.objs.size + 1) its }) (each_map (R := fun v d => ∃ as, Reads (sortingHeap (copyHeap s.heap its) (s.heap.objs.size + 1) its) v d as) toPy er) o2 o3
        (bound_map fun b hb => by have := hdep b hb; show X.A.units + 1 + 1 + _ < _; omega)) hL
      ⟨rfl, fin rv _ (by rw [sortVals_length false rfl]; exact e1.length) (sortVals_data false e1 er o2)⟩
theorem cf_sort : CallF K (rSortD K) fSorted := by
  intro g W H Z σ xs vs Q dom r hp
  unfold fSorted at hp
  split at hp
  · obtain ⟨v, rfl, rv⟩ := r.one_
    obtain ⟨a, ws, rfl, t, rr⟩ := rv.lst_
    split at hp
    · exact ⟨a, ws, g, Z, _, rfl, .inl t, rr, by assumption, fun p ys hn q => post_ow hp hn q⟩
    · exact hp.elim
  · obtain ⟨v, rfl, rv⟩ := r.one_
    obtain ⟨a, ws, rfl, t, rr⟩ := rv.tup_
    split at hp
    · exact ⟨a, ws, g, Z, _, rfl, .inr t.sqT, rr, by assumption, fun p ys hn q => post_ow hp hn q⟩
    · exact hp.elim
  · exact hp.elim
end
section
variable {g : G0} {x : L2.St → Prop} {W : WX} {X : Cx} {a b e : Expr} {es : List Expr} {pos p p2 pos2 : Pos} {ma mb : B} {mr : En → R (List D)}
theorem de_sorted (hu : X.A.units + 65 < cLine) (hg : Gl X "sorted") (hm : X.mg "sorted" = none) (ha : PBAd g x W X (e :: es) mr) (he : starEach (e :: es) X.env = (false, eval e X.env) :: starEach es X.env := by rfl) (hpl : (backTo pos (starEach es X.env)).any (·.1) = false := by rfl) :
    PEd g x W X (.Call (.Name "sorted" p) (e :: es) [] pos) (mCall fSorted mr) := de_callB (cr_sortD hu) cf_sort hg hm (by decide +kernel) ha (by decide) (by decide) he hpl
end

/-! ### slices -/
def sIxD (n d : Nat) : Option Int → Nat := HT.sIx n d
def cutD {α : Type} (xs : List α) (lo hi : Option Int) : List α := (xs.drop (HT.sIx xs.length 0 lo)).take (HT.sIx xs.length xs.length hi - HT.sIx xs.length 0 lo)
def fSl (d : D) (lo hi : Option Int) : R Sl := match d with
  | .tup xs => .ok (.fr (.tup (cutD xs lo hi)))
  | .lst xs => .ok (.ow (cutD xs lo hi))
  | .str z => if z.length ≤ lim then .ok (.fr (.str (cutS z lo hi))) else .st
  | _ => .st
def asI : D → R (Option Int)
  | .int i => .ok (some i)
  | _ => .st
abbrev BO := En → R (Option Int)
def oNone : BO := fun _ => .ok none
def oSome (m : B) : BO := fun env => (m env).bind asI
def mSl (m : B) (l u : BO) : M := fun env => (m env).bind fun d => (l env).bind fun lo => (u env).bind fun hi => fSl d lo hi
def rSlN (K : PySem.W.Frag) : V → Option Int → Option Int → Hp → VK → Prop := fun x lo hi H Q => ∃ a xs, x = .ref a ∧ SqT K H a xs ∧
  (HT.sIx xs.length 0 lo = 0 ∧ HT.sIx xs.length xs.length hi = xs.length → Q (.ref a) H) ∧ (¬ (HT.sIx xs.length 0 lo = 0 ∧ HT.sIx xs.length xs.length hi = xs.length) → NewT H (cutV xs lo hi) Q)

section
variable {X : Cx}
theorem sl_tupN : SlR X (rSlN X.K) := by
  intro pins s σ H x v vl vu lo hi sl Q I rx hs pl pu h
  obtain ⟨a, xs, rfl, hx, q1, q2⟩ := h
  cases rx
  obtain ⟨its, r, ht, hz⟩ := I.tuple hx
  have hlen : its.toArray.size = xs.length := by rw [List.size_toArray]; exact r.length.symm
  refine ⟨"tuple", _, PyProof.Rows.slot_tuple_getitem.lookup, ht.typeIs, ?_⟩
  by_cases hw : HT.sIx xs.length 0 lo = 0 ∧ HT.sIx xs.length xs.length hi = xs.length
  · exact getItem_tuple_whole ht hs pl pu (by rw [hlen]; exact hw) ⟨.ref a, H, I, rfl, q1 hw⟩
  · refine HT.getItem_tuple_cut ht hs pl pu (by rw [hlen]; exact hw) ?_ (by rw [hlen]; exact hz)
    rw [hlen]
    exact newT (t' := s.toks) I (fun b ob q => Heap.get?_push_of_some _ q) (Nat.le_refl _) (Heap.get?_push_size _ rfl) ((r.drop (HT.sIx xs.length 0 lo)).take (HT.sIx xs.length xs.length hi - HT.sIx xs.length 0 lo))
      (Nat.le_trans (cutV_length xs lo hi) hz) (q2 hw)
end
section
variable {K : PySem.W.Frag} {g : G0} {H : Hp} {Z : Av}
theorem cut_rep {xs : List D} {vs : List V} {lo hi : Option Int} (r : RepL K g H Z xs vs) : RepL K g H Z (cutD xs lo hi) (cutV vs lo hi) := by
  unfold cutD cutV
  rw [r.length]
  exact RepL.take _ (RepL.drop _ r)
theorem cut_whole {xs : List D} {lo hi : Option Int} (h : HT.sIx xs.length 0 lo = 0 ∧ HT.sIx xs.length xs.length hi = xs.length) : cutD xs lo hi = xs := by
  unfold cutD
  rw [h.1, h.2, List.drop_zero, Nat.sub_zero, List.take_length]
theorem slPost {W : WX} {σ : L2.St} {d : D} {v : V} {lo hi : Option Int} {Q : VK} (rx : RepB K g H Z d v) (hp : PostE K g W Z σ H Q (fSl d lo hi)) : (rSlN K v lo hi H Q ∨ rSlL K v lo hi H Q) ∨ rSlS v lo hi H Q := by
  cases d with
  | tup xs =>
    obtain ⟨a, ws, rfl, t, rr⟩ := rx.tup_
    have hl := rr.length
    refine .inl (.inl ⟨a, ws, rfl, t.sqT, fun hw => ?_, fun _ => post_tup hp (cut_rep rr)⟩)
    have e : fSl (.tup xs) lo hi = .ok (.fr (.tup xs)) := by
      show R.ok (Sl.fr (.tup (cutD xs lo hi))) = _
      rw [cut_whole (by rw [hl]; exact hw)]
    rw [e] at hp
    exact hp _ H (Same.refl _) (Rep.tup_.mpr ⟨a, ws, rfl, t, rr⟩)
  | lst xs =>
    obtain ⟨a, ws, rfl, t, rr⟩ := rx.lst_
    exact .inl (.inr ⟨a, ws, rfl, t, fun p hn => post_ow hp hn (cut_rep rr)⟩)
  | str z =>
    have hp : PostE K g W Z σ H Q (if z.length ≤ lim then .ok (.fr (.str (cutS z lo hi))) else .st) := hp
    split at hp
    · exact .inr ⟨z, rx.str_, limLine (by assumption), hp _ H (Same.refl _) (Rep.str_.mpr rfl)⟩
    · exact hp.elim
  | _ => exact hp.elim
end
section
variable {g : G0} {x : L2.St → Prop} {W : WX} {X : Cx} {a b e : Expr} {es : List Expr} {pos p p2 pos2 : Pos} {ma mb : B} {l u : BO}
def tO (K : PySem.W.Frag) (g : G0) (x : L2.St → Prop) (W : WX) (m : BO) : TO := fun σ H Q => ∃ env Z, ERel K g x Z env σ H ∧ match m env with
  | .ok o => ∀ H', Same H H' → Q o H'
  | .ex c p => ∀ H' dd, Same H H' → ExP K g H' Z p dd → W (.ref (g.cl c)) dd σ H'
  | .st => False
abbrev POd (g : G0) (x : L2.St → Prop) (W : WX) (X : Cx) (e : Option Expr) (m : BO) : Prop := PO X e (tO X.K g x W m)
theorem do_none : POd g x W X none oNone := ⟨fun pins s σ H Q I ⟨env, Z, er, hp⟩ => po_none.run pins s σ H Q I (hp H (Same.refl _))⟩
theorem do_some (h : PBd g x W X a ma) : POd g x W X (some a) (oSome ma) := ⟨fun pins s σ H Q I ⟨env, Z, er, hp⟩ => (po_some h).run pins s σ H Q I (by
  refine ⟨env, Z, er, ?_⟩
  unfold oSome at hp
  cases em : ma env with
  | ok d =>
    rw [em] at hp
    intro v H' k r
    cases d with
    | int i => exact ⟨i, r.int_, hp H' k⟩
    | _ => exact hp.elim
  | ex c p => rw [em] at hp; exact hp
  | st => rw [em] at hp; exact hp)⟩
theorem de_sl (he : PBd g x W X e ma) (hl : POd g x W X a' l) (hu : POd g x W X b' u) : PEd g x W X (.Subscript e (.Slice a' b' none p2) pos) (mSl ma l u) :=
  weakE (pe_slice ((sl_tupN.or sl_list).or sl_str) he hl hu) fun σ H Q ⟨env, Z, er, hp⟩ => useB er hp fun d v H1 e1 k1 r1 hp1 => by
    refine ⟨env, Z, er.mono k1, ?_⟩
    cases el : l env with
    | ok lo =>
      rw [el] at hp1
      intro H2 k2
      refine ⟨env, Z, er.mono (k1.trans k2), ?_⟩
      have hp2 : PostE X.K g W Z σ H2 Q ((u env).bind fun hi => fSl d lo hi) := PostE.later k2 hp1
      cases eu : u env with
      | ok hi =>
        rw [eu] at hp2
        intro H3 k3
        exact slPost (r1.mono (k2.trans k3)) (PostE.later k3 hp2)
      | ex c p => rw [eu] at hp2; exact hp2
      | st => rw [eu] at hp2; exact hp2
    | ex c p => rw [el] at hp1; exact hp1
    | st => rw [el] at hp1; exact hp1
end

/-! ### isinstance with a built-in class -/
inductive Ty where
  | int | bool | tuple | list | str
def Ty.nm : Ty → String
  | .int => "int"
  | .bool => "bool"
  | .tuple => "tuple"
  | .list => "list"
  | .str => "str"
def fIs (t : Ty) : D → R Sl
  | .int _ => .ok (.fr (.bl (match t with | .int => true | _ => false)))
  | .bl _ => .ok (.fr (.bl (match t with | .int => true | .bool => true | _ => false)))
  | .str _ => .ok (.fr (.bl (match t with | .str => true | _ => false)))
  | .tup _ => .ok (.fr (.bl (match t with | .tuple => true | _ => false)))
  | .lst _ => .ok (.fr (.bl (match t with | .list => true | _ => false)))
  | .non => .ok (.fr (.bl false))
  | _ => .st
section
variable {K : PySem.W.Frag} {g : G0} {H : Hp} {Z : Av}
theorem isi_rule {X : Cx} (t : Ty) {a : Expr} {pos p p2 : Pos} {ta : TE} (hg : Gl X "isinstance") (hm : X.mg "isinstance" = none) (hg2 : Gl X (Str.ofString t.nm)) (hm2 : X.mg (Str.ofString t.nm) = none) (ha : PE X a ta)
    (hv : bootBuiltins (Str.ofString t.nm) = some (.type t.nm)) (hn : (Str.ofString t.nm) ≠ "__name__") (hd : ((Str.ofString t.nm) == ("__debug__" : Str)) = false)
    (he : starEach [a, .Name (Str.ofString t.nm) p2] X.env = (false, eval a X.env) :: starEach [.Name (Str.ofString t.nm) p2] X.env) (he2 : starEach [.Name (Str.ofString t.nm) p2] X.env = (false, eval (.Name (Str.ofString t.nm) p2) X.env) :: starEach [] X.env) :
    PE X (.Call (.Name "isinstance" p) [a, .Name (Str.ofString t.nm) p2] [] pos) (fun σ H Q => ta σ H fun x H1 => rIsi X.K [x, .ty t.nm] H1 Q) := by
  have q : PA X [a, .Name (Str.ofString t.nm) p2] (tCons ta (tCons (tC (.ty t.nm)) tNil)) := pa_cons ha (pa_cons (pe_bltn (v := .ty t.nm) hg2 hm2 hv rfl hn hd) pa_nil he2) he
  exact pe_callB call_isi hg hm (by decide +kernel) q (by decide) (by decide) he (by rw [he2]; rfl)
theorem tyX_tu {a : Addr} {vs : List V} (h : Tu K H a vs) : TyX K H (.ref a) (.type "tuple") := by
  rcases h with ⟨o, e, _⟩ | ⟨o, its, n, e, c, _⟩
  · exact .fTuple e
  · exact .kTuple e c
theorem tyX_rd {a : Addr} {vs : List V} (h : SqL K H a vs) : TyX K H (.ref a) (.type "list") := by
  rcases h with (e | ⟨o, e⟩) | ⟨o, its, n, e, c, _⟩
  · exact .base (.lst e)
  · exact .base (.frz e)
  · exact .kList e c
theorem uf_is (t : Ty) : UnF K (fun x H Q => rIsi K [x, .ty t.nm] H Q) (fIs t) := by
  intro g W H Z σ x v Q dom rx hp
  have fin : ∀ {n : String} {b : Bool}, kitB n t.nm = some b → TyX K H v (.type n) → Q (.bl b) H → rIsi K [v, .ty t.nm] H Q := fun {n b} hk ty q => ⟨v, .ty t.nm, .type n, .type t.nm, b, rfl, .ty _, ty, kit_ty hk, q⟩
  cases x with
  | non => rw [rx.non_] at fin ⊢; cases t <;> exact fin (n := "NoneType") (by decide +kernel) (.base .non) (hp _ H (Same.refl _) (Rep.bl_.mpr rfl))
  | bl b => rw [rx.bl_] at fin ⊢; cases t <;> exact fin (n := "bool") (by decide +kernel) (.base (.bl b)) (hp _ H (Same.refl _) (Rep.bl_.mpr rfl))
  | int b => rw [rx.int_] at fin ⊢; cases t <;> exact fin (n := "int") (by decide +kernel) (.base (.int b)) (hp _ H (Same.refl _) (Rep.bl_.mpr rfl))
  | str b => rw [rx.str_] at fin ⊢; cases t <;> exact fin (n := "str") (by decide +kernel) (.base (.str b)) (hp _ H (Same.refl _) (Rep.bl_.mpr rfl))
  | tup xs =>
    obtain ⟨a, ws, rfl, tu, rr⟩ := rx.tup_
    cases t <;> exact fin (n := "tuple") (by decide +kernel) (tyX_tu tu) (hp _ H (Same.refl _) (Rep.bl_.mpr rfl))
  | lst xs =>
    obtain ⟨a, ws, rfl, rd, rr⟩ := rx.lst_
    cases t <;> exact fin (n := "list") (by decide +kernel) (tyX_rd rd) (hp _ H (Same.refl _) (Rep.bl_.mpr rfl))
  | obj c fs => exact hp.elim
  | dct c fs => exact hp.elim
end
section
variable {g : G0} {x : L2.St → Prop} {W : WX} {X : Cx} {a b e : Expr} {es : List Expr} {pos p p2 pos2 : Pos} {ma mb : B}
theorem de_isi (t : Ty) (hg : Gl X "isinstance") (hm : X.mg "isinstance" = none) (hg2 : Gl X (Str.ofString t.nm)) (hm2 : X.mg (Str.ofString t.nm) = none) (ha : PBd g x W X a ma)
    (hv : bootBuiltins (Str.ofString t.nm) = some (.type t.nm) := by decide +kernel) (hn : (Str.ofString t.nm) ≠ "__name__" := by decide) (hd : ((Str.ofString t.nm) == ("__debug__" : Str)) = false := by decide)
    (he : starEach [a, .Name (Str.ofString t.nm) p2] X.env = (false, eval a X.env) :: starEach [.Name (Str.ofString t.nm) p2] X.env := by rfl) (he2 : starEach [.Name (Str.ofString t.nm) p2] X.env = (false, eval (.Name (Str.ofString t.nm) p2) X.env) :: starEach [] X.env := by rfl) :
    PEd g x W X (.Call (.Name "isinstance" p) [a, .Name (Str.ofString t.nm) p2] [] pos) (mUn (fIs t) ma) :=
  weakE (isi_rule t hg hm hg2 hm2 ha hv hn hd he he2) fun σ H Q ⟨env, Z, er, hp⟩ => useB er hp fun d v H1 e1 k1 r1 hp1 => uf_is t g W H1 Z σ _ _ _ (dom_mono k1 er.dom) r1 hp1
end

/-! ### xs.index(x), t.index(x) -/
def flatD : D → Bool
  | .non => true
  | .bl _ => true
  | .int _ => true
  | .str _ => true
  | _ => false
def fIdxAux (x : D) : List D → Nat → Option Nat
  | [], _ => none
  | d :: ds, n => if eqD d x = true then some n else fIdxAux x ds (n + 1)
def fTupIdx (t x : D) : R Sl := match t with
  | .tup xs => if (flatD x && xs.all flatD) = true then match fIdxAux x xs 0 with
    | some j => .ok (.fr (.int j))
    | none => .st else .st
  | _ => .st
def fLstIdx (t x : D) : R Sl := match t with
  | .lst xs => if (okE (.lst xs) && okE x) = true then match fIdxAux x xs 0 with
    | some j => .ok (.fr (.int j))
    | none => .st else .st
  | _ => .st
def mTupIdx (mo me : B) : M := fun env => (mo env).bind fun t => match t with
  | .tup xs => (me env).bind fun x => fTupIdx (.tup xs) x
  | _ => .st
theorem idx_at {x : D} : ∀ {xs : List D} {n j : Nat}, fIdxAux x xs n = some j → n ≤ j ∧ ∃ d, xs[j - n]? = some d ∧ eqD d x = true ∧ ∀ m e, m < j - n → xs[m]? = some e → eqD e x = false
  | [], n, j, h => by cases h
  | d :: ds, n, j, h => by
    unfold fIdxAux at h
    split at h
    · cases h
      rename_i he
      exact ⟨Nat.le_refl _, d, by rw [Nat.sub_self]; rfl, he, fun m e hm => by omega⟩
    · rename_i he
      obtain ⟨h1, c, h2, h3, h4⟩ := idx_at h
      have ej : j - n = (j - (n + 1)) + 1 := by omega
      refine ⟨by omega, c, by rw [ej]; exact h2, h3, fun m e hm hq => ?_⟩
      cases m with
      | zero =>
        cases hq
        exact Bool.eq_false_iff.mpr he
      | succ m => exact h4 m e (by omega) hq
section
variable {K : PySem.W.Frag} {g : G0} {H : Hp} {Z : Av}
theorem flat_rep {d : D} {v : V} (f : flatD d = true) (r : Rep K g H Z d v) : flatV v = true := by
  cases d with
  | non => rw [Rep.non_.mp r]; rfl
  | bl b => rw [Rep.bl_.mp r]; rfl
  | int b => rw [Rep.int_.mp r]; rfl
  | str b => rw [Rep.str_.mp r]; rfl
  | _ => cases f
theorem flat_eq {d e : D} {v u : V} (f : flatD d = true) (f' : flatD e = true) (r : Rep K g H Z d v) (r' : Rep K g H Z e u) : eqV v u = eqD d e := by
  cases d with
  | non => rw [Rep.non_.mp r]; cases e <;> first | (cases f'; done) | (first | rw [Rep.non_.mp r'] | rw [Rep.bl_.mp r'] | rw [Rep.int_.mp r'] | rw [Rep.str_.mp r']) <;> simp only [eqV, eqD]
  | bl b => rw [Rep.bl_.mp r]; cases e <;> first | (cases f'; done) | (first | rw [Rep.non_.mp r'] | rw [Rep.bl_.mp r'] | rw [Rep.int_.mp r'] | rw [Rep.str_.mp r']) <;> simp only [eqV, eqD]
  | int b => rw [Rep.int_.mp r]; cases e <;> first | (cases f'; done) | (first | rw [Rep.non_.mp r'] | rw [Rep.bl_.mp r'] | rw [Rep.int_.mp r'] | rw [Rep.str_.mp r']) <;> simp only [eqV, eqD]
  | str b => rw [Rep.str_.mp r]; cases e <;> first | (cases f'; done) | (first | rw [Rep.non_.mp r'] | rw [Rep.bl_.mp r'] | rw [Rep.int_.mp r'] | rw [Rep.str_.mp r']) <;> simp only [eqV, eqD]
  | _ => cases f
theorem flat_all : ∀ {ds : List D} {vs : List V}, ds.all flatD = true → RepL K g H Z ds vs → vs.all flatV = true
  | [], vs, _, r => by rw [RepL.nil_.mp r]; rfl
  | d :: ds, vs, f, r => by
    obtain ⟨v, ws, e, h1, h2⟩ := RepL.cons_.mp r
    subst e
    simp only [List.all_cons, Bool.and_eq_true] at f ⊢
    exact ⟨flat_rep f.1 h1, flat_all f.2 h2⟩
theorem flatB {d : D} {v : V} (f : flatD d = true) (r : RepB K g H Z d v) : Rep K g H Z d v := by
  rcases r with r | ⟨xs, _, _, e, _⟩
  · exact r
  · subst e; cases f
theorem RepL.get' : ∀ {ds : List D} {vs : List V} {i : Nat} {v : V}, RepL K g H Z ds vs → vs[i]? = some v → ∃ d, ds[i]? = some d ∧ Rep K g H Z d v := fun {ds vs i v} r e => by
  have hl : i < ds.length := by rw [r.length]; exact (List.getElem?_eq_some_iff.mp e).1
  obtain ⟨w, hw, q⟩ := r.get (List.getElem?_eq_getElem hl)
  rw [e] at hw
  cases hw
  exact ⟨_, List.getElem?_eq_getElem hl, q⟩
theorem all_get {ds : List D} {i : Nat} {d : D} (f : ds.all flatD = true) (h : ds[i]? = some d) : flatD d = true := List.all_eq_true.mp f d (List.mem_of_getElem? h)
end
section
variable {g : G0} {x : L2.St → Prop} {W : WX} {X : Cx} {o e : Expr} {pos apos cpos : Pos} {mo me : B}
theorem de_tupIdx (ho : PBd g x W X o mo) (he : PBd g x W X e me) (hbase : attributeBase o "index" X.env (eval o X.env) = eval o X.env := by rfl) (hline : (apos.endLine == cpos.line) = true := by rfl)
    (hse : starEach [e] X.env = [(false, eval e X.env)] := by rfl) : PEd g x W X (.Call (.Attribute o "index" apos) [e] [] cpos) (mTupIdx mo me) :=
  weakE (pe_bmT PySem.F.plainAttrs_tuple PySem.F.slot_tuple_index PySem.F.type_tuple_index mt_tupIndex ho (pa_cons he pa_nil hse) hbase (by rw [hse]; rfl) hline hse rfl) fun σ H Q ⟨env, Z, er, hp⟩ =>
    useB er hp fun d v H1 e1 k1 r1 hp1 => by
      cases d with
      | tup xs =>
        obtain ⟨a, ws, rfl, tu, rr⟩ := r1.tup_
        refine ⟨⟨a, ws, rfl, tu⟩, ?_⟩
        refine useB (er.mono k1) hp1 fun d2 v2 H2 e2 k2 r2 hp2 => ?_
        have hp2 : PostE X.K g W Z σ H2 Q (if (flatD d2 && xs.all flatD) = true then match fIdxAux d2 xs 0 with
          | some j => .ok (.fr (.int j))
          | none => .st else .st) := hp2
        split at hp2
        · rename_i hf
          rw [Bool.and_eq_true] at hf
          split at hp2
          · rename_i j hj
            obtain ⟨_, c, h2, h3, h4⟩ := idx_at hj
            rw [Nat.sub_zero] at h2 h4
            have rr2 : RepL X.K g H2 Z xs ws := RepL.mono (.same_ k2) _ _ rr
            obtain ⟨z, hz, qz⟩ := rr2.get h2
            have rx := flatB hf.1 r2
            refine ⟨a, ws, v2, j, z, rfl, rfl, ((Kp.same_ (Z := Z) k2).tu tu).sqT, flat_rep hf.1 rx, flat_all hf.2 rr2, hz, ?_, fun m z' hm hz' => ?_, hp2 _ H2 (Same.refl _) (Rep.int_.mpr rfl)⟩
            · rw [flat_eq (all_get hf.2 h2) hf.1 qz rx]; exact h3
            · obtain ⟨d', hd', q'⟩ := rr2.get' hz'
              rw [flat_eq (all_get hf.2 hd') hf.1 q' rx]
              exact h4 m d' hm hd'
          · exact hp2.elim
        · exact hp2.elim
      | _ => exact hp1.elim
end
end DL
set_option Elab.async false
set_option linter.all false
set_option maxRecDepth 100000
namespace DL
open PySem PySem.Spec L2
open PyProof.Rows hiding St

/-! ### enumerate(list or tuple) -/
section
open PySem AutoSeq1
set_option maxHeartbeats 1000000 in
theorem enum_new1 {v : Value} {o : Obj} {G : Heap → Prop} (Bg : Begins v o G) :
    Meets (Builtin.«enumerate.__new__» ⟨[.type "enumerate", v], []⟩) (fun _ R s => G s.heap ∧
      R (.ok (.ret (.ref (s.heap.push o).objs.size))) { s with heap := (s.heap.push o).push { cls := .type "enumerate", data := .fields #[.none, .bool false, .ref s.heap.objs.size, rawInt 0, .none, .none] } }) :=
  .of_wp fun prog w A R s h => by
    obtain ⟨hp, gs, dr, tk, os⟩ := s
    obtain ⟨h1, h⟩ := h
    have hsub := sub_enumerate
    have nx : ∀ {A' : Around} {E : Value → Shared → Prop} {Q : Value → Shared → Prop}, Q (.ref hp.objs.size) ⟨hp.push o, gs, dr, tk, os⟩ → wpAny (model prog w) A' (pyIter v) Q E ⟨hp, gs, dr, tk, os⟩ :=
      fun q => Bg.iter prog w _ _ ⟨hp, gs, dr, tk, os⟩ _ h1 q
    wp_walk using nx
    refine wpAny_stack_any fun st => wpAny_pure ?_
    split
    · rename_i cc _ _ _ _ _
      cases (cc == Value.type "enumerate") <;> (wp_walk using nx; exact ⟨_, rfl, h⟩)
    · wp_walk using nx
      exact ⟨_, rfl, h⟩
theorem enum_call {prog : Program} {w : World} {A : Around} {E : Value → Shared → Prop} {s : Shared} {v : Value} {o : Obj} {G : Heap → Prop} {Q : Value → Shared → Prop} (Bg : Begins v o G) (h1 : G s.heap)
    (h : ∀ h', IsEnum h' (s.heap.objs.size + 1) s.heap.objs.size 0 .none → h'.get? s.heap.objs.size = some o → h'.objs.size = s.heap.objs.size + 2 → (∀ b o, s.heap.get? b = some o → h'.get? b = some o) → Q (.ref (s.heap.objs.size + 1)) { s with heap := h' }) :
    wpAny (model prog w) A (call (.type "enumerate") [v]) Q E s := by
  refine callType_new F.called_enumerate (by decide) (F.typeCall_enumerate_1 _) (F.newCall_enumerate_1 _) (fun obj => F.args_object_init_2 obj _) F.entry_enumerate_new (enum_new1 Bg) ⟨h1, ?_⟩
  have hz : (s.heap.push o).objs.size = s.heap.objs.size + 1 := Heap.size_push ..
  show _ ∧ _
  rw [hz]
  have he : IsEnum ((s.heap.push o).push { cls := .type "enumerate", data := .fields #[.none, .bool false, .ref s.heap.objs.size, rawInt 0, .none, .none] }) (s.heap.objs.size + 1) s.heap.objs.size 0 .none := by
    have q := Heap.get?_push_size (s.heap.push o) (o := { cls := .type "enumerate", data := .fields #[.none, .bool false, .ref s.heap.objs.size, rawInt 0, .none, .none] }) rfl
    rw [hz] at q
    exact q
  exact ⟨⟨_, he, rfl⟩, h _ he (Heap.get?_push_of_some _ (Heap.get?_push_size _ Bg.free)) (by rw [Heap.size_push, hz]) fun b o x => Heap.get?_push_of_some _ (Heap.get?_push_of_some _ x)⟩
end
/-- the items of what sq tells, each in a new pair with its number -/
def ItE (sq : Hp → List V → Prop) : It :=
  ⟨fun i H => ∃ (xs : List V) (x : V), sq H xs ∧ xs[i]? = some x, fun i H v H' => ∃ (T : Addr) (o : Obj) (x : V), v = .ref T ∧ H T = none ∧ o.cls = .type "tuple" ∧ o.dict = none ∧ H' = upd H T (.frz o (.tup [.int (i : Nat), x])) ∧ ∀ xs, sq H xs → xs[i]? = some x,
    fun i H => ∃ xs : List V, sq H xs ∧ xs.length ≤ i⟩
section
variable {P : Program} {w : World} {K : PySem.W.Frag} {elts : List Expr} {kk : Nat} {tpos : Pos}
theorem enum_new_ok {X : Cx} {pins : List (Addr × Obj)} {s : Shared} {σ : L2.St} {H : Hp} {e it : Addr} {i : Nat} {x : V} {u : Value} {tk : Nat} {t : Tok} {h' : Heap} (I : Inv X pins σ H s) (hf : ∀ b ∈ [e, it], FpOk X pins H b)
    (hT : h'.get? s.heap.objs.size = some { cls := .type "tuple", data := .seq #[.int i t, u] }) (ru : RelV x u) (hk : ∀ b o, b ∉ [e, it] → s.heap.get? b = some o → h'.get? b = some o) :
    Inv X pins σ (upd H s.heap.objs.size (.frz { cls := .type "tuple", data := .seq #[.int i t, u] } (.tup [.int (i : Nat), x]))) { s with heap := h', toks := tk } := by
  have new : ObjOk X.prog X.w (upd H s.heap.objs.size (.frz { cls := .type "tuple", data := .seq #[.int i t, u] } (.tup [.int (i : Nat), x]))) h' s.heap.objs.size (.frz { cls := .type "tuple", data := .seq #[.int i t, u] } (.tup [.int (i : Nat), x])) :=
    ⟨hT, by show 2 ≤ sizeLine; decide, [.int i t, u], .cons ⟨_, rfl⟩ (.cons ru .nil), ⟨_, hT, rfl, _, rfl⟩⟩
  exact I.turnedNew (ch := [e, it]) hk hf (Nat.le_refl _) new
theorem turn_enumT (a e it : Addr) : Turn P w K (.Tuple elts kk tpos) (ItE fun H xs => SqT K H a xs) [e, it] e (fun i h => (∃ old, IsEnum h e it ((i : Nat) : Int) old) ∧ h.IsTupleIter it a i ∧ e ≠ it) where
  mem := by simp
  obj := fun i h st b hb => by
    obtain ⟨⟨old, he⟩, ⟨o, ho, hc, hd⟩, _⟩ := st
    rcases (show b = e ∨ b = it by simpa using hb) with z | z
    · rw [z]; exact ⟨_, he, fun v q => nomatch q⟩
    · rw [z]; exact ⟨o, ho, fun v q => by rw [hd] at q; cases q⟩
  keep := fun i h h' st k => let ⟨⟨old, he⟩, hi, hne⟩ := st; ⟨⟨old, k e (by simp) _ he⟩, hi.at fun o q => k it (by simp) o q, hne⟩
  item := by
    intro X hP hw hK hc i pins s σ H E I hf st hg
    subst hP hw hK
    obtain ⟨⟨old, he⟩, hit, hne⟩ := st
    obtain ⟨xs, x, hq, hx⟩ := hg
    obtain ⟨its, rv, p, hz⟩ := I.tuple hq
    obtain ⟨u, hu, ru⟩ := rv.get hx
    have hlt : i < its.toArray.size := by rw [List.size_toArray]; exact (List.getElem?_eq_some_iff.mp hu).1
    have nat : a ≠ it := fun z => by
      obtain ⟨o1, h1, c1, _⟩ := p
      obtain ⟨o2, h2, c2, _⟩ := hit
      rw [z, h2] at h1
      cases h1
      rw [c2] at c1
      injection c1 with q
      exact absurd q (by decide)
    have nae : e ≠ a := fun z => by
      obtain ⟨o1, h1, c1, _⟩ := p
      have h2 : s.heap.get? e = _ := he
      rw [z, h1] at h2
      cases h2
      injection c1 with q
      exact absurd q (by decide)
    have hel : e < s.heap.objs.size := Heap.lt_size he
    have hil : it < s.heap.objs.size := by obtain ⟨_, q, _⟩ := hit; exact Heap.lt_size q
    refine wpAny_pyNext_enum_itemD (Draws.tuple (A := X.A.in1) (show X.A.in1.handled = none from I.ok.hd hc) it a nat its.toArray) he ⟨hit, p⟩ hlt hne (by simp [hne, nae]) fun y h' tk hP ho hs' hT hsz hk => ?_
    have ey : y = u := by
      have hP : its.toArray[i]? = some y := hP
      rw [List.getElem?_toArray, hu] at hP
      exact (Option.some.inj hP).symm
    subst ey
    refine ⟨_, rfl, wpAny_letOwnedTupleGo_enum (s := { s with heap := h', toks := tk + 1 }) ho fun h'' he' sb => ?_⟩
    have hT2 := (sb.2 _ (Nat.ne_of_gt hel)).trans hT
    have I1 := enum_new_ok (tk := tk + 1) I hf hT2 ru fun b ob hb q => (sb.2 b (fun z => hb (by simp [z]))).trans (hk b ob (fun z => hb (by simp [z])) (fun z => hb (by simp [z])) q)
    refine ⟨.ref s.heap.objs.size, _, I1, rfl, ⟨_, _, x, rfl, I.hok.fresh (Nat.le_refl _), rfl, rfl, rfl, fun ys hy => by rw [I.tuple_inj hy hq]; exact hx⟩, ⟨⟨y, ?_⟩, hs'.1.at fun o q => (sb.2 it (Ne.symm hne)).trans q, hne⟩, fun b hb => ?_⟩
    · have e1 : ((i + 1 : Nat) : Int) = (i : Int) + 1 := by omega
      rw [e1]; exact he'
    · have hb' : b < s.heap.objs.size := by
        rcases (show b = e ∨ b = it by simpa using hb) with z | z
        · rw [z]; exact hel
        · rw [z]; exact hil
      rw [upd_ne (Nat.ne_of_lt hb')]
      exact (hf b hb).1
  done := by
    intro X hP hw hK hc i pins s σ H E I hf st hg
    subst hP hw hK
    obtain ⟨⟨old, he⟩, hit, hne⟩ := st
    obtain ⟨xs, hq, hx⟩ := hg
    obtain ⟨its, rv, p, hz⟩ := I.tuple hq
    obtain ⟨f0, f1, f2, f3, f4, f5⟩ := hf it (by simp)
    have hl := rv.length
    have hT : s.TypeIs (.ref e) "enumerate" := ⟨_, he, rfl⟩
    unfold pyNext
    refine wpAny_bind (wpAny_attempt (wpAny_callSpecial?_slot (name := Str.ofString "__next__") hT F.slot_enumerate_next (wpAny_call_entry F.slot_enumerate_next hT F.entry_enumerate_next ?_ (F.args_enumerate_next_1 _))))
    show wpAny _ _ (field (.ref e) 2 >>= _) _ _ _
    refine wpAny_bind (wpAny_field he rfl (x := .ref it) rfl ?_)
    refine wpAny_bind (wpAny_nextOf_tuple_end (show X.A.in1.handled = none from I.ok.hd hc) hit p (by rw [List.getElem?_toArray]; exact List.getElem?_eq_none (by omega)) fun h' y eb hy => ?_)
    obtain ⟨oy, hoy, hcy⟩ := hy
    refine wpAny_bind (wpAny_isInstance (T := "StopIteration") (b := true) ⟨oy, hoy, hcy⟩ isSubtype_stop ?_)
    exact wpAny_pure ⟨rfl, I.turned (t' := s.toks) (fun b o hb q => eb b o hb q) f0 f1 f3 f4 f5⟩
  self := fun A i s Q E st h => let ⟨⟨_, he⟩, _⟩ := st; wpAny_pyIter_enum he h

theorem turn_enumL (a e it : Addr) : Turn P w K (.Tuple elts kk tpos) (ItE fun H xs => SqL K H a xs) [e, it] e (fun i h => (∃ old, IsEnum h e it ((i : Nat) : Int) old) ∧ h.IsListIter it a i ∧ e ≠ it) where
  mem := by simp
  obj := fun i h st b hb => by
    obtain ⟨⟨old, he⟩, ⟨o, ho, hc, hd⟩, _⟩ := st
    rcases (show b = e ∨ b = it by simpa using hb) with z | z
    · rw [z]; exact ⟨_, he, fun v q => nomatch q⟩
    · rw [z]; exact ⟨o, ho, fun v q => by rw [hd] at q; cases q⟩
  keep := fun i h h' st k => let ⟨⟨old, he⟩, hi, hne⟩ := st; ⟨⟨old, k e (by simp) _ he⟩, hi.at fun o q => k it (by simp) o q, hne⟩
  item := by
    intro X hP hw hK hc i pins s σ H E I hf st hg
    subst hP hw hK
    obtain ⟨⟨old, he⟩, hit, hne⟩ := st
    obtain ⟨xs, x, hq, hx⟩ := hg
    obtain ⟨its, rv, p, hz⟩ := I.list hq
    obtain ⟨u, hu, ru⟩ := rv.get hx
    have hel : e < s.heap.objs.size := Heap.lt_size he
    have hil : it < s.heap.objs.size := by obtain ⟨_, q, _⟩ := hit; exact Heap.lt_size q
    refine wpAny_pyNext_enum_item he hit p.isList (x := u) (by simpa using hu) hne fun h' ho hit' hT hsz hk => ?_
    refine ⟨_, rfl, wpAny_letOwnedTupleGo_enum (s := { s with heap := h', toks := s.toks + 1 }) ho fun h'' he' sb => ?_⟩
    have hT2 := (sb.2 _ (Nat.ne_of_gt hel)).trans hT
    have I1 := enum_new_ok (tk := s.toks + 1) I hf hT2 ru fun b ob hb q => (sb.2 b (fun z => hb (by simp [z]))).trans (hk b ob (fun z => hb (by simp [z])) (fun z => hb (by simp [z])) q)
    refine ⟨.ref s.heap.objs.size, _, I1, rfl, ⟨_, _, x, rfl, I.hok.fresh (Nat.le_refl _), rfl, rfl, rfl, fun ys hy => by rw [I.list_inj hy hq]; exact hx⟩, ⟨⟨u, ?_⟩, hit'.at fun o q => (sb.2 it (Ne.symm hne)).trans q, hne⟩, fun b hb => ?_⟩
    · have e1 : ((i + 1 : Nat) : Int) = (i : Int) + 1 := by omega
      rw [e1]; exact he'
    · have hb' : b < s.heap.objs.size := by
        rcases (show b = e ∨ b = it by simpa using hb) with z | z
        · rw [z]; exact hel
        · rw [z]; exact hil
      rw [upd_ne (Nat.ne_of_lt hb')]
      exact (hf b hb).1
  done := by
    intro X hP hw hK hc i pins s σ H E I hf st hg
    subst hP hw hK
    obtain ⟨⟨old, he⟩, hit, hne⟩ := st
    obtain ⟨xs, hq, hx⟩ := hg
    obtain ⟨its, rv, p, hz⟩ := I.list hq
    obtain ⟨f0, f1, f2, f3, f4, f5⟩ := hf it (by simp)
    have hl := rv.length
    exact wpAny_pyNext_enum_end (I.ok.hd hc) he hit p.isList (by simp; omega) fun h' eb => ⟨rfl, I.turned (t' := s.toks) (fun b o hb q => eb b o hb q) f0 f1 f3 f4 f5⟩
  self := fun A i s Q E st h => let ⟨⟨_, he⟩, _⟩ := st; wpAny_pyIter_enum he h
end
section
variable {X : Cx} {e : Expr} {te : TE} {p pos tpos : Pos} {elts : List Expr} {kk : Nat}
theorem pi_enumA (hg : Gl X "enumerate") (hm : X.mg "enumerate" = none) (he : PE X e te) (hs : starEach [e] X.env = (false, eval e X.env) :: starEach [] X.env := by rfl) :
    PI X (.Tuple elts kk tpos) (.Call (.Name "enumerate" p) [e] [] pos) (fun σ H R => te σ H fun v H1 => ∃ a xs, v = .ref a ∧ ((SqL X.K H1 a xs ∧ R (ItE fun H xs => SqL X.K H a xs) H1) ∨ (SqT X.K H1 a xs ∧ R (ItE fun H xs => SqT X.K H a xs) H1))) := by
  refine ⟨fun pins s σ H R I h => ?_⟩
  refine Call_ (ld_blt I hg hm PyProof.Rows.boot_enumerate (PyProof.Rows.callWith_type1 (args_cons (thn (he.run pins s σ H _ I h) fun u s1 ⟨v, H1, I1, r1, q1⟩ => args_nil ?_) hs) hs rfl))
  obtain ⟨a, xs, ev, hq⟩ := q1
  subst ev
  cases r1
  have fp : ∀ b ∈ [s1.heap.objs.size + 1, s1.heap.objs.size], FpOk X pins H1 b := fun b hb => by
    have hle : s1.heap.objs.size ≤ b := by
      rcases (show b = s1.heap.objs.size + 1 ∨ b = s1.heap.objs.size by simpa using hb) with z | z
      · rw [z]; exact Nat.le_add_right _ _
      · rw [z]; exact Nat.le_refl _
    exact I1.fpOk hle (I1.hok.fresh hle)
  rcases hq with ⟨hq, q⟩ | ⟨hq, q⟩
  · obtain ⟨its, rv, p', hz⟩ := I1.list hq
    refine enum_call (begins_list a its.toArray) p'.isList fun h' he ho hsz hk => wpAny_pyIter_enum he ?_
    have I2 : Inv X pins σ H1 { s1 with heap := h' } := I1.kept (t' := s1.toks) hk
    exact ⟨s1.heap.objs.size + 1, [s1.heap.objs.size + 1, s1.heap.objs.size], _, _, H1, rfl, I2, turn_enumL a (s1.heap.objs.size + 1) s1.heap.objs.size, ⟨⟨.none, he⟩, ⟨_, ho, rfl, rfl⟩, Nat.succ_ne_self _⟩, fp, q⟩
  · obtain ⟨its, rv, p', hz⟩ := I1.tuple hq
    refine enum_call (begins_tuple a its.toArray) (show s1.heap.IsTuple a its.toArray from p') fun h' he ho hsz hk => wpAny_pyIter_enum he ?_
    have I2 : Inv X pins σ H1 { s1 with heap := h' } := I1.kept (t' := s1.toks) hk
    exact ⟨s1.heap.objs.size + 1, [s1.heap.objs.size + 1, s1.heap.objs.size], _, _, H1, rfl, I2, turn_enumT a (s1.heap.objs.size + 1) s1.heap.objs.size, ⟨⟨.none, he⟩, ⟨_, ho, rfl, rfl⟩, Nat.succ_ne_self _⟩, fp, q⟩
end
def enumD (n : Nat) : List D → List D
  | [] => []
  | d :: ds => .tup [.int n, d] :: enumD (n + 1) ds
def mEnum (m : M) : En → R (List D) := fun env => (m env).bind fun s => (asSeq s.d).bind fun xs => .ok (enumD 0 xs)
theorem enumD_get : ∀ {xs : List D} {n i : Nat} {d : D}, (enumD n xs)[i]? = some d → ∃ c, xs[i]? = some c ∧ d = .tup [.int ((n + i : Nat) : Int), c]
  | [], n, i, d, h => by simp [enumD] at h
  | x :: xs, n, 0, d, h => by
    unfold enumD at h
    simp at h
    exact ⟨x, rfl, h.symm⟩
  | x :: xs, n, i + 1, d, h => by
    unfold enumD at h
    obtain ⟨c, h1, h2⟩ := enumD_get (by simpa using h)
    exact ⟨c, by simpa using h1, by rw [h2, show n + 1 + i = n + (i + 1) by omega]⟩
theorem enumD_length : ∀ {xs : List D} {n : Nat}, (enumD n xs).length = xs.length
  | [], n => rfl
  | x :: xs, n => by unfold enumD; rw [List.length_cons, List.length_cons, enumD_length]
section
variable {K : PySem.W.Frag} {g : G0} {Z : Av} {H : Hp}
theorem walk_enum {sq : Hp → List V → Prop} {ds : List D} {vs : List V} (r : RepL K g H Z ds vs) (hs : ∀ H', Kp H Z H' (fun _ => False) → sq H' vs) : Walk K g Z H (ItE sq) (enumD 0 ds) where
  go := fun i d H' e k => by
    obtain ⟨c, h1, _⟩ := enumD_get e
    obtain ⟨v, h3, _⟩ := r.get h1
    exact ⟨vs, v, hs H' k, h3⟩
  yld := fun i d H' v H'' e k y => by
    obtain ⟨T, o, x, rfl, hn, oc, od, rfl, hy⟩ := y
    obtain ⟨c, h1, h2⟩ := enumD_get e
    obtain ⟨u, h3, q⟩ := r.get h1
    have e4 := hy vs (hs H' k)
    rw [h3] at e4
    cases e4
    refine ⟨same_upd hn, fun Z' k2 hz => ?_⟩
    rw [h2, Nat.zero_add]
    exact Rep.tup_.mpr ⟨T, _, rfl, .inl ⟨o, upd_same, oc, od⟩, RepL.cons_.mpr ⟨_, _, rfl, Rep.int_.mpr rfl, .one (Rep.mono k2 _ _ q)⟩⟩
  stop := fun i H' l k => ⟨vs, hs H' k, by rw [enumD_length] at l; rw [← r.length]; exact l⟩
end
section
variable {g : G0} {x : L2.St → Prop} {W : WX} {X : Cx} {e : Expr} {p pos tpos : Pos} {elts : List Expr} {kk : Nat} {m : M}
theorem di_enum (hg : Gl X "enumerate") (hm : X.mg "enumerate" = none) (he : PEd g x W X e m) (hs : starEach [e] X.env = (false, eval e X.env) :: starEach [] X.env := by rfl) : PId g x W X (.Tuple elts kk tpos) (.Call (.Name "enumerate" p) [e] [] pos) (mEnum m) :=
  weakI (pi_enumA hg hm he hs) fun σ H Rn ⟨env, Z, er, hp⟩ => by
    refine use er ?_
    unfold mEnum at hp
    cases em : m env with
    | ok s =>
      rw [em] at hp
      have hp : PostI X.K g W Z σ H Rn ((asSeq s.d).bind fun xs => .ok (enumD 0 xs)) := hp
      intro v H' k r
      cases ed : s.d with
      | lst xs =>
        rw [ed] at hp r
        obtain ⟨a, vs, ev, rd, rr⟩ := Rep.lst_.mp r
        exact ⟨a, vs, ev, .inl ⟨rd.sq, hp _ H' k (walk_enum rr fun H2 k2 => (k2.ls rd).sq)⟩⟩
      | tup xs =>
        rw [ed] at hp r
        obtain ⟨a, vs, ev, tu, rr⟩ := Rep.tup_.mp r
        exact ⟨a, vs, ev, .inr ⟨tu.sqT, hp _ H' k (walk_enum rr fun H2 k2 => (k2.tu tu).sqT)⟩⟩
      | _ => rw [ed] at hp; exact hp.elim
    | ex c p => rw [em] at hp; exact hp
    | st => rw [em] at hp; exact hp.elim
end

/-! ### xs.append(ys.pop(k)); a, b = divmod(x, y) -/
section
variable {g : G0} {x : L2.St → Prop} {W : WX} {X : Cx} {ek : Expr} {pos apos cpos apos2 cpos2 p p2 : Pos} {mk : B} {y z : Str}
theorem ds_appPop (i j : Nat) (hN : X.N[i]? = some y) (hv : Vis X.env.scope y) (hd : (y == ("__debug__" : Str)) = false) (hcd : (y == ("__classdict__" : Str)) = false)
    (hN2 : X.N[j]? = some z) (hv2 : Vis X.env.scope z) (hd2 : (z == ("__debug__" : Str)) = false) (hcd2 : (z == ("__classdict__" : Str)) = false) (hk : PBd g x W X ek mk)
    (hb1 : attributeBase (.Name y p) "append" X.env (eval (.Name y p) X.env) = eval (.Name y p) X.env) (hb2 : attributeBase (.Name z p2) "pop" X.env (eval (.Name z p2) X.env) = eval (.Name z p2) X.env)
    (hl1 : (apos.endLine == cpos.line) = true) (hl2 : (apos2.endLine == cpos2.line) = true) (hs2 : starEach [ek] X.env = [(false, eval ek X.env)])
    (hs1 : starEach [.Call (.Attribute (.Name z p2) "pop" apos2) [ek] [] cpos2] X.env = [(false, eval (.Call (.Attribute (.Name z p2) "pop" apos2) [ek] [] cpos2) X.env)])
    (hs : swapsWith (.Call (.Attribute (.Name y p) "append" apos) [.Call (.Attribute (.Name z p2) "pop" apos2) [ek] [] cpos2] [] cpos) none pos.line X.env = pure false) :
    PSd g x W X (.Expr (.Call (.Attribute (.Name y p) "append" apos) [.Call (.Attribute (.Name z p2) "pop" apos2) [ek] [] cpos2] [] cpos) pos) (sAppPop i j mk) :=
  weakS (ps_expr (pe_bm PySem.F.plainAttrs_list PySem.F.slot_list_append PySem.F.type_list_append mt_append (pe_var hN hv hd hcd)
    (pa_cons (pe_bm PySem.F.plainAttrs_list PySem.F.slot_list_pop PySem.F.type_list_pop mt_popAt (pe_var hN2 hv2 hd2 hcd2) (pa_cons hk pa_nil hs2) hb2 (by rw [hs2]; rfl) hl2 hs2 rfl) pa_nil hs1) hb1 (by rw [hs1]; rfl) hl1 hs1 rfl) hs) fun D σ H ⟨env, A, H0, r, hp⟩ => by
    unfold sAppPop at hp
    split at hp
    · rename_i xs ys e1 e2
      obtain ⟨v, f1, a, vs, ev, za, pa, ra⟩ := r.er.at_ i _ e1
      obtain ⟨u, f2, b, ws, eu, zb, pb, rb⟩ := r.er.at_ j _ e2
      subst ev eu
      refine ⟨.ref a, f1, .inl ⟨rfl, vs, SqL.of pa⟩, .ref b, f2, .inl ⟨rfl, ws, SqL.of pb⟩, env, zz A env σ, r.er, ?_⟩
      cases ek : mk env with
      | ok kd =>
        rw [ek] at hp
        intro w H1 k q
        cases kd with
        | int n =>
          have hp : PostS X.K g x W A H0 D (match ixD ys.length n with
            | some l => match ys[l]? with
              | some d => if i ≠ j ∧ xs.length < lim ∧ -1000000 ≤ n ∧ n ≤ 1000000 then .nx ((env.set j (some (.ow (ys.eraseIdx l)))).set i (some (.ow (xs ++ [d])))) else .st
              | none => .st
            | none => .st) := hp
          split at hp
          · rename_i l hl
            split at hp
            · rename_i d hd
              split at hp
              · rename_i hc
                obtain ⟨nij, hlim, h1, h2⟩ := hc
                have nab : a ≠ b := fun q => nij (r.dist i j xs ys a e1 e2 f1 (by rw [q]; exact f2))
                have r1 := r.later k
                have rb1 := RepL.mono (.same_ (Z := zz A env σ) k) _ _ rb
                have ra1 := RepL.mono (.same_ (Z := zz A env σ) k) _ _ ra
                obtain ⟨vd, hvd, qd⟩ := rb1.get hd
                have hix : ixN ws.length n = some l := by rw [← rb.length]; exact hl
                refine ⟨b, ws, n, l, vd, rfl, by rw [q.int_], k _ _ pb, by omega, by omega, (ixN_seq hix).1, hvd, ?_⟩
                refine ⟨a, vs, vd, rfl, rfl, by rw [upd_ne nab]; exact k _ _ pa, by rw [← ra.length]; exact limLine' hlim, ?_⟩
                have r2 := r1.mut e2 f2 (rb1.eraseIdx l)
                have e1' : (env.set j (some (.ow (ys.eraseIdx l))))[i]? = some (some (.ow xs)) := by rw [List.getElem?_set_ne (Ne.symm nij)]; exact e1
                have kz : Kp H1 (zz A env σ) (upd H1 b (.lst (ws.eraseIdx l))) (zz A (env.set j (some (.ow (ys.eraseIdx l)))) σ) := by
                  have hj : j < env.length := (List.getElem?_eq_some_iff.mp e2).1
                  refine ⟨fun c o e n => by rw [upd_ne (fun q => n (by rw [q]; exact zb))]; exact e, fun c o ts e => ?_, fun c _ n z => n ?_⟩
                  · rw [upd_ne]
                    · exact e
                    · intro q
                      rw [q, k _ _ pb] at e
                      cases e
                  · rcases z with z | ⟨m, us, g1, g2⟩
                    · exact .inl z
                    · rcases set_get g1 with ⟨jm, _, _⟩ | ⟨_, g1⟩
                      · subst jm; exact .inr ⟨j, ys, e2, g2⟩
                      · exact .inr ⟨m, us, g1, g2⟩
                exact hp σ _ (r2.mut e1' f1 ((RepL.mono kz _ _ ra1).append (.one (Rep.mono kz _ _ qd))))
              · exact hp.elim
            · exact hp.elim
          · exact hp.elim
        | _ => exact hp.elim
      | ex c p => rw [ek] at hp; exact fun H' dd k q => hp σ H' dd (r.later k) (exA q)
      | st => rw [ek] at hp; exact hp
    · exact hp.elim
end
theorem call_divmodN {X : Cx} : CallR X (.builtin "divmod") (fun xs H Q => ∃ i j, xs = [.int i, .int j] ∧ CDiv i j ∧ NewT H [.int (i / j), .int (i % j)] Q) := by
  intro pins s σ H xs us Q I r h
  obtain ⟨i, j, rfl, ⟨h1, h2⟩, q⟩ := h
  obtain ⟨u, w', rfl, ⟨t, rfl⟩, ⟨t', rfl⟩⟩ := vals2 r
  refine divmod_int (by omega) ?_ (.inl (PyProof.noPylong_small (by omega)))
  rw [Int.fdiv_eq_ediv_of_nonneg i (by omega), Int.fmod_eq_emod_of_nonneg i (by omega)]
  exact newT (vs := [V.int (i / j), V.int (i % j)]) (us := [.int (i / j) s.toks, .int (i % j) (s.toks + 1)]) I (fun b o e => Heap.get?_push_of_some _ e) (Nat.le_refl _) (Heap.get?_push_size _ rfl) (.cons ⟨_, rfl⟩ (.cons ⟨_, rfl⟩ .nil)) (by show 2 ≤ sizeLine; rw [sizeLine_eq]; decide) q
def fDivmod : List D → R Sl
  | [.int a, .int b] => if 0 < b ∧ b < 1073741824 then .ok (.fr (.tup [.int (a / b), .int (a % b)])) else .st
  | _ => .st
theorem cf_divmod {K : PySem.W.Frag} : CallF K (fun xs H Q => ∃ i j, xs = [.int i, .int j] ∧ CDiv i j ∧ NewT H [.int (i / j), .int (i % j)] Q) fDivmod := by
  intro g W H Z σ xs vs Q dom r hp
  unfold fDivmod at hp
  split at hp
  · obtain ⟨v, u, rfl, r1, r2⟩ := r.two_
    split at hp
    · rename_i hb
      exact ⟨_, _, by rw [r1.int_, r2.int_], hb, post_tup hp (RepL.cons_.mpr ⟨_, _, rfl, Rep.int_.mpr rfl, .one (Rep.int_.mpr rfl)⟩)⟩
    · exact hp.elim
  · exact hp.elim
section
variable {g : G0} {x : L2.St → Prop} {W : WX} {X : Cx} {e : Expr} {es : List Expr} {pos p : Pos} {mr : En → R (List D)}
theorem de_divmod (hg : Gl X "divmod") (hm : X.mg "divmod" = none) (ha : PBAd g x W X (e :: es) mr) (he : starEach (e :: es) X.env = (false, eval e X.env) :: starEach es X.env := by rfl) (hpl : (backTo pos (starEach es X.env)).any (·.1) = false := by rfl) :
    PEd g x W X (.Call (.Name "divmod" p) (e :: es) [] pos) (mCall fDivmod mr) := de_callB call_divmodN cf_divmod hg hm (by decide +kernel) ha (by decide) (by decide) he hpl
end
end DL
set_option Elab.async false
set_option linter.all false
set_option maxRecDepth 100000
namespace DL
open PySem PySem.Spec L2
open PyProof.Rows hiding St

/-! ### f-strings -/
def fFmt : D → R Sl
  | .str y => if y.length ≤ lim then .ok (.fr (.str y)) else .st
  | .int i => if i.natAbs.log2 < 1920 then .ok (.fr (.str (toString i))) else .st
  | _ => .st
def mJ : List B → Str → En → R Str
  | [], acc, _ => .ok acc
  | m :: ms, acc, env => (m env).bind fun d => match d with
    | .str y => if (acc ++ y).length ≤ lim then mJ ms (acc ++ y) env else .st
    | _ => .st
def mJoin (ms : List B) : M := fun env => (mJ ms Str.empty env).bind fun z => .ok (.fr (.str z))
inductive PJd (g : G0) (x : L2.St → Prop) (W : WX) (X : Cx) : List Expr → List B → Prop where
  | nil : PJd g x W X [] []
  | cons {e : Expr} {m : B} {es : List Expr} {ms : List B} (h : PBd g x W X e m) (r : PJd g x W X es ms) : PJd g x W X (e :: es) (m :: ms)
section
variable {g : G0} {x : L2.St → Prop} {W : WX} {X : Cx} {e v1 v2 : Expr} {rest : List Expr} {pos p : Pos} {m : B} {ms : List B}
theorem de_fmt (he : PBd g x W X e m) : PEd g x W X (.FormattedValue e (-1) none pos) (mUn fFmt m) :=
  weakE (pe_fmt he) fun σ H Q ⟨env, Z, er, hp⟩ => useB er hp fun d v H1 e1 k1 r1 hp1 => by
    cases d with
    | str y =>
      simp only [fFmt] at hp1
      split at hp1
      · exact .inl ⟨y, r1.str_, limLine (by assumption), hp1 _ H1 (Same.refl _) (Rep.str_.mpr rfl)⟩
      · exact hp1.elim
    | int i =>
      simp only [fFmt] at hp1
      split at hp1
      · exact .inr ⟨i, r1.int_, by assumption, hp1 _ H1 (Same.refl _) (Rep.str_.mpr rfl)⟩
      · exact hp1.elim
    | _ => exact hp1.elim
theorem pj_of {es : List Expr} (h : PJd g x W X es ms) : PJ X es (ms.map fun m => tB X.K g x W m) := by
  induction h with
  | nil => exact .nil
  | cons h r ih => exact .cons h ih
theorem tjs_ok {K : PySem.W.Frag} : ∀ (ms : List B) (acc : Str) (env : En) (Z : Av) (σ : L2.St) (H : Hp) (Q : Str → Hp → Prop), ERel K g x Z env σ H →
    (match mJ ms acc env with | .ok z => ∀ H', Same H H' → Q z H' | .ex c p => ∀ H' dd, Same H H' → ExP K g H' Z p dd → W (.ref (g.cl c)) dd σ H' | .st => False) → tJs (ms.map fun m => tB K g x W m) acc σ H Q
  | [], acc, env, Z, σ, H, Q, er, hp => hp H (Same.refl _)
  | m :: ms, acc, env, Z, σ, H, Q, er, hp => by
    refine ⟨env, Z, er, ?_⟩
    unfold mJ at hp
    cases em : m env with
    | ok d =>
      rw [em] at hp
      intro v H1 k r
      cases d with
      | str y =>
        have hp : (match (if (acc ++ y).length ≤ lim then mJ ms (acc ++ y) env else .st) with | .ok z => ∀ H', Same H H' → Q z H' | .ex c p => ∀ H' dd, Same H H' → ExP K g H' Z p dd → W (.ref (g.cl c)) dd σ H' | .st => False) := hp
        split at hp
        all_goals (rename_i eq; split at eq <;> first | cases eq | skip)
        all_goals first
          | (refine ⟨y, r.str_, limLine (by assumption), tjs_ok ms (acc ++ y) env Z σ H1 Q (er.mono k) ?_⟩
             rw [eq]
             first
               | exact fun H2 k2 => hp H2 (k.trans k2)
               | exact fun H2 dd k2 q => hp H2 dd (k.trans k2) q)
          | exact hp.elim
      | _ => exact hp.elim
    | ex c p => rw [em] at hp; exact hp
    | st => rw [em] at hp; exact hp
theorem de_joined (h : PJd g x W X (v1 :: v2 :: rest) ms) : PEd g x W X (.JoinedStr (v1 :: v2 :: rest) pos) (mJoin ms) :=
  weakE (pe_joined (pj_of h)) fun σ H Q ⟨env, Z, er, hp⟩ => by
    refine tjs_ok ms Str.empty env Z σ H _ er ?_
    unfold mJoin at hp
    cases ej : mJ ms Str.empty env with
    | ok z => rw [ej] at hp; exact fun H' k => hp _ H' k (Rep.str_.mpr rfl)
    | ex c p => rw [ej] at hp; exact hp
    | st => rw [ej] at hp; exact hp
end

/-! ### isinstance of the caught error -/
section
variable {g : G0} {W : WX} {X : Cx} {a Dc : Addr} {oe : Obj} {pn : List (Addr × Obj)} {i : Nat} {n y : Str} {p p2 p3 pos : Pos}
theorem de_isE {c : V} {cv : Value} {b : Bool} (C : ExcC X.K Dc) (hz : Zc (.ref Dc) none oe) (hf : ∃ vs, oe.data = .fields vs) (hk : PySem.W.kitOne X.K (.ref Dc) cv = some b) (hcv : ∀ u, RelV c u → u = cv)
    (hg : Gl (X.suite a ((a, oe) :: pn)) "isinstance") (hm : X.mg "isinstance" = none) (hc : PE (X.suite a ((a, oe) :: pn)) (.Name y p3) (tC c))
    (hN : X.N[i]? = some n) (hv : Vis X.env.scope n) (hd : (n == ("__debug__" : Str)) = false) (hcd : (n == ("__classdict__" : Str)) = false)
    (he : starEach [.Name n p2, .Name y p3] X.env = (false, eval (.Name n p2) X.env) :: starEach [.Name y p3] X.env) (he2 : starEach [.Name y p3] X.env = (false, eval (.Name y p3) X.env) :: starEach [] X.env) :
    PEd g (xS a i) W (X.suite a ((a, oe) :: pn)) (.Call (.Name "isinstance" p) [.Name n p2, .Name y p3] [] pos) (mC (.bl b)) := by
  have q : PA (X.suite a ((a, oe) :: pn)) [.Name n p2, .Name y p3] (tCons (tVar i) (tCons (tC c) tNil)) := pa_cons (pe_var (X := X.suite a ((a, oe) :: pn)) hN hv hd hcd) (pa_cons hc pa_nil he2) he
  refine weakE (pe_callB (call_isE C hz hf) hg hm (by decide +kernel) q (by decide) (by decide) he (by rw [show starEach [.Name y p3] (X.suite a ((a, oe) :: pn)).env = (false, eval (.Name y p3) X.env) :: starEach [] X.env from he2]; rfl)) fun σ H Q ⟨env, Z, er, hp⟩ => ?_
  exact ⟨.ref a, er.ex, c, cv, b, rfl, hcv, hk, hp _ H (Same.refl _) (Rep.bl_.mpr rfl)⟩
end
end DL
set_option linter.all false
set_option maxRecDepth 100000
set_option maxHeartbeats 4000000
namespace DL
open PySem PySem.Spec L2
open PyProof.Rows hiding St
section
variable {g : G0} {x : L2.St → Prop} {W : WX} {X : Cx}
theorem dss_st {ss : List Stmt} : PSsd g x W X ss (fun _ => .st) := weakSs pss_never fun _ _ _ ⟨_, _, _, _, h⟩ => h
def sup (p : Pl) (m : MS) : MS := match p with
  | none => m
  | some _ => fun _ => .st
theorem sup_case {ss : List Stmt} {m : MS} {p : Pl} {d : Option Addr} {C : Value} {oe : Obj} (hpd : p = none → d = none) (hz : Zc C d oe) (h : Zc C none oe → PSsd g x W X ss m) : PSsd g x W X ss (sup p m) := by
  cases p with
  | none => have := hpd rfl; subst this; exact h hz
  | some v => exact dss_st
end
section
variable {g : G0} {W : WX} {X : Cx} {a Dc : Addr} {oe : Obj} {pn : List (Addr × Obj)} {i : Nat} {n y : Str} {p p2 p3 pos : Pos}
theorem de_isEc {c : Addr} {b : Bool} (C : ExcC X.K Dc) (hz : Zc (.ref Dc) none oe) (hf : ∃ vs, oe.data = .fields vs) (hk : PySem.W.kitOne X.K (.ref Dc) (.ref c) = some b)
    (hg : Gl (X.suite a ((a, oe) :: pn)) "isinstance") (hm : X.mg "isinstance" = none) (hg2 : Gl (X.suite a ((a, oe) :: pn)) y) (hm2 : X.mg y = some (.ref c))
    (hN : X.N[i]? = some n) (hv : Vis X.env.scope n) (hd : (n == ("__debug__" : Str)) = false) (hcd : (n == ("__classdict__" : Str)) = false) (hdy : (y == ("__debug__" : Str)) = false)
    (he : starEach [.Name n p2, .Name y p3] X.env = (false, eval (.Name n p2) X.env) :: starEach [.Name y p3] X.env) (he2 : starEach [.Name y p3] X.env = (false, eval (.Name y p3) X.env) :: starEach [] X.env) :
    PEd g (xS a i) W (X.suite a ((a, oe) :: pn)) (.Call (.Name "isinstance" p) [.Name n p2, .Name y p3] [] pos) (mC (.bl b)) :=
  de_isE (c := .ref c) C hz hf hk (fun _ h => h) hg hm (pe_glob hg2 hm2 rfl hdy) hN hv hd hcd he he2
theorem de_isEb {t : String} {b : Bool} (C : ExcC X.K Dc) (hz : Zc (.ref Dc) none oe) (hf : ∃ vs, oe.data = .fields vs) (hk : PySem.W.kitOne X.K (.ref Dc) (.type t) = some b)
    (hg : Gl (X.suite a ((a, oe) :: pn)) "isinstance") (hm : X.mg "isinstance" = none) (hg2 : Gl (X.suite a ((a, oe) :: pn)) y) (hm2 : X.mg y = none) (hbt : bootBuiltins y = some (.type t))
    (hN : X.N[i]? = some n) (hv : Vis X.env.scope n) (hd : (n == ("__debug__" : Str)) = false) (hcd : (n == ("__classdict__" : Str)) = false) (hdy : (y == ("__debug__" : Str)) = false) (hny : y ≠ "__name__")
    (he : starEach [.Name n p2, .Name y p3] X.env = (false, eval (.Name n p2) X.env) :: starEach [.Name y p3] X.env) (he2 : starEach [.Name y p3] X.env = (false, eval (.Name y p3) X.env) :: starEach [] X.env) :
    PEd g (xS a i) W (X.suite a ((a, oe) :: pn)) (.Call (.Name "isinstance" p) [.Name n p2, .Name y p3] [] pos) (mC (.bl b)) :=
  de_isE (c := .ty t) C hz hf hk (fun _ h => h) hg hm (pe_bltn hg2 hm2 hbt rfl hny hdy) hN hv hd hcd he he2
end
theorem repl_ints {K : PySem.W.Frag} {g : G0} {H : Hp} {Z : Av} : ∀ ns : List Int, RepL K g H Z (ns.map D.int) (ns.map V.int)
  | [] => by unfold RepL; rfl
  | n :: r => by
    show RepL K g H Z (D.int n :: r.map D.int) (V.int n :: r.map V.int)
    unfold RepL
    exact ⟨_, _, rfl, by unfold Rep; rfl, repl_ints r⟩
theorem prom_of {K : PySem.W.Frag} {g : G0} {f : Fn} {ns : List Int} {a : Addr} {vs : List V} {H : Hp} {Q : VK} {E : XK} (e : vs = [.ref a]) (hs : SqL K H a (ns.map V.int)) (hf : f [.lst (ns.map .int)] = .ok (.fr (.bl true))) (k : ∀ H', Q (.bl true) H') : Prom K g f vs H Q E := by
  subst e
  refine ⟨fun _ => False, [.lst (ns.map .int)], fun _ z => z.elim, ?_, ?_⟩
  · unfold RepL
    refine ⟨_, _, rfl, Rep.lst_.mpr ⟨a, _, rfl, ?_, repl_ints ns⟩, by unfold RepL; rfl⟩
    rcases hs with h | h
    · exact .inl ⟨fun z => z, h⟩
    · exact .inr h
  · rw [hf]
    intro v H' _ r
    have := Rep.bl_.mp r
    subst this
    exact k _
open PySem.W in
theorem kit_own {K : Frag} {t : Value} {C : Addr} {b : Bool} (hd : hasDictIn K C = true) (ht : typeIn K (.ref C) = some (.type "type")) (he : subIn K t (.ref C) = some b) (hs : subIn K (.ref C) (.ref C) = some true) : kitOne K t (.ref C) = some b := by
  unfold kitOne
  by_cases e : t = .ref C
  · subst e
    rw [hs] at he
    cases he
    rw [if_pos (beq_self_eq_true _)]
  · rw [if_neg (by rwa [beq_iff_eq])]
    obtain ⟨cd, hc, _⟩ := any_some hd
    show (if ((clsIn K C).isSome && typeIn K (.ref C) == some (.type "type")) = true then subIn K t (.ref C) else none) = some b
    rw [if_pos (by rw [hc, ht] <;> rfl)]
    exact he
open PySem.W in
theorem kit_blt {K : Frag} {C : Addr} {T : String} {b : Bool} (hm : kitMeta T = true) (he : subIn K (.ref C) (.type T) = some b) : kitOne K (.ref C) (.type T) = some b := by
  unfold kitOne
  rw [if_neg (by rw [beq_iff_eq]; intro q; cases q)]
  show (if kitMeta T = true then subIn K (.ref C) (.type T) else none) = some b
  rw [if_pos hm]
  exact he
end DL
set_option Elab.async false
set_option linter.all false
set_option maxRecDepth 100000
set_option maxHeartbeats 4000000
namespace DL
open PySem PySem.Spec L2
open PyProof.Rows hiding St

/-! ### is None -/
def isNon : D → Bool
  | .non => true
  | _ => false
def fIsN : D → D → R Sl
  | d, .non => .ok (.fr (.bl (isNon d)))
  | _, _ => .st
def fNotN : D → D → R Sl
  | d, .non => .ok (.fr (.bl (!isNon d)))
  | _, _ => .st
section
variable {K : PySem.W.Frag} {g : G0} {H : Hp} {Z : Av}
theorem RepB.isNon {d : D} {v : V} (h : RepB K g H Z d v) : decide (v = .non) = isNon d := by
  rcases h with h | ⟨xs, a, vs, e1, e2, _, _⟩
  · cases d with
    | non => rw [Rep.non_.mp h]; rfl
    | bl b => rw [Rep.bl_.mp h]; rfl
    | int i => rw [Rep.int_.mp h]; rfl
    | str y => rw [Rep.str_.mp h]; rfl
    | tup xs => obtain ⟨a, vs, e, _⟩ := Rep.tup_.mp h; rw [e]; rfl
    | lst xs => obtain ⟨a, vs, e, _⟩ := Rep.lst_.mp h; rw [e]; rfl
    | obj c fs =>
      unfold Rep at h
      obtain ⟨a, dx, vs, e, _⟩ := h
      rw [e]; rfl
    | dct c fs =>
      unfold Rep at h
      obtain ⟨a, dx, e, _⟩ := h
      rw [e]; rfl
  · subst e1 e2; rfl
theorem RepB.non' {v : V} (h : RepB K g H Z .non v) : v = .non := by
  rcases h with h | ⟨xs, a, vs, e1, _⟩
  · exact Rep.non_.mp h
  · cases e1
theorem of_isN : OpF K (fun x y H Q => y = .non ∧ Q (.bl (decide (x = .non))) H) fIsN := by
  intro g W H Z σ x y v u Q dom rx ry hp
  cases y <;> first | exact hp.elim | skip
  refine ⟨ry.non', ?_⟩
  rw [rx.isNon]
  exact hp _ H (Same.refl _) (Rep.bl_.mpr rfl)
theorem of_notN : OpF K (fun x y H Q => y = .non ∧ Q (.bl (!decide (x = .non))) H) fNotN := by
  intro g W H Z σ x y v u Q dom rx ry hp
  cases y <;> first | exact hp.elim | skip
  refine ⟨ry.non', ?_⟩
  rw [rx.isNon]
  exact hp _ H (Same.refl _) (Rep.bl_.mpr rfl)
end

/-! ### in -/
def rInT (K : PySem.W.Frag) (n : Bool) : R2 := fun x y H Q => ∃ d ds, Dp K H x d ∧ (Dp K H y (.list ds) ∨ Dp K H y (.tuple ds)) ∧ SeqAt.shaped d = true ∧ SeqAt.shaped (.list ds) = true ∧ Q (.bl (if n = true then !ds.any fun z => PyData.eqv z d else ds.any fun z => PyData.eqv z d)) H
section
variable {X : Cx}
theorem op_inA (hu : X.A.units + 65 < cLine) : OpR X (compareOp .In) (rInT X.K false) := by
  intro pins s σ H x y v u Q I rx ry h
  obtain ⟨d, ds, hd, he, sd, se, q⟩ := h
  obtain ⟨as, r1⟩ := Dp.reads I d x v hd rx
  have q : Q (.bl (ds.any fun z => PyData.eqv z d)) H := q
  rcases he with he | he
  · obtain ⟨bs, r2⟩ := Dp.reads I (.list ds) y u he ry
    exact SeqAt.in_list_reads r2 r1 (SeqAt.canLay_of_shaped se) (SeqAt.canLay_of_shaped sd) (room_in_shaped sd hu) ⟨.bl _, H, I, rfl, q⟩
  · obtain ⟨bs, r2⟩ := Dp.reads I (.tuple ds) y u he ry
    exact SeqAt.in_tuple_reads r2 r1 (SeqAt.canLay_of_shaped se) (SeqAt.canLay_of_shaped sd) (room_in_shaped sd hu) ⟨.bl _, H, I, rfl, q⟩
theorem op_ninA (hu : X.A.units + 65 < cLine) : OpR X (compareOp .NotIn) (rInT X.K true) := by
  intro pins s σ H x y v u Q I rx ry h
  obtain ⟨d, ds, hd, he, sd, se, q⟩ := h
  obtain ⟨as, r1⟩ := Dp.reads I d x v hd rx
  have q : Q (.bl (!ds.any fun z => PyData.eqv z d)) H := q
  rcases he with he | he
  · obtain ⟨bs, r2⟩ := Dp.reads I (.list ds) y u he ry
    exact SeqAt.notIn_list_reads r2 r1 (SeqAt.canLay_of_shaped se) (SeqAt.canLay_of_shaped sd) (room_in_shaped sd hu) ⟨.bl _, H, I, rfl, q⟩
  · obtain ⟨bs, r2⟩ := Dp.reads I (.tuple ds) y u he ry
    exact SeqAt.notIn_tuple_reads r2 r1 (SeqAt.canLay_of_shaped se) (SeqAt.canLay_of_shaped sd) (room_in_shaped sd hu) ⟨.bl _, H, I, rfl, q⟩
end
def seqOf : D → Option (List D)
  | .lst ys => some ys
  | .tup ys => some ys
  | _ => none
def inD (x : D) (ys : List D) : Bool := ys.any fun y => eqD y x
def fInA (n : Bool) (x y : D) : R Sl := match seqOf y with
  | some ys => if (okE x && okE (.lst ys)) = true then .ok (.fr (.bl (if n = true then !inD x ys else inD x ys))) else .st
  | none => .st
def fIn : D → D → R Sl := fInA false
def fNotIn : D → D → R Sl := fInA true
theorem any_eqv {x : D} (hx : noObj x = true) : ∀ ys : List D, noObjL ys = true → ((toPyL ys).any fun z => PyData.eqv z (toPy x)) = inD x ys
  | [], _ => by simp [toPyL, inD]
  | y :: ys, h => by
    simp only [noObjL, Bool.and_eq_true] at h
    have ih := any_eqv hx ys h.2
    unfold inD at ih ⊢
    simp only [toPyL, List.any_cons, ih, eqv_py y x h.1 hx]
section
variable {K : PySem.W.Frag} {g : G0} {H : Hp} {Z : Av}
theorem of_inA (n : Bool) : OpF K (rInT K n) (fInA n) := by
  intro g W H Z σ x y v u Q dom rx ry hp
  unfold fInA at hp
  cases es : seqOf y with
  | none => rw [es] at hp; exact hp.elim
  | some ys =>
    rw [es] at hp
    have hp : PostE K g W Z σ H Q (if (okE x && okE (.lst ys)) = true then .ok (.fr (.bl (if n = true then !inD x ys else inD x ys))) else .st) := hp
    split at hp
    · rename_i hm
      simp only [okE, Bool.and_eq_true] at hm
      have nl : noObjL ys = true := by simpa [noObj] using hm.2.1
      have tl : toPy (.lst ys) = .list (toPyL ys) := by simp [toPy]
      refine ⟨toPy x, toPyL ys, rx.dp hm.1.1, ?_, hm.1.2, by rw [← tl]; exact hm.2.2, ?_⟩
      · cases y with
        | lst zs =>
          cases es
          have q := ry.dp hm.2.1
          rw [tl] at q
          exact .inl q
        | tup zs =>
          cases es
          have q := ry.dp (d := .tup ys) (by simpa [noObj] using nl)
          rw [show toPy (.tup ys) = .tuple (toPyL ys) by simp [toPy]] at q
          exact .inr q
        | _ => cases es
      · rw [any_eqv hm.1.1 ys nl]
        exact hp _ H (Same.refl _) (Rep.bl_.mpr rfl)
    · exact hp.elim
end
section
variable {g : G0} {x : L2.St → Prop} {W : WX} {X : Cx} {a b c e : Expr} {es : List Expr} {pos p : Pos} {ma mb mc : B}
theorem de_isN (ha : PBd g x W X a ma) (hb : PBd g x W X b mb) : PEd g x W X (.Compare a [.Is] [b] pos) (mBin fIsN ma mb) := de_cmp op_isN of_isN ha hb (nomark _)
theorem de_notN (ha : PBd g x W X a ma) (hb : PBd g x W X b mb) : PEd g x W X (.Compare a [.IsNot] [b] pos) (mBin fNotN ma mb) := de_cmp op_notN of_notN ha hb (nomark _)
theorem dt_isN (ha : PBd g x W X a ma) (hb : PBd g x W X b mb) : PTd g x W X (.Compare a [.Is] [b] pos) (mTest (mB (mBin fIsN ma mb))) := dt_cmp op_isN of_isN ha hb (nomark _)
theorem dt_notN (ha : PBd g x W X a ma) (hb : PBd g x W X b mb) : PTd g x W X (.Compare a [.IsNot] [b] pos) (mTest (mB (mBin fNotN ma mb))) := dt_cmp op_notN of_notN ha hb (nomark _)
theorem de_in (hu : X.A.units + 65 < cLine) (ha : PBd g x W X a ma) (hb : PBd g x W X b mb) (hm : behindInMarks .In b = false := by rfl) : PEd g x W X (.Compare a [.In] [b] pos) (mBin fIn ma mb) := de_cmp (op_inA hu) (of_inA false) ha hb hm
theorem de_nin (hu : X.A.units + 65 < cLine) (ha : PBd g x W X a ma) (hb : PBd g x W X b mb) (hm : behindInMarks .NotIn b = false := by rfl) : PEd g x W X (.Compare a [.NotIn] [b] pos) (mBin fNotIn ma mb) := de_cmp (op_ninA hu) (of_inA true) ha hb hm
theorem dt_in (hu : X.A.units + 65 < cLine) (ha : PBd g x W X a ma) (hb : PBd g x W X b mb) (hm : behindInMarks .In b = false := by rfl) : PTd g x W X (.Compare a [.In] [b] pos) (mTest (mB (mBin fIn ma mb))) := dt_cmp (op_inA hu) (of_inA false) ha hb hm
theorem dt_nin (hu : X.A.units + 65 < cLine) (ha : PBd g x W X a ma) (hb : PBd g x W X b mb) (hm : behindInMarks .NotIn b = false := by rfl) : PTd g x W X (.Compare a [.NotIn] [b] pos) (mTest (mB (mBin fNotIn ma mb))) := dt_cmp (op_ninA hu) (of_inA true) ha hb hm

/-! ### two comparisons in a row -/
def mChain (F G : D → D → R Sl) (ma mb mc : B) : M := fun env => (ma env).bind fun u => (mb env).bind fun v => (F u v).bind fun s => (asB s.d).bind fun k => if k = true then (mc env).bind fun w => G v w else .ok (.fr (.bl false))
theorem chainOk {r r' : R2} {F G : D → D → R Sl} (hF : OpF X.K r F) (hG : OpF X.K r' G) {σ : L2.St} {H : Hp} {Q : VK} (h : tM X.K g x W (mChain F G ma mb mc) σ H Q) : tChain r r' (tB X.K g x W ma) (tB X.K g x W mb) (tB X.K g x W mc) σ H Q := by
  obtain ⟨env, Z, er, hp⟩ := h
  refine useB er hp fun s v H1 e1 k1 r1 hp1 => ?_
  refine useB (er.mono k1) hp1 fun s2 u H2 e2 k2 r2 hp2 => ?_
  have er2 := (er.mono k1).mono k2
  refine hF g W H2 Z σ _ _ _ _ _ (dom_mono (k1.trans k2) er.dom) (r1.mono k2) r2 ?_
  cases ef : F s s2 with
  | ok t =>
    rw [ef] at hp2
    have hp2 : PostE X.K g W Z σ H2 Q ((asB t.d).bind fun k => if k = true then (mc env).bind fun w => G s2 w else .ok (.fr (.bl false))) := hp2
    cases t with
    | ow xs => exact hp2.elim
    | fr d =>
      cases d with
      | bl b =>
        intro z H3 k3 rz
        refine ⟨b, Rep.bl_.mp rz, ?_⟩
        cases b with
        | false =>
          have hp3 : PostE X.K g W Z σ H2 Q (.ok (.fr (.bl false))) := hp2
          rw [if_neg Bool.false_ne_true]
          exact hp3 _ H3 k3 (Rep.bl_.mpr rfl)
        | true =>
          have hp3 : PostE X.K g W Z σ H2 Q ((mc env).bind fun w => G s2 w) := hp2
          rw [if_pos rfl]
          refine useB (er2.mono k3) (hp3.later k3) fun w w' H4 e4 k4 r4 hp4 => ?_
          exact hG g W H4 Z σ _ _ _ _ _ (dom_mono (k3.trans k4) er2.dom) (r2.mono (k3.trans k4)) r4 hp4
      | _ => exact hp2.elim
  | ex c p => rw [ef] at hp2; exact hp2
  | st => rw [ef] at hp2; exact hp2
theorem de_chain {op op' : CmpOp} {r r' : R2} {F G : D → D → R Sl} (ho : OpR X (compareOp op) r) (hF : OpF X.K r F) (ho' : OpR X (compareOp op') r') (hG : OpF X.K r' G) (ha : PBd g x W X a ma) (hb : PBd g x W X b mb) (hc : PBd g x W X c mc)
    (hm : lastMarks [op, op'] [b, c] = false := by with_unfolding_all rfl) : PEd g x W X (.Compare a [op, op'] [b, c] pos) (mChain F G ma mb mc) :=
  weakE (pe_chain ho ho' ha hb hc hm) fun σ H Q h => chainOk hF hG h
theorem dt_chain {op op' : CmpOp} {r r' : R2} {F G : D → D → R Sl} (ho : OpR X (compareOp op) r) (hF : OpF X.K r F) (ho' : OpR X (compareOp op') r') (hG : OpF X.K r' G) (ha : PBd g x W X a ma) (hb : PBd g x W X b mb) (hc : PBd g x W X c mc)
    (hm : lastMarks [op, op'] [b, c] = false := by with_unfolding_all rfl) : PTd g x W X (.Compare a [op, op'] [b, c] pos) (mTest (mB (mChain F G ma mb mc))) :=
  weakT (pt_chain ho ho' ha hb hc hm) fun σ H Q h => by
    have q := chainOk hF hG (toTestM h)
    exact q
end
end DL
set_option Elab.async false
set_option linter.all false
set_option maxRecDepth 100000
set_option maxHeartbeats 4000000
namespace DL
open PySem PySem.Spec L2
open PyProof.Rows hiding St

/-! ### a def that calls itself: the first level promises nothing -/
theorem FD.none {P : Program} {w : World} {K : PySem.W.Frag} {mg : Str → Option Value} {base : Heap} {g : G0} {y qual : Str} {st : Stmt} {a : Addr} {fd : FuncData} {ps : List Str} (k : Nat) (F : Fun K y qual st a fd) (hm : mg y = some (.ref a)) (hb : Binds K fd ps []) :
    FD P w K mg base g k y ps (fun _ => .st) :=
  ⟨a, fd, hm, F.kp, hb, ⟨fun _ _ _ _ ⟨_, _, _, _, hp⟩ => hp.elim, fun _ _ _ _ _ _ _ _ _ _ _ _ _ ⟨_, _, _, _, hp⟩ => hp.elim⟩⟩
def recF (n slots : Nat) (m : Fn → MS) : Nat → Fn
  | 0 => fun _ => .st
  | k + 1 => runF n slots (m (recF n slots m k))

/-! ### xs + ys, lists of any kind -/
section
variable {prog : Program} {w : World} {A : Around} {E : Value → Shared → Prop} {s : Shared}
theorem cat_list {l b : Addr} {xs ys : Array Value} {Q : Value → Shared → Prop} (hl : PlainL s.heap l xs) (hb : PlainL s.heap b ys) (hz : xs.size + ys.size ≤ sizeLine)
    (h : Q (.ref s.heap.objs.size) { s with heap := s.heap.push { cls := .type "list", data := .seq (xs ++ ys) } }) : wpAny (model prog w) A (binaryOp .Add (.ref l) (.ref b)) Q E s := by
  obtain ⟨o, n, e, hc, hd, hda⟩ := hl
  obtain ⟨o2, n2, e2, hc2, hd2, hda2⟩ := hb
  refine concat_meets (S := fun _ R s => s.heap.get? l = some o ∧ s.heap.get? b = some o2 ∧ R (.ok (.ret (Value.ref s.heap.objs.size))) { s with heap := s.heap.push { cls := .type "list", data := .seq (xs ++ ys) }, toks := s.toks }) ⟨_, e, hc⟩ ⟨_, e2, hc2⟩ noFill_list_add seq_list_add F.slot_list_add F.entry_list_add (F.args_list_add_2 _ _) ?_ ⟨e, e2, h⟩
  exact .of_wp fun prog w A R s h => by
    obtain ⟨hp, g, d, tk, os⟩ := s
    obtain ⟨hl, hb, h⟩ := h
    have f3 := sub_list_list
    unfold Builtin.«list.__add__»
    refine wpAny_bind (m := slotArgs "__add__" 1 _) (wpAny_pure ?_)
    refine wpAny_bind (wpAny_isInstance (T := "list") (b := true) ⟨o2, hb, hc2⟩ sub_list_list ?_)
    rw [if_neg (by simp)]
    refine wpAny_bind (listItems_at hl hda (wpAny_bind (listItems_at hb hda2 ?_)))
    exact wpAny_bind (wpAny_newObj_type (wpAny_pure ⟨_, rfl, h⟩) (by show (xs ++ ys).size ≤ sizeLine; rw [Array.size_append]; exact hz))
end

section
variable {X : Cx}
def rCatL (K : PySem.W.Frag) : R2 := fun x y H Q => ∃ l b xs zs, x = .ref l ∧ y = .ref b ∧ SqL K H l xs ∧ SqL K H b zs ∧ xs.length + zs.length ≤ sizeLine ∧ ∀ p, H p = none → Q (.ref p) (upd H p (.lst (xs ++ zs)))
theorem op_catL : OpR X (binaryOp .Add) (rCatL X.K) := by
  intro pins s σ H x y v u Q I rx ry h
  obtain ⟨l, b, xs, zs, e1, e2, ha, hb, hz, q⟩ := h
  subst e1 e2
  cases rx
  cases ry
  obtain ⟨its, r, p1, _⟩ := I.list ha
  obtain ⟨its2, r2, p2, _⟩ := I.list hb
  refine cat_list p1 p2 (by rw [List.size_toArray, List.size_toArray, ← r.length, ← r2.length]; exact hz) ?_
  have ea : its.toArray ++ its2.toArray = (its ++ its2).toArray := by simp
  rw [ea]
  exact ⟨.ref _, _, I.lnew (t' := s.toks) (r.append r2) (by rw [List.length_append]; exact hz), rfl, q _ I.fresh⟩
end
def fAddL : D → D → R Sl
  | .lst a, .lst b => if a.length + b.length ≤ lim then .ok (.ow (a ++ b)) else .st
  | x, y => fAdd x y
theorem RepB.lst' {K : PySem.W.Frag} {g : G0} {H : Hp} {Z : Av} {xs : List D} {v : V} (h : RepB K g H Z (.lst xs) v) : ∃ a vs, v = .ref a ∧ SqL K H a vs ∧ RepL K g H Z xs vs := by
  rcases h with h | ⟨ys, a, vs, e1, e2, e3, r⟩
  · obtain ⟨a, vs, e, q, r⟩ := Rep.lst_.mp h
    exact ⟨a, vs, e, q.sq, r⟩
  · cases e1
    exact ⟨a, vs, e2, SqL.of e3, r⟩
theorem of_addL {K : PySem.W.Frag} : OpF K (fun x y H Q => ((rI0 (fun i j => .int (i + j)) x y H Q ∨ ∃ i j, x = .str i ∧ y = .str j ∧ i.length + j.length ≤ sizeLine ∧ Q (.str (i ++ j)) H) ∨ rCatN K x y H Q) ∨ rCatL K x y H Q) fAddL := by
  intro g W H Z σ x y v u Q dom rx ry hp
  by_cases c : ∃ a b, x = .lst a ∧ y = .lst b
  · obtain ⟨a, b, e1, e2⟩ := c
    subst e1 e2
    have hp : PostE K g W Z σ H Q (if a.length + b.length ≤ lim then .ok (.ow (a ++ b)) else .st) := hp
    split at hp
    · rename_i hl
      obtain ⟨l, vs, e1, q1, r1⟩ := rx.lst'
      obtain ⟨l2, ws, e2, q2, r2⟩ := ry.lst'
      refine .inr ⟨l, l2, vs, ws, e1, e2, q1, q2, by rw [← r1.length, ← r2.length]; exact limLine hl, fun p h => post_ow hp h (r1.append r2)⟩
    · exact hp.elim
  · refine .inl (of_add g W H Z σ x y v u Q dom rx ry ?_)
    have e : fAddL x y = fAdd x y := by
      cases x <;> cases y <;> first | rfl | exact absurd ⟨_, _, rfl, rfl⟩ c
    rw [← e]
    exact hp
section
variable {g : G0} {x : L2.St → Prop} {W : WX} {X : Cx} {a b : Expr} {pos : Pos} {ma mb : B}
theorem de_addL (ha : PBd g x W X a ma) (hb : PBd g x W X b mb) : PEd g x W X (.BinOp a .Add b pos) (mBin fAddL ma mb) := de_op (((op_add.or op_add_str).or op_catN).or op_catL) of_addL ha hb
end
end DL
set_option Elab.async false
set_option linter.all false
set_option maxRecDepth 100000
set_option maxHeartbeats 4000000
namespace DL
open PySem PySem.Spec L2
open PyProof.Rows hiding St
/-! ### slices that go backwards, step -1 -/
def backN (n : Nat) (lo hi : Option Int) : Int × Nat := ((Builtin.Slice.sliceAdjust lo hi (-1) n).1, Builtin.Slice.slicePlaces (Builtin.Slice.sliceAdjust lo hi (-1) n).1 (Builtin.Slice.sliceAdjust lo hi (-1) n).2 (-1))
def backIx (n : Nat) (lo hi : Option Int) : List Nat := (List.range (backN n lo hi).2).map fun (k : Nat) => ((backN n lo hi).1 + (k : Int) * (-1)).toNat
def pick {α : Type} (xs : List α) (is : List Nat) : List α := is.filterMap (xs[·]?)
section
variable {prog : Program} {w : World} {A : Around} {E : Value → Shared → Prop} {s : Shared}
theorem applied_back {sl : Addr} {vl vu : Value} {t : Tok} {lo hi : Option Int} {n : Nat} {Q : Int × Int × Nat → Shared → Prop} (hs : s.heap.IsSliceOf sl vl vu (.int (-1) t)) (pl : IsPart vl lo) (pu : IsPart vu hi)
    (h : Q ((backN n lo hi).1, -1, (backN n lo hi).2) s) : wpAny (model prog w) A (Builtin.Slice.sliceApplied (.ref sl) (pure (n : Int))) Q E s := by
  obtain ⟨os, hos, hcs, hds⟩ := hs
  unfold Builtin.Slice.sliceApplied Builtin.Slice.sliceFields
  refine wpAny_bind (wpAny_bind (wpAny_field hos hds (x := vl) rfl (wpAny_bind (wpAny_field hos hds (x := vu) rfl (wpAny_bind (wpAny_field hos hds (x := .int (-1) t) rfl (wpAny_pure ?_)))))))
  refine wpAny_bind (PyProof.Rows.slicePart_int ?_)
  show wpAny _ _ (if ((-1 : Int) == 0) = true then _ else _) _ _ s
  rw [if_neg (by decide)]
  exact wpAny_bind (HT.slicePart_ pl (wpAny_bind (HT.slicePart_ pu (wpAny_bind (wpAny_pure (wpAny_pure h))))))
theorem getItem_back {t sl : Addr} {items : Array Value} {vl vu : Value} {k : Tok} {lo hi : Option Int} {Q : Value → Shared → Prop} (ht : IsTup s.heap t items) (hs : s.heap.IsSliceOf sl vl vu (.int (-1) k)) (pl : IsPart vl lo) (pu : IsPart vu hi)
    (hz : (pick items.toList (backIx items.size lo hi)).length ≤ sizeLine)
    (h : Q (.ref s.heap.objs.size) { s with heap := s.heap.push { cls := .type "tuple", data := .seq (pick items.toList (backIx items.size lo hi)).toArray } }) : wpAny (model prog w) A (getItem (.ref t) (.ref sl)) Q E s := by
  have e : ((List.range (backN items.size lo hi).2).filterMap fun (m : Nat) => items[((backN items.size lo hi).1 + (m : Int) * (-1)).toNat]?).toArray = (pick items.toList (backIx items.size lo hi)).toArray := by
    unfold pick backIx
    rw [List.filterMap_map]
    congr 1
    refine congrArg (fun f => List.filterMap f (List.range (backN items.size lo hi).2)) (funext fun m => ?_)
    show items[((backN items.size lo hi).1 + (m : Int) * (-1)).toNat]? = items.toList[((backN items.size lo hi).1 + (m : Int) * (-1)).toNat]?
    rw [Array.getElem?_toList]
  have hok : sizeOk (.seq (pick items.toList (backIx items.size lo hi)).toArray) := by
    show (pick items.toList (backIx items.size lo hi)).toArray.size ≤ sizeLine
    rw [List.size_toArray]
    exact hz
  obtain ⟨os, hos, hcs, hds⟩ := id hs
  have hTs : s.TypeIs (.ref sl) "slice" := ⟨os, hos, hcs⟩
  unfold getItem
  try with_reducible refine wpAny_holding ?_
  first | refine wpAny_bind (wpAny_pure ?_) | skip
  refine wpAny_bind (wpAny_sequenceKey ht.typeIs (by decide) ?_)
  refine wpAny_bind (wpAny_callSpecial?_slot (name := Str.ofString "__getitem__") ht.typeIs PyProof.Rows.slot_tuple_getitem
    (wpAny_call_entry PyProof.Rows.slot_tuple_getitem ht.typeIs entry_tuple_getitem ?_ (args_tuple_getitem _ _)))
  show wpAny _ _ (Builtin.Tuple.tupleItemsOf (.ref t) >>= _) _ _ s
  refine wpAny_bind (tupleItemsOf_ ht ?_)
  refine wpAny_bind (wpAny_typeOf hTs ?_)
  rw [if_pos (by decide)]
  refine wpAny_bind (applied_back hs pl pu ?_)
  have hno : ¬ (((backN items.size lo hi).1 == 0 && (-1 : Int) == 1 && (backN items.size lo hi).2 == items.size) = true) := by
    intro q
    rw [Bool.and_eq_true, Bool.and_eq_true] at q
    exact absurd (eq_of_beq q.1.2) (by decide)
  show wpAny _ _ (if ((backN items.size lo hi).1 == 0 && (-1 : Int) == 1 && (backN items.size lo hi).2 == items.size) = true then _ else _) _ _ s
  rw [if_neg hno, e]
  first
    | exact wpAny_bind (m := Builtin.Tuple.tupleExact _) (wpAny_newObj_type (wpAny_pure ⟨_, rfl, wpAny_pure h⟩) hok)
    | exact wpAny_bind (m := Builtin.Tuple.tupleExact _) (wpAny_newObj_type (wpAny_bind (wpAny_pure (wpAny_pure ⟨_, rfl, wpAny_pure h⟩))) hok)
    | exact wpAny_bind (wpAny_bind (m := Builtin.Tuple.tupleExact _) (wpAny_newObj_type (wpAny_pure (wpAny_pure ⟨_, rfl, wpAny_pure h⟩)) hok))
    | exact wpAny_bind (wpAny_bind (m := Builtin.Tuple.tupleExact _) (wpAny_newObj_type (wpAny_pure ⟨_, rfl, wpAny_pure h⟩) hok))
end
theorem pick_vals {xs : List V} {us : List Value} (r : Vals xs us) : ∀ is : List Nat, Vals (pick xs is) (pick us is)
  | [] => .nil
  | i :: is => by
    have ih := pick_vals r is
    unfold pick at ih ⊢
    rw [List.filterMap_cons, List.filterMap_cons]
    cases e : xs[i]? with
    | none =>
      have l : us[i]? = none := List.getElem?_eq_none (by have := List.getElem?_eq_none_iff.mp e; rw [← r.length]; exact this)
      rw [l]
      exact ih
    | some v =>
      obtain ⟨u, hu, ru⟩ := r.get e
      rw [hu]
      exact .cons ru ih
theorem pick_rep {K : PySem.W.Frag} {g : G0} {H : Hp} {Z : Av} {xs : List D} {vs : List V} (r : RepL K g H Z xs vs) : ∀ is : List Nat, RepL K g H Z (pick xs is) (pick vs is)
  | [] => RepL.nil_.mpr rfl
  | i :: is => by
    have ih := pick_rep r is
    unfold pick at ih ⊢
    rw [List.filterMap_cons, List.filterMap_cons]
    cases e : xs[i]? with
    | none =>
      have l : vs[i]? = none := List.getElem?_eq_none (by have := List.getElem?_eq_none_iff.mp e; rw [← r.length]; exact this)
      rw [l]
      exact ih
    | some v =>
      obtain ⟨u, hu, ru⟩ := r.get e
      rw [hu]
      exact RepL.cons_.mpr ⟨_, _, rfl, ru, ih⟩

def listIx (n : Nat) (lo hi : Option Int) : List Nat := sliceRange (sliceBounds lo hi (some (-1)) n).1 (sliceBounds lo hi (some (-1)) n).2.1 (sliceBounds lo hi (some (-1)) n).2.2
theorem pick_arr (items : Array Value) (lo hi : Option Int) : slicePick items lo hi (some (-1)) = (pick items.toList (listIx items.size lo hi)).toArray := by
  unfold slicePick pick listIx
  congr 1
  refine congrArg (fun f => List.filterMap f _) (funext fun m => ?_)
  rw [Array.getElem?_toList]
theorem pick_length {α : Type} (xs : List α) (is : List Nat) : (pick xs is).length ≤ is.length := List.length_filterMap_le _ _
def fSlB (d : D) (lo hi : Option Int) : R Sl := match d with
  | .tup xs => if (backIx xs.length lo hi).length ≤ lim then .ok (.fr (.tup (pick xs (backIx xs.length lo hi)))) else .st
  | .lst xs => if (listIx xs.length lo hi).length ≤ lim then .ok (.ow (pick xs (listIx xs.length lo hi))) else .st
  | _ => .st
def asM1 : Option Int → R Unit
  | some i => if i = -1 then .ok () else .st
  | none => .st
def mSlB (m : B) (l u st : BO) : M := fun env => (m env).bind fun d => (l env).bind fun lo => (u env).bind fun hi => (st env).bind fun c => (asM1 c).bind fun _ => fSlB d lo hi
/-- what the slice is: the step is -1 -/
def rBk (K : PySem.W.Frag) : V → Option Int → Option Int → Hp → VK → Prop := fun x lo hi H Q => ∃ a xs, x = .ref a ∧
  ((SqT K H a xs ∧ (backIx xs.length lo hi).length ≤ sizeLine ∧ NewT H (pick xs (backIx xs.length lo hi)) Q) ∨ (SqL K H a xs ∧ (listIx xs.length lo hi).length ≤ sizeLine ∧ ∀ p, H p = none → Q (.ref p) (upd H p (.lst (pick xs (listIx xs.length lo hi))))))
def tSlB (r : V → Option Int → Option Int → Hp → VK → Prop) (te : TE) (tl th ts : TO) : TE := fun σ H Q => te σ H fun x H1 => tl σ H1 fun l H2 => th σ H2 fun u H3 => ts σ H3 fun c H4 => c = some (-1) ∧ r x l u H4 Q
section
variable {X : Cx} {e : Expr} {te : TE} {lo hi st : Option Expr} {tl th ts : TO} {pos p2 : Pos}
theorem pe_sliceB {es : Expr} (he : PE X e te) (hl : PO X lo tl) (hu : PO X hi th) (hst : PO X (some es) ts) : PE X (.Subscript e (.Slice lo hi (some es) p2) pos) (tSlB (rBk X.K) te tl th ts) := by
  refine ⟨fun pins s σ H Q I h => ?_⟩
  refine Subscript_ (thn (he.run pins s σ H _ I h) fun v s1 ⟨x, H1, I1, r1, q1⟩ => ?_)
  refine wpAny_Slice (thn (hl.run pins s1 σ H1 _ I1 q1) fun vl s2 ⟨l, H2, I2, pl, q2⟩ => thn (hu.run pins s2 σ H2 _ I2 q2) fun vu s3 ⟨u, H3, I3, pu, q3⟩ => thn (hst.run pins s3 σ H3 _ I3 q3) fun vk s4 ⟨c, H4, I4, pk, ec, a, xs, ex, q4⟩ => ?_)
  subst ec ex
  cases pk with
  | int i k =>
    have I5 : Inv X pins σ H4 { s4 with heap := s4.heap.push { cls := .type "slice", data := .fields #[vl, vu, .int (-1) k] } } := I4.kept (t' := s4.toks) fun b ob q => Heap.get?_push_of_some _ q
    obtain rfl : v = .ref a := r1
    show wpAny (model X.prog X.w) X.A (subscriptTail e (.Slice lo hi (some es) p2) (.ref a) (.ref s4.heap.objs.size)) (EP X pins σ Q) X.xe { s4 with heap := s4.heap.push { cls := .type "slice", data := .fields #[vl, vu, .int (-1) k] } }
    rcases q4 with ⟨hx, hz, q⟩ | ⟨hx, hz, q⟩
    · obtain ⟨its, r, ht, _⟩ := I5.tuple hx
      have hlen : its.toArray.size = xs.length := by rw [List.size_toArray]; exact r.length.symm
      have pv := pick_vals r (backIx xs.length l u)
      have zl : (pick xs (backIx xs.length l u)).length ≤ sizeLine := Nat.le_trans (pick_length _ _) hz
      refine tail_any (ops := [.ref a, .ref s4.heap.objs.size]) ht.typeIs PyProof.Rows.slot_tuple_getitem.lookup (getItem_back ht (Heap.IsSliceOf.new ..) pl pu ?_ ?_) (by with_unfolding_all rfl)
      · show (pick its (backIx its.toArray.size l u)).length ≤ sizeLine
        rw [hlen, ← pv.length]
        exact zl
      · show EP X pins σ Q _ { s4 with heap := (s4.heap.push { cls := .type "slice", data := .fields #[vl, vu, .int (-1) k] }).push { cls := .type "tuple", data := .seq (pick its (backIx its.toArray.size l u)).toArray } }
        rw [hlen]
        exact newT (s := { s4 with heap := s4.heap.push { cls := .type "slice", data := .fields #[vl, vu, .int (-1) k] } }) (t' := s4.toks) I5 (fun b ob q => Heap.get?_push_of_some _ q) (Nat.le_refl _) (Heap.get?_push_size _ rfl) pv zl q
    · obtain ⟨its, r, ht, hz2⟩ := I5.list hx
      have hlen : its.toArray.size = xs.length := by rw [List.size_toArray]; exact r.length.symm
      have pv := pick_vals r (listIx xs.length l u)
      have zl : (pick xs (listIx xs.length l u)).length ≤ sizeLine := Nat.le_trans (pick_length _ _) hz
      refine tail_any (ops := [.ref a, .ref s4.heap.objs.size]) ht.isList.typeIs slot_list_getitem.lookup (wpAny_getItem_list_slice ht.isList (Heap.IsSliceOf.new ..) pl pu (.int (-1) k) (by decide) ?_ (by rw [hlen]; exact hz2)) (by with_unfolding_all rfl)
      rw [pick_arr, hlen]
      exact ⟨.ref _, _, Inv.lnew (s := { s4 with heap := s4.heap.push { cls := .type "slice", data := .fields #[vl, vu, .int (-1) k] } }) (t' := s4.toks) I5 pv zl, rfl, q _ I5.fresh⟩
end

theorem slBPost {K : PySem.W.Frag} {g : G0} {H : Hp} {Z : Av} {W : WX} {σ : L2.St} {d : D} {v : V} {lo hi : Option Int} {Q : VK} (rx : RepB K g H Z d v) (hp : PostE K g W Z σ H Q (fSlB d lo hi)) : rBk K v lo hi H Q := by
  cases d with
  | tup xs =>
    obtain ⟨a, ws, e, t, rr⟩ := rx.tup_
    have hl := rr.length
    have hp : PostE K g W Z σ H Q (if (backIx xs.length lo hi).length ≤ lim then .ok (.fr (.tup (pick xs (backIx xs.length lo hi)))) else .st) := hp
    split at hp
    · rename_i c
      refine ⟨a, ws, e, .inl ⟨t.sqT, by rw [← hl]; exact limLine c, ?_⟩⟩
      rw [← hl]
      exact post_tup hp (pick_rep rr _)
    · exact hp.elim
  | lst xs =>
    obtain ⟨a, ws, e, t, rr⟩ := rx.lst'
    have hl := rr.length
    have hp : PostE K g W Z σ H Q (if (listIx xs.length lo hi).length ≤ lim then .ok (.ow (pick xs (listIx xs.length lo hi))) else .st) := hp
    split at hp
    · rename_i c
      refine ⟨a, ws, e, .inr ⟨t, by rw [← hl]; exact limLine c, fun p hn => ?_⟩⟩
      rw [← hl]
      exact post_ow hp hn (pick_rep rr _)
    · exact hp.elim
  | _ => exact hp.elim
section
variable {g : G0} {x : L2.St → Prop} {W : WX} {X : Cx} {e es : Expr} {a' b' : Option Expr} {pos p2 : Pos} {ma : B} {l u c : BO}
theorem de_slB (he : PBd g x W X e ma) (hl : POd g x W X a' l) (hu : POd g x W X b' u) (hc : POd g x W X (some es) c) : PEd g x W X (.Subscript e (.Slice a' b' (some es) p2) pos) (mSlB ma l u c) :=
  weakE (pe_sliceB he hl hu hc) fun σ H Q ⟨env, Z, er, hp⟩ => useB er hp fun d v H1 e1 k1 r1 hp1 => by
    refine ⟨env, Z, er.mono k1, ?_⟩
    cases el : l env with
    | ok lo =>
      rw [el] at hp1
      intro H2 k2
      refine ⟨env, Z, er.mono (k1.trans k2), ?_⟩
      have hp2 : PostE X.K g W Z σ H2 Q ((u env).bind fun hi => (c env).bind fun c => (asM1 c).bind fun _ => fSlB d lo hi) := PostE.later k2 hp1
      cases eu : u env with
      | ok hi =>
        rw [eu] at hp2
        intro H3 k3
        refine ⟨env, Z, er.mono ((k1.trans k2).trans k3), ?_⟩
        have hp3 : PostE X.K g W Z σ H3 Q ((c env).bind fun c => (asM1 c).bind fun _ => fSlB d lo hi) := PostE.later k3 hp2
        cases ec : c env with
        | ok o =>
          rw [ec] at hp3
          intro H4 k4
          have hp4 : PostE X.K g W Z σ H4 Q ((asM1 o).bind fun _ => fSlB d lo hi) := PostE.later k4 hp3
          cases o with
          | none => exact hp4.elim
          | some i =>
            have hp4 : PostE X.K g W Z σ H4 Q ((if i = -1 then R.ok () else .st).bind fun _ => fSlB d lo hi) := hp4
            by_cases ci : i = -1
            · rw [if_pos ci] at hp4
              exact ⟨by rw [ci], slBPost (r1.mono ((k2.trans k3).trans k4)) hp4⟩
            · rw [if_neg ci] at hp4
              exact hp4.elim
        | ex c p => rw [ec] at hp3; exact hp3
        | st => rw [ec] at hp3; exact hp3
      | ex c p => rw [eu] at hp2; exact hp2
      | st => rw [eu] at hp2; exact hp2
    | ex c p => rw [el] at hp1; exact hp1
    | st => rw [el] at hp1; exact hp1
end
end DL
set_option Elab.async false
set_option linter.all false
set_option maxRecDepth 100000
set_option maxHeartbeats 4000000
namespace DL
open PySem PySem.Spec L2
open PyProof.Rows hiding St
/-! ### comprehensions with two fors -/
def compL2 (as : D → En → Option En) (t : En → R Bool) (mi1 : En → R (List D)) (as1 : D → En → Option En) (t1 : En → R Bool) (me : M) (vs1 : List Nat) (env : En) : List D → R (List D)
  | [] => .ok []
  | d :: ds => match as d env with
    | none => .st
    | some e1 => (t e1).quiet.bind fun b => if b = true then (mi1 e1).quiet.bind fun xs1 => (compL as1 t1 me (wipeE e1 vs1) xs1).bind fun r1 => (compL2 as t mi1 as1 t1 me vs1 env ds).bind fun r2 => .ok (r1 ++ r2) else compL2 as t mi1 as1 t1 me vs1 env ds
def mComp2 (mi : En → R (List D)) (pt : Pt) (t : En → R Bool) (mi1 : En → R (List D)) (pt1 : Pt) (t1 : En → R Bool) (me : M) (vs vs1 : List Nat) : M := fun env => (mi env).bind fun xs =>
  (compL2 pt.go t mi1 pt1.go t1 me vs1 (wipeE env vs) xs).quiet.bind fun r => if r.length ≤ lim then .ok (.ow r) else .st
/-- the heap without the list that is being made -/
def mn (L : Addr) (H : Hp) : Hp := fun b => if b = L then none else H b
theorem mn_ne {L b : Addr} {H : Hp} (h : b ≠ L) : mn L H b = H b := if_neg h
theorem mn_some {L b : Addr} {H : Hp} {o : HO} (h : mn L H b = some o) : b ≠ L ∧ H b = some o := by
  unfold mn at h
  split at h
  · cases h
  · exact ⟨by assumption, h⟩
section
variable {K : PySem.W.Frag} {g : G0} {x : L2.St → Prop} {W : WX} {Z Z2 : Av} {env e1 : En} {σ : L2.St} {G H H' : Hp} {L : Addr}
def zb (Z : Av) (L : Addr) : Av := fun b => Z b ∨ b = L
theorem kp_show : Kp (mn L H) Z H (zb Z L) :=
  ⟨fun a o e _ => (mn_some e).2, fun a o xs e => (mn_some e).2, fun a n nz z => z.elim nz fun q => n (by unfold mn; rw [if_pos q])⟩
theorem kp_hide {acc : List V} (hL : H L = some (.lst acc)) : Kp H (zb Z L) (mn L H) Z :=
  ⟨fun a o e n => by rw [mn_ne fun q => n (.inr q)]; exact e, fun a o xs e => by
    rw [mn_ne fun q => by rw [q, hL] at e; cases e]
    exact e, fun a _ n z => n (.inl z)⟩
theorem same_mn (h : ∀ a o, a ≠ L → H a = some o → H' a = some o) : Same (mn L H) (mn L H') := fun a o e => by
  obtain ⟨n, e⟩ := mn_some e
  rw [mn_ne n]
  exact h a o n e
theorem ERel.show_ {acc : List V} (er : ERel K g T Z env σ (mn L H)) (hL : H L = some (.lst acc)) : ERel K g T (zb Z L) env σ H := by
  refine ⟨fun a z => z.elim (fun z => ?_) (fun q => by rw [q, hL]; simp), trivial, er.len, fun i s e => ?_⟩
  · have n := er.dom a z
    cases e : mn L H a with
    | none => exact absurd e n
    | some o => rw [(mn_some e).2]; simp
  · obtain ⟨v, e2, q⟩ := er.at_ i s e
    exact ⟨v, e2, q.kp kp_show (fun a z => .inl z) fun a o _ e => (mn_some e).2⟩
theorem gAll_okG {vs : List Nat} : ∀ (is : List Nat) (ds : List D) (ws : List V) (env : En) (σ : L2.St) (Q : L2.St → Hp → Prop), (∀ i ∈ is, i ∈ vs) → ERel K g T Z env σ G → RepL K g G Z ds ws → ds.length = is.length →
    (∀ σ', wipe σ' vs = wipe σ vs → ERel K g T Z (setAll is ds env) σ' G → Q σ' H) → gAll is ws σ H Q
  | [], [], ws, env, σ, Q, _, r, rr, l, h => ⟨RepL.nil_.mp rr, h σ rfl r⟩
  | i :: is, d :: ds, ws, env, σ, Q, sub, r, rr, l, h => by
    obtain ⟨v, w, ev, h1, h2⟩ := RepL.cons_.mp rr
    refine ⟨v, w, ev, gAll_okG is ds w _ _ Q (fun j hj => sub j (List.mem_cons_of_mem _ hj)) (r.setFr (i := i) h1) h2 (by simpa using l) fun σ' e er => h σ' (by rw [e, wipe_set (sub i List.mem_cons_self)]) er⟩
  | [], d :: ds, ws, env, σ, Q, _, r, rr, l, h => by simp at l
  | i :: is, [], ws, env, σ, Q, _, r, rr, l, h => by simp at l
theorem Pq.okG {vs : List Nat} {q : Pq} {d : D} {v : V} {Q : L2.St → Hp → Prop} {env e1 : En} {σ : L2.St} (kp : Kp G Z H Z2) (sub : ∀ i ∈ q.slots, i ∈ vs) (r : ERel K g T Z env σ G) (p : Rep K g G Z d v) (h : q.go d env = some e1)
    (k : ∀ σ', wipe σ' vs = wipe σ vs → ERel K g T Z e1 σ' G → Q σ' H) : q.tg K v σ H Q := by
  cases q with
  | n i => cases h; exact k _ (wipe_set (sub i (by simp [Pq.slots]))) (r.setFr p)
  | t is =>
    cases d with
    | tup ds =>
      have h : (if ds.length = is.length then some (setAll is ds env) else none) = some e1 := h
      split at h
      · rename_i l
        cases h
        obtain ⟨a, ws, ev, sq, rr⟩ := Rep.tup_.mp p
        exact ⟨a, ws, ev, (kp.tu sq).sqT, by rw [← rr.length]; exact l, gAll_okG is ds ws env σ Q sub r rr l k⟩
      · cases h
    | _ => cases h
theorem gAllQ_okG {vs : List Nat} (kp : Kp G Z H Z2) : ∀ (qs : List Pq) (ds : List D) (ws : List V) (env e1 : En) (σ : L2.St) (Q : L2.St → Hp → Prop), (∀ i ∈ qs.flatMap Pq.slots, i ∈ vs) → ERel K g T Z env σ G → RepL K g G Z ds ws → setQ qs ds env = some e1 →
    (∀ σ', wipe σ' vs = wipe σ vs → ERel K g T Z e1 σ' G → Q σ' H) → gAllQ K qs ws σ H Q
  | [], [], ws, env, e1, σ, Q, _, r, rr, h, k => by cases h; exact ⟨RepL.nil_.mp rr, k σ rfl r⟩
  | q :: qs, d :: ds, ws, env, e1, σ, Q, sub, r, rr, h, k => by
    obtain ⟨v, w, ev, h1, h2⟩ := RepL.cons_.mp rr
    have h : (match q.go d env with | some e => setQ qs ds e | none => none) = some e1 := h
    rw [List.flatMap_cons] at sub
    cases c : q.go d env with
    | none => rw [c] at h; cases h
    | some e =>
      rw [c] at h
      refine ⟨v, w, ev, Pq.okG kp (fun i m => sub i (List.mem_append_left _ m)) r h1 c fun σ' ew r' => ?_⟩
      exact gAllQ_okG kp qs ds w e e1 σ' Q (fun i m => sub i (List.mem_append_right _ m)) r' h2 h fun σ2 ew2 r2 => k σ2 (ew2.trans ew) r2
  | [], _ :: _, _, _, _, _, _, _, _, _, h, _ => by cases h
  | _ :: _, [], _, _, _, _, _, _, _, _, h, _ => by cases h
theorem Pt.okG {vs : List Nat} {pt : Pt} {d : D} {v : V} {Q : L2.St → Hp → Prop} (kp : Kp G Z H Z2) (sub : ∀ i ∈ pt.slots, i ∈ vs) (r : ERel K g T Z env σ G) (q : Rep K g G Z d v) (h : pt.go d env = some e1)
    (k : ∀ σ', wipe σ' vs = wipe σ vs → ERel K g T Z e1 σ' G → Q σ' H) : pt.tg K v σ H Q := by
  cases pt with
  | nm i => cases h; exact k _ (wipe_set (sub i (by simp [Pt.slots]))) (r.setFr q)
  | tp is =>
    cases d with
    | tup ds =>
      have h : (if ds.length = is.length then some (setAll is ds env) else none) = some e1 := h
      split at h
      · rename_i l
        cases h
        obtain ⟨a, ws, ev, sq, rr⟩ := Rep.tup_.mp q
        exact ⟨a, ws, ev, (kp.tu sq).sqT, by rw [← rr.length]; exact l, gAll_okG is ds ws env σ Q sub r rr l k⟩
      · cases h
    | _ => cases h
  | tn qs =>
    cases d with
    | tup ds =>
      have h : setQ qs ds env = some e1 := h
      obtain ⟨a, ws, ev, sq, rr⟩ := Rep.tup_.mp q
      exact ⟨a, ws, ev, (kp.tu sq).sqT, by rw [← rr.length]; exact setQ_len h, gAllQ_okG kp qs ds ws env e1 σ Q sub r rr h k⟩
    | _ => cases h
/-- the inner walk: from the list as it is to the list with what the walk adds -/
theorem innerOk {pt1 : Pt} {t1 : En → R Bool} {me : M} {vs1 : List Nat} {xs1 ds0 r1 rest total : List D} {J1 : It} {H1 H4 : Hp} {acc0 : List V} {Nx : Hp → Prop} (sub1 : ∀ i ∈ pt1.slots, i ∈ vs1) (lt : total.length ≤ lim)
    (hn : H1 L = none) (er : ERel K g T Z e1 σ (mn L H4)) (wk : Walk K g (zb Z L) H4 J1 xs1) (s1 : Same H1 H4) (hL : H4 L = some (.lst acc0)) (ha : RepL K g H4 (zb Z L) ds0 acc0)
    (hc : compL pt1.go t1 me (wipeE e1 vs1) xs1 = .ok r1) (ht : total = ds0 ++ (r1 ++ rest))
    (hx : ∀ H' acc, Same H1 H' → H' L = some (.lst acc) → RepL K g H' (zb Z L) (ds0 ++ r1) acc → Nx H') :
    ∃ W1 : Nat → Nat → Hp → Prop, (∃ m, W1 0 m H4) ∧ ∀ j k H, W1 j k H →
      (J1.stop j H ∧ Nx H) ∨ (J1.go j H ∧ ∃ Nx1 : Hp → Prop, (∀ H', Nx1 H' → ∃ k', k' < k ∧ W1 (j + 1) k' H') ∧ ∀ x H', J1.yld j H x H' → pt1.tg K x (wipe σ vs1) H' fun σ3 H5 => wipe σ3 vs1 = wipe σ vs1 ∧ tT K g T W0 t1 σ3 H5 fun b H6 =>
        if b = true then tM K g T W0 me σ3 H6 fun y H7 => ∃ acc, H7 L = some (.lst acc) ∧ acc.length < sizeLine ∧ Nx1 (upd H7 L (.lst (acc ++ [y]))) else Nx1 H6) := by
  let In : Nat → Hp → Prop := fun j H' => Same H1 H' ∧ (∀ a o, a ≠ L → H4 a = some o → H' a = some o) ∧ ∃ acc dsj rj, H' L = some (.lst acc) ∧ RepL K g H' (zb Z L) (ds0 ++ dsj) acc ∧ compL pt1.go t1 me (wipeE e1 vs1) (xs1.drop j) = .ok rj ∧ r1 = dsj ++ rj
  refine ⟨fun j k H' => k = xs1.length - j ∧ j ≤ xs1.length ∧ In j H', ⟨xs1.length, rfl, Nat.zero_le _, s1, fun a o _ e => e, acc0, [], r1, hL, by rw [List.append_nil]; exact ha, hc, rfl⟩, ?_⟩
  rintro j k H' ⟨rfl, hj, s2, sb, acc, dsj, rj, hD, hacc, hcj, hr⟩
  have kp : Kp H4 (zb Z L) H' (fun _ => False) := ⟨fun a o e n => sb a o (fun q => n (.inr q)) e, fun a o us e => sb a _ (fun q => by rw [q, hL] at e; cases e) e, fun _ _ _ z => z⟩
  by_cases hl : j < xs1.length
  · obtain ⟨d, ed, edr⟩ := drop_get hl
    rw [edr] at hcj
    unfold compL at hcj
    refine .inr ⟨wk.go j d H' ed kp, fun H2 => In (j + 1) H2, fun H2 h2 => ⟨xs1.length - (j + 1), by omega, rfl, hl, h2⟩, fun v H2 y => ?_⟩
    obtain ⟨k2, rep⟩ := wk.yld j d H' v H2 ed kp y
    have hD2 : H2 L = some (.lst acc) := k2 _ _ hD
    have s3 : Same H1 H2 := s2.trans k2
    have sb2 : ∀ a o, a ≠ L → H4 a = some o → H2 a = some o := fun a o n e => k2 _ _ (sb a o n e)
    have kz : Kp H4 (zb Z L) H2 (zb Z L) := ⟨fun a o e n => sb2 a o (fun q => n (.inr q)) e, fun a o us e => sb2 a _ (fun q => by rw [q, hL] at e; cases e) e, fun _ _ n => n⟩
    have er2 : ERel K g T Z e1 σ (mn L H2) := er.mono (same_mn sb2)
    have dom1 : ∀ a, zb Z L a → H' a ≠ none := ((er.mono (same_mn sb)).show_ hD).dom
    cases ea : pt1.go d (wipeE e1 vs1) with
    | none => rw [ea] at hcj; cases hcj
    | some e3 =>
      rw [ea] at hcj
      have hcj : ((t1 e3).quiet.bind fun b => if b = true then (me e3).quiet.bind fun s => (compL pt1.go t1 me (wipeE e1 vs1) (xs1.drop (j + 1))).bind fun r => .ok (s.d :: r) else compL pt1.go t1 me (wipeE e1 vs1) (xs1.drop (j + 1))) = .ok rj := hcj
      refine Pt.okG (G := mn L H2) (Z := Z) (Z2 := zb Z L) kp_show sub1 (er2.wipe vs1) (Rep.mono (kp_hide hD2) _ _ (rep _ kz dom1)) ea fun σ3 ws er3 => ?_
      refine ⟨by rw [ws, wipe_wipe], e3, zb Z L, er3.show_ hD2, ?_⟩
      cases et : t1 e3 with
      | ex c p => rw [et] at hcj; cases hcj
      | st => rw [et] at hcj; cases hcj
      | ok b =>
        rw [et] at hcj
        have hcj : (if b = true then (me e3).quiet.bind fun s => (compL pt1.go t1 me (wipeE e1 vs1) (xs1.drop (j + 1))).bind fun r => .ok (s.d :: r) else compL pt1.go t1 me (wipeE e1 vs1) (xs1.drop (j + 1))) = .ok rj := hcj
        intro H5 k3
        have hD5 : H5 L = some (.lst acc) := k3 _ _ hD2
        cases b with
        | false => exact ⟨s3.trans k3, fun a o n e => k3 _ _ (sb2 a o n e), acc, dsj, rj, hD5, RepL.mono (.same_ (k2.trans k3)) _ _ hacc, hcj, hr⟩
        | true =>
          rw [if_pos rfl] at hcj ⊢
          refine use (Z := zb Z L) ((er3.show_ hD2).mono k3) ?_
          cases em : me e3 with
          | ex c p => rw [em] at hcj; cases hcj
          | st => rw [em] at hcj; cases hcj
          | ok s =>
            rw [em] at hcj
            have hcj : ((compL pt1.go t1 me (wipeE e1 vs1) (xs1.drop (j + 1))).bind fun r => R.ok (s.d :: r)) = .ok rj := hcj
            cases ec2 : compL pt1.go t1 me (wipeE e1 vs1) (xs1.drop (j + 1)) with
            | ex c p => rw [ec2] at hcj; cases hcj
            | st => rw [ec2] at hcj; cases hcj
            | ok r2 =>
              rw [ec2] at hcj
              cases hcj
              intro y H7 k4 q
              have hD7 : H7 L = some (.lst acc) := k4 _ _ hD5
              have zL : zb Z L L := Or.inr rfl
              have km : Kp H7 (zb Z L) (upd H7 L (.lst (acc ++ [y]))) (zb Z L) :=
                ⟨fun b o e n => by rw [upd_ne (fun q => n (by rw [q]; exact zL))]; exact e, fun b o us tt => by
                  have nb : b ≠ L := fun q => by
                    subst q
                    rw [hD7] at tt
                    cases tt
                  rw [upd_ne nb]
                  exact tt, fun b _ n => n⟩
              have hlen : acc.length < lim := by
                have e1 := hacc.length
                have e2 : total.length = (ds0 ++ dsj).length + (r2.length + 1 + rest.length) := by
                  rw [ht, hr]
                  simp only [List.length_append, List.length_cons]
                  omega
                omega
              refine ⟨acc, hD7, limLine' hlen, fun b o e => ?_, fun b o n e => ?_, acc ++ [y], dsj ++ [s.d], r2, upd_same, ?_, ec2, by rw [hr, List.append_assoc]; rfl⟩
              · rw [upd_ne (ne_of_none e hn)]
                exact k4 _ _ (k3 _ _ (s3 b o e))
              · rw [upd_ne n]
                exact k4 _ _ (k3 _ _ (sb2 b o n e))
              · rw [← List.append_assoc]
                exact RepL.mono km _ _ ((RepL.mono (.same_ ((k2.trans k3).trans k4)) _ _ hacc).append (.one q))
  · have ej : j = xs1.length := by omega
    subst ej
    rw [List.drop_length] at hcj
    cases hcj
    rw [List.append_nil] at hr
    subst hr
    exact .inl ⟨wk.stop _ H' (Nat.le_refl _) kp, hx H' acc s2 hD hacc⟩
end
section
variable {K : PySem.W.Frag} {g : G0} {x : L2.St → Prop} {W : WX} {Z : Av} {σ : L2.St} {H : Hp}
/-- what a comprehension with two fors reads -/
theorem lc2Ok {mi mi1 : En → R (List D)} {pt pt1 : Pt} {t t1 : En → R Bool} {me : M} {vs vs1 : List Nat} {Q : VK} (sub : ∀ i ∈ pt.slots, i ∈ vs) (sub1 : ∀ i ∈ pt1.slots, i ∈ vs1) (h : tM K g x W (mComp2 mi pt t mi1 pt1 t1 me vs vs1) σ H Q) :
    tLc2 (tI K g x W mi) (pt.tg K) (tT K g T W0 t) (tI K g T W0 mi1) (pt1.tg K) (tT K g T W0 t1) (tM K g T W0 me) vs vs1 σ H Q := by
  obtain ⟨env, Z, er, hp⟩ := h
  refine ⟨env, Z, er, ?_⟩
  unfold mComp2 at hp
  cases ei : mi env with
  | ex c p => rw [ei] at hp; exact hp
  | st => rw [ei] at hp; exact hp
  | ok xs =>
    rw [ei] at hp
    have hp : PostE K g W Z σ H Q ((compL2 pt.go t mi1 pt1.go t1 me vs1 (wipeE env vs) xs).quiet.bind fun r => if r.length ≤ lim then .ok (.ow r) else .st) := hp
    cases ec : (compL2 pt.go t mi1 pt1.go t1 me vs1 (wipeE env vs) xs).quiet with
    | ex c p => exact absurd ec (by intro q; cases e : compL2 pt.go t mi1 pt1.go t1 me vs1 (wipeE env vs) xs <;> rw [e] at q <;> cases q)
    | st => rw [ec] at hp; exact hp.elim
    | ok total =>
      rw [ec] at hp
      have hp : PostE K g W Z σ H Q (if total.length ≤ lim then .ok (.ow total) else .st) := hp
      split at hp
      case isFalse => exact hp.elim
      rename_i hlim
      have ec := quiet_ok ec
      intro J H1 k walk L hL
      have er1 := er.mono k
      refine ⟨fun i m H' => m = xs.length - i ∧ i ≤ xs.length ∧ Same H1 H' ∧ ∃ acc ds0 r, H' L = some (.lst acc) ∧ RepL K g H' (zb Z L) ds0 acc ∧ compL2 pt.go t mi1 pt1.go t1 me vs1 (wipeE env vs) (xs.drop i) = .ok r ∧ total = ds0 ++ r,
        ⟨xs.length, rfl, Nat.zero_le _, same_upd hL, [], [], total, upd_same, RepL.nil_.mpr rfl, ec, rfl⟩, ?_⟩
      rintro i m H' ⟨rfl, hi, s1, acc, ds0, r, hD, hacc, hc, ht⟩
      have kp : Kp H1 Z H' Z := .same_ s1
      by_cases hl : i < xs.length
      · obtain ⟨d, ed, edr⟩ := drop_get hl
        rw [edr] at hc
        unfold compL2 at hc
        refine .inr ⟨walk.go i d H' ed kp.toF, fun H2 => Same H1 H2 ∧ ∃ acc ds0 r, H2 L = some (.lst acc) ∧ RepL K g H2 (zb Z L) ds0 acc ∧ compL2 pt.go t mi1 pt1.go t1 me vs1 (wipeE env vs) (xs.drop (i + 1)) = .ok r ∧ total = ds0 ++ r, fun H2 h2 => ⟨xs.length - (i + 1), by omega, rfl, hl, h2⟩, fun v H2 y => ?_⟩
        obtain ⟨k2, rep⟩ := walk.yld i d H' v H2 ed kp.toF y
        have s2 : Same H1 H2 := s1.trans k2
        have hD2 : H2 L = some (.lst acc) := k2 _ _ hD
        have sm : Same H1 (mn L H2) := fun a o e => by
          rw [mn_ne (ne_of_none e hL)]
          exact s2 a o e
        have erm : ERel K g x Z env σ (mn L H2) := er1.mono sm
        have q1 : Rep K g H2 Z d v := rep Z (.same_ s2) fun a z => dom_mono s1 er1.dom a z
        have q2 : Rep K g H2 (zb Z L) d v := rep _ (.of s2 fun b n z => z.elim id fun e => absurd hL (by rw [← e]; exact n)) fun a z => z.elim (fun z => dom_mono s1 er1.dom a z) fun e => by rw [e, hD]; simp
        cases ea : pt.go d (wipeE env vs) with
        | none => rw [ea] at hc; cases hc
        | some e1 =>
          rw [ea] at hc
          have hc : ((t e1).quiet.bind fun b => if b = true then (mi1 e1).quiet.bind fun xs1 => (compL pt1.go t1 me (wipeE e1 vs1) xs1).bind fun r1 => (compL2 pt.go t mi1 pt1.go t1 me vs1 (wipeE env vs) (xs.drop (i + 1))).bind fun r2 => .ok (r1 ++ r2) else compL2 pt.go t mi1 pt1.go t1 me vs1 (wipeE env vs) (xs.drop (i + 1))) = .ok r := hc
          refine Pt.okG (G := mn L H2) (Z := Z) (Z2 := zb Z L) kp_show sub (erm.wipe vs) (Rep.mono (kp_hide hD2) _ _ q2) ea fun σ2 ws er2 => ?_
          refine ⟨by rw [ws, wipe_wipe], e1, zb Z L, er2.show_ hD2, ?_⟩
          cases et : t e1 with
          | ex c p => rw [et] at hc; cases hc
          | st => rw [et] at hc; cases hc
          | ok b =>
            rw [et] at hc
            have hc : (if b = true then (mi1 e1).quiet.bind fun xs1 => (compL pt1.go t1 me (wipeE e1 vs1) xs1).bind fun r1 => (compL2 pt.go t mi1 pt1.go t1 me vs1 (wipeE env vs) (xs.drop (i + 1))).bind fun r2 => .ok (r1 ++ r2) else compL2 pt.go t mi1 pt1.go t1 me vs1 (wipeE env vs) (xs.drop (i + 1))) = .ok r := hc
            intro H3 k3
            have hD3 : H3 L = some (.lst acc) := k3 _ _ hD2
            have hacc3 : RepL K g H3 (zb Z L) ds0 acc := RepL.mono (.same_ (k2.trans k3)) _ _ hacc
            cases b with
            | false => exact ⟨s2.trans k3, acc, ds0, r, hD3, hacc3, hc, ht⟩
            | true =>
              rw [if_pos rfl] at hc ⊢
              have er3 : ERel K g T Z e1 σ2 (mn L H3) := er2.mono (same_mn fun a o _ e => k3 a o e)
              refine ⟨e1, zb Z L, er3.show_ hD3, ?_⟩
              cases em : mi1 e1 with
              | ex c p => rw [em] at hc; cases hc
              | st => rw [em] at hc; cases hc
              | ok xs1 =>
                rw [em] at hc
                have hc : ((compL pt1.go t1 me (wipeE e1 vs1) xs1).bind fun r1 => (compL2 pt.go t mi1 pt1.go t1 me vs1 (wipeE env vs) (xs.drop (i + 1))).bind fun r2 => R.ok (r1 ++ r2)) = .ok r := hc
                cases ec1 : compL pt1.go t1 me (wipeE e1 vs1) xs1 with
                | ex c p => rw [ec1] at hc; cases hc
                | st => rw [ec1] at hc; cases hc
                | ok r1 =>
                  rw [ec1] at hc
                  have hc : ((compL2 pt.go t mi1 pt1.go t1 me vs1 (wipeE env vs) (xs.drop (i + 1))).bind fun r2 => R.ok (r1 ++ r2)) = .ok r := hc
                  cases ec2 : compL2 pt.go t mi1 pt1.go t1 me vs1 (wipeE env vs) (xs.drop (i + 1)) with
                  | ex c p => rw [ec2] at hc; cases hc
                  | st => rw [ec2] at hc; cases hc
                  | ok r2 =>
                    rw [ec2] at hc
                    cases hc
                    intro J1 H4 k4 wk
                    exact innerOk sub1 hlim hL (er3.mono (same_mn fun a o _ e => k4 a o e)) wk ((s2.trans k3).trans k4) (k4 _ _ hD3) (RepL.mono (.same_ k4) _ _ hacc3) ec1 ht fun H5 acc5 s5 d5 a5 => ⟨s5, acc5, ds0 ++ r1, r2, d5, a5, rfl, by rw [ht, List.append_assoc]⟩
      · have ei : i = xs.length := by omega
        subst ei
        rw [List.drop_length] at hc
        cases hc
        rw [List.append_nil] at ht
        subst ht
        exact .inl ⟨walk.stop _ H' (Nat.le_refl _) kp.toF, hp L acc H' (k.trans s1) (k.free hL) hD hacc⟩
end
section
variable {g : G0} {x : L2.St → Prop} {W : WX} {X : Cx} {elt tg iter tg1 iter1 : Expr} {ifs ifs1 : List Expr} {scope : Scope} {own : List (Str × Nat)} {vs1 : List Nat} {pos : Pos} {mi mi1 : En → R (List D)} {pt pt1 : Pt} {t t1 : En → R Bool} {me : M}
theorem de_lc2 (hc : X.calm = true) (hN : X.N.Nodup) (hi : PId g x W X tg iter mi) (ok : BlkOk X.N X.env.scope scope own) (hv : ∀ i ∈ vs1, i ∈ own.map (·.2)) (sub : ∀ i ∈ pt.slots, i ∈ own.map (·.2)) (sub1 : ∀ i ∈ pt1.slots, i ∈ vs1)
    (hg : ∀ (s : Shared) (H : Hp) (C : Addr) (cl : List (Str × Addr)) (fp : List Addr), PG (X.blk s H scope (compEnvC scope cl C X.env) fp) tg (pt.tg X.K))
    (ht : ∀ (s : Shared) (H : Hp) (C : Addr) (cl : List (Str × Addr)) (fp : List Addr), PTsd g T W0 (X.blk s H scope (compEnvC scope cl C X.env) fp) ifs t)
    (hi1 : ∀ (s : Shared) (H : Hp) (C : Addr) (cl : List (Str × Addr)) (fp : List Addr), PId g T W0 (X.blk s H scope (compEnvC scope cl C X.env) fp) tg1 iter1 mi1)
    (hg1 : ∀ (s : Shared) (H : Hp) (C : Addr) (cl : List (Str × Addr)) (fp : List Addr), PG (X.blk s H scope (compEnvC scope cl C X.env) fp) tg1 (pt1.tg X.K))
    (ht1 : ∀ (s : Shared) (H : Hp) (C : Addr) (cl : List (Str × Addr)) (fp : List Addr), PTsd g T W0 (X.blk s H scope (compEnvC scope cl C X.env) fp) ifs1 t1)
    (he : ∀ (s : Shared) (H : Hp) (C : Addr) (cl : List (Str × Addr)) (fp : List Addr), PEd g T W0 (X.blk s H scope (compEnvC scope cl C X.env) fp) elt me) (hs : ∀ x, foldedSetIterable iter X.env x = pure x := by intro _; rfl) (hs1 : ∀ env x, foldedSetIterable iter1 env x = pure x := by intro _ _; rfl) :
    PEd g x W X (.ListComp elt [⟨tg, iter, ifs, 0⟩, ⟨tg1, iter1, ifs1, 0⟩] scope pos) (mComp2 mi pt t mi1 pt1 t1 me (own.map (·.2)) vs1) :=
  weakE (pe_lc2 hc hN hi ok hv hg ht hi1 hg1 ht1 he hs hs1) fun σ H Q h => lc2Ok sub sub1 h
theorem ds_setLc2 {i : Nat} {y : Str} {py spos : Pos} (hx : ∀ σ, x σ) (hc : X.calm = true) (hN : X.N.Nodup) (hy : X.N[i]? = some y) (hyl : X.env.scope.names.lookup y = some .local)
    (hsw : swapsWith (.ListComp elt [⟨tg, iter, ifs, 0⟩, ⟨tg1, iter1, ifs1, 0⟩] scope pos) (some (.Name y py)) spos.line X.env = pure true) (hi : PId g x W X tg iter mi) (ok : BlkOk X.N X.env.scope scope own) (hv : ∀ i ∈ vs1, i ∈ own.map (·.2)) (sub : ∀ i ∈ pt.slots, i ∈ own.map (·.2)) (sub1 : ∀ i ∈ pt1.slots, i ∈ vs1)
    (hg : ∀ (s : Shared) (H : Hp) (C : Addr) (cl : List (Str × Addr)) (fp : List Addr), PG (X.blk s H scope (compEnvC scope cl C X.env) fp) tg (pt.tg X.K))
    (ht : ∀ (s : Shared) (H : Hp) (C : Addr) (cl : List (Str × Addr)) (fp : List Addr), PTsd g T W0 (X.blk s H scope (compEnvC scope cl C X.env) fp) ifs t)
    (hi1 : ∀ (s : Shared) (H : Hp) (C : Addr) (cl : List (Str × Addr)) (fp : List Addr), PId g T W0 (X.blk s H scope (compEnvC scope cl C X.env) fp) tg1 iter1 mi1)
    (hg1 : ∀ (s : Shared) (H : Hp) (C : Addr) (cl : List (Str × Addr)) (fp : List Addr), PG (X.blk s H scope (compEnvC scope cl C X.env) fp) tg1 (pt1.tg X.K))
    (ht1 : ∀ (s : Shared) (H : Hp) (C : Addr) (cl : List (Str × Addr)) (fp : List Addr), PTsd g T W0 (X.blk s H scope (compEnvC scope cl C X.env) fp) ifs1 t1)
    (he : ∀ (s : Shared) (H : Hp) (C : Addr) (cl : List (Str × Addr)) (fp : List Addr), PEd g T W0 (X.blk s H scope (compEnvC scope cl C X.env) fp) elt me) (hs : ∀ x, foldedSetIterable iter X.env x = pure x := by intro _; rfl) (hs1 : ∀ env x, foldedSetIterable iter1 env x = pure x := by intro _ _; rfl) :
    PSd g x W X (.Assign [.Name y py] (.ListComp elt [⟨tg, iter, ifs, 0⟩, ⟨tg1, iter1, ifs1, 0⟩] scope pos) spos) (sSet i (mComp2 mi pt t mi1 pt1 t1 me (own.map (·.2)) vs1)) :=
  weakS (ps_setLc2 hc hN hy hyl hsw hi ok hv hg ht hi1 hg1 ht1 he hs hs1) fun D σ H ⟨env, A, H0, r, hp⟩ => lc2Ok sub sub1
    (runE (f := fun s => .nx (env.set i (some s))) r hp (fun d v H' _ k q hp => hp _ _ (r.setFr hx k q)) fun xs a vs H' _ k n p q hp => hp _ _ (r.setOw hx k n p q))
end
end DL
set_option Elab.async false
set_option linter.all false
set_option maxRecDepth 100000
set_option maxHeartbeats 4000000
namespace DL
open PySem PySem.Spec L2
open PyProof.Rows hiding St
/-! ### zip of two tuples or two lists, each pair a tuple that is known to be plain -/
def ItF (sa sb : Hp → List V → Prop) : It :=
  ⟨fun i H => ∃ (xs ys : List V) (x y : V), sa H xs ∧ sb H ys ∧ xs[i]? = some x ∧ ys[i]? = some y,
    fun i H v H' => ∃ (at_ : Addr) (ob : Obj) (l r : V), v = .ref at_ ∧ H at_ = none ∧ ob.cls = .type "tuple" ∧ ob.dict = none ∧ H' = upd H at_ (.frz ob (.tup [l, r])) ∧ (∀ xs, sa H xs → xs[i]? = some l) ∧ ∀ ys, sb H ys → ys[i]? = some r,
    fun i H => ∃ xs ys : List V, sa H xs ∧ sb H ys ∧ (xs.length ≤ i ∨ ys.length ≤ i)⟩
section
variable {P : Program} {w : World} {K : PySem.W.Frag} {elts : List Expr} {kk : Nat} {tpos : Pos} {a b z ti to i1 i2 : Addr}
theorem five {c : Addr} (h : c ∈ [z, ti, to, i1, i2]) : c = z ∨ c = ti ∨ c = to ∨ c = i1 ∨ c = i2 := by simpa using h
theorem pair_new {X : Cx} {pins : List (Addr × Obj)} {s : Shared} {σ : L2.St} {H : Hp} {l r : V} {u u2 : Value} {h' : Heap} {ch : List Addr} (I : Inv X pins σ H s) (hf : ∀ c ∈ ch, FpOk X pins H c)
    (hT : h'.get? s.heap.objs.size = some { cls := .type "tuple", data := .seq #[u, u2] }) (ru : RelV l u) (ru2 : RelV r u2) (hk : ∀ c o, c ∉ ch → s.heap.get? c = some o → h'.get? c = some o) :
    Inv X pins σ (upd H s.heap.objs.size (.frz { cls := .type "tuple", data := .seq #[u, u2] } (.tup [l, r]))) { s with heap := h', toks := s.toks } :=
  I.turnedNew (ch := ch) hk hf (Nat.le_refl _) ⟨hT, by show 2 ≤ sizeLine; decide, [u, u2], .cons ru (.cons ru2 .nil), ⟨_, hT, rfl, _, rfl⟩⟩
theorem turn_zipFT (D : ZipApart z ti to i1 i2 a b) : Turn P w K (.Tuple elts kk tpos) (ItF (fun H xs => SqT K H a xs) fun H ys => SqT K H b ys) [z, ti, to, i1, i2] z
    (fun i h => IsZip h z ti to .none ∧ IsPair h ti (.ref i1) (.ref i2) ∧ (∃ x y, IsPair h to x y) ∧ h.IsTupleIter i1 a i ∧ h.IsTupleIter i2 b i) where
  mem := (RZ.turn_zipT (P := P) (w := w) (K := K) (elts := elts) (kk := kk) (tpos := tpos) D).mem
  obj := (RZ.turn_zipT (P := P) (w := w) (K := K) (elts := elts) (kk := kk) (tpos := tpos) D).obj
  keep := (RZ.turn_zipT (P := P) (w := w) (K := K) (elts := elts) (kk := kk) (tpos := tpos) D).keep
  done := (RZ.turn_zipT (P := P) (w := w) (K := K) (elts := elts) (kk := kk) (tpos := tpos) D).done
  self := (RZ.turn_zipT (P := P) (w := w) (K := K) (elts := elts) (kk := kk) (tpos := tpos) D).self
  item := by
    intro X eP ew eK hc i pins s σ H E I hf ⟨oz, oti, ⟨p0, q0, oto⟩, n1, n2⟩ ⟨xs, ys, l, r, sx, sy, gl, gr⟩
    subst eP ew eK
    obtain ⟨us, va, ta, _⟩ := I.tuple sx
    obtain ⟨us2, vb, tb, _⟩ := I.tuple sy
    obtain ⟨u, gu, ru⟩ := va.get gl
    obtain ⟨u2, gu2, ru2⟩ := vb.get gr
    have lz : z < s.heap.objs.size := Heap.lt_size oz
    refine RZ.pyNext_zipT_item D oz oti oto n1 n2 ta tb (x := u) (y := u2) (by simpa using gu) (by simpa using gu2) fun h1 z1 to1 m1 m2 nt _ hk => ⟨_, rfl, wpAny_letOwnedTupleGo_zip (s := { s with heap := h1 }) z1 fun h2 z2 sb => ?_⟩
    have I1 := pair_new (ch := [z, ti, to, i1, i2]) (h' := h2) I hf ((sb.2 _ (Nat.ne_of_gt lz)).trans nt) ru ru2 fun c o hb q => by
      have n : c ≠ z ∧ c ≠ ti ∧ c ≠ to ∧ c ≠ i1 ∧ c ≠ i2 := by simpa using hb
      exact (sb.2 c n.1).trans (hk c o n.1 n.2.2.1 n.2.2.2.1 n.2.2.2.2 q)
    refine ⟨.ref s.heap.objs.size, _, I1, rfl, ⟨_, _, l, r, rfl, I.hok.fresh (Nat.le_refl _), rfl, rfl, rfl, fun zs q => by rw [I.tuple_inj q sx]; exact gl, fun zs q => by rw [I.tuple_inj q sy]; exact gr⟩,
      ⟨z2, (sb.2 _ D.TIz).trans (hk _ _ D.TIz D.TITO D.TIi1 D.TIi2 oti), ⟨u, u2, (sb.2 _ D.TOz).trans to1⟩, m1.at fun o q => (sb.2 _ D.i1z).trans q, m2.at fun o q => (sb.2 _ D.i2z).trans q⟩, fun c hcm => ?_⟩
    have lt : c < s.heap.objs.size := by
      obtain ⟨_, k1, _⟩ := n1
      obtain ⟨_, k2, _⟩ := n2
      rcases five hcm with q | q | q | q | q <;> rw [q]
      · exact lz
      · exact Heap.lt_size oti
      · exact Heap.lt_size oto
      · exact Heap.lt_size k1
      · exact Heap.lt_size k2
    rw [upd_ne (Nat.ne_of_lt lt)]
    exact (hf c hcm).1
theorem turn_zipFL (D : ZipApart z ti to i1 i2 a b) : Turn P w K (.Tuple elts kk tpos) (ItF (fun H xs => SqL K H a xs) fun H ys => SqL K H b ys) [z, ti, to, i1, i2] z
    (fun i h => IsZip h z ti to .none ∧ IsPair h ti (.ref i1) (.ref i2) ∧ (∃ x y, IsPair h to x y) ∧ h.IsListIter i1 a i ∧ h.IsListIter i2 b i) where
  mem := (turn_zip (P := P) (w := w) (K := K) (elts := elts) (kk := kk) (tpos := tpos) D).mem
  obj := (turn_zip (P := P) (w := w) (K := K) (elts := elts) (kk := kk) (tpos := tpos) D).obj
  keep := (turn_zip (P := P) (w := w) (K := K) (elts := elts) (kk := kk) (tpos := tpos) D).keep
  done := (turn_zip (P := P) (w := w) (K := K) (elts := elts) (kk := kk) (tpos := tpos) D).done
  self := (turn_zip (P := P) (w := w) (K := K) (elts := elts) (kk := kk) (tpos := tpos) D).self
  item := by
    intro X eP ew eK hc i pins s σ H E I hf ⟨oz, oti, ⟨p0, q0, oto⟩, n1, n2⟩ ⟨xs, ys, l, r, sx, sy, gl, gr⟩
    subst eP ew eK
    obtain ⟨us, va, ta, _⟩ := I.list sx
    obtain ⟨us2, vb, tb, _⟩ := I.list sy
    obtain ⟨u, gu, ru⟩ := va.get gl
    obtain ⟨u2, gu2, ru2⟩ := vb.get gr
    have lz : z < s.heap.objs.size := Heap.lt_size oz
    refine wpAny_pyNext_zip_item D oz oti oto n1 n2 ta.isList tb.isList (x := u) (y := u2) (by simpa using gu) (by simpa using gu2) fun h1 z1 to1 m1 m2 nt _ hk => ⟨_, rfl, wpAny_letOwnedTupleGo_zip (s := { s with heap := h1 }) z1 fun h2 z2 sb => ?_⟩
    have I1 := pair_new (ch := [z, ti, to, i1, i2]) (h' := h2) I hf ((sb.2 _ (Nat.ne_of_gt lz)).trans nt) ru ru2 fun c o hb q => by
      have n : c ≠ z ∧ c ≠ ti ∧ c ≠ to ∧ c ≠ i1 ∧ c ≠ i2 := by simpa using hb
      exact (sb.2 c n.1).trans (hk c o n.1 n.2.2.1 n.2.2.2.1 n.2.2.2.2 q)
    refine ⟨.ref s.heap.objs.size, _, I1, rfl, ⟨_, _, l, r, rfl, I.hok.fresh (Nat.le_refl _), rfl, rfl, rfl, fun zs q => by rw [I.list_inj q sx]; exact gl, fun zs q => by rw [I.list_inj q sy]; exact gr⟩,
      ⟨z2, (sb.2 _ D.TIz).trans (hk _ _ D.TIz D.TITO D.TIi1 D.TIi2 oti), ⟨u, u2, (sb.2 _ D.TOz).trans to1⟩, m1.at fun o q => (sb.2 _ D.i1z).trans q, m2.at fun o q => (sb.2 _ D.i2z).trans q⟩, fun c hcm => ?_⟩
    have lt : c < s.heap.objs.size := by
      obtain ⟨_, k1, _⟩ := n1
      obtain ⟨_, k2, _⟩ := n2
      rcases five hcm with q | q | q | q | q <;> rw [q]
      · exact lz
      · exact Heap.lt_size oti
      · exact Heap.lt_size oto
      · exact Heap.lt_size k1
      · exact Heap.lt_size k2
    rw [upd_ne (Nat.ne_of_lt lt)]
    exact (hf c hcm).1
end
section
variable {X : Cx} {e e2 : Expr} {ta : TA} {p pos tpos : Pos} {elts : List Expr} {kk : Nat}
theorem pi_zipF (hg : Gl X "zip") (hm : X.mg "zip" = none) (ha : PA X [e, e2] ta)
    (hs : starEach [e, e2] X.env = (false, eval e X.env) :: starEach [e2] X.env := by rfl) (hpl : (backTo pos (starEach [e2] X.env)).any (·.1) = false := by rfl) :
    PI X (.Tuple elts kk tpos) (.Call (.Name "zip" p) [e, e2] [] pos) (fun σ H R => ta σ H fun vs H1 => ∃ a b xs ys, vs = [.ref a, .ref b] ∧
      ((SqL X.K H1 a xs ∧ SqL X.K H1 b ys ∧ R (ItF (fun H xs => SqL X.K H a xs) fun H ys => SqL X.K H b ys) H1) ∨ (SqT X.K H1 a xs ∧ SqT X.K H1 b ys ∧ R (ItF (fun H xs => SqT X.K H a xs) fun H ys => SqT X.K H b ys) H1))) := by
  refine ⟨fun pins s σ H R I h => Call_ (ld_blt I hg hm PyProof.Rows.boot_zip (PyProof.Rows.callWith_type1 (thn (ha.run pos pins s σ H _ I h) fun us s1 ⟨vs, H1, I1, rr, a, b, xs, ys, ev, q1⟩ => ?_) hs hpl))⟩
  subst ev
  obtain ⟨u, u2, eu, ra, rb⟩ := vals2 rr
  subst eu
  obtain rfl : u = .ref a := ra
  obtain rfl : u2 = .ref b := rb
  have fp : ∀ c ∈ [s1.heap.objs.size + 4, s1.heap.objs.size + 2, s1.heap.objs.size + 3, s1.heap.objs.size, s1.heap.objs.size + 1], FpOk X pins H1 c := fun c hc => by
    have le : s1.heap.objs.size ≤ c := by
      rcases five hc with q | q | q | q | q <;> rw [q]
      · exact Nat.le_add_right _ _
      · exact Nat.le_add_right _ _
      · exact Nat.le_add_right _ _
      · exact Nat.le_refl _
      · exact Nat.le_add_right _ _
    exact I1.fpOk le (I1.hok.fresh le)
  rcases q1 with ⟨sx, sy, q⟩ | ⟨sx, sy, q⟩
  · obtain ⟨us, _, ta, _⟩ := I1.list sx
    obtain ⟨us2, _, tb, _⟩ := I1.list sy
    refine call_zip_2 ta.isList tb.isList fun h' oz oti oto n1 n2 _ hk => wpAny_pyIter_zip oz ?_
    exact ⟨_, [s1.heap.objs.size + 4, s1.heap.objs.size + 2, s1.heap.objs.size + 3, s1.heap.objs.size, s1.heap.objs.size + 1], _, _, H1, rfl, I1.kept (t' := s1.toks) hk, turn_zipFL (PySem.W.ktu_apart s1.heap.objs.size a b ta.lt tb.lt), ⟨oz, oti, ⟨_, _, oto⟩, n1, n2⟩, fp, q⟩
  · obtain ⟨us, _, ta, _⟩ := I1.tuple sx
    obtain ⟨us2, _, tb, _⟩ := I1.tuple sy
    have la : a < s1.heap.objs.size := by obtain ⟨o, k, _⟩ := ta; exact Heap.lt_size k
    have lb : b < s1.heap.objs.size := by obtain ⟨o, k, _⟩ := tb; exact Heap.lt_size k
    refine RZ.call_zipT (show s1.heap.IsTuple a us.toArray from ta) (show s1.heap.IsTuple b us2.toArray from tb) fun h' oz oti oto n1 n2 _ hk => wpAny_pyIter_zip oz ?_
    exact ⟨_, [s1.heap.objs.size + 4, s1.heap.objs.size + 2, s1.heap.objs.size + 3, s1.heap.objs.size, s1.heap.objs.size + 1], _, _, H1, rfl, I1.kept (t' := s1.toks) hk, turn_zipFT (PySem.W.ktu_apart s1.heap.objs.size a b la lb), ⟨oz, oti, ⟨_, _, oto⟩, n1, n2⟩, fp, q⟩
end
def zipD : List D → List D → List D
  | x :: xs, y :: ys => .tup [x, y] :: zipD xs ys
  | _, _ => []
def zipR : List D → R (List D)
  | [.lst xs, .lst ys] => .ok (zipD xs ys)
  | [.tup xs, .tup ys] => .ok (zipD xs ys)
  | _ => .st
theorem zipR_cases (ds : List D) : (∃ xs ys, ds = [.lst xs, .lst ys] ∧ zipR ds = .ok (zipD xs ys)) ∨ (∃ xs ys, ds = [.tup xs, .tup ys] ∧ zipR ds = .ok (zipD xs ys)) ∨ zipR ds = .st := by
  unfold zipR
  split
  · exact .inl ⟨_, _, rfl, rfl⟩
  · exact .inr (.inl ⟨_, _, rfl, rfl⟩)
  · exact .inr (.inr rfl)
def mZip (mr : En → R (List D)) : En → R (List D) := fun env => (mr env).bind zipR
theorem zipD_get : ∀ {xs ys : List D} {i : Nat} {d : D}, (zipD xs ys)[i]? = some d → ∃ a b, xs[i]? = some a ∧ ys[i]? = some b ∧ d = .tup [a, b]
  | x :: xs, y :: ys, 0, d, h => by
    unfold zipD at h
    simp at h
    exact ⟨x, y, rfl, rfl, h.symm⟩
  | x :: xs, y :: ys, i + 1, d, h => by
    unfold zipD at h
    obtain ⟨a, b, h1, h2, h3⟩ := zipD_get (by simpa using h)
    exact ⟨a, b, by simpa using h1, by simpa using h2, h3⟩
  | [], ys, i, d, h => by simp [zipD] at h
  | x :: xs, [], i, d, h => by simp [zipD] at h
theorem zipD_length : ∀ (xs ys : List D), (zipD xs ys).length = min xs.length ys.length
  | x :: xs, y :: ys => by unfold zipD; rw [List.length_cons, List.length_cons, List.length_cons, zipD_length xs ys]; omega
  | [], ys => by simp [zipD]
  | x :: xs, [] => by simp [zipD]
section
variable {K : PySem.W.Frag} {g : G0} {Z : Av} {H : Hp}
theorem walk_zipF {sa sb : Hp → List V → Prop} {ds es : List D} {vs ws : List V} (r : RepL K g H Z ds vs) (r2 : RepL K g H Z es ws) (hs : ∀ H', Kp H Z H' (fun _ => False) → sa H' vs) (hs2 : ∀ H', Kp H Z H' (fun _ => False) → sb H' ws) : Walk K g Z H (ItF sa sb) (zipD ds es) where
  go := fun i d H' e k => by
    obtain ⟨a, b, h1, h2, _⟩ := zipD_get e
    obtain ⟨v, h3, _⟩ := r.get h1
    obtain ⟨v2, h4, _⟩ := r2.get h2
    exact ⟨vs, ws, v, v2, hs H' k, hs2 H' k, h3, h4⟩
  yld := fun i d H' v H'' e k y => by
    obtain ⟨at_, o, l, q, rfl, hn, oc, od, rfl, y1, y2⟩ := y
    obtain ⟨a, b, h1, h2, h3⟩ := zipD_get e
    obtain ⟨v1, g1, p1⟩ := r.get h1
    obtain ⟨v2, g2, p2⟩ := r2.get h2
    have e1 := y1 vs (hs H' k)
    rw [g1] at e1
    cases e1
    have e2 := y2 ws (hs2 H' k)
    rw [g2] at e2
    cases e2
    refine ⟨same_upd hn, fun Z' k2 hz => ?_⟩
    rw [h3]
    exact Rep.tup_.mpr ⟨at_, _, rfl, .inl ⟨o, upd_same, oc, od⟩, RepL.cons_.mpr ⟨_, _, rfl, Rep.mono k2 _ _ p1, .one (Rep.mono k2 _ _ p2)⟩⟩
  stop := fun i H' l k => ⟨vs, ws, hs H' k, hs2 H' k, by rw [zipD_length, r.length, r2.length] at l; omega⟩
end
section
variable {g : G0} {x : L2.St → Prop} {W : WX} {X : Cx} {e e2 : Expr} {p pos tpos : Pos} {elts : List Expr} {kk : Nat} {mr : En → R (List D)}
theorem di_zip (hg : Gl X "zip") (hm : X.mg "zip" = none) (ha : PAd g x W X [e, e2] mr)
    (hs : starEach [e, e2] X.env = (false, eval e X.env) :: starEach [e2] X.env := by rfl) (hpl : (backTo pos (starEach [e2] X.env)).any (·.1) = false := by rfl) : PId g x W X (.Tuple elts kk tpos) (.Call (.Name "zip" p) [e, e2] [] pos) (mZip mr) :=
  weakI (pi_zipF hg hm ha hs hpl) fun σ H Rn ⟨env, Z, er, hp⟩ => by
    refine ⟨env, Z, er, ?_⟩
    unfold mZip at hp
    cases em : mr env with
    | ok ds =>
      rw [em] at hp
      have hp : PostI X.K g W Z σ H Rn (zipR ds) := hp
      intro vs H' k r
      rcases zipR_cases ds with ⟨xs, ys, ed, ez⟩ | ⟨xs, ys, ed, ez⟩ | ez
      · rw [ez] at hp
        subst ed
        obtain ⟨v, _, e1, q1, r2⟩ := RepL.cons_.mp r
        obtain ⟨v2, _, e3, q2, r3⟩ := RepL.cons_.mp r2
        have e4 := RepL.nil_.mp r3
        subst e1 e3 e4
        obtain ⟨a, us, e5, rd, rr⟩ := Rep.lst_.mp q1
        obtain ⟨b, ws, e6, rd2, rr2⟩ := Rep.lst_.mp q2
        subst e5 e6
        exact ⟨a, b, us, ws, rfl, .inl ⟨rd.sq, rd2.sq, hp _ H' k (walk_zipF rr rr2 (fun H2 k2 => (k2.ls rd).sq) fun H2 k2 => (k2.ls rd2).sq)⟩⟩
      · rw [ez] at hp
        subst ed
        obtain ⟨v, _, e1, q1, r2⟩ := RepL.cons_.mp r
        obtain ⟨v2, _, e3, q2, r3⟩ := RepL.cons_.mp r2
        have e4 := RepL.nil_.mp r3
        subst e1 e3 e4
        obtain ⟨a, us, e5, rd, rr⟩ := Rep.tup_.mp q1
        obtain ⟨b, ws, e6, rd2, rr2⟩ := Rep.tup_.mp q2
        subst e5 e6
        exact ⟨a, b, us, ws, rfl, .inr ⟨rd.sqT, rd2.sqT, hp _ H' k (walk_zipF rr rr2 (fun H2 k2 => (k2.tu rd).sqT) fun H2 k2 => (k2.tu rd2).sqT)⟩⟩
      · rw [ez] at hp
        exact hp.elim
    | ex c p => rw [em] at hp; exact hp
    | st => rw [em] at hp; exact hp.elim
end
end DL
set_option Elab.async false
set_option linter.all false
set_option maxRecDepth 100000
set_option maxHeartbeats 4000000
namespace DL
open PySem PySem.Spec L2
open PyProof.Rows hiding St
/-! ### xs.append(xs.pop(k)), xs.reverse() -/
def sRot (i : Nat) (mk : B) : MS := fun env => match env[i]? with
  | some (some (.ow xs)) => match mk env with
    | .ok k => match k with
      | .int n => match ixD xs.length n with
        | some l => match xs[l]? with
          | some d => if xs.length < lim ∧ -1000000 ≤ n ∧ n ≤ 1000000 then .nx ((env.set i (some (.ow (xs.eraseIdx l)))).set i (some (.ow (xs.eraseIdx l ++ [d])))) else .st
          | none => .st
        | none => .st
      | _ => .st
    | .ex c p => .ex c p env
    | .st => .st
  | _ => .st
def sRev (i : Nat) : MS := fun env => match env[i]? with
  | some (some (.ow xs)) => .nx (env.set i (some (.ow xs.reverse)))
  | _ => .st
section
variable {g : G0} {x : L2.St → Prop} {W : WX} {X : Cx} {ek : Expr} {pos apos cpos apos2 cpos2 p p2 : Pos} {mk : B} {y : Str}
theorem RepL.rev {K : PySem.W.Frag} {H : Hp} {Z : Av} : ∀ {ds : List D} {vs : List V}, RepL K g H Z ds vs → RepL K g H Z ds.reverse vs.reverse
  | [], vs, h => by
    have e := RepL.nil_.mp h
    subst e
    exact RepL.nil_.mpr rfl
  | d :: ds, vs, h => by
    obtain ⟨v, r, e, h1, h2⟩ := RepL.cons_.mp h
    subst e
    rw [List.reverse_cons, List.reverse_cons]
    exact (RepL.rev h2).append (.one h1)
theorem ds_rot (i : Nat) (hN : X.N[i]? = some y) (hv : Vis X.env.scope y) (hd : (y == ("__debug__" : Str)) = false) (hcd : (y == ("__classdict__" : Str)) = false) (hk : PBd g x W X ek mk)
    (hb1 : attributeBase (.Name y p) "append" X.env (eval (.Name y p) X.env) = eval (.Name y p) X.env) (hb2 : attributeBase (.Name y p2) "pop" X.env (eval (.Name y p2) X.env) = eval (.Name y p2) X.env)
    (hl1 : (apos.endLine == cpos.line) = true) (hl2 : (apos2.endLine == cpos2.line) = true) (hs2 : starEach [ek] X.env = [(false, eval ek X.env)])
    (hs1 : starEach [.Call (.Attribute (.Name y p2) "pop" apos2) [ek] [] cpos2] X.env = [(false, eval (.Call (.Attribute (.Name y p2) "pop" apos2) [ek] [] cpos2) X.env)])
    (hs : swapsWith (.Call (.Attribute (.Name y p) "append" apos) [.Call (.Attribute (.Name y p2) "pop" apos2) [ek] [] cpos2] [] cpos) none pos.line X.env = pure false) :
    PSd g x W X (.Expr (.Call (.Attribute (.Name y p) "append" apos) [.Call (.Attribute (.Name y p2) "pop" apos2) [ek] [] cpos2] [] cpos) pos) (sRot i mk) :=
  weakS (ps_expr (pe_bm PySem.F.plainAttrs_list PySem.F.slot_list_append PySem.F.type_list_append mt_append (pe_var hN hv hd hcd)
    (pa_cons (pe_bm PySem.F.plainAttrs_list PySem.F.slot_list_pop PySem.F.type_list_pop mt_popAt (pe_var hN hv hd hcd) (pa_cons hk pa_nil hs2) hb2 (by rw [hs2]; rfl) hl2 hs2 rfl) pa_nil hs1) hb1 (by rw [hs1]; rfl) hl1 hs1 rfl) hs) fun D σ H ⟨env, A, H0, r, hp⟩ => by
    unfold sRot at hp
    split at hp
    · rename_i xs e1
      obtain ⟨v, f1, a, vs, ev, za, pa, ra⟩ := r.er.at_ i _ e1
      subst ev
      refine ⟨.ref a, f1, .inl ⟨rfl, vs, SqL.of pa⟩, .ref a, f1, .inl ⟨rfl, vs, SqL.of pa⟩, env, zz A env σ, r.er, ?_⟩
      cases ek : mk env with
      | ok kd =>
        rw [ek] at hp
        intro w H1 k q
        cases kd with
        | int n =>
          have hp : PostS X.K g x W A H0 D (match ixD xs.length n with
            | some l => match xs[l]? with
              | some d => if xs.length < lim ∧ -1000000 ≤ n ∧ n ≤ 1000000 then .nx ((env.set i (some (.ow (xs.eraseIdx l)))).set i (some (.ow (xs.eraseIdx l ++ [d])))) else .st
              | none => .st
            | none => .st) := hp
          split at hp
          · rename_i l hl
            split at hp
            · rename_i d hd
              split at hp
              · rename_i hc
                obtain ⟨hlim, h1, h2⟩ := hc
                have ra1 := RepL.mono (.same_ (Z := zz A env σ) k) _ _ ra
                obtain ⟨vd, hvd, qd⟩ := ra1.get hd
                have hix : ixN vs.length n = some l := by rw [← ra.length]; exact hl
                have r2 := (r.later k).mut e1 f1 (ra1.eraseIdx l)
                have hi : i < env.length := (List.getElem?_eq_some_iff.mp e1).1
                have e1' : (env.set i (some (.ow (xs.eraseIdx l))))[i]? = some (some (.ow (xs.eraseIdx l))) := List.getElem?_set_self hi
                have kz : Kp H1 (zz A env σ) (upd H1 a (.lst (vs.eraseIdx l))) (zz A (env.set i (some (.ow (xs.eraseIdx l)))) σ) := by
                  refine ⟨fun c o e n => by rw [upd_ne (fun q => n (by rw [q]; exact za))]; exact e, fun c o ts e => ?_, fun c _ n z => n ?_⟩
                  · rw [upd_ne]
                    · exact e
                    · intro q
                      rw [q, k _ _ pa] at e
                      cases e
                  · rcases z with z | ⟨m, us, g1, g2⟩
                    · exact .inl z
                    · rcases set_get g1 with ⟨jm, _, _⟩ | ⟨_, g1⟩
                      · subst jm; exact .inr ⟨i, xs, e1, g2⟩
                      · exact .inr ⟨m, us, g1, g2⟩
                have le : (vs.eraseIdx l).length ≤ vs.length := List.length_eraseIdx_le _ _
                refine ⟨a, vs, n, l, vd, rfl, by rw [q.int_], k _ _ pa, by omega, by omega, (ixN_seq hix).1, hvd, ?_⟩
                refine ⟨a, vs.eraseIdx l, vd, rfl, rfl, upd_same, Nat.lt_of_le_of_lt le (by rw [← ra.length]; exact limLine' hlim), ?_⟩
                exact hp σ _ (r2.mut e1' f1 ((RepL.mono kz _ _ (ra1.eraseIdx l)).append (.one (Rep.mono kz _ _ qd))))
              · exact hp.elim
            · exact hp.elim
          · exact hp.elim
        | _ => exact hp.elim
      | ex c p => rw [ek] at hp; exact fun H' dd k q => hp σ H' dd (r.later k) (exA q)
      | st => rw [ek] at hp; exact hp
    · exact hp.elim
theorem ds_rev (i : Nat) (hN : X.N[i]? = some y := by rfl) (hv : Vis X.env.scope y := by first | exact Or.inl rfl | exact Or.inr (Or.inl rfl) | exact Or.inr (Or.inr rfl)) (hd : (y == ("__debug__" : Str)) = false := by decide) (hcd : (y == ("__classdict__" : Str)) = false := by decide)
    (hb : attributeBase (.Name y p) "reverse" X.env (eval (.Name y p) X.env) = eval (.Name y p) X.env := by rfl) (hl : (apos.endLine == cpos.line) = true := by rfl)
    (hs : swapsWith (.Call (.Attribute (.Name y p) "reverse" apos) [] [] cpos) none pos.line X.env = pure false := by rfl) : PSd g x W X (.Expr (.Call (.Attribute (.Name y p) "reverse" apos) [] [] cpos) pos) (sRev i) :=
  weakS (ps_expr (pe_bm0 PySem.F.plainAttrs_list PySem.F.slot_list_reverse PySem.F.type_list_reverse mt_reverse (pe_var hN hv hd hcd) hb hl) hs) fun D σ H ⟨env, A, H0, r, hp⟩ => by
    unfold sRev at hp
    split at hp
    · rename_i xs e1
      obtain ⟨v, f1, a, vs, ev, za, pa, ra⟩ := r.er.at_ i _ e1
      subst ev
      exact ⟨.ref a, f1, .inl ⟨rfl, vs, SqL.of pa⟩, a, vs, rfl, rfl, pa, hp σ _ (r.mut e1 f1 ra.rev)⟩
    · exact hp.elim
end
end DL
set_option Elab.async false
set_option linter.all false
set_option maxRecDepth 100000
set_option maxHeartbeats 4000000
namespace DL
open PySem PySem.Spec L2
open PyProof.Rows hiding St
/-! ### xs.index(y), a tuple or a list -/
theorem toPyL_get : ∀ (xs : List D) (i : Nat), (toPyL xs)[i]? = (xs[i]?).map toPy
  | [], i => by simp [toPyL]
  | x :: xs, 0 => by simp [toPyL]
  | x :: xs, i + 1 => by
    have e := toPyL_get xs i
    simp only [toPyL, List.getElem?_cons_succ]
    exact e
theorem noObjL_get : ∀ {xs : List D} {i : Nat} {d : D}, noObjL xs = true → xs[i]? = some d → noObj d = true
  | x :: xs, 0, d, h, e => by
    simp only [noObjL, Bool.and_eq_true] at h
    cases e
    exact h.1
  | x :: xs, i + 1, d, h, e => by
    simp only [noObjL, Bool.and_eq_true] at h
    exact noObjL_get h.2 (by simpa using e)
  | [], i, d, h, e => by simp at e
theorem PE.or {X : Cx} {e : Expr} {t u : TE} (h : PE X e t) (h' : PE X e u) : PE X e (fun σ H Q => t σ H Q ∨ u σ H Q) :=
  ⟨fun pins s σ H Q I q => q.elim (h.run pins s σ H Q I) (h'.run pins s σ H Q I)⟩
def mLstIdx (mo me : B) : M := fun env => (mo env).bind fun t => match t with
  | .lst xs => (me env).bind fun x => fLstIdx (.lst xs) x
  | _ => .st
def mIdx (mo me : B) : M := fun env => (mo env).bind fun t => match t with
  | .tup xs => (me env).bind fun x => fTupIdx (.tup xs) x
  | .lst xs => (me env).bind fun x => fLstIdx (.lst xs) x
  | _ => .st
section
variable {g : G0} {x : L2.St → Prop} {W : WX} {X : Cx} {o e : Expr} {pos apos cpos : Pos} {mo me : B}
theorem de_lstIdx (hu : X.A.units + 65 < cLine) (ho : PBd g x W X o mo) (he : PBd g x W X e me) (hbase : attributeBase o "index" X.env (eval o X.env) = eval o X.env := by rfl) (hline : (apos.endLine == cpos.line) = true := by rfl)
    (hse : starEach [e] X.env = [(false, eval e X.env)] := by rfl) : PEd g x W X (.Call (.Attribute o "index" apos) [e] [] cpos) (mLstIdx mo me) :=
  weakE (pe_bm PySem.F.plainAttrs_list PySem.F.slot_list_index PySem.F.type_list_index (mt_indexD hu) ho (pa_cons he pa_nil hse) hbase (by rw [hse]; rfl) hline hse rfl) fun σ H Q ⟨env, Z, er, hp⟩ =>
    useB er hp fun d v H1 e1 k1 r1 hp1 => by
      cases d with
      | lst xs =>
        obtain ⟨a, vs, ev, sq, rr⟩ := r1.lst'
        have hp1 : PostE X.K g W Z σ H1 Q ((me env).bind fun y => fLstIdx (.lst xs) y) := hp1
        subst ev
        refine ⟨.inl ⟨rfl, vs, sq⟩, ?_⟩
        refine useB (er.mono k1) hp1 fun y u H2 e2 k2 r2 hp2 => ?_
        have hp2 : PostE X.K g W Z σ H2 Q (if (okE (.lst xs) && okE y) = true then match fIdxAux y xs 0 with
          | some j => .ok (.fr (.int j))
          | none => .st else .st) := hp2
        split at hp2
        · rename_i hm
          simp only [okE, Bool.and_eq_true] at hm
          split at hp2
          · rename_i j hj
            obtain ⟨_, c, h2, h3, h4⟩ := idx_at hj
            rw [Nat.sub_zero] at h2 h4
            have nl : noObjL xs = true := by simpa [noObj] using hm.1.1
            have tl : toPy (.lst xs) = .list (toPyL xs) := by simp [toPy]
            have dl : Dp X.K H2 (V.ref a) (.list (toPyL xs)) := by
              rw [← tl]
              exact (r1.mono k2).dp hm.1.1
            refine ⟨a, u, toPy y, toPyL xs, j, toPy c, rfl, rfl, dl, r2.dp hm.2.1, by rw [← tl]; exact hm.1.2, hm.2.2, by rw [toPyL_get, h2]; rfl, ?_, fun m z' lm hz' => ?_, hp2 _ H2 (Same.refl _) (Rep.int_.mpr rfl)⟩
            · rw [eqv_py c y (noObjL_get nl h2) hm.2.1]
              exact h3
            · rw [toPyL_get] at hz'
              cases em : xs[m]? with
              | none => rw [em] at hz'; cases hz'
              | some b =>
                rw [em] at hz'
                cases hz'
                rw [eqv_py b y (noObjL_get nl em) hm.2.1]
                exact h4 m b lm em
          · exact hp2.elim
        · exact hp2.elim
      | _ => exact hp1.elim
theorem de_idx (hu : X.A.units + 65 < cLine) (ho : PBd g x W X o mo) (he : PBd g x W X e me) (hbase : attributeBase o "index" X.env (eval o X.env) = eval o X.env := by rfl) (hline : (apos.endLine == cpos.line) = true := by rfl)
    (hse : starEach [e] X.env = [(false, eval e X.env)] := by rfl) : PEd g x W X (.Call (.Attribute o "index" apos) [e] [] cpos) (mIdx mo me) :=
  weakE (PE.or (de_tupIdx ho he hbase hline hse) (de_lstIdx hu ho he hbase hline hse)) fun σ H Q ⟨env, Z, er, hp⟩ => by
    unfold mIdx at hp
    cases em : mo env with
    | ok t =>
      rw [em] at hp
      cases t with
      | lst xs => exact .inr ⟨env, Z, er, by unfold mLstIdx; rw [em]; exact hp⟩
      | tup xs => exact .inl ⟨env, Z, er, by unfold mTupIdx; rw [em]; exact hp⟩
      | _ => exact hp.elim
    | ex c p => exact .inl ⟨env, Z, er, by unfold mTupIdx; rw [em]; rw [em] at hp; exact hp⟩
    | st => rw [em] at hp; exact hp.elim
end
end DL
set_option Elab.async false
set_option linter.all false
set_option maxRecDepth 100000
set_option maxHeartbeats 4000000
namespace DL
open PySem PySem.Spec L2
open PyProof.Rows hiding St
/-! ### a call that is lent lists: it answers a flat value, so that it keeps none of them -/
def lent (F : List D → R Sl) : List D → R Sl := fun ds => match F ds with
  | .ok (.fr d) => if flatD d = true then .ok (.fr d) else .st
  | .ex c none => .ex c none
  | _ => .st
section
variable {K : PySem.W.Frag} {g : G0} {H : Hp} {Z : Av}
theorem RepB.all {d : D} {v : V} (h : RepB K g H Z d v) : Rep K g H (fun _ => False) d v := by
  have kz : Kp H Z H (fun _ => False) := ⟨fun _ _ e _ => e, fun _ _ _ e => e, fun _ _ _ z => z⟩
  rcases h with h | ⟨xs, a, vs, e1, e2, e3, r⟩
  · exact Rep.mono kz _ _ h
  · subst e1 e2
    exact Rep.lst_.mpr ⟨a, vs, rfl, .inl ⟨fun z => z, .inl e3⟩, RepL.mono kz _ _ r⟩
theorem flat_z {d : D} {v : V} {Z' : Av} (f : flatD d = true) (h : Rep K g H Z d v) : Rep K g H Z' d v := by
  cases d with
  | non => exact Rep.non_.mpr (Rep.non_.mp h)
  | bl b => exact Rep.bl_.mpr (Rep.bl_.mp h)
  | int i => exact Rep.int_.mpr (Rep.int_.mp h)
  | str y => exact Rep.str_.mpr (Rep.str_.mp h)
  | _ => cases f
theorem RepBL.all : ∀ {ds : List D} {vs : List V}, RepBL K g H Z ds vs → RepL K g H (fun _ => False) ds vs
  | [], vs, h => by
    unfold RepBL at h
    exact RepL.nil_.mpr h
  | d :: ds, vs, h => by
    unfold RepBL at h
    obtain ⟨v, r, e, h1, h2⟩ := h
    exact RepL.cons_.mpr ⟨v, r, e, h1.all, RepBL.all h2⟩
end
section
variable {g : G0} {x : L2.St → Prop} {W : WX} {X : Cx} {e : Expr} {es : List Expr} {mr : En → R (List D)} {pos p : Pos}
theorem de_fnB {k : Nat} {y : Str} {ps : List Str} {f : Fn} (F : FD X.prog X.w X.K X.mg X.base g k y ps f) (hr : Room k X.A) (tk : Takes X W) (hg : Gl X y) (ha : PBAd g x W X (e :: es) mr)
    (hdb : (y == ("__debug__" : Str)) = false := by decide) (he : starEach (e :: es) X.env = (false, eval e X.env) :: starEach es X.env := by rfl) (hpl : (backTo pos (starEach es X.env)).any (·.1) = false := by rfl) :
    PEd g x W X (.Call (.Name y p) (e :: es) [] pos) (mCall (lent f) mr) := by
  obtain ⟨a, fd, hm, hk, hb, hF⟩ := F.ex
  exact weakE (pe_callS hF hr hg hm hk hb (fun σ => passAt tk σ) ha hdb he hpl) fun σ H Q ⟨env, Z, er, hp⟩ =>
    useBL er hp fun ds vs H1 e1 k1 r1 hp1 => by
      refine ⟨fun _ => False, ds, fun _ z => z.elim, r1.all, ?_⟩
      unfold lent at hp1
      cases ef : f ds with
      | ok s =>
        rw [ef] at hp1
        cases s with
        | ow xs => exact hp1.elim
        | fr d =>
          have hp1 : PostE X.K g W Z σ H1 Q (if flatD d = true then .ok (.fr d) else .st) := hp1
          split at hp1
          · rename_i fl
            exact fun v H' k r => hp1 v H' k (flat_z fl r)
          · exact hp1.elim
      | ex c p =>
        rw [ef] at hp1
        cases p with
        | none => exact hp1
        | some q => exact hp1.elim
      | st => rw [ef] at hp1; exact hp1.elim
end
end DL
set_option Elab.async false
set_option linter.all false
set_option maxRecDepth 100000
set_option maxHeartbeats 4000000
namespace DL
open PySem PySem.Spec L2
open PyProof.Rows hiding St
/-! ### defs with defaults -/
/-- the def y, called without its last parameters: dD stand for them -/
structure FDd (P : Program) (w : World) (K : PySem.W.Frag) (mg : Str → Option Value) (base : Heap) (g : G0) (k : Nat) (y : Str) (ps : List Str) (dD : List D) (f : Fn) : Prop where
  ex : ∃ a fd dvs ds, mg y = some (.ref a) ∧ PySem.W.keepIn K (.ref a) = true ∧ Vals dvs ds ∧ Binds K fd ps ds ∧ (∀ (H : Hp) (Z : Av), RepL K g H Z dD dvs) ∧ FnOk P w K mg base (L2.CX P w) k a fd ps (Prom K g f)
theorem FDd.mono {P : Program} {w : World} {K : PySem.W.Frag} {mg : Str → Option Value} {base : Heap} {g : G0} {j k : Nat} {y : Str} {ps : List Str} {dD : List D} {f : Fn} (F : FDd P w K mg base g j y ps dD f) (h : j ≤ k) : FDd P w K mg base g k y ps dD f := by
  obtain ⟨a, fd, dvs, ds, h1, h2, h3, h4, h5, h6⟩ := F.ex
  exact ⟨a, fd, dvs, ds, h1, h2, h3, h4, h5, h6.mono h⟩
section
variable {g : G0} {x : L2.St → Prop} {W : WX} {X : Cx} {e : Expr} {es : List Expr} {mr : En → R (List D)} {pos p : Pos}
theorem de_fnD {k : Nat} {y : Str} {ps : List Str} {dD : List D} {f : Fn} (F : FDd X.prog X.w X.K X.mg X.base g k y ps dD f) (hr : Room k X.A) (tk : Takes X W) (hg : Gl X y) (ha : PAd g x W X (e :: es) mr)
    (hdb : (y == ("__debug__" : Str)) = false := by decide) (he : starEach (e :: es) X.env = (false, eval e X.env) :: starEach es X.env := by rfl) (hpl : (backTo pos (starEach es X.env)).any (·.1) = false := by rfl) :
    PEd g x W X (.Call (.Name y p) (e :: es) [] pos) (mCall (fun ds => f (ds ++ dD)) mr) := by
  obtain ⟨a, fd, dvs, vs0, hm, hk, hv, hb, hrep, hF⟩ := F.ex
  exact weakE (pe_callSD hF hr hg hm hk hb hv (fun σ => passAt tk σ) ha hdb he hpl) fun σ H Q ⟨env, Z, er, hp⟩ =>
    useA er hp fun ds vs H1 e1 k1 r1 hp1 => ⟨Z, ds ++ dD, dom_mono k1 er.dom, r1.append (hrep _ _), postW hp1⟩
end
section
variable {P : Program} {w : World} {K : PySem.W.Frag} {mg : Str → Option Value} {base : Heap} {g : G0}
/-- the def of FunD keeps its meaning -/
theorem okD0 {y qual : Str} {params : Arguments} {bd : List Stmt} {scope : Scope} {dvs : List V} {kws : List (Str × V)} {a : Addr} {fd : FuncData} {N ps : List Str} {k : Nat} (F : FunD K y qual params bd scope dvs kws a fd) (S : FnScope N ps scope) (m : MS)
    (body : ∀ (cdv : Value) (A : Around) (outer : List Env) (s : Shared) (H : Hp) (E : XK), Room k (A.deeper (envOfC qual scope s.heap.objs.size a cdv)) →
      PSsd g T (fun c d _ H => E c d H) (cxOf (L2.CX P w) P w K mg base N qual scope a cdv A outer s H E) bd m) : FnOk P w K mg base (L2.CX P w) (k + 1) a fd ps (Prom K g (runF ps.length N.length m)) := by
  have hl : ps.length ≤ N.length := by have := congrArg List.length S.pre; rw [List.length_take] at this; omega
  have len : ∀ vs H Q E, Prom K g (runF ps.length N.length m) vs H Q E → vs.length = ps.length := fun vs H Q E ⟨Z, ds, dom, r, hp⟩ => by
    unfold runF at hp
    split at hp
    · rw [← r.length]; assumption
    · exact hp.elim
  refine F.ok S len fun cdv A outer s H vs Q E hr hsp => ?_
  have lv := len _ _ _ _ hsp
  obtain ⟨Z, ds, dom, r, hp⟩ := hsp
  refine ⟨_, body cdv A outer s H E hr, ?_⟩
  have ld : ds.length = ps.length := by rw [r.length, lv]
  unfold runF at hp
  rw [if_pos ld] at hp
  have zZ : ∀ b, zz Z (env0 ps.length N.length ds) (L2.start N vs) b → Z b := by
    rintro b (z | ⟨i, xs, e1, e2⟩)
    · exact z
    · have e1 := env0_get e1
      rw [List.getElem?_map] at e1
      cases ed : ds[i]? with
      | none => rw [ed] at e1; cases e1
      | some d => rw [ed] at e1; cases e1
  have noow : ∀ (i : Nat) (xs : List D), (env0 ps.length N.length ds)[i]? = some (some (Sl.ow xs)) → False := fun i xs e1 => by
    have e1 := env0_get e1
    rw [List.getElem?_map] at e1
    cases ed : ds[i]? with
    | none => rw [ed] at e1; cases e1
    | some d => rw [ed] at e1; cases e1
  have hlen : (env0 ps.length N.length ds).length = (L2.start N vs).length := by
    unfold env0 L2.start
    rw [List.length_append, List.length_append, List.length_map, List.length_map, List.length_replicate, List.length_replicate, lv, ld]
  have sr : SRel K g T Z H (env0 ps.length N.length ds) (L2.start N vs) H := by
    refine ⟨⟨fun b z => dom b (zZ b z), trivial, hlen, fun i s e1 => ?_⟩, Same.refl _, dom, fun i xs a e1 _ => (noow i xs e1).elim, fun i j xs ys a e1 _ _ _ => (noow i xs e1).elim, hlen⟩
    obtain ⟨v, e2, q⟩ := repl_map r (env0_get e1)
    refine ⟨v, ?_, ?_⟩
    · unfold L2.start
      rw [List.getElem?_append_left]
      · exact e2
      · exact (List.getElem?_eq_some_iff.mp e2).1
    · cases s with
      | fr d => exact Rep.mono (.of (Same.refl _) fun b _ z => zZ b z) _ _ q
      | ow xs => exact (noow i xs e1).elim
  refine ⟨env0 ps.length N.length ds, Z, H, sr, ?_⟩
  cases e : m (env0 ps.length N.length ds) with
  | nx e' => rw [e] at hp; exact fun σ' H' q => hp .non H' q.same (Rep.non_.mpr rfl)
  | rt s => rw [e] at hp; cases s <;> exact hp
  | ex c p e' => rw [e] at hp; exact fun σ' H' dd q z => hp H' dd q.same z
  | bk e' => rw [e] at hp; exact hp.elim
  | ct e' => rw [e] at hp; exact hp.elim
  | st => rw [e] at hp; exact hp.elim
theorem okD {y qual : Str} {params : Arguments} {bd : List Stmt} {scope : Scope} {dvs : List V} {kws : List (Str × V)} {a : Addr} {fd : FuncData} {N ps : List Str} {k : Nat} {dD : List D} (F : FunD K y qual params bd scope dvs kws a fd) (S : FnScope N ps scope) (hm : mg y = some (.ref a)) (hb : Binds K fd ps [])
    (hb2 : ∃ ds, Vals dvs ds ∧ Binds K fd ps ds) (hrep : ∀ (H : Hp) (Z : Av), RepL K g H Z dD dvs) (m : MS)
    (body : ∀ (cdv : Value) (A : Around) (outer : List Env) (s : Shared) (H : Hp) (E : XK), Room k (A.deeper (envOfC qual scope s.heap.objs.size a cdv)) →
      PSsd g T (fun c d _ H => E c d H) (cxOf (L2.CX P w) P w K mg base N qual scope a cdv A outer s H E) bd m) :
    FD P w K mg base g (k + 1) y ps (runF ps.length N.length m) ∧ FDd P w K mg base g (k + 1) y ps dD (runF ps.length N.length m) := by
  have ok := okD0 F S m body
  obtain ⟨ds, h1, h2⟩ := hb2
  exact ⟨⟨a, fd, hm, F.kp, hb, ok⟩, ⟨a, fd, dvs, ds, hm, F.kp, h1, h2, hrep, ok⟩⟩
end
end DL
set_option Elab.async false
set_option linter.all false
set_option maxRecDepth 100000
set_option maxHeartbeats 4000000
namespace DL
open PySem PySem.Spec L2
open PyProof.Rows hiding St
/-! ### bits -/
def fBitAnd : D → D → R Sl
  | .int a, .int b => .ok (.fr (.int (Builtin.bitAnd a b)))
  | _, _ => .st
def fBitOr : D → D → R Sl
  | .int a, .int b => .ok (.fr (.int (Builtin.bitOr a b)))
  | _, _ => .st
def fBitXor : D → D → R Sl
  | .int a, .int b => .ok (.fr (.int (Builtin.bitXor a b)))
  | _, _ => .st
section
variable {K : PySem.W.Frag}
theorem of_band : OpF K (rI0 fun i j => .int (Builtin.bitAnd i j)) fBitAnd := by
  intro g W H Z σ x y v u Q dom rx ry hp
  cases x <;> cases y <;> first | exact hp.elim | skip
  rw [rx.int_, ry.int_]
  exact ⟨_, _, rfl, rfl, hp _ H (Same.refl _) (Rep.int_.mpr rfl)⟩
theorem of_bor : OpF K (rI0 fun i j => .int (Builtin.bitOr i j)) fBitOr := by
  intro g W H Z σ x y v u Q dom rx ry hp
  cases x <;> cases y <;> first | exact hp.elim | skip
  rw [rx.int_, ry.int_]
  exact ⟨_, _, rfl, rfl, hp _ H (Same.refl _) (Rep.int_.mpr rfl)⟩
theorem of_bxor : OpF K (rI0 fun i j => .int (Builtin.bitXor i j)) fBitXor := by
  intro g W H Z σ x y v u Q dom rx ry hp
  cases x <;> cases y <;> first | exact hp.elim | skip
  rw [rx.int_, ry.int_]
  exact ⟨_, _, rfl, rfl, hp _ H (Same.refl _) (Rep.int_.mpr rfl)⟩
end
section
variable {g : G0} {x : L2.St → Prop} {W : WX} {X : Cx} {a b : Expr} {pos : Pos} {ma mb : B}
theorem de_band (ha : PBd g x W X a ma) (hb : PBd g x W X b mb) : PEd g x W X (.BinOp a .BitAnd b pos) (mBin fBitAnd ma mb) := de_op op_and of_band ha hb
theorem de_bor (ha : PBd g x W X a ma) (hb : PBd g x W X b mb) : PEd g x W X (.BinOp a .BitOr b pos) (mBin fBitOr ma mb) := de_op op_or of_bor ha hb
theorem de_bxor (ha : PBd g x W X a ma) (hb : PBd g x W X b mb) : PEd g x W X (.BinOp a .BitXor b pos) (mBin fBitXor ma mb) := de_op op_xor of_bxor ha hb
end
end DL
set_option Elab.async false
set_option linter.all false
set_option maxRecDepth 100000
set_option maxHeartbeats 4000000
namespace DL
open PySem PySem.Spec L2
open PyProof.Rows hiding St
/-! ### all, any, sum of a list -/
def asBL : List D → Option (List Bool)
  | [] => some []
  | .bl b :: r => (asBL r).map (b :: ·)
  | _ => none
def asIL : List D → Option (List Int)
  | [] => some []
  | .int b :: r => (asIL r).map (b :: ·)
  | _ => none
def fAll : List D → R Sl
  | [.lst ds] => match asBL ds with
    | some bs => .ok (.fr (.bl (bs.all id)))
    | none => .st
  | _ => .st
def fAny : List D → R Sl
  | [.lst ds] => match asBL ds with
    | some bs => .ok (.fr (.bl (bs.any id)))
    | none => .st
  | _ => .st
def fSum : List D → R Sl
  | [.lst ds] => match asIL ds with
    | some ns => .ok (.fr (.int ns.sum))
    | none => .st
  | _ => .st
section
variable {K : PySem.W.Frag} {g : G0} {H : Hp} {Z : Av}
theorem asBL_rep : ∀ {ds : List D} {vs : List V} {bs : List Bool}, asBL ds = some bs → RepL K g H Z ds vs → vs = bs.map V.bl
  | [], vs, bs, h, r => by
    cases h
    exact RepL.nil_.mp r
  | d :: ds, vs, bs, h, r => by
    cases d with
    | bl b =>
      have h : (asBL ds).map (b :: ·) = some bs := h
      cases e : asBL ds with
      | none => rw [e] at h; cases h
      | some cs =>
        rw [e] at h
        cases h
        obtain ⟨v, w, ev, h1, h2⟩ := RepL.cons_.mp r
        rw [ev, Rep.bl_.mp h1, asBL_rep e h2]
        rfl
    | _ => cases h
theorem asIL_rep : ∀ {ds : List D} {vs : List V} {bs : List Int}, asIL ds = some bs → RepL K g H Z ds vs → vs = bs.map V.int
  | [], vs, bs, h, r => by
    cases h
    exact RepL.nil_.mp r
  | d :: ds, vs, bs, h, r => by
    cases d with
    | int b =>
      have h : (asIL ds).map (b :: ·) = some bs := h
      cases e : asIL ds with
      | none => rw [e] at h; cases h
      | some cs =>
        rw [e] at h
        cases h
        obtain ⟨v, w, ev, h1, h2⟩ := RepL.cons_.mp r
        rw [ev, Rep.int_.mp h1, asIL_rep e h2]
        rfl
    | _ => cases h
theorem cf_all : CallF K (rAll K) fAll := by
  intro g W H Z σ xs vs Q dom r hp
  unfold fAll at hp
  split at hp
  · rename_i ds
    obtain ⟨v, rfl, rv⟩ := r.one_
    obtain ⟨a, ws, rfl, t, rr⟩ := rv.lst_
    split at hp
    · rename_i bs e
      have ew := asBL_rep e rr
      subst ew
      exact ⟨a, bs, rfl, t, hp _ H (Same.refl _) (Rep.bl_.mpr rfl)⟩
    · exact hp.elim
  · exact hp.elim
theorem cf_any : CallF K (rAny K) fAny := by
  intro g W H Z σ xs vs Q dom r hp
  unfold fAny at hp
  split at hp
  · rename_i ds
    obtain ⟨v, rfl, rv⟩ := r.one_
    obtain ⟨a, ws, rfl, t, rr⟩ := rv.lst_
    split at hp
    · rename_i bs e
      have ew := asBL_rep e rr
      subst ew
      exact ⟨a, bs, rfl, t, hp _ H (Same.refl _) (Rep.bl_.mpr rfl)⟩
    · exact hp.elim
  · exact hp.elim
theorem cf_sum : CallF K (rSum K) fSum := by
  intro g W H Z σ xs vs Q dom r hp
  unfold fSum at hp
  split at hp
  · rename_i ds
    obtain ⟨v, rfl, rv⟩ := r.one_
    obtain ⟨a, ws, rfl, t, rr⟩ := rv.lst_
    split at hp
    · rename_i bs e
      have ew := asIL_rep e rr
      subst ew
      exact ⟨a, bs, rfl, t, hp _ H (Same.refl _) (Rep.int_.mpr rfl)⟩
    · exact hp.elim
  · exact hp.elim
end
section
variable {g : G0} {x : L2.St → Prop} {W : WX} {X : Cx} {e : Expr} {es : List Expr} {mr : En → R (List D)} {pos p : Pos}
theorem de_all (hc : X.calm = true) (hg : Gl X "all") (hm : X.mg "all" = none) (ha : PBAd g x W X (e :: es) mr) (he : starEach (e :: es) X.env = (false, eval e X.env) :: starEach es X.env := by rfl) (hpl : (backTo pos (starEach es X.env)).any (·.1) = false := by rfl) :
    PEd g x W X (.Call (.Name "all" p) (e :: es) [] pos) (mCall fAll mr) := de_callB (cr_all hc) cf_all hg hm (by decide +kernel) ha (by decide) (by decide) he hpl
theorem de_any (hc : X.calm = true) (hg : Gl X "any") (hm : X.mg "any" = none) (ha : PBAd g x W X (e :: es) mr) (he : starEach (e :: es) X.env = (false, eval e X.env) :: starEach es X.env := by rfl) (hpl : (backTo pos (starEach es X.env)).any (·.1) = false := by rfl) :
    PEd g x W X (.Call (.Name "any" p) (e :: es) [] pos) (mCall fAny mr) := de_callB (cr_any hc) cf_any hg hm (by decide +kernel) ha (by decide) (by decide) he hpl
theorem de_sum (hc : X.calm = true) (hg : Gl X "sum") (hm : X.mg "sum" = none) (ha : PBAd g x W X (e :: es) mr) (he : starEach (e :: es) X.env = (false, eval e X.env) :: starEach es X.env := by rfl) (hpl : (backTo pos (starEach es X.env)).any (·.1) = false := by rfl) :
    PEd g x W X (.Call (.Name "sum" p) (e :: es) [] pos) (mCall fSum mr) := de_callB (cr_sum hc) cf_sum hg hm (by decide +kernel) ha (by decide) (by decide) he hpl
end

/-! ### type(x) is T -/
def tyN : D → String
  | .non => "NoneType"
  | .bl _ => "bool"
  | .int _ => "int"
  | .str _ => "str"
  | .tup _ => "tuple"
  | .lst _ => "list"
  | .obj _ _ => ""
  | .dct _ _ => ""
def fTyIs (t : Ty) : D → R Sl
  | .obj _ _ => .st
  | .dct _ _ => .st
  | d => .ok (.fr (.bl (decide (tyN d = t.nm))))
section
variable {K : PySem.W.Frag}
theorem uf_ty (t : Ty) : UnF K (fun x H Q => rTyp K [x] H fun z H2 => ∃ m n, z = .ty m ∧ V.ty t.nm = .ty n ∧ Q (.bl (decide (m = n))) H2) (fTyIs t) := by
  intro g W H Z σ x v Q dom rx hp
  have fin : ∀ {n : String}, TyB K H v n → Q (.bl (decide (n = t.nm))) H → (rTyp K [v] H fun z H2 => ∃ m n, z = .ty m ∧ V.ty t.nm = .ty n ∧ Q (.bl (decide (m = n))) H2) := fun {n} ty q => ⟨v, n, rfl, ty, n, t.nm, rfl, rfl, q⟩
  cases x with
  | non => rw [rx.non_] at fin ⊢; exact fin .non (hp _ H (Same.refl _) (Rep.bl_.mpr rfl))
  | bl b => rw [rx.bl_] at fin ⊢; exact fin (.bl b) (hp _ H (Same.refl _) (Rep.bl_.mpr rfl))
  | int b => rw [rx.int_] at fin ⊢; exact fin (.int b) (hp _ H (Same.refl _) (Rep.bl_.mpr rfl))
  | str b => rw [rx.str_] at fin ⊢; exact fin (.str b) (hp _ H (Same.refl _) (Rep.bl_.mpr rfl))
  | tup xs =>
    obtain ⟨a, ws, e, tu, rr⟩ := rx.tup_
    subst e
    exact fin (.tup tu.sqT) (hp _ H (Same.refl _) (Rep.bl_.mpr rfl))
  | lst xs =>
    obtain ⟨a, ws, e, rd, rr⟩ := rx.lst_
    subst e
    exact fin (.lst rd) (hp _ H (Same.refl _) (Rep.bl_.mpr rfl))
  | obj c fs => exact hp.elim
  | dct c fs => exact hp.elim
end
section
variable {g : G0} {x : L2.St → Prop} {W : WX} {X : Cx} {a : Expr} {pos p p2 pos2 : Pos} {ma : B}
theorem de_tyIs (t : Ty) (hg : Gl X "type") (hm : X.mg "type" = none) (hg2 : Gl X (Str.ofString t.nm)) (hm2 : X.mg (Str.ofString t.nm) = none) (ha : PBd g x W X a ma)
    (hv : bootBuiltins (Str.ofString t.nm) = some (.type t.nm) := by decide +kernel) (hn : (Str.ofString t.nm) ≠ "__name__" := by decide) (hd : ((Str.ofString t.nm) == ("__debug__" : Str)) = false := by decide)
    (he : starEach [a] X.env = (false, eval a X.env) :: starEach [] X.env := by rfl) :
    PEd g x W X (.Compare (.Call (.Name "type" p) [a] [] pos) [.Is] [.Name (Str.ofString t.nm) p2] pos2) (mUn (fTyIs t) ma) :=
  weakE (pe_cmpR op_isTy (pe_callTy call_type1 hg hm (by decide +kernel) (pa_cons ha pa_nil he) (by decide) (by decide) he rfl) (pe_bltn (v := .ty t.nm) hg2 hm2 hv rfl hn hd) (nomark _)) fun σ H Q ⟨env, Z, er, hp⟩ =>
    useB er hp fun d v H1 e1 k1 r1 hp1 => uf_ty t g W H1 Z σ _ _ _ (dom_mono k1 er.dom) r1 hp1
end
end DL
set_option Elab.async false
set_option linter.all false
set_option maxRecDepth 100000
set_option maxHeartbeats 4000000
namespace DL
open PySem PySem.Spec L2
open PyProof.Rows hiding St
/-! ### xs.pop() -/
def sPop (i : Nat) : MS := fun env => match env[i]? with
  | some (some (.ow xs)) => match xs[xs.length - 1]? with
    | some _ => .nx (env.set i (some (.ow xs.dropLast)))
    | none => .st
  | _ => .st
section
variable {K : PySem.W.Frag} {g : G0} {H : Hp} {Z : Av}
theorem RepL.dropLast {ds : List D} {vs : List V} (h : RepL K g H Z ds vs) : RepL K g H Z ds.dropLast vs.dropLast := by
  rw [List.dropLast_eq_take, List.dropLast_eq_take, h.length]
  exact RepL.take _ h
end
section
variable {g : G0} {x : L2.St → Prop} {W : WX} {X : Cx} {pos apos cpos p : Pos} {y : Str}
theorem ds_pop (i : Nat) (hN : X.N[i]? = some y := by rfl) (hv : Vis X.env.scope y := by first | exact Or.inl rfl | exact Or.inr (Or.inl rfl) | exact Or.inr (Or.inr rfl)) (hd : (y == ("__debug__" : Str)) = false := by decide) (hcd : (y == ("__classdict__" : Str)) = false := by decide)
    (hb : attributeBase (.Name y p) "pop" X.env (eval (.Name y p) X.env) = eval (.Name y p) X.env := by rfl) (hl : (apos.endLine == cpos.line) = true := by rfl)
    (hs : swapsWith (.Call (.Attribute (.Name y p) "pop" apos) [] [] cpos) none pos.line X.env = pure false := by rfl) : PSd g x W X (.Expr (.Call (.Attribute (.Name y p) "pop" apos) [] [] cpos) pos) (sPop i) :=
  weakS (ps_expr (pe_bm0 PySem.F.plainAttrs_list PySem.F.slot_list_pop PySem.F.type_list_pop mt_pop (pe_var hN hv hd hcd) hb hl) hs) fun D σ H ⟨env, A, H0, r, hp⟩ => by
    unfold sPop at hp
    split at hp
    · rename_i xs e1
      obtain ⟨v, f1, a, vs, ev, za, pa, ra⟩ := r.er.at_ i _ e1
      subst ev
      split at hp
      · rename_i d hd
        obtain ⟨u, hu, q⟩ := ra.get hd
        rw [ra.length] at hu
        exact ⟨.ref a, f1, .inl ⟨rfl, vs, SqL.of pa⟩, a, vs, u, rfl, rfl, pa, hu, hp σ _ (r.mut e1 f1 ra.dropLast)⟩
      · exact hp.elim
    · exact hp.elim
end
end DL
set_option Elab.async false
set_option linter.all false
set_option maxRecDepth 100000
set_option maxHeartbeats 4000000
namespace DL
open PySem PySem.Spec L2
open PyProof.Rows hiding St
/-! ### sep.join(xs), s.startswith(t) -/
def asSL : List D → Option (List Str)
  | [] => some []
  | .str b :: r => (asSL r).map (b :: ·)
  | _ => none
theorem asSL_rep {K : PySem.W.Frag} {g : G0} {H : Hp} {Z : Av} : ∀ {ds : List D} {vs : List V} {bs : List Str}, asSL ds = some bs → RepL K g H Z ds vs → vs = bs.map V.str
  | [], vs, bs, h, r => by
    cases h
    exact RepL.nil_.mp r
  | d :: ds, vs, bs, h, r => by
    cases d with
    | str b =>
      have h : (asSL ds).map (b :: ·) = some bs := h
      cases e : asSL ds with
      | none => rw [e] at h; cases h
      | some cs =>
        rw [e] at h
        cases h
        obtain ⟨v, w, ev, h1, h2⟩ := RepL.cons_.mp r
        rw [ev, Rep.str_.mp h1, asSL_rep e h2]
        rfl
    | _ => cases h
def fJoinL (a : Str) (ds : List D) : R Sl := match asSL ds with
  | some ys => if (ys.map (·.length)).sum + ys.length * a.length ≤ 1000000 then .ok (.fr (.str (Txt.join a ys))) else .st
  | none => .st
def fJoinD (a : Str) : D → R Sl
  | .lst ds => fJoinL a ds
  | .tup ds => fJoinL a ds
  | _ => .st
def mJoinS (mo me : B) : M := fun env => (mo env).bind fun s => match s with
  | .str a => (me env).bind fun d => fJoinD a d
  | _ => .st
def mStarts (mo me : B) : M := fun env => (mo env).bind fun s => match s with
  | .str a => (me env).bind fun d => match d with
    | .str b => .ok (.fr (.bl (Txt.startswith a b)))
    | _ => .st
  | _ => .st
section
variable {g : G0} {x : L2.St → Prop} {W : WX} {X : Cx} {o e : Expr} {pos apos cpos : Pos} {mo me : B}
theorem de_join (ho : PBd g x W X o mo) (he : PBd g x W X e me) (hb : attributeBase o "join" X.env (eval o X.env) = eval o X.env := by rfl) (hl : (apos.endLine == pos.line) = true := by rfl) (hs : starEach [e] X.env = [(false, eval e X.env)] := by rfl) :
    PEd g x W X (.Call (.Attribute o "join" apos) [e] [] pos) (mJoinS mo me) :=
  weakE (pe_join ho he hs hb hl) fun σ H Q ⟨env, Z, er, hp⟩ => useB er hp fun d v H1 e1 k1 r1 hp1 => by
    cases d with
    | str a =>
      have ev := r1.str_
      subst ev
      refine ⟨⟨a, rfl⟩, ?_⟩
      have hp1 : PostE X.K g W Z σ H1 Q ((me env).bind fun d => fJoinD a d) := hp1
      refine useB (er.mono k1) hp1 fun d2 v2 H2 e2 k2 r2 hp2 => ?_
      cases d2 with
      | lst ds =>
        obtain ⟨p, ws, ev, sq, rr⟩ := r2.lst'
        have hp2 : PostE X.K g W Z σ H2 Q (match asSL ds with
          | some ys => if (ys.map (·.length)).sum + ys.length * a.length ≤ 1000000 then .ok (.fr (.str (Txt.join a ys))) else .st
          | none => .st) := hp2
        split at hp2
        · rename_i ys ey
          split at hp2
          · rename_i hz
            have ew := asSL_rep ey rr
            subst ew ev
            exact ⟨a, p, ys, rfl, rfl, .inl sq, by omega, hp2 _ H2 (Same.refl _) (Rep.str_.mpr rfl)⟩
          · exact hp2.elim
        · exact hp2.elim
      | tup ds =>
        obtain ⟨p, ws, ev, tu, rr⟩ := r2.tup_
        have hp2 : PostE X.K g W Z σ H2 Q (match asSL ds with
          | some ys => if (ys.map (·.length)).sum + ys.length * a.length ≤ 1000000 then .ok (.fr (.str (Txt.join a ys))) else .st
          | none => .st) := hp2
        split at hp2
        · rename_i ys ey
          split at hp2
          · rename_i hz
            have ew := asSL_rep ey rr
            subst ew ev
            exact ⟨a, p, ys, rfl, rfl, .inr tu.sqT, by omega, hp2 _ H2 (Same.refl _) (Rep.str_.mpr rfl)⟩
          · exact hp2.elim
        · exact hp2.elim
      | _ => exact hp2.elim
    | _ => exact hp1.elim
theorem de_starts (ho : PBd g x W X o mo) (he : PBd g x W X e me) (hbase : attributeBase o "startswith" X.env (eval o X.env) = eval o X.env := by rfl) (hline : (apos.endLine == cpos.line) = true := by rfl) (hse : starEach [e] X.env = [(false, eval e X.env)] := by rfl) :
    PEd g x W X (.Call (.Attribute o "startswith" apos) [e] [] cpos) (mStarts mo me) :=
  weakE (pe_bm PySem.F.plainAttrs_str PySem.F.slot_str_startswith PySem.F.type_str_startswith mt_startswith ho (pa_cons he pa_nil hse) hbase (by rw [hse]; rfl) hline hse rfl) fun σ H Q ⟨env, Z, er, hp⟩ => useB er hp fun d v H1 e1 k1 r1 hp1 => by
    cases d with
    | str a =>
      have ev := r1.str_
      subst ev
      refine ⟨rfl, ?_⟩
      have hp1 : PostE X.K g W Z σ H1 Q ((me env).bind fun d => match d with
        | .str b => .ok (.fr (.bl (Txt.startswith a b)))
        | _ => .st) := hp1
      refine useB (er.mono k1) hp1 fun d2 v2 H2 e2 k2 r2 hp2 => ?_
      cases d2 with
      | str b =>
        have ev := r2.str_
        subst ev
        exact ⟨a, b, rfl, rfl, hp2 _ H2 (Same.refl _) (Rep.bl_.mpr rfl)⟩
      | _ => exact hp2.elim
    | _ => exact hp1.elim
end
end DL
set_option Elab.async false
set_option linter.all false
set_option maxRecDepth 100000
set_option maxHeartbeats 4000000
namespace DL
open PySem PySem.Spec L2
open PyProof.Rows hiding St
/-! ### str(n), str(text) -/
def fStr : List D → R Sl
  | [.int i] => if i.natAbs.log2 < 1920 then .ok (.fr (.str (toString i))) else .st
  | [.str a] => .ok (.fr (.str a))
  | _ => .st
section
variable {K : PySem.W.Frag}
theorem cf_str : CallF K (fun xs H Q => (∃ i, xs = [.int i] ∧ i.natAbs.log2 < 1920 ∧ Q (.str (toString i)) H) ∨ ∃ a, xs = [.str a] ∧ Q (.str a) H) fStr := by
  intro g W H Z σ xs vs Q dom r hp
  unfold fStr at hp
  split at hp
  · rename_i i
    obtain ⟨v, ev, rv⟩ := r.one_
    subst ev
    split at hp
    · exact .inl ⟨i, by rw [rv.int_], by assumption, hp _ H (Same.refl _) (Rep.str_.mpr rfl)⟩
    · exact hp.elim
  · rename_i a
    obtain ⟨v, ev, rv⟩ := r.one_
    subst ev
    exact .inr ⟨a, by rw [rv.str_], hp _ H (Same.refl _) (Rep.str_.mpr rfl)⟩
  · exact hp.elim
end
section
variable {g : G0} {x : L2.St → Prop} {W : WX} {X : Cx} {e : Expr} {es : List Expr} {mr : En → R (List D)} {pos p : Pos}
theorem de_str1 (hg : Gl X "str") (hm : X.mg "str" = none) (ha : PBAd g x W X (e :: es) mr) (he : starEach (e :: es) X.env = (false, eval e X.env) :: starEach es X.env := by rfl) (hpl : (backTo pos (starEach es X.env)).any (·.1) = false := by rfl) :
    PEd g x W X (.Call (.Name "str" p) (e :: es) [] pos) (mCall fStr mr) := de_callT (call_str_int.or SkE.call_str_str) cf_str hg hm (by decide +kernel) ha (by decide) (by decide) he hpl
end
end DL
set_option Elab.async false
set_option linter.all false
set_option maxRecDepth 100000
namespace DL
open PySem PySem.Spec L2
open PyProof.Rows hiding St
/-! ### powers and shifts -/
def smallE (i j : Int) : Bool := decide (0 ≤ j) && decide (j ≤ 1000000) && decide (i.natAbs < 2 ^ 64)
def fPow : D → D → R Sl
  | .int a, .int b => if smallE a b = true then .ok (.fr (.int (a ^ b.toNat))) else .st
  | _, _ => .st
def fShl : D → D → R Sl
  | .int a, .int b => if smallE a b = true then .ok (.fr (.int (a * 2 ^ b.toNat))) else .st
  | _, _ => .st
def fShr : D → D → R Sl
  | .int a, .int b => if 0 ≤ b then .ok (.fr (.int (a / 2 ^ b.toNat))) else .st
  | _, _ => .st
theorem smallE_of {i j : Int} (h : smallE i j = true) : CPow i j := by
  unfold smallE at h
  rw [Bool.and_eq_true, Bool.and_eq_true, decide_eq_true_iff, decide_eq_true_iff, decide_eq_true_iff] at h
  exact ⟨h.1.1, h.1.2, h.2⟩
section
variable {K : PySem.W.Frag}
theorem of_pow : OpF K (rI CPow fun i j => .int (i ^ j.toNat)) fPow := by
  intro g W H Z σ x y v u Q dom rx ry hp
  cases x <;> cases y <;> first | exact hp.elim | skip
  rename_i i j
  have hp : PostE K g W Z σ H Q (if smallE i j = true then .ok (.fr (.int (i ^ j.toNat))) else .st) := hp
  split at hp
  · rename_i h
    rw [rx.int_, ry.int_]
    exact ⟨_, _, rfl, rfl, smallE_of h, hp _ H (Same.refl _) (Rep.int_.mpr rfl)⟩
  · exact hp.elim
theorem of_shl : OpF K (rI CPow fun i j => .int (i * 2 ^ j.toNat)) fShl := by
  intro g W H Z σ x y v u Q dom rx ry hp
  cases x <;> cases y <;> first | exact hp.elim | skip
  rename_i i j
  have hp : PostE K g W Z σ H Q (if smallE i j = true then .ok (.fr (.int (i * 2 ^ j.toNat))) else .st) := hp
  split at hp
  · rename_i h
    rw [rx.int_, ry.int_]
    exact ⟨_, _, rfl, rfl, smallE_of h, hp _ H (Same.refl _) (Rep.int_.mpr rfl)⟩
  · exact hp.elim
theorem of_shr : OpF K (rI (fun _ j => 0 ≤ j) fun i j => .int (i / 2 ^ j.toNat)) fShr := by
  intro g W H Z σ x y v u Q dom rx ry hp
  cases x <;> cases y <;> first | exact hp.elim | skip
  rename_i i j
  have hp : PostE K g W Z σ H Q (if 0 ≤ j then .ok (.fr (.int (i / 2 ^ j.toNat))) else .st) := hp
  split at hp
  · rename_i h
    rw [rx.int_, ry.int_]
    exact ⟨_, _, rfl, rfl, h, hp _ H (Same.refl _) (Rep.int_.mpr rfl)⟩
  · exact hp.elim
end
section
variable {g : G0} {x : L2.St → Prop} {W : WX} {X : Cx} {a b : Expr} {pos : Pos} {ma mb : B}
theorem de_pow (ha : PBd g x W X a ma) (hb : PBd g x W X b mb) : PEd g x W X (.BinOp a .Pow b pos) (mBin fPow ma mb) := de_op op_pow of_pow ha hb
theorem de_shl (ha : PBd g x W X a ma) (hb : PBd g x W X b mb) : PEd g x W X (.BinOp a .LShift b pos) (mBin fShl ma mb) := de_op op_shl of_shl ha hb
theorem de_shr (ha : PBd g x W X a ma) (hb : PBd g x W X b mb) : PEd g x W X (.BinOp a .RShift b pos) (mBin fShr ma mb) := de_op op_shr of_shr ha hb
end
/-! ### reversed(list or tuple) -/
def mRevS (m : M) : En → R (List D) := fun env => (m env).bind fun s => (asSeq s.d).bind fun xs => .ok xs.reverse
theorem rev_get {α : Type} {xs : List α} {i : Nat} {d : α} (h : xs.reverse[i]? = some d) : i < xs.length ∧ xs[xs.length - 1 - i]? = some d := by
  have hl : i < xs.length := by
    have := (List.getElem?_eq_some_iff.mp h).1
    simpa using this
  rw [List.getElem?_reverse hl] at h
  exact ⟨hl, h⟩
section
variable {K : PySem.W.Frag} {g : G0} {H : Hp} {Z : Av}
theorem walk_revL {a : Addr} {ds : List D} {vs : List V} (h : Ls K H Z a vs) (r : RepL K g H Z ds vs) : Walk K g Z H (Itv K a vs.length) ds.reverse where
  go := fun i d H' e k => by
    obtain ⟨hl, e2⟩ := rev_get e
    obtain ⟨v, e3, _⟩ := r.get e2
    rw [r.length] at hl e3
    exact ⟨hl, vs, v, (k.ls h).sq, e3⟩
  yld := fun i d H' v H'' e k y => by
    obtain ⟨rfl, y⟩ := y
    obtain ⟨hl, e2⟩ := rev_get e
    obtain ⟨w, e3, q⟩ := r.get e2
    have := y vs (k.ls h).sq
    rw [r.length] at e3
    rw [e3] at this
    cases this
    exact ⟨Same.refl _, fun Z' k2 _ => Rep.mono k2 _ _ q⟩
  stop := fun i H' l k => by rw [List.length_reverse, r.length] at l; exact l
theorem walk_revT {a : Addr} {ds : List D} {vs : List V} (h : Tu K H a vs) (r : RepL K g H Z ds vs) : Walk K g Z H (RT.ItvT K a vs.length) ds.reverse where
  go := fun i d H' e k => by
    obtain ⟨hl, e2⟩ := rev_get e
    obtain ⟨v, e3, _⟩ := r.get e2
    rw [r.length] at hl e3
    exact ⟨hl, vs, v, (k.tu h).sqT, e3⟩
  yld := fun i d H' v H'' e k y => by
    obtain ⟨rfl, y⟩ := y
    obtain ⟨hl, e2⟩ := rev_get e
    obtain ⟨w, e3, q⟩ := r.get e2
    have := y vs (k.tu h).sqT
    rw [r.length] at e3
    rw [e3] at this
    cases this
    exact ⟨Same.refl _, fun Z' k2 _ => Rep.mono k2 _ _ q⟩
  stop := fun i H' l k => by rw [List.length_reverse, r.length] at l; exact l
end
section
variable {g : G0} {x : L2.St → Prop} {W : WX} {X : Cx} {e tg : Expr} {p pos : Pos} {m : M}
theorem di_revS (hg : Gl X "reversed") (hm : X.mg "reversed" = none) (he : PEd g x W X e m) (hs : starEach [e] X.env = (false, eval e X.env) :: starEach [] X.env := by rfl) : PId g x W X tg (.Call (.Name "reversed" p) [e] [] pos) (mRevS m) :=
  weakI (RT.pi_revA hg hm he hs) fun σ H Rn ⟨env, Z, er, hp⟩ => by
    refine use er ?_
    unfold mRevS at hp
    cases em : m env with
    | ok s =>
      rw [em] at hp
      have hp : PostI X.K g W Z σ H Rn ((asSeq s.d).bind fun xs => .ok xs.reverse) := hp
      intro v H' k r
      cases ed : s.d with
      | lst xs =>
        rw [ed] at hp r
        obtain ⟨a, vs, ev, rd, rr⟩ := Rep.lst_.mp r
        exact ⟨a, vs, ev, .inl ⟨rd.sq, hp _ H' k (walk_revL rd rr)⟩⟩
      | tup xs =>
        rw [ed] at hp r
        obtain ⟨a, vs, ev, tu, rr⟩ := Rep.tup_.mp r
        exact ⟨a, vs, ev, .inr ⟨tu.sqT, hp _ H' k (walk_revT tu rr)⟩⟩
      | non => rw [ed] at hp; exact hp.elim
      | bl b => rw [ed] at hp; exact hp.elim
      | int i => rw [ed] at hp; exact hp.elim
      | str z => rw [ed] at hp; exact hp.elim
      | obj c fs => rw [ed] at hp; exact hp.elim
      | dct c fs => rw [ed] at hp; exact hp.elim
    | ex c pl => rw [em] at hp; exact hp
    | st => rw [em] at hp; exact hp.elim
end
end DL
set_option Elab.async false
set_option linter.all false
set_option maxRecDepth 100000
namespace DL
open PySem PySem.Spec L2 StX
open PyProof.Rows hiding St
/-! ### defs with a star parameter: what is left over is a tuple -/
/-- the def's meaning of all that a call hands over -/
def starF (n : Nat) (f : Fn) : Fn := fun ds => if n ≤ ds.length ∧ ds.length ≤ lim then f (ds.take n ++ [.tup (ds.drop n)]) else .st
structure FDs (P : Program) (w : World) (K : PySem.W.Frag) (mg : Str → Option Value) (base : Heap) (g : G0) (k : Nat) (y : Str) (f : Fn) : Prop where
  ex : ∃ a, mg y = some (.ref a) ∧ PySem.W.keepIn K (.ref a) = true ∧ FnR P w K mg base (L2.CX P w) k a (Prom K g f)
theorem FDs.mono {P : Program} {w : World} {K : PySem.W.Frag} {mg : Str → Option Value} {base : Heap} {g : G0} {j k : Nat} {y : Str} {f : Fn} (F : FDs P w K mg base g j y f) (h : j ≤ k) : FDs P w K mg base g k y f := by
  obtain ⟨a, h1, h2, h3⟩ := F.ex
  exact ⟨a, h1, h2, h3.mono h⟩
section
variable {CX : CXT} {P : Program} {w : World} {K : PySem.W.Frag} {mg : Str → Option Value} {base : Heap} {k : Nat} {f : Addr} {name qual : Str} {params : Arguments} {body : List Stmt} {scope : Scope} {dV kV doc pm cdv ct oc : Value} {an od : Option Addr}
  {osl : Array (Option Value)} {N ps : List Str} {sp : Sp}
/-- as the library's, but the new tuple is tracked with its object -/
theorem fn_starF {pv : Str} (lk : K.lookup f = some ⟨oc, od, .func (PySem.W.fnOf name qual params body scope dV kV doc pm an cdv ct), osl⟩) (hcd : PySem.W.codeIn K cdv qual = true) (S : FnScope N (ps ++ [pv]) scope) (hCX : CXUp CX)
    (hb : ∀ us rest : List Value, us.length = ps.length → bindArgs (PySem.W.fnOf name qual params body scope dV kV doc pm an cdv ct) ⟨us ++ rest, []⟩ = (newTuple rest >>= fun t => pure (ps.zip us ++ [(pv, t)])))
    (hbody : ∀ (A : Around) (outer : List Env) (s : Shared) (H : Hp) (vs : List V) (Q : VK) (E : XK), Room k (A.deeper (envOfC qual scope s.heap.objs.size f cdv)) → sp vs H Q E →
      ∃ t, PSs (cxOf CX P w K mg base N qual scope f cdv A outer s H E) body t ∧ t { nx := fun _ H' => Q .non H', rt := Q } (start N vs) H) :
    FnR P w K mg base CX (k + 1) f (fun vs H Q E => ∃ ws rest, vs = ws ++ rest ∧ ws.length = ps.length ∧ rest.length ≤ sizeLine ∧ ∀ (p : Addr) (o : Obj), H p = Option.none → o.cls = .type "tuple" → o.dict = none → sp (ws ++ [V.ref p]) (upd H p (.frz o (.tup rest))) Q E) := by
  intro A outer s H us vs Q E hr e0 r ⟨ws, rest, ev, hl, hz, hq⟩
  subst ev
  obtain ⟨u1, u2, eu, r1, r2⟩ := vals_split r
  subst eu
  have fresh : H s.heap.objs.size = Option.none := e0.hok.fresh (Nat.le_refl _)
  have l1 : u1.length = ps.length := by rw [← r1.length, hl]
  have l2 : u2.length ≤ sizeLine := by rw [← r2.length]; exact hz
  refine run_bnd lk hcd S hr e0 (G := fun xs H2 => ∃ (p : Addr) (o : Obj), H p = Option.none ∧ o.cls = .type "tuple" ∧ o.dict = none ∧ xs = ws ++ [V.ref p] ∧ H2 = upd H p (.frz o (.tup rest))) (fun A' Ex Q' h => ?_) fun s2 H2 xs g hr' => ?_
  · rw [hb u1 u2 l1]
    refine wpAny_bind (wpAny_newTuple (wpAny_pure ?_) l2)
    have at0 : (s.heap.push ({ cls := .type "tuple", data := .seq u2.toArray } : Obj)).get? s.heap.objs.size = some ({ cls := .type "tuple", data := .seq u2.toArray } : Obj) := Heap.get?_push_size _ rfl
    have laid : ObjOk P w (upd H s.heap.objs.size (.frz ({ cls := .type "tuple", data := .seq u2.toArray } : Obj) (.tup rest))) (s.heap.push ({ cls := .type "tuple", data := .seq u2.toArray } : Obj)) s.heap.objs.size (.frz ({ cls := .type "tuple", data := .seq u2.toArray } : Obj) (.tup rest)) := ⟨at0, hz, u2, r2, ⟨_, at0, rfl, _, rfl⟩⟩
    have un := un_laid (fs := frs outer) (s := s) (o := ({ cls := .type "tuple", data := .seq u2.toArray } : Obj)) (u := .frz ({ cls := .type "tuple", data := .seq u2.toArray } : Obj) (.tup rest)) fresh
    have z := h _ _ (ws ++ [V.ref s.heap.objs.size]) (u1 ++ [Value.ref s.heap.objs.size]) (env0_laid e0 laid) un rfl (fun e s' => hCX outer s H _ _ E e s' un (fun b o q => Heap.get?_push_of_some _ q) rfl) (r1.append (.cons rfl .nil))
      (by rw [List.length_append, List.length_append, hl] <;> rfl) ⟨_, _, fresh, rfl, rfl, rfl, rfl⟩
    rw [List.zip_append l1.symm] at z
    exact z
  · obtain ⟨p, o, np, oc, od, ex, eH⟩ := g
    subst ex eH
    exact hbody A outer s2 _ _ Q E hr' (hq p o np oc od)
end
section
variable {P : Program} {w : World} {K : PySem.W.Frag} {mg : Str → Option Value} {base : Heap} {g : G0}
theorem okS {y qual pv : Str} {params : Arguments} {bd : List Stmt} {scope : Scope} {dV kV doc pm cdv ct oc : Value} {an od : Option Addr} {osl : Array (Option Value)} {a : Addr} {N ps : List Str} {k : Nat}
    (lk : K.lookup a = some ⟨oc, od, .func (PySem.W.fnOf y qual params bd scope dV kV doc pm an cdv ct), osl⟩) (hcd : PySem.W.codeIn K cdv qual = true) (kp : PySem.W.keepIn K (.ref a) = true) (S : FnScope N (ps ++ [pv]) scope) (hm : mg y = some (.ref a))
    (hb : ∀ us rest : List Value, us.length = ps.length → bindArgs (PySem.W.fnOf y qual params bd scope dV kV doc pm an cdv ct) ⟨us ++ rest, []⟩ = (newTuple rest >>= fun t => pure (ps.zip us ++ [(pv, t)]))) (m : MS)
    (body : ∀ (cdv : Value) (A : Around) (outer : List Env) (s : Shared) (H : Hp) (E : XK), Room k (A.deeper (envOfC qual scope s.heap.objs.size a cdv)) →
      PSsd g T (fun c d _ H => E c d H) (cxOf (L2.CX P w) P w K mg base N qual scope a cdv A outer s H E) bd m) : FDs P w K mg base g (k + 1) y (starF ps.length (runF (ps.length + 1) N.length m)) := by
  refine ⟨a, hm, kp, ?_⟩
  have hl : (ps ++ [pv]).length ≤ N.length := by have := congrArg List.length S.pre; rw [List.length_take] at this; omega
  refine FnR.imp (fn_starF (CX := L2.CX P w) (sp := fun vs H Q E => vs.length = ps.length + 1 ∧ Prom K g (runF (ps.length + 1) N.length m) vs H Q E) lk hcd S cxUp hb fun A outer s H vs Q E hr hsp => ?_) fun vs H Q E ⟨Z, ds, dom, r, hp⟩ => ?_
  · obtain ⟨lv, Z, ds, dom, r, hp⟩ := hsp
    refine ⟨_, body cdv A outer s H E hr, ?_⟩
    have ld : ds.length = ps.length + 1 := by rw [r.length, lv]
    unfold runF at hp
    rw [if_pos ld] at hp
    have zZ : ∀ b, zz Z (env0 (ps.length + 1) N.length ds) (L2.start N vs) b → Z b := by
      rintro b (z | ⟨i, xs, e1, e2⟩)
      · exact z
      · have e1 := env0_get e1
        rw [List.getElem?_map] at e1
        cases ed : ds[i]? with
        | none => rw [ed] at e1; cases e1
        | some d => rw [ed] at e1; cases e1
    have noow : ∀ (i : Nat) (xs : List D), (env0 (ps.length + 1) N.length ds)[i]? = some (some (Sl.ow xs)) → False := fun i xs e1 => by
      have e1 := env0_get e1
      rw [List.getElem?_map] at e1
      cases ed : ds[i]? with
      | none => rw [ed] at e1; cases e1
      | some d => rw [ed] at e1; cases e1
    have hlen : (env0 (ps.length + 1) N.length ds).length = (L2.start N vs).length := by
      unfold env0 L2.start
      rw [List.length_append, List.length_append, List.length_map, List.length_map, List.length_replicate, List.length_replicate, lv, ld]
    have sr : SRel K g T Z H (env0 (ps.length + 1) N.length ds) (L2.start N vs) H := by
      refine ⟨⟨fun b z => dom b (zZ b z), trivial, hlen, fun i s e1 => ?_⟩, Same.refl _, dom, fun i xs a e1 _ => (noow i xs e1).elim, fun i j xs ys a e1 _ _ _ => (noow i xs e1).elim, hlen⟩
      obtain ⟨v, e2, q⟩ := repl_map r (env0_get e1)
      refine ⟨v, ?_, ?_⟩
      · unfold L2.start
        rw [List.getElem?_append_left]
        · exact e2
        · exact (List.getElem?_eq_some_iff.mp e2).1
      · cases s with
        | fr d => exact Rep.mono (.of (Same.refl _) fun b _ z => zZ b z) _ _ q
        | ow xs => exact (noow i xs e1).elim
    refine ⟨env0 (ps.length + 1) N.length ds, Z, H, sr, ?_⟩
    cases e : m (env0 (ps.length + 1) N.length ds) with
    | nx e' => rw [e] at hp; exact fun σ' H' q => hp .non H' q.same (Rep.non_.mpr rfl)
    | rt s => rw [e] at hp; cases s <;> exact hp
    | ex c p e' => rw [e] at hp; exact fun σ' H' dd q z => hp H' dd q.same z
    | bk e' => rw [e] at hp; exact hp.elim
    | ct e' => rw [e] at hp; exact hp.elim
    | st => rw [e] at hp; exact hp.elim
  · unfold starF at hp
    split at hp
    · rename_i h
      have vl := r.length
      refine ⟨vs.take ps.length, vs.drop ps.length, (List.take_append_drop _ _).symm, by rw [List.length_take]; omega, by rw [List.length_drop]; exact limLine (by omega), fun p o np oc od => ?_⟩
      have rt := RepL.take ps.length r
      have rd := RepL.drop ps.length r
      refine ⟨by rw [List.length_append, List.length_take]; simp; omega, Z, _, fun b z => ?_, (RepL.mono (.same_ (same_upd np)) _ _ rt).append (.one (rtup_new np oc od rd)), ?_⟩
      · have := dom b z
        rw [upd_ne (fun e => this (by rw [e]; exact np))]
        exact this
      · exact PostE.later (σ := []) (same_upd np) hp
    · exact hp.elim
end
section
variable {g : G0} {x : L2.St → Prop} {W : WX} {X : Cx} {e : Expr} {es : List Expr} {mr : En → R (List D)} {pos p : Pos}
theorem de_fnS {k : Nat} {y : Str} {f : Fn} (F : FDs X.prog X.w X.K X.mg X.base g k y f) (hr : Room k X.A) (tk : Takes X W) (hg : Gl X y) (ha : PAd g x W X (e :: es) mr)
    (hdb : (y == ("__debug__" : Str)) = false := by decide) (he : starEach (e :: es) X.env = (false, eval e X.env) :: starEach es X.env := by rfl) (hpl : (backTo pos (starEach es X.env)).any (·.1) = false := by rfl) :
    PEd g x W X (.Call (.Name y p) (e :: es) [] pos) (mCall f mr) := by
  obtain ⟨a, hm, hk, hF⟩ := F.ex
  have rule : PE X (.Call (.Name y p) (e :: es) [] pos) (tCallS (Prom X.K g f) (WE W) (tA X.K g x W mr)) := by
    refine ⟨fun pins s σ H Q I h => ?_⟩
    refine wpAny_Call_Name_kw (ld_glob I hg hm ?_ hdb)
    refine PySem.W.callWith_K (h₀ := X.base) I.ok.mod.kin hk (thn (ha.run pos pins s σ H _ I h) fun us s1 ⟨vs, H1, I1, r, q⟩ => ⟨I1.kIn, ?_⟩) he hpl
    refine wpAny_call (codeAny_mono (hF X.A X.stack s1 H1 us vs Q (WE W σ) hr I1.env0 r q) fun r s' hq => ?_)
    cases r with
    | error e => exact passAt tk σ pins H1 s1 e s' I1 hq
    | ok fl =>
      cases fl with
      | ret u => exact I1.after hq
      | next => exact False.elim hq
      | brk => exact False.elim hq
      | cont => exact False.elim hq
  exact weakE rule fun σ H Q ⟨env, Z, er, hp⟩ =>
    useA er hp fun ds vs H1 e1 k1 r1 hp1 => ⟨Z, ds, dom_mono k1 er.dom, r1, postW hp1⟩
end
end DL
set_option Elab.async false
set_option linter.all false
set_option maxRecDepth 100000
namespace DL
open PySem PySem.Spec L2
open PyProof.Rows hiding St
/-! ### y = [.. for x in xs], xs an owned list that is changed later on: the result holds no list -/
mutual
def noL : D → Bool
  | .lst _ => false
  | .obj _ _ => false
  | .dct _ _ => false
  | .tup xs => noLL xs
  | _ => true
def noLL : List D → Bool
  | [] => true
  | d :: ds => noL d && noLL ds
end
section
variable {K : PySem.W.Frag} {g : G0} {H : Hp} {Z Z' : Av}
mutual
theorem Rep.noZ : ∀ (d : D) (v : V), noL d = true → Rep K g H Z d v → Rep K g H Z' d v
  | .non, v, _, h => by unfold Rep at h ⊢; exact h
  | .bl b, v, _, h => by unfold Rep at h ⊢; exact h
  | .int i, v, _, h => by unfold Rep at h ⊢; exact h
  | .str x, v, _, h => by unfold Rep at h ⊢; exact h
  | .tup xs, v, n, h => by
    unfold Rep at h ⊢
    obtain ⟨a, vs, e, s, r⟩ := h
    exact ⟨a, vs, e, s, RepL.noZ xs vs (by simpa [noL] using n) r⟩
  | .lst xs, v, n, _ => by simp [noL] at n
  | .obj c fs, v, n, _ => by simp [noL] at n
  | .dct c fs, v, n, _ => by simp [noL] at n
theorem RepL.noZ : ∀ (ds : List D) (vs : List V), noLL ds = true → RepL K g H Z ds vs → RepL K g H Z' ds vs
  | [], vs, _, h => by unfold RepL at h ⊢; exact h
  | d :: ds, vs, n, h => by
    unfold RepL at h ⊢
    simp only [noLL, Bool.and_eq_true] at n
    obtain ⟨v, r, e, h1, h2⟩ := h
    exact ⟨v, r, e, Rep.noZ d v n.1 h1, RepL.noZ ds r n.2 h2⟩
end
end
def sThaw (js : List Nat) (i : Nat) (m : M) : MS := fun env => match m (frz js env) with
  | .ok (.fr d) => if noL d = true then .nx (env.set i (some (.fr d))) else .st
  | .ok (.ow xs) => if noLL xs = true then .nx (env.set i (some (.ow xs))) else .st
  | _ => .st
section
variable {g : G0} {x : L2.St → Prop} {W : WX} {X : Cx} {tg iter elt : Expr} {ifs : List Expr} {scope : Scope} {pos : Pos} {mi : En → R (List D)} {pt : Pt} {t : En → R Bool} {me : M} {own : List (Str × Nat)}
theorem ds_thawLc {i : Nat} {y : Str} {py spos : Pos} (js : List Nat) (hx : ∀ σ, x σ) (hc : X.calm = true) (hN : X.N.Nodup) (hy : X.N[i]? = some y) (hyl : X.env.scope.names.lookup y = some .local)
    (hsw : swapsWith (.ListComp elt [⟨tg, iter, ifs, 0⟩] scope pos) (some (.Name y py)) spos.line X.env = pure true) (hi : PId g x W X tg iter mi) (ok : BlkOk X.N X.env.scope scope own) (sub : ∀ i ∈ pt.slots, i ∈ own.map (·.2))
    (hg : ∀ (s : Shared) (H : Hp) (C : Addr) (cl : List (Str × Addr)) (fp : List Addr), PG (X.blk s H scope (compEnvC scope cl C X.env) fp) tg (pt.tg X.K))
    (ht : ∀ (s : Shared) (H : Hp) (C : Addr) (cl : List (Str × Addr)) (fp : List Addr), PTsd g T W0 (X.blk s H scope (compEnvC scope cl C X.env) fp) ifs t)
    (he : ∀ (s : Shared) (H : Hp) (C : Addr) (cl : List (Str × Addr)) (fp : List Addr), PEd g T W0 (X.blk s H scope (compEnvC scope cl C X.env) fp) elt me) (hs : ∀ x, foldedSetIterable iter X.env x = pure x := by intro _; rfl) :
    PSd g x W X (.Assign [.Name y py] (.ListComp elt [⟨tg, iter, ifs, 0⟩] scope pos) spos) (sThaw js i (mComp mi pt t me (own.map (·.2)))) :=
  weakS (ps_setLc hc hN hy hyl hsw hi ok hg ht he hs) fun D σ H ⟨env, A, H0, r, hp⟩ => lcOk sub (by
    refine ⟨DL.frz js env, _, (r.frz js).er, ?_⟩
    unfold sThaw at hp
    cases e : mComp mi pt t me (own.map (·.2)) (DL.frz js env) with
    | ok s =>
      rw [e] at hp
      cases s with
      | fr d =>
        have hp : PostS X.K g x W A H0 D (if noL d = true then .nx (env.set i (some (.fr d))) else .st) := hp
        split at hp
        · rename_i n
          exact fun v H' k q => hp _ _ (r.setFr hx k (Rep.noZ _ _ n q))
        · exact hp.elim
      | ow xs =>
        have hp : PostS X.K g x W A H0 D (if noLL xs = true then .nx (env.set i (some (.ow xs))) else .st) := hp
        split at hp
        · rename_i n
          exact fun a vs H' k nn p q => hp _ _ (r.setOw hx k nn p (RepL.noZ _ _ n q))
        · exact hp.elim
    | ex c p => rw [e] at hp; exact hp.elim
    | st => rw [e] at hp; exact hp.elim)
end
end DL
set_option Elab.async false
set_option linter.all false
set_option maxRecDepth 100000
namespace DL
open PySem PySem.Spec L2 StX
open PyProof.Rows hiding St
/-! ### [.., *e]: the items of a tuple or list, put in -/
def mStar (m : M) (mr : En → R (List D)) : En → R (List D) := fun env => (m env).bind fun s => (asSeq s.d).bind fun xs => (mr env).bind fun ys => .ok (xs ++ ys)
section
variable {g : G0} {x : L2.St → Prop} {W : WX} {X : Cx} {e : Expr} {es : List Expr} {p : Pos} {m : M} {mr : En → R (List D)}
theorem da_star (he : PEd g x W X e m) (hr : PAd g x W X es mr) (hs : starEach (.Starred e p :: es) X.env = (true, eval e X.env) :: starEach es X.env := by rfl) : PAd g x W X (.Starred e p :: es) (mStar m mr) := by
  refine weakA (pa_star he hr hs) fun σ H Q ⟨env, Z, er, hp⟩ => use1A er hp fun s v H1 e1 k1 r1 hp1 => ?_
  cases ed : s.d with
  | lst xs =>
    rw [ed] at hp1 r1
    obtain ⟨a, vs, ev, rd, rr⟩ := Rep.lst_.mp r1
    exact ⟨a, vs, ev, .inr rd.sq, useAA (er.mono k1) hp1 fun ds ws H2 e2 k2 r2 hp2 => hp2 _ H2 (Same.refl _) ((RepL.mono (.same_ k2) _ _ rr).append r2)⟩
  | tup xs =>
    rw [ed] at hp1 r1
    obtain ⟨a, vs, ev, tu, rr⟩ := Rep.tup_.mp r1
    exact ⟨a, vs, ev, .inl tu.sqT, useAA (er.mono k1) hp1 fun ds ws H2 e2 k2 r2 hp2 => hp2 _ H2 (Same.refl _) ((RepL.mono (.same_ k2) _ _ rr).append r2)⟩
  | non => rw [ed] at hp1; exact hp1.elim
  | bl b => rw [ed] at hp1; exact hp1.elim
  | int i => rw [ed] at hp1; exact hp1.elim
  | str z => rw [ed] at hp1; exact hp1.elim
  | obj c fs => rw [ed] at hp1; exact hp1.elim
  | dct c fs => rw [ed] at hp1; exact hp1.elim
end
end DL
set_option Elab.async false
set_option linter.all false
set_option maxRecDepth 100000
set_option maxHeartbeats 4000000
/-! zip of a list with a tuple, and of a tuple with a list: one walk for two sides of any kind -/
namespace DL
open PySem PySem.Spec L2
open PyProof.Rows hiding St
/-- one side of a zip: the iterator `it` over the row at `l`, how it stands before turn i, and what a turn does -/
structure Side (P : Program) (w : World) (it l : Addr) (pos : Nat → Heap → Prop) (src : Heap → Prop) (row : Array Value) : Prop where
  keepIt : ∀ {i h h' c}, pos i h → it ≠ c → Heap.ExtBut c h h' → pos i h'
  keepSrc : ∀ {h h' c}, src h → l ≠ c → Heap.ExtBut c h h' → src h'
  atIt : ∀ {i h h'}, pos i h → (∀ o, h.get? it = some o → h'.get? it = some o) → pos i h'
  live : ∀ {i h}, pos i h → it < h.objs.size
  out : ∀ {A : Around} {i s x} {Q : Value → Shared → Prop} {E : Value → Shared → Prop}, pos i s.heap → src s.heap → row[i]? = some x →
    (∀ h', pos (i + 1) h' → Heap.SameBut it s.heap h' → Q x { s with heap := h' }) → wpAny (model P w) A (Builtin.SmallTypes.nextOf (.ref it)) Q E s
  fin : ∀ {A : Around} {i s} {Q : Value → Shared → Prop} {E : Value → Shared → Prop}, A.handled = none → pos i s.heap → src s.heap → row[i]? = none →
    (∀ h' e, Heap.ExtBut it s.heap h' → (∃ o, h'.get? e = some o ∧ o.cls = .type "StopIteration") → E (.ref e) { s with heap := h' }) → wpAny (model P w) A (Builtin.SmallTypes.nextOf (.ref it)) Q E s
theorem side_list {P : Program} {w : World} (it l : Addr) (row : Array Value) : Side P w it l (fun i h => h.IsListIter it l i) (fun h => h.IsList l row) row where
  keepIt := fun p n k => p.extBut k n
  keepSrc := fun p n k => p.extBut k n
  atIt := fun p k => p.at k
  live := fun ⟨_, k, _⟩ => Heap.lt_size k
  out := fun p q g k => wpAny_nextOf_list_item p q g k
  fin := fun hh p q g k => wpAny_nextOf_list_end hh p q g k
theorem side_tuple {P : Program} {w : World} (it l : Addr) (row : Array Value) : Side P w it l (fun i h => h.IsTupleIter it l i) (fun h => h.IsTuple l row) row where
  keepIt := fun p n k => p.extBut k n
  keepSrc := fun p n k => p.extBut k n
  atIt := fun p k => p.at k
  live := fun ⟨_, k, _⟩ => Heap.lt_size k
  out := fun p q g k => RZ.nextOf_tuple_item p q g k
  fin := fun hh p q g k => RZ.nextOf_tuple_end hh p q g k

section
variable {P : Program} {w : World} {A : Around} {E : Value → Shared → Prop} {s : Shared} {z ti to i1 i2 a b : Addr} {p1 p2 : Nat → Heap → Prop} {r1 r2 : Heap → Prop} {xs ys : Array Value} {k : Nat} {u0 v0 : Value}
theorem sides_item {x y : Value} {Q : Value → Shared → Prop} (D : ZipApart z ti to i1 i2 a b) (S1 : Side P w i1 a p1 r1 xs) (S2 : Side P w i2 b p2 r2 ys)
    (oz : IsZip s.heap z ti to .none) (oti : IsPair s.heap ti (.ref i1) (.ref i2)) (oto : IsPair s.heap to u0 v0) (n1 : p1 k s.heap) (n2 : p2 k s.heap) (q1 : r1 s.heap) (q2 : r2 s.heap)
    (gx : xs[k]? = some x) (gy : ys[k]? = some y)
    (fin : ∀ h', IsZip h' z ti to (rawInt s.heap.objs.size) → IsPair h' to x y → p1 (k + 1) h' → p2 (k + 1) h' → IsPair h' s.heap.objs.size x y →
      (∀ c o, c ≠ z → c ≠ to → c ≠ i1 → c ≠ i2 → s.heap.get? c = some o → h'.get? c = some o) → Q (.ref s.heap.objs.size) { s with heap := h' }) :
    wpAny (model P w) A (Builtin.«zip.__next__» ⟨[.ref z], []⟩) (fun r s' => ∃ v, r = .done (.ret v) ∧ Q v s') E s := by
  show wpAny _ _ (field (.ref z) 2 >>= _) _ _ _
  refine wpAny_bind (wpAny_field oz rfl (x := .bool false) rfl ?_)
  show wpAny _ _ (field (.ref z) 3 >>= _) _ _ _
  refine wpAny_bind (wpAny_field oz rfl (x := .ref ti) rfl (wpAny_bind (wpAny_seqItems oti rfl ?_)))
  show wpAny _ _ (Builtin.SmallTypes.ownedTupleIsFree (.ref z) >>= _) _ _ _
  refine wpAny_bind ?_
  unfold Builtin.SmallTypes.ownedTupleIsFree
  refine wpAny_bind (wpAny_field oz rfl (x := .none) rfl (wpAny_pure ?_))
  simp only [if_true]
  refine wpAny_bind (wpAny_rule (wpAny_bind (wpAny_field oz rfl (x := .ref to) rfl (wpAny_bind (wpAny_setField_rec oz (by simp) fun ha za ka => ?_)))))
  have za : IsZip ha z ti to .ellipsis := za
  refine wpAny_bind ?_
  simp only [List.zipIdx_cons, List.zipIdx_nil, List.forIn_cons, List.forIn_nil]
  -- the first side
  have n1a := S1.keepIt n1 D.i1z ka.extBut
  have q1a := S1.keepSrc q1 D.l1z ka.extBut
  have n2a := S2.keepIt n2 D.i2z ka.extBut
  have q2a := S2.keepSrc q2 D.l2z ka.extBut
  have toa : IsPair ha to u0 v0 := ka.extBut _ _ D.TOz oto
  refine wpAny_bind (wpAny_bind (wpAny_onRaise ?_))
  show wpAny _ _ (Builtin.SmallTypes.nextOf (.ref i1) >>= _) _ _ _
  refine wpAny_bind (S1.out (s := { s with heap := ha }) n1a q1a gx fun hb n1b kb => wpAny_pure ?_)
  have tob : IsPair hb to u0 v0 := kb.extBut _ _ D.TOi1 toa
  have n2b := S2.keepIt n2a D.i12.symm kb.extBut
  have q2b := S2.keepSrc q2a D.l2i1 kb.extBut
  have zb : IsZip hb z ti to .ellipsis := kb.extBut _ _ D.i1z.symm za
  refine wpAny_bind (wpAny_seqItems tob rfl (wpAny_bind (wpAny_updateSeq_pair tob fun hc toc kc => ?_)))
  have toc : IsPair hc to x v0 := toc
  have n1c := S1.keepIt n1b D.TOi1.symm kc.extBut
  have n2c := S2.keepIt n2b D.TOi2.symm kc.extBut
  have q2c := S2.keepSrc q2b D.l2TO kc.extBut
  have zc : IsZip hc z ti to .ellipsis := kc.extBut _ _ D.TOz.symm zb
  -- the second side
  refine wpAny_bind (wpAny_letGo (wpAny_pure (wpAny_bind (wpAny_bind (wpAny_onRaise ?_)))))
  show wpAny _ _ (Builtin.SmallTypes.nextOf (.ref i2) >>= _) _ _ _
  refine wpAny_bind (S2.out (s := { s with heap := hc }) n2c q2c gy fun hd n2d kd => wpAny_pure ?_)
  have tod : IsPair hd to x v0 := kd.extBut _ _ D.TOi2 toc
  have n1d := S1.keepIt n1c D.i12 kd.extBut
  have zd : IsZip hd z ti to .ellipsis := kd.extBut _ _ D.i2z.symm zc
  refine wpAny_bind (wpAny_seqItems tod rfl (wpAny_bind (wpAny_updateSeq_pair tod fun he toe ke => ?_)))
  have toe : IsPair he to x y := toe
  have n1e := S1.keepIt n1d D.TOi1.symm ke.extBut
  have n2e := S2.keepIt n2d D.TOi2.symm ke.extBut
  have ze : IsZip he z ti to .ellipsis := ke.extBut _ _ D.TOz.symm zd
  have size : he.objs.size = s.heap.objs.size := by rw [ke.1, kd.1, kc.1, kb.1, ka.1]
  have old : ∀ c o, c ≠ z → c ≠ to → c ≠ i1 → c ≠ i2 → s.heap.get? c = some o → he.get? c = some o := fun c o d1 d2 d3 d4 e =>
    ke.extBut _ _ d2 (kd.extBut _ _ d4 (kc.extBut _ _ d2 (kb.extBut _ _ d3 (ka.extBut _ _ d1 e))))
  -- the new pair
  refine wpAny_bind (wpAny_letGo (wpAny_pure (wpAny_pure (wpAny_bind (wpAny_seqItems toe rfl (wpAny_bind (wpAny_newTuple ?_)))))))
  show wpAny _ _ (Builtin.SmallTypes.ownedTupleHandOut (.ref z) (.ref he.objs.size) >>= _) _ _ _
  refine wpAny_bind ?_
  unfold Builtin.SmallTypes.ownedTupleHandOut
  have zf : IsZip (he.push { cls := .type "tuple", data := .seq #[x, y] }) z ti to .ellipsis := Heap.get?_push_of_some _ ze
  refine wpAny_bind (wpAny_setField_rec zf (by simp) fun hg zg kg => ?_)
  have zg : IsZip hg z ti to (rawInt he.objs.size) := zg
  refine wpAny_setField_rec zg (by simp) fun hi zi ki => ?_
  have zi : IsZip hi z ti to (rawInt he.objs.size) := zi
  have lz : z < he.objs.size := Heap.lt_size ze
  have up : ∀ c o, c ≠ z → he.get? c = some o → hi.get? c = some o := fun c o d e => ki.extBut _ _ d (kg.extBut _ _ d (Heap.get?_push_of_some _ e))
  have new : IsPair hi he.objs.size x y := ki.extBut _ _ (Nat.ne_of_gt lz) (kg.extBut _ _ (Nat.ne_of_gt lz) (Heap.get?_push_size _ rfl))
  refine wpAny_pure ⟨_, rfl, ?_⟩
  show Q (.ref he.objs.size) _
  rw [size] at zi new ⊢
  exact fin hi zi (up _ _ D.TOz toe) (S1.atIt n1e fun o e => up _ o D.i1z e) (S2.atIt n2e fun o e => up _ o D.i2z e) new fun c o d1 d2 d3 d4 e => up c o d1 (old c o d1 d2 d3 d4 e)
theorem sides_end {Q : Fin → Shared → Prop} (hh : A.handled = none) (D : ZipApart z ti to i1 i2 a b) (S1 : Side P w i1 a p1 r1 xs) (S2 : Side P w i2 b p2 r2 ys)
    (oz : IsZip s.heap z ti to .none) (oti : IsPair s.heap ti (.ref i1) (.ref i2)) (oto : IsPair s.heap to u0 v0) (n1 : p1 k s.heap) (n2 : p2 k s.heap) (q1 : r1 s.heap) (q2 : r2 s.heap)
    (over : xs[k]? = none ∨ ys[k]? = none)
    (fin : ∀ h' e, (∀ c o, c ≠ z → c ≠ to → c ≠ i1 → c ≠ i2 → s.heap.get? c = some o → h'.get? c = some o) → (∃ o, h'.get? e = some o ∧ o.cls = .type "StopIteration") → E (.ref e) { s with heap := h' }) :
    wpAny (model P w) A (Builtin.«zip.__next__» ⟨[.ref z], []⟩) Q E s := by
  show wpAny _ _ (field (.ref z) 2 >>= _) _ _ _
  refine wpAny_bind (wpAny_field oz rfl (x := .bool false) rfl ?_)
  show wpAny _ _ (field (.ref z) 3 >>= _) _ _ _
  refine wpAny_bind (wpAny_field oz rfl (x := .ref ti) rfl (wpAny_bind (wpAny_seqItems oti rfl ?_)))
  show wpAny _ _ (Builtin.SmallTypes.ownedTupleIsFree (.ref z) >>= _) _ _ _
  refine wpAny_bind ?_
  unfold Builtin.SmallTypes.ownedTupleIsFree
  refine wpAny_bind (wpAny_field oz rfl (x := .none) rfl (wpAny_pure ?_))
  simp only [if_true]
  refine wpAny_bind (wpAny_rule (wpAny_bind (wpAny_field oz rfl (x := .ref to) rfl (wpAny_bind (wpAny_setField_rec oz (by simp) fun ha za ka => ?_)))))
  have za : IsZip ha z ti to .ellipsis := za
  refine wpAny_bind ?_
  simp only [List.zipIdx_cons, List.zipIdx_nil, List.forIn_cons, List.forIn_nil]
  have n1a := S1.keepIt n1 D.i1z ka.extBut
  have q1a := S1.keepSrc q1 D.l1z ka.extBut
  refine wpAny_bind (wpAny_bind (wpAny_onRaise ?_))
  show wpAny _ _ (Builtin.SmallTypes.nextOf (.ref i1) >>= _) _ _ _
  have apart : ∀ {h : Heap} {e : Addr}, IsZip h z ti to .ellipsis → (∃ o, h.get? e = some o ∧ o.cls = .type "StopIteration") → e ≠ z := fun hz ⟨o, ho, hc⟩ q => by
    subst q
    rw [hz] at ho
    cases ho
    simp at hc
  cases gx : xs[k]? with
  | none =>
    refine wpAny_bind (S1.fin (s := { s with heap := ha }) hh n1a q1a gx fun hb e kb ⟨o, ho, hc⟩ => ?_)
    have zb : IsZip hb z ti to .ellipsis := kb _ _ D.i1z.symm za
    exact wpAny_setField_rec zb (by simp) fun hd _ kd => fin hd e (fun c o d1 _ d3 _ g => kd.extBut _ _ d1 (kb _ _ d3 (ka.extBut _ _ d1 g))) ⟨o, kd.extBut _ _ (apart zb ⟨o, ho, hc⟩) ho, hc⟩
  | some x =>
    have gy : ys[k]? = none := over.resolve_left (by rw [gx]; exact nofun)
    have n2a := S2.keepIt n2 D.i2z ka.extBut
    have q2a := S2.keepSrc q2 D.l2z ka.extBut
    have toa : IsPair ha to u0 v0 := ka.extBut _ _ D.TOz oto
    refine wpAny_bind (S1.out (s := { s with heap := ha }) n1a q1a gx fun hb n1b kb => wpAny_pure ?_)
    have tob : IsPair hb to u0 v0 := kb.extBut _ _ D.TOi1 toa
    have n2b := S2.keepIt n2a D.i12.symm kb.extBut
    have q2b := S2.keepSrc q2a D.l2i1 kb.extBut
    have zb : IsZip hb z ti to .ellipsis := kb.extBut _ _ D.i1z.symm za
    refine wpAny_bind (wpAny_seqItems tob rfl (wpAny_bind (wpAny_updateSeq_pair tob fun hc toc kc => ?_)))
    have n2c := S2.keepIt n2b D.TOi2.symm kc.extBut
    have q2c := S2.keepSrc q2b D.l2TO kc.extBut
    have zc : IsZip hc z ti to .ellipsis := kc.extBut _ _ D.TOz.symm zb
    refine wpAny_bind (wpAny_letGo (wpAny_pure (wpAny_bind (wpAny_bind (wpAny_onRaise ?_)))))
    show wpAny _ _ (Builtin.SmallTypes.nextOf (.ref i2) >>= _) _ _ _
    refine wpAny_bind (S2.fin (s := { s with heap := hc }) hh n2c q2c gy fun hd e kd ⟨o, ho, hc'⟩ => ?_)
    have zd : IsZip hd z ti to .ellipsis := kd _ _ D.i2z.symm zc
    exact wpAny_setField_rec zd (by simp) fun he _ ke => fin he e (fun c o d1 d2 d3 d4 g => ke.extBut _ _ d1 (kd _ _ d4 (kc.extBut _ _ d2 (kb.extBut _ _ d3 (ka.extBut _ _ d1 g))))) ⟨o, ke.extBut _ _ (apart zd ⟨o, ho, hc'⟩) ho, hc'⟩
theorem sides_next {x y : Value} {Q : Option Value → Shared → Prop} (D : ZipApart z ti to i1 i2 a b) (S1 : Side P w i1 a p1 r1 xs) (S2 : Side P w i2 b p2 r2 ys)
    (oz : IsZip s.heap z ti to .none) (oti : IsPair s.heap ti (.ref i1) (.ref i2)) (oto : IsPair s.heap to u0 v0) (n1 : p1 k s.heap) (n2 : p2 k s.heap) (q1 : r1 s.heap) (q2 : r2 s.heap)
    (gx : xs[k]? = some x) (gy : ys[k]? = some y)
    (fin : ∀ h', IsZip h' z ti to (rawInt s.heap.objs.size) → IsPair h' to x y → p1 (k + 1) h' → p2 (k + 1) h' → IsPair h' s.heap.objs.size x y →
      (∀ c o, c ≠ z → c ≠ to → c ≠ i1 → c ≠ i2 → s.heap.get? c = some o → h'.get? c = some o) → Q (some (.ref s.heap.objs.size)) { s with heap := h' }) :
    wpAny (model P w) A (pyNext (.ref z)) Q E s := by
  have t : s.TypeIs (.ref z) "zip" := ⟨_, oz, rfl⟩
  unfold pyNext
  refine wpAny_bind (wpAny_attempt (wpAny_callSpecial?_slot (name := Str.ofString "__next__") t F.slot_zip_next (wpAny_call_entry F.slot_zip_next t F.entry_zip_next ?_ (F.args_zip_next_1 _))))
  exact sides_item D S1 S2 oz oti oto n1 n2 q1 q2 gx gy fun h' e1 e2 e3 e4 e5 e6 => wpAny_pure (fin h' e1 e2 e3 e4 e5 e6)
theorem sides_over {Q : Option Value → Shared → Prop} (hh : A.handled = none) (D : ZipApart z ti to i1 i2 a b) (S1 : Side P w i1 a p1 r1 xs) (S2 : Side P w i2 b p2 r2 ys)
    (oz : IsZip s.heap z ti to .none) (oti : IsPair s.heap ti (.ref i1) (.ref i2)) (oto : IsPair s.heap to u0 v0) (n1 : p1 k s.heap) (n2 : p2 k s.heap) (q1 : r1 s.heap) (q2 : r2 s.heap)
    (over : xs[k]? = none ∨ ys[k]? = none) (fin : ∀ h', (∀ c o, c ≠ z → c ≠ to → c ≠ i1 → c ≠ i2 → s.heap.get? c = some o → h'.get? c = some o) → Q none { s with heap := h' }) :
    wpAny (model P w) A (pyNext (.ref z)) Q E s := by
  have t : s.TypeIs (.ref z) "zip" := ⟨_, oz, rfl⟩
  unfold pyNext
  refine wpAny_bind (wpAny_attempt (wpAny_callSpecial?_slot (name := Str.ofString "__next__") t F.slot_zip_next (wpAny_call_entry F.slot_zip_next t F.entry_zip_next ?_ (F.args_zip_next_1 _))))
  refine sides_end hh D S1 S2 oz oti oto n1 n2 q1 q2 over fun h' e hk ⟨o, ho, hc⟩ => ?_
  exact wpAny_bind (wpAny_isInstance (T := "StopIteration") (b := true) ⟨o, ho, hc⟩ isSubtype_stop (wpAny_pure (fin _ hk)))
end
/-! the call zip(list, tuple) -/
abbrev zm1 (h : Heap) (a : Addr) : Heap := h.push { cls := .type "list_iterator", data := .fields #[.ref a, .int 0 0] }
abbrev zm2 (h : Heap) (a b : Addr) : Heap := (zm1 h a).push { cls := .type "tuple_iterator", data := .fields #[.ref b, .int 0 0] }
abbrev zm3 (h : Heap) (a b : Addr) : Heap := (zm2 h a b).push { cls := .type "tuple", data := .seq #[.ref h.objs.size, .ref (zm1 h a).objs.size] }
abbrev zm4 (h : Heap) (a b : Addr) : Heap := (zm3 h a b).push { cls := .type "tuple", data := .seq #[.none, .none] }
abbrev zm5 (h : Heap) (a b : Addr) : Heap := (zm4 h a b).push { cls := .type "zip", data := .fields #[.none, .bool false, .bool false, .ref (zm2 h a b).objs.size, .ref (zm3 h a b).objs.size] }
theorem meets_zm (a b : Addr) (xs ys : Array Value) :
    Meets (Builtin.«zip.__new__» ⟨[.type "zip", .ref a, .ref b], []⟩) (fun _ R s => s.heap.IsList a xs ∧ s.heap.IsTuple b ys ∧ R (.ok (.ret (.ref (zm4 s.heap a b).objs.size))) { s with heap := zm5 s.heap a b }) :=
  .of_wp fun prog w A R s h => by
    obtain ⟨hp, g, d, tk, os⟩ := s
    obtain ⟨qa, qb, h⟩ := h
    have sub := sub_zip
    have la : Heap.IsList (Shared.heap ⟨hp, g, d, tk, os⟩) a xs := qa
    have lb : Heap.IsTuple (Shared.heap ⟨hp.push { cls := .type "list_iterator", data := .fields #[.ref a, .int 0 0] }, g, d, tk, os⟩) b ys := Heap.IsTuple.push qb _
    wp_walk using wpAny_pyIter_list la, wpAny_pyIter_tuple lb
    exact ⟨_, rfl, h⟩
theorem call_zm {P : Program} {w : World} {A : Around} {E : Value → Shared → Prop} {s : Shared} {a b : Addr} {xs ys : Array Value} {Q : Value → Shared → Prop} (qa : s.heap.IsList a xs) (qb : s.heap.IsTuple b ys)
    (fin : ∀ h', IsZip h' (s.heap.objs.size + 4) (s.heap.objs.size + 2) (s.heap.objs.size + 3) .none → IsPair h' (s.heap.objs.size + 2) (.ref s.heap.objs.size) (.ref (s.heap.objs.size + 1)) →
      IsPair h' (s.heap.objs.size + 3) .none .none → h'.IsListIter s.heap.objs.size a 0 → h'.IsTupleIter (s.heap.objs.size + 1) b 0 →
      (∀ c o, s.heap.get? c = some o → h'.get? c = some o) → Q (.ref (s.heap.objs.size + 4)) { s with heap := h' }) :
    wpAny (model P w) A (call (.type "zip") [.ref a, .ref b]) Q E s := by
  refine callType_new F.called_zip (by decide) (F.typeCall_zip_2 _ _) (F.newCall_zip_2 _ _) (fun o => F.args_object_init_3 o _ _) F.entry_zip_new (meets_zm a b xs ys) ⟨qa, qb, ?_⟩
  have z1 : (zm1 s.heap a).objs.size = s.heap.objs.size + 1 := Heap.size_push ..
  have z2 : (zm2 s.heap a b).objs.size = s.heap.objs.size + 2 := by rw [Heap.size_push, z1]
  have z3 : (zm3 s.heap a b).objs.size = s.heap.objs.size + 3 := by rw [Heap.size_push, z2]
  have z4 : (zm4 s.heap a b).objs.size = s.heap.objs.size + 4 := by rw [Heap.size_push, z3]
  have pu : ∀ (h : Heap) (n : Obj) (c : Addr) (o : Obj), h.get? c = some o → (h.push n).get? c = some o := fun h n c o e => Heap.get?_push_of_some _ e
  have f5 : (zm5 s.heap a b).get? (zm4 s.heap a b).objs.size = some _ := Heap.get?_push_size _ rfl
  have f4 : (zm5 s.heap a b).get? (zm3 s.heap a b).objs.size = some _ := pu _ _ _ _ (Heap.get?_push_size _ rfl)
  have f3 : (zm5 s.heap a b).get? (zm2 s.heap a b).objs.size = some _ := pu _ _ _ _ (pu _ _ _ _ (Heap.get?_push_size _ rfl))
  have f2 : (zm5 s.heap a b).get? (zm1 s.heap a).objs.size = some _ := pu _ _ _ _ (pu _ _ _ _ (pu _ _ _ _ (Heap.get?_push_size _ rfl)))
  have f1 : (zm5 s.heap a b).get? s.heap.objs.size = some _ := pu _ _ _ _ (pu _ _ _ _ (pu _ _ _ _ (pu _ _ _ _ (Heap.get?_push_size _ rfl))))
  show _ ∧ _
  rw [z2, z3, z4] at f5
  rw [z1, z2] at f3
  rw [z3] at f4
  rw [z1] at f2
  rw [z4]
  exact ⟨⟨_, f5, rfl⟩, fin _ f5 f3 f4 ⟨_, f1, rfl, rfl⟩ ⟨_, f2, rfl, rfl⟩ fun c o e => pu _ _ _ _ (pu _ _ _ _ (pu _ _ _ _ (pu _ _ _ _ (pu _ _ _ _ e))))⟩
section
variable {P : Program} {w : World} {K : PySem.W.Frag} {elts : List Expr} {kk : Nat} {tpos : Pos} {a b z ti to i1 i2 : Addr}
theorem turn_zm (D : ZipApart z ti to i1 i2 a b) : Turn P w K (.Tuple elts kk tpos) (ItF (fun H xs => SqL K H a xs) fun H ys => SqT K H b ys) [z, ti, to, i1, i2] z
    (fun i h => IsZip h z ti to .none ∧ IsPair h ti (.ref i1) (.ref i2) ∧ (∃ x y, IsPair h to x y) ∧ h.IsListIter i1 a i ∧ h.IsTupleIter i2 b i) where
  mem := List.mem_cons_self ..
  obj := fun i h ⟨oz, oti, ⟨_, _, oto⟩, ⟨o1, e1, _, d1⟩, ⟨o2, e2, _, d2⟩⟩ c hc => by
    rcases five hc with q | q | q | q | q <;> rw [q]
    · exact ⟨_, oz, fun v q => nomatch q⟩
    · exact ⟨_, oti, fun v q => nomatch q⟩
    · exact ⟨_, oto, fun v q => nomatch q⟩
    · refine ⟨o1, e1, fun v q => ?_⟩
      rw [d1] at q
      cases q
    · refine ⟨o2, e2, fun v q => ?_⟩
      rw [d2] at q
      cases q
  keep := fun i h h' ⟨oz, oti, ⟨p, q, oto⟩, n1, n2⟩ k => by
    have m : ∀ c ∈ [z, ti, to, i1, i2], ∀ o, h.get? c = some o → h'.get? c = some o := k
    exact ⟨m z (by simp) _ oz, m ti (by simp) _ oti, ⟨p, q, m to (by simp) _ oto⟩, n1.at fun o e => m i1 (by simp) o e, n2.at fun o e => m i2 (by simp) o e⟩
  self := fun A i s Q E st h => wpAny_pyIter_zip st.1 h
  done := by
    intro X eP ew eK hc i pins s σ H E I hf ⟨oz, oti, ⟨p0, q0, oto⟩, n1, n2⟩ ⟨xs, ys, sx, sy, over⟩
    subst eP ew eK
    obtain ⟨us, va, ta, _⟩ := I.list sx
    obtain ⟨us2, vb, tb, _⟩ := I.tuple sy
    have over' : us.toArray[i]? = none ∨ us2.toArray[i]? = none := by
      have e1 := va.length
      have e2 := vb.length
      rcases over with q | q
      · exact .inl (by simp; omega)
      · exact .inr (by simp; omega)
    refine sides_over (I.ok.hd hc) D (side_list i1 a us.toArray) (side_tuple i2 b us2.toArray) oz oti oto n1 n2 ta.isList tb over' fun h' hk => ⟨rfl, I.turnedL (t' := s.toks) (ch := [z, ti, to, i1, i2]) (fun c o hb q => ?_) hf⟩
    have n : c ≠ z ∧ c ≠ ti ∧ c ≠ to ∧ c ≠ i1 ∧ c ≠ i2 := by simpa using hb
    exact hk c o n.1 n.2.2.1 n.2.2.2.1 n.2.2.2.2 q
  item := by
    intro X eP ew eK hc i pins s σ H E I hf ⟨oz, oti, ⟨p0, q0, oto⟩, n1, n2⟩ ⟨xs, ys, l, r, sx, sy, gl, gr⟩
    subst eP ew eK
    obtain ⟨us, va, ta, _⟩ := I.list sx
    obtain ⟨us2, vb, tb, _⟩ := I.tuple sy
    obtain ⟨u, gu, ru⟩ := va.get gl
    obtain ⟨u2, gu2, ru2⟩ := vb.get gr
    have lz : z < s.heap.objs.size := Heap.lt_size oz
    refine sides_next D (side_list i1 a us.toArray) (side_tuple i2 b us2.toArray) oz oti oto n1 n2 ta.isList tb (x := u) (y := u2) (by simpa using gu) (by simpa using gu2) fun h1 z1 to1 m1 m2 nt hk => ⟨_, rfl, wpAny_letOwnedTupleGo_zip (s := { s with heap := h1 }) z1 fun h2 z2 sb => ?_⟩
    have I1 := pair_new (ch := [z, ti, to, i1, i2]) (h' := h2) I hf ((sb.2 _ (Nat.ne_of_gt lz)).trans nt) ru ru2 fun c o hb q => by
      have n : c ≠ z ∧ c ≠ ti ∧ c ≠ to ∧ c ≠ i1 ∧ c ≠ i2 := by simpa using hb
      exact (sb.2 c n.1).trans (hk c o n.1 n.2.2.1 n.2.2.2.1 n.2.2.2.2 q)
    refine ⟨.ref s.heap.objs.size, _, I1, rfl, ⟨_, _, l, r, rfl, I.hok.fresh (Nat.le_refl _), rfl, rfl, rfl, fun zs q => by rw [I.list_inj q sx]; exact gl, fun zs q => by rw [I.tuple_inj q sy]; exact gr⟩,
      ⟨z2, (sb.2 _ D.TIz).trans (hk _ _ D.TIz D.TITO D.TIi1 D.TIi2 oti), ⟨u, u2, (sb.2 _ D.TOz).trans to1⟩, m1.at fun o q => (sb.2 _ D.i1z).trans q, m2.at fun o q => (sb.2 _ D.i2z).trans q⟩, fun c hcm => ?_⟩
    have lt : c < s.heap.objs.size := by
      obtain ⟨_, k1, _⟩ := n1
      obtain ⟨_, k2, _⟩ := n2
      rcases five hcm with q | q | q | q | q <;> rw [q]
      · exact lz
      · exact Heap.lt_size oti
      · exact Heap.lt_size oto
      · exact Heap.lt_size k1
      · exact Heap.lt_size k2
    rw [upd_ne (Nat.ne_of_lt lt)]
    exact (hf c hcm).1
end
section
variable {X : Cx} {e e2 : Expr} {ta : TA} {p pos tpos : Pos} {elts : List Expr} {kk : Nat}
theorem pi_zm (hg : Gl X "zip") (hm : X.mg "zip" = none) (ha : PA X [e, e2] ta)
    (hs : starEach [e, e2] X.env = (false, eval e X.env) :: starEach [e2] X.env := by rfl) (hpl : (backTo pos (starEach [e2] X.env)).any (·.1) = false := by rfl) :
    PI X (.Tuple elts kk tpos) (.Call (.Name "zip" p) [e, e2] [] pos) (fun σ H R => ta σ H fun vs H1 => ∃ a b xs ys, vs = [.ref a, .ref b] ∧ SqL X.K H1 a xs ∧ SqT X.K H1 b ys ∧ R (ItF (fun H xs => SqL X.K H a xs) fun H ys => SqT X.K H b ys) H1) := by
  refine ⟨fun pins s σ H R I h => Call_ (ld_blt I hg hm PyProof.Rows.boot_zip (PyProof.Rows.callWith_type1 (thn (ha.run pos pins s σ H _ I h) fun us s1 ⟨vs, H1, I1, rr, a, b, xs, ys, ev, sx, sy, q⟩ => ?_) hs hpl))⟩
  subst ev
  obtain ⟨u, u2, eu, ra, rb⟩ := vals2 rr
  subst eu
  obtain rfl : u = .ref a := ra
  obtain rfl : u2 = .ref b := rb
  have fp : ∀ c ∈ [s1.heap.objs.size + 4, s1.heap.objs.size + 2, s1.heap.objs.size + 3, s1.heap.objs.size, s1.heap.objs.size + 1], FpOk X pins H1 c := fun c hc => by
    have le : s1.heap.objs.size ≤ c := by
      rcases five hc with q | q | q | q | q <;> rw [q]
      · exact Nat.le_add_right _ _
      · exact Nat.le_add_right _ _
      · exact Nat.le_add_right _ _
      · exact Nat.le_refl _
      · exact Nat.le_add_right _ _
    exact I1.fpOk le (I1.hok.fresh le)
  obtain ⟨us, _, ta, _⟩ := I1.list sx
  obtain ⟨us2, _, tb, _⟩ := I1.tuple sy
  have lb : b < s1.heap.objs.size := by obtain ⟨o, k, _⟩ := tb; exact Heap.lt_size k
  refine call_zm ta.isList (show s1.heap.IsTuple b us2.toArray from tb) fun h' oz oti oto n1 n2 hk => wpAny_pyIter_zip oz ?_
  exact ⟨_, [s1.heap.objs.size + 4, s1.heap.objs.size + 2, s1.heap.objs.size + 3, s1.heap.objs.size, s1.heap.objs.size + 1], _, _, H1, rfl, I1.kept (t' := s1.toks) hk, turn_zm (PySem.W.ktu_apart s1.heap.objs.size a b ta.lt lb), ⟨oz, oti, ⟨_, _, oto⟩, n1, n2⟩, fp, q⟩
end
/-- zip of a list with a tuple -/
def zipM : List D → R (List D)
  | [.lst xs, .tup ys] => .ok (zipD xs ys)
  | _ => .st
theorem zipM_cases (ds : List D) : (∃ xs ys, ds = [.lst xs, .tup ys] ∧ zipM ds = .ok (zipD xs ys)) ∨ zipM ds = .st := by
  unfold zipM
  split
  · exact .inl ⟨_, _, rfl, rfl⟩
  · exact .inr rfl
def mZipM (mr : En → R (List D)) : En → R (List D) := fun env => (mr env).bind zipM
section
variable {g : G0} {x : L2.St → Prop} {W : WX} {X : Cx} {e e2 : Expr} {p pos tpos : Pos} {elts : List Expr} {kk : Nat} {mr : En → R (List D)}
theorem di_zipM (hg : Gl X "zip") (hm : X.mg "zip" = none) (ha : PAd g x W X [e, e2] mr)
    (hs : starEach [e, e2] X.env = (false, eval e X.env) :: starEach [e2] X.env := by rfl) (hpl : (backTo pos (starEach [e2] X.env)).any (·.1) = false := by rfl) : PId g x W X (.Tuple elts kk tpos) (.Call (.Name "zip" p) [e, e2] [] pos) (mZipM mr) :=
  weakI (pi_zm hg hm ha hs hpl) fun σ H Rn ⟨env, Z, er, hp⟩ => by
    refine ⟨env, Z, er, ?_⟩
    unfold mZipM at hp
    cases em : mr env with
    | ok ds =>
      rw [em] at hp
      have hp : PostI X.K g W Z σ H Rn (zipM ds) := hp
      intro vs H' k r
      rcases zipM_cases ds with ⟨xs, ys, ed, ez⟩ | ez
      · rw [ez] at hp
        subst ed
        obtain ⟨v, _, e1, q1, r2⟩ := RepL.cons_.mp r
        obtain ⟨v2, _, e3, q2, r3⟩ := RepL.cons_.mp r2
        have e4 := RepL.nil_.mp r3
        subst e1 e3 e4
        obtain ⟨a, us, e5, rd, rr⟩ := Rep.lst_.mp q1
        obtain ⟨b, ws, e6, rd2, rr2⟩ := Rep.tup_.mp q2
        subst e5 e6
        exact ⟨a, b, us, ws, rfl, rd.sq, rd2.sqT, hp _ H' k (walk_zipF rr rr2 (fun H2 k2 => (k2.ls rd).sq) fun H2 k2 => (k2.tu rd2).sqT)⟩
      · rw [ez] at hp
        exact hp.elim
    | ex c p => rw [em] at hp; exact hp
    | st => rw [em] at hp; exact hp.elim
end
end DL
set_option Elab.async false
set_option linter.all false
set_option maxRecDepth 100000
namespace DL
open PySem PySem.Spec L2
open PyProof.Rows hiding St

/-! ### objects that do not change: attributes, constants of the class, methods -/
def fFld (tab : Nat → Option Nat) : D → R Sl
  | .obj c fs => match tab c with
    | some i => match fs[i]? with
      | some d => .ok (.fr d)
      | none => .st
    | none => .st
  | _ => .st
def fCon (tab : Nat → Option D) : D → R Sl
  | .obj c _ => match tab c with
    | some d => .ok (.fr d)
    | none => .st
  | _ => .st
/-- the attribute f stands at place i of the objects of class c -/
structure FldC (K : PySem.W.Frag) (g : G0) (f : Str) (c i : Nat) : Prop where
  cls : Cls K (g.cl c)
  na : NoAttr K (g.cl c) f
  nd : (g.fl c).Nodup
  at_ : (g.fl c)[i]? = some f
theorem lookup_zip : ∀ {ns : List Str} {vs : List V} {i : Nat} {f : Str} {v : V}, ns.Nodup → ns.length = vs.length → ns[i]? = some f → vs[i]? = some v → (ns.zip vs).lookup f = some v
  | [], vs, i, f, v, _, _, h, _ => by simp at h
  | n :: ns, [], i, f, v, _, h, _, _ => by cases h
  | n :: ns, u :: vs, 0, f, v, nd, hl, h1, h2 => by
    simp only [List.getElem?_cons_zero, Option.some.injEq] at h1 h2
    subst h1 h2
    rw [List.zip_cons_cons, List.lookup_cons]
    simp
  | n :: ns, u :: vs, i + 1, f, v, nd, hl, h1, h2 => by
    rw [List.getElem?_cons_succ] at h1 h2
    have hne : f ≠ n := fun e => (List.nodup_cons.mp nd).1 (by rw [← e]; exact List.mem_of_getElem? h1)
    rw [List.zip_cons_cons, List.lookup_cons, show (f == n) = false from beq_eq_false_iff_ne.mpr hne]
    exact lookup_zip (List.nodup_cons.mp nd).2 (by simpa using hl) h1 h2
theorem lookup_zip_none : ∀ {ns : List Str} {vs : List V} {f : Str}, f ∉ ns → (ns.zip vs).lookup f = none
  | [], vs, f, _ => by simp
  | n :: ns, [], f, _ => by simp
  | n :: ns, u :: vs, f, h => by
    rw [List.zip_cons_cons, List.lookup_cons, show (f == n) = false from beq_eq_false_iff_ne.mpr fun e => h (by rw [e]; exact List.mem_cons_self)]
    exact lookup_zip_none fun m => h (List.mem_cons_of_mem _ m)
theorem RepB.obj_ {K : PySem.W.Frag} {g : G0} {H : Hp} {Z : Av} {c : Nat} {fs : List D} {v : V} (h : RepB K g H Z (.obj c fs) v) : Rep K g H Z (.obj c fs) v := h.elim id fun ⟨_, _, _, e, _⟩ => by cases e
section
variable {g : G0} {x : L2.St → Prop} {W : WX} {X : Cx} {a e : Expr} {es : List Expr} {pos apos : Pos} {ma : B} {mo : M} {mr : En → R (List D)} {f : Str}
theorem de_fld {tab : Nat → Option Nat} (h : ∀ c i, tab c = some i → FldC X.K g f c i) (ha : PBd g x W X a ma) (hb : attributeBase a f X.env (eval a X.env) = eval a X.env := by rfl) : PEd g x W X (.Attribute a f pos) (mUn (fFld tab) ma) :=
  weakE (pe_fld ha hb) fun σ H Q ⟨env, Z, er, hp⟩ => useB er hp fun d v H1 e1 k1 r1 hp1 => by
    unfold fFld at hp1
    cases d with
    | obj c fs =>
      cases et : tab c with
      | none => simp only [et] at hp1; exact hp1.elim
      | some i =>
        simp only [et] at hp1
        cases ef : fs[i]? with
        | none => simp only [ef] at hp1; exact hp1.elim
        | some d =>
          simp only [ef] at hp1
          obtain ⟨p, dx, vs, ev, nz, hH, hl, rr⟩ := Rep.obj_.mp r1.obj_
          obtain ⟨u, hu, ru⟩ := rr.get ef
          have F := h c i et
          exact ⟨p, _, dx, _, u, ev, hH, F.cls, F.na, lookup_zip F.nd hl F.at_ hu, hp1 u H1 (Same.refl _) ru⟩
    | _ => exact hp1.elim
/-- a constant of the class -/
structure ConC (K : PySem.W.Frag) (g : G0) (f : Str) (c : Nat) (d : D) : Prop where
  cls : Cls K (g.cl c)
  con : ∃ v u, Con K (g.cl c) f v u ∧ ∀ (H : Hp) (Z : Av), Rep K g H Z d v
  nf : f ∉ g.fl c
theorem de_con {tab : Nat → Option D} (h : ∀ c d, tab c = some d → ConC X.K g f c d) (ha : PBd g x W X a ma) (hb : attributeBase a f X.env (eval a X.env) = eval a X.env := by rfl) : PEd g x W X (.Attribute a f pos) (mUn (fCon tab) ma) :=
  weakE (pe_con ha hb) fun σ H Q ⟨env, Z, er, hp⟩ => useB er hp fun d v H1 e1 k1 r1 hp1 => by
    unfold fCon at hp1
    cases d with
    | obj c fs =>
      cases et : tab c with
      | none => simp only [et] at hp1; exact hp1.elim
      | some d =>
        simp only [et] at hp1
        obtain ⟨p, dx, vs, ev, nz, hH, hl, rr⟩ := Rep.obj_.mp r1.obj_
        have C := h c d et
        obtain ⟨u, cv, con, rep⟩ := C.con
        exact ⟨p, _, dx, _, u, cv, ev, hH, C.cls, con, lookup_zip_none C.nf, hp1 u H1 (Same.refl _) (rep _ _)⟩
    | _ => exact hp1.elim
end

/-! ### calls of methods -/
section
variable {X : Cx} {CX : CXT} {E : St → XK} {m : Str} {p pos apos : Pos} {e o : Expr} {es : List Expr} {ta : TE} {t : TA}
def tMethV (X : Cx) (CX : CXT) (m : Str) (E : St → XK) (ta : TE) (t : TA) : TE := fun σ H Q => ta σ H fun x H1 => ∃ a C dx fs f fd ps sp k, x = .ref a ∧ H1 a = some (.ins C dx fs) ∧ Cls X.K C ∧ Meth X.K C m f ∧
  FnOk X.prog X.w X.K X.mg X.base CX k f fd ps sp ∧ Room k X.A ∧ Binds X.K fd ps [] ∧ fs.lookup m = none ∧ t σ H1 fun vs H2 => sp (x :: vs) H2 Q (E σ)
theorem pe_methV {pl : Sem Bool} (he : PE X o ta) (hx : ∀ σ, PassesAt CX X σ (E σ)) (ha : PA X (e :: es) t)
    (hst : starEach (e :: es) X.env = (false, eval e X.env) :: starEach es X.env := by rfl) (hpl : (backTo pos (starEach (e :: es) X.env)).any (·.1) = false := by rfl)
    (hpl2 : (backTo pos (starEach es X.env)).any (·.1) = false := by rfl)
    (ht : eval (.Call (.Attribute o m apos) (e :: es) [] pos) X.env = (do
      let ov ← eval o X.env
      standAt apos.atName
      let (f, first) ← holding [ov] (getMethod ov m pl)
      callWith pos f first (backTo pos (starEach (e :: es) X.env)) (backToKw pos (keywordEach [] X.env))) := by rfl) :
    PE X (.Call (.Attribute o m apos) (e :: es) [] pos) (tMethV X CX m E ta t) := by
  refine ⟨fun pins s σ H Q I h => ?_⟩
  refine PySem.W.methodCall_KW (pl := pl) (thn (he.run pins s σ H _ I h) fun u s1 ⟨x, H1, I1, rx, a, C, dx, fs, f, fd, ps, sp, k, ex, ea, c, hm, F, hr, hb, l, q⟩ => ?_) ht
  subst ex
  obtain rfl : u = Value.ref a := rx
  refine getmeth_ok I1 ea c hm l ?_
  refine PySem.W.callWith_K (first := [.ref a]) (h₀ := X.base) I.ok.mod.kin hm.kp (thn (ha.run pos pins s1 σ H1 _ I1 q) fun us s2 ⟨vs, H2, I2, r, q2⟩ => ⟨I2.kIn, ?_⟩) hst hpl2
  exact run_fnS (us := .ref a :: us) (vs := .ref a :: vs) F hr hb (hx σ) I2 (.cons rfl r) q2
theorem pe_methV0 {pl : Sem Bool} (he : PE X o ta) (hx : ∀ σ, PassesAt CX X σ (E σ))
    (ht : eval (.Call (.Attribute o m apos) [] [] pos) X.env = (do
      let ov ← eval o X.env
      standAt apos.atName
      let (f, first) ← holding [ov] (getMethod ov m pl)
      callWith pos f first (backTo pos (starEach [] X.env)) (backToKw pos (keywordEach [] X.env))) := by rfl) :
    PE X (.Call (.Attribute o m apos) [] [] pos) (tMethV X CX m E ta tNil) := by
  refine ⟨fun pins s σ H Q I h => ?_⟩
  refine PySem.W.methodCall_KW (pl := pl) (thn (he.run pins s σ H _ I h) fun u s1 ⟨x, H1, I1, rx, a, C, dx, fs, f, fd, ps, sp, k, ex, ea, c, hm, F, hr, hb, l, q⟩ => ?_) ht
  subst ex
  obtain rfl : u = Value.ref a := rx
  refine getmeth_ok I1 ea c hm l ?_
  exact PySem.W.callWith_K0 (first := [.ref a]) I1.kIn hm.kp (run_fnS (us := [.ref a]) (vs := [.ref a]) F hr hb (hx σ) I1 (.cons rfl .nil) q)
end
/-- the method m of the objects of class c keeps f -/
structure MD (P : Program) (w : World) (K : PySem.W.Frag) (mg : Str → Option Value) (base : Heap) (g : G0) (k : Nat) (m : Str) (c : Nat) (f : Fn) : Prop where
  ex : ∃ a fd ps, Cls K (g.cl c) ∧ Meth K (g.cl c) m a ∧ m ∉ g.fl c ∧ Binds K fd ps [] ∧ FnOk P w K mg base (L2.CX P w) k a fd ps (Prom K g f)
theorem MD.mono {P : Program} {w : World} {K : PySem.W.Frag} {mg : Str → Option Value} {base : Heap} {g : G0} {j k : Nat} {m : Str} {c : Nat} {f : Fn} (F : MD P w K mg base g j m c f) (h : j ≤ k) : MD P w K mg base g k m c f := by
  obtain ⟨a, fd, ps, h1, h2, h3, h4, h5⟩ := F.ex
  exact ⟨a, fd, ps, h1, h2, h3, h4, h5.mono h⟩
def mMeth (tab : Nat → Option Fn) (mo : M) (mr : En → R (List D)) : M := fun env => (mo env).bind fun o => match o.d with
  | .obj c fs => match tab c with
    | some f => (mr env).bind fun xs => f (.obj c fs :: xs)
    | none => .st
  | _ => .st
section
variable {g : G0} {x : L2.St → Prop} {W : WX} {X : Cx} {o e : Expr} {es : List Expr} {pos apos : Pos} {mo : M} {mr : En → R (List D)} {m : Str} {k : Nat} {tab : Nat → Option Fn}
theorem meth_run {σ : L2.St} {H : Hp} {Q : VK} {mr : En → R (List D)} {t : TA} (hM : ∀ c f, tab c = some f → MD X.prog X.w X.K X.mg X.base g k m c f) (hr : Room k X.A)
    (ht : ∀ σ H (q : List V → Hp → Prop), tA X.K g x W mr σ H q → t σ H q) (h : tM X.K g x W (mMeth tab mo mr) σ H Q) : tMethV X (L2.CX X.prog X.w) m (WE W) (tM X.K g x W mo) t σ H Q := by
  obtain ⟨env, Z, er, hp⟩ := h
  refine use1 (m := mo) (f := fun o => match o.d with
    | .obj c fs => match tab c with
      | some f => (mr env).bind fun xs => f (.obj c fs :: xs)
      | none => .st
    | _ => .st) er hp fun s v H1 e1 k1 r1 hp1 => ?_
  cases ed : s.d with
  | obj c fs =>
    simp only [ed] at hp1
    rw [ed] at r1
    cases et : tab c with
    | none => simp only [et] at hp1; exact hp1.elim
    | some f =>
      simp only [et] at hp1
      obtain ⟨p, dx, vs, ev, nz, hH, hl, rr⟩ := Rep.obj_.mp r1
      obtain ⟨a, fd, ps, h1, h2, h3, h4, h5⟩ := (hM c f et).ex
      refine ⟨p, _, dx, _, a, fd, ps, _, k, ev, hH, h1, h2, h5, hr, h4, lookup_zip_none h3, ht _ _ _ ?_⟩
      exact useA (er.mono k1) hp1 fun ds ws H2 e2 k2 r2 hp2 => ⟨Z, .obj c fs :: ds, dom_mono (k1.trans k2) er.dom, RepL.cons_.mpr ⟨v, ws, rfl, Rep.mono (.same_ k2) _ _ r1, r2⟩, postW hp2⟩
  | _ => simp only [ed] at hp1; exact hp1.elim
theorem de_meth {pl : Sem Bool} (hM : ∀ c f, tab c = some f → MD X.prog X.w X.K X.mg X.base g k m c f) (hr : Room k X.A) (tk : Takes X W) (ho : PEd g x W X o mo) (ha : PAd g x W X (e :: es) mr)
    (hst : starEach (e :: es) X.env = (false, eval e X.env) :: starEach es X.env := by rfl) (hpl : (backTo pos (starEach (e :: es) X.env)).any (·.1) = false := by rfl)
    (hpl2 : (backTo pos (starEach es X.env)).any (·.1) = false := by rfl)
    (ht : eval (.Call (.Attribute o m apos) (e :: es) [] pos) X.env = (do
      let ov ← eval o X.env
      standAt apos.atName
      let (f, first) ← holding [ov] (getMethod ov m pl)
      callWith pos f first (backTo pos (starEach (e :: es) X.env)) (backToKw pos (keywordEach [] X.env))) := by rfl) :
    PEd g x W X (.Call (.Attribute o m apos) (e :: es) [] pos) (mMeth tab mo mr) :=
  weakE (pe_methV (E := WE W) ho (fun σ => passAt tk σ) ha hst hpl hpl2 ht) fun σ H Q h => meth_run hM hr (fun _ _ _ h => h) h
theorem de_meth0 {pl : Sem Bool} (hM : ∀ c f, tab c = some f → MD X.prog X.w X.K X.mg X.base g k m c f) (hr : Room k X.A) (tk : Takes X W) (ho : PEd g x W X o mo)
    (ht : eval (.Call (.Attribute o m apos) [] [] pos) X.env = (do
      let ov ← eval o X.env
      standAt apos.atName
      let (f, first) ← holding [ov] (getMethod ov m pl)
      callWith pos f first (backTo pos (starEach [] X.env)) (backToKw pos (keywordEach [] X.env))) := by rfl) :
    PEd g x W X (.Call (.Attribute o m apos) [] [] pos) (mMeth tab mo mNil) :=
  weakE (pe_methV0 (E := WE W) ho (fun σ => passAt tk σ) ht) fun σ H Q h => meth_run hM hr (fun σ H q ⟨env, Z, er, hp⟩ => hp [] H (Same.refl _) (RepL.nil_.mpr rfl)) h
end

/-! ### a new object -/
/-- what an __init__ does: from its arguments the attributes' values -/
def PromI (K : PySem.W.Frag) (g : G0) (c : Nat) (f : List D → R (List D)) : Sp := fun vs H Q E => ∃ (a dx : Addr) (rest : List V) (H1 : Hp) (Z : Av) (ds : List D), vs = .ref a :: rest ∧ H1 a = none ∧ H1 dx = none ∧ dx ≠ a ∧
  H = upd (upd H1 dx (.own a)) a (.ins (g.cl c) dx []) ∧ (∀ b, Z b → H1 b ≠ none) ∧ RepL K g H1 Z ds rest ∧
  match f ds with
  | .ok fs => ∀ ws H', Same H1 H' → H' a = some (.ins (g.cl c) dx ((g.fl c).zip ws)) → (g.fl c).length = ws.length → RepL K g H' (fun b => Z b ∨ b = a) fs ws → Q .non H'
  | .ex e p => ∀ H' dd, Same H1 H' → ExP K g H' Z p dd → E (.ref (g.cl e)) dd H'
  | .st => False
structure CD (P : Program) (w : World) (K : PySem.W.Frag) (mg : Str → Option Value) (base : Heap) (g : G0) (k : Nat) (y : Str) (c : Nat) (f : List D → R (List D)) : Prop where
  ex : ∃ a fd ps, mg y = some (.ref (g.cl c)) ∧ Mk K (g.cl c) a ∧ Binds K fd ps [] ∧ FnOk P w K mg base (L2.CX P w) k a fd ps (PromI K g c f)
theorem CD.mono {P : Program} {w : World} {K : PySem.W.Frag} {mg : Str → Option Value} {base : Heap} {g : G0} {j k : Nat} {y : Str} {c : Nat} {f : List D → R (List D)} (F : CD P w K mg base g j y c f) (h : j ≤ k) : CD P w K mg base g k y c f := by
  obtain ⟨a, fd, ps, h1, h2, h4, h5⟩ := F.ex
  exact ⟨a, fd, ps, h1, h2, h4, h5.mono h⟩
def fNew (c : Nat) (f : List D → R (List D)) : Fn := fun ds => (f ds).bind fun fs => .ok (.fr (.obj c fs))
section
variable {X : Cx} {CX : CXT} {k : Nat} {f C : Addr} {fd : FuncData} {ps : List Str} {sp : Sp} {E : St → XK} {x : Str} {p pos : Pos} {e : Expr} {es : List Expr} {t : TA}
def tMakeS (C : Addr) (sp : Sp) (E : St → XK) (t : TA) : TE := fun σ H Q => t σ H fun vs H1 => ∀ x dx, H1 x = none → H1 dx = none → dx ≠ x → sp (.ref x :: vs) (upd (upd H1 dx (.own x)) x (.ins C dx [])) (fun v H2 => v = .non ∧ Q (.ref x) H2) (E σ)
theorem run_makeS {pins : List (Addr × Obj)} {σ : St} {H : Hp} {s : Shared} {Q : VK} {us : List Value} {vs : List V} (M : Mk X.K C f) (F : FnOk X.prog X.w X.K X.mg X.base CX k f fd ps sp) (hr : Room (k + 1) X.A) (hb : Binds X.K fd ps [])
    (hx : PassesAt CX X σ (E σ)) (I : Inv X pins σ H s) (r : Vals vs us)
    (h : ∀ x dx, H x = none → H dx = none → dx ≠ x → sp (.ref x :: vs) (upd (upd H dx (.own x)) x (.ins C dx [])) (fun v H2 => v = .non ∧ Q (.ref x) H2) (E σ)) :
    wpAny (model X.prog X.w) X.A (call (.ref C) us) (EP X pins σ Q) X.xe s := by
  have hq := h (s.heap.objs.size + 1) s.heap.objs.size (I.hok.fresh (Nat.le_succ _)) (I.hok.fresh (Nat.le_refl _)) (Nat.ne_of_lt (Nat.lt_succ_self _))
  have I2 := Inv.made (C := C) I
  have r2 : Vals (V.ref (s.heap.objs.size + 1) :: vs) (Value.ref (s.heap.objs.size + 1) :: us) := .cons rfl r
  have hl : (Value.ref (s.heap.objs.size + 1) :: us).length = ps.length := by
    have e := r2.length
    rw [F.len _ _ _ _ hq] at e
    exact e.symm
  have b := hb _ (Value.ref (s.heap.objs.size + 1) :: us) I2.kIn (by rw [List.append_nil]; exact hl)
  rw [List.append_nil] at b
  refine wpAny_call (make_map (f := f) I.kIn M.makes M.init (beq_iff_eq.mp M.fn) (codeAny_mono (F.run _ X.stack _ _ ⟨Value.ref (s.heap.objs.size + 1) :: us, []⟩ (Value.ref (s.heap.objs.size + 1) :: us) _ _ (E σ) (hr.make C us [])
    (I2.env0.make C us []) b r2 hq) fun r s' hq' => ?_))
  cases r with
  | error e => exact hx pins _ _ e s' I2 hq'
  | ok fl =>
    cases fl with
    | ret u =>
      obtain ⟨v, H', I3, rv, ev, q3⟩ := I2.after hq'
      subst ev
      exact ⟨rv, ⟨V.ref (s.heap.objs.size + 1), H', I3, rfl, q3⟩⟩
    | next => exact False.elim hq'
    | brk => exact False.elim hq'
    | cont => exact False.elim hq'
theorem pe_makeS (M : Mk X.K C f) (F : FnOk X.prog X.w X.K X.mg X.base CX k f fd ps sp) (hr : Room (k + 1) X.A) (hg : Gl X x) (hm : X.mg x = some (.ref C)) (hb : Binds X.K fd ps []) (hx : ∀ σ, PassesAt CX X σ (E σ))
    (ha : PA X (e :: es) t) (hdb : (x == ("__debug__" : Str)) = false := by decide) (he : starEach (e :: es) X.env = (false, eval e X.env) :: starEach es X.env := by rfl) (hpl : (backTo pos (starEach es X.env)).any (·.1) = false := by rfl) :
    PE X (.Call (.Name x p) (e :: es) [] pos) (tMakeS C sp E t) := by
  refine ⟨fun pins s σ H Q I h => ?_⟩
  refine wpAny_Call_Name_kw (ld_glob I hg hm ?_ hdb)
  refine PySem.W.callWith_K (h₀ := X.base) I.ok.mod.kin M.kp (thn (ha.run pos pins s σ H _ I h) fun us s1 ⟨vs, H1, I1, r, q⟩ => ⟨I1.kIn, ?_⟩) he hpl
  exact run_makeS M F hr hb (hx σ) I1 r q
end
section
variable {g : G0} {x : L2.St → Prop} {W : WX} {X : Cx} {e : Expr} {es : List Expr} {mr : En → R (List D)} {pos p : Pos}
theorem de_new {k c : Nat} {y : Str} {f : List D → R (List D)} (F : CD X.prog X.w X.K X.mg X.base g k y c f) (hr : Room (k + 1) X.A) (tk : Takes X W) (hg : Gl X y) (ha : PAd g x W X (e :: es) mr)
    (hdb : (y == ("__debug__" : Str)) = false := by decide) (he : starEach (e :: es) X.env = (false, eval e X.env) :: starEach es X.env := by rfl) (hpl : (backTo pos (starEach es X.env)).any (·.1) = false := by rfl) :
    PEd g x W X (.Call (.Name y p) (e :: es) [] pos) (mCall (fNew c f) mr) := by
  obtain ⟨a, fd, ps, hm, hk, hb, hF⟩ := F.ex
  exact weakE (pe_makeS hk hF hr hg hm hb (fun σ => passAt tk σ) ha hdb he hpl) fun σ H Q ⟨env, Z, er, hp⟩ =>
    useA er hp fun ds vs H1 e1 k1 r1 hp1 => fun q dx nq ndx nex => by
      refine ⟨q, dx, vs, H1, Z, ds, rfl, nq, ndx, nex, rfl, dom_mono k1 er.dom, r1, ?_⟩
      unfold fNew at hp1
      cases ef : f ds with
      | ok fs =>
        rw [ef] at hp1
        exact fun ws H' k hq hl rr => ⟨rfl, hp1 _ _ k (Rep.obj_.mpr ⟨q, dx, ws, rfl, fun z => dom_mono k1 er.dom q z nq, hq, hl, RepL.mono (.of (Same.refl _) fun b _ z => .inl z) _ _ rr⟩)⟩
      | ex c p => rw [ef] at hp1; exact fun H' dd k q => hp1 H' dd k q
      | st => rw [ef] at hp1; exact hp1.elim
end
end DL
set_option Elab.async false
set_option linter.all false
set_option maxRecDepth 100000
namespace DL
open PySem PySem.Spec L2
open PyProof.Rows hiding St

/-! ### __init__: attributes are stored one by one into the new object -/
inductive RI where
  | nx (e : En) (fs : List D) | ex (c : Nat) (p : Pl) | st
abbrev MI := En → List D → RI
structure IRel (K : PySem.W.Frag) (g : G0) (A : Av) (H1 : Hp) (a dx : Addr) (c : Nat) (env : En) (fs : List D) (σ : L2.St) (H : Hp) : Prop where
  sr : ∃ Ha, SRel K g T (fun b => A b ∨ b = a) Ha env σ H ∧ Same H1 Ha
  ad : ∀ b, A b → H1 b ≠ none
  na : H1 a = none
  s0 : σ[0]? = some (some (.ref a))
  n0 : env[0]? = some none
  lim : fs.length ≤ (g.fl c).length
  cell : ∃ vs, H a = some (.ins (g.cl c) dx (((g.fl c).take fs.length).zip vs)) ∧ fs.length = vs.length ∧ RepL K g H (zz (fun b => A b ∨ b = a) env σ) fs vs
def PostJ (K : PySem.W.Frag) (g : G0) (W : WX) (A : Av) (H1 : Hp) (a dx : Addr) (c : Nat) (D : Ends) : RI → Prop
  | .nx e fs => ∀ σ' H', IRel K g A H1 a dx c e fs σ' H' → D.nx σ' H'
  | .ex e p => ∀ σ' H' dd, Same H1 H' → ExP K g H' A p dd → W (.ref (g.cl e)) dd σ' H'
  | .st => False
def tJ (K : PySem.W.Frag) (g : G0) (W : WX) (c : Nat) (m : MI) : TS := fun D σ H => ∃ env fs A H1 a dx, IRel K g A H1 a dx c env fs σ H ∧ PostJ K g W A H1 a dx c D (m env fs)
abbrev PSi (g : G0) (W : WX) (X : Cx) (c : Nat) (s : Stmt) (m : MI) : Prop := PS X s (tJ X.K g W c m)
abbrev PSsi (g : G0) (W : WX) (X : Cx) (c : Nat) (s : List Stmt) (m : MI) : Prop := PSs X s (tJ X.K g W c m)
def iNop : MI := fun env fs => .nx env fs
def iSeq (m n : MI) : MI := fun env fs => match m env fs with
  | .nx e fs => n e fs
  | r => r
def iIf (t : En → R Bool) (m n : MI) : MI := fun env fs => match t env with
  | .ok b => if b = true then m env fs else n env fs
  | .ex c p => .ex c p
  | .st => .st
def iSet (i : Nat) (m : M) : MI := fun env fs => match m env with
  | .ok s => .nx (env.set i (some s)) fs
  | .ex c p => .ex c p
  | .st => .st
def iDrop (m : M) : MI := fun env fs => match m env with
  | .ok _ => .nx env fs
  | .ex c p => .ex c p
  | .st => .st
def iRaise (c : Nat) : MI := fun _ _ => .ex c none
def iRaise1 (c : Nat) (m : M) : MI := fun env _ => match m env with
  | .ok _ => .ex c none
  | .ex c p => .ex c p
  | .st => .st
/-- self.f = e; f is the attribute number j -/
def iFld (j : Nat) (m : M) : MI := fun env fs => match m env with
  | .ok s => if fs.length = j then .nx env (fs ++ [s.d]) else .st
  | .ex c p => .ex c p
  | .st => .st
mutual
/-- neither a list nor an object is in it -/
def noref : D → Bool
  | .tup xs => norefL xs
  | .lst _ => false
  | .obj _ _ => false
  | .dct _ _ => false
  | _ => true
def norefL : List D → Bool
  | [] => true
  | d :: ds => noref d && norefL ds
end
/-- the object as it stands after j attributes is read: the class of this form is cp -/
def selfM (cp : Nat) (fs : List D) (m : M) : M := fun env => match m (env.set 0 (some (.fr (.obj cp fs)))) with
  | .ok (.fr d) => if noref d = true then .ok (.fr d) else .st
  | .ok (.ow xs) => if norefL xs = true then .ok (.ow xs) else .st
  | .ex c none => .ex c none
  | _ => .st
def iFldS (cp j : Nat) (m : M) : MI := fun env fs => if fs.length = j then iFld j (selfM cp fs m) env fs else .st
def iSetS (cp j i : Nat) (m : M) : MI := fun env fs => if fs.length = j then iSet i (selfM cp fs m) env fs else .st
section
variable {K : PySem.W.Frag} {g : G0} {H : Hp} {Z Z' : Av}
mutual
theorem noref_z : ∀ {d : D} {v : V}, noref d = true → Rep K g H Z d v → Rep K g H Z' d v
  | .non, v, _, h => by rw [Rep.non_] at h ⊢; exact h
  | .bl b, v, _, h => by rw [Rep.bl_] at h ⊢; exact h
  | .int i, v, _, h => by rw [Rep.int_] at h ⊢; exact h
  | .str x, v, _, h => by rw [Rep.str_] at h ⊢; exact h
  | .tup xs, v, n, h => by
    rw [Rep.tup_] at h ⊢
    obtain ⟨a, vs, e, s, r⟩ := h
    exact ⟨a, vs, e, s, norefL_z (by unfold noref at n; exact n) r⟩
  | .lst _, v, n, _ => by unfold noref at n; cases n
  | .obj _ _, v, n, _ => by unfold noref at n; cases n
  | .dct _ _, v, n, _ => by unfold noref at n; cases n
theorem norefL_z : ∀ {ds : List D} {vs : List V}, norefL ds = true → RepL K g H Z ds vs → RepL K g H Z' ds vs
  | [], vs, _, h => by rw [RepL.nil_] at h ⊢; exact h
  | d :: ds, vs, n, h => by
    rw [RepL.cons_] at h ⊢
    obtain ⟨v, r, e, h1, h2⟩ := h
    unfold norefL at n
    rw [Bool.and_eq_true] at n
    exact ⟨v, r, e, noref_z n.1 h1, norefL_z n.2 h2⟩
end
end
section
variable {K : PySem.W.Frag} {g : G0} {A : Av} {H1 H H' : Hp} {a dx : Addr} {c : Nat} {env : En} {fs : List D} {σ : L2.St}
theorem IRel.za (r : IRel K g A H1 a dx c env fs σ H) : zz (fun b => A b ∨ b = a) env σ a := .inl (.inr rfl)
theorem IRel.later (r : IRel K g A H1 a dx c env fs σ H) (k : Same H H') : IRel K g A H1 a dx c env fs σ H' := by
  obtain ⟨Ha, sr, sm⟩ := r.sr
  obtain ⟨vs, e, l, rr⟩ := r.cell
  exact ⟨⟨Ha, sr.later k, sm⟩, r.ad, r.na, r.s0, r.n0, r.lim, vs, k _ _ e, l, RepL.mono (.same_ k) _ _ rr⟩
theorem IRel.same (r : IRel K g A H1 a dx c env fs σ H) : Same H1 H := by
  obtain ⟨Ha, sr, sm⟩ := r.sr
  exact sm.trans sr.same
theorem zz_setFr {A : Av} {i : Nat} {d : D} {u : Option V} {b : Addr} (z : zz A (env.set i (some (.fr d))) (σ.set i u) b) : zz A env σ b := by
  rcases z with z | ⟨j, xs, e1, e2⟩
  · exact .inl z
  · rcases set_get e1 with ⟨_, e, _⟩ | ⟨ne, e1⟩
    · cases e
    · rcases set_get e2 with ⟨e, _⟩ | ⟨_, e2⟩
      · exact absurd e ne
      · exact .inr ⟨j, xs, e1, e2⟩
theorem zz_setOw {A : Av} {i : Nat} {xs : List D} {a b : Addr} (z : zz A (env.set i (some (.ow xs))) (σ.set i (some (.ref a))) b) : zz A env σ b ∨ b = a := by
  rcases z with z | ⟨j, ys, e1, e2⟩
  · exact .inl (.inl z)
  · rcases set_get e1 with ⟨ij, _, _⟩ | ⟨ne, e1⟩
    · subst ij
      rcases set_get e2 with ⟨_, e, _⟩ | ⟨ne, _⟩
      · cases e; exact .inr rfl
      · exact absurd rfl ne
    · rcases set_get e2 with ⟨e, _⟩ | ⟨_, e2⟩
      · exact absurd e ne
      · exact .inl (.inr ⟨j, ys, e1, e2⟩)
theorem IRel.setFr (r : IRel K g A H1 a dx c env fs σ H) {i : Nat} {d : D} {v : V} (hi : i ≠ 0) (k : Same H H') (h : Rep K g H' (zz (fun b => A b ∨ b = a) env σ) d v) : IRel K g A H1 a dx c (env.set i (some (.fr d))) fs (σ.set i (some v)) H' := by
  obtain ⟨Ha, sr, sm⟩ := r.sr
  obtain ⟨vs, e, l, rr⟩ := r.cell
  exact ⟨⟨Ha, sr.setFr (fun _ => trivial) k h, sm⟩, r.ad, r.na, by rw [List.getElem?_set_ne hi]; exact r.s0, by rw [List.getElem?_set_ne hi]; exact r.n0, r.lim, vs, k _ _ e, l, RepL.mono (.of k fun b _ z => zz_setFr z) _ _ rr⟩
theorem IRel.setOw (r : IRel K g A H1 a dx c env fs σ H) {i : Nat} {xs : List D} {b : Addr} {us : List V} (hi : i ≠ 0) (k : Same H H') (n : H b = none) (eb : H' b = some (.lst us)) (h : RepL K g H' (fun q => zz (fun b => A b ∨ b = a) env σ q ∨ q = b) xs us) :
    IRel K g A H1 a dx c (env.set i (some (.ow xs))) fs (σ.set i (some (.ref b))) H' := by
  obtain ⟨Ha, sr, sm⟩ := r.sr
  obtain ⟨vs, e, l, rr⟩ := r.cell
  exact ⟨⟨Ha, sr.setOw (fun _ => trivial) k n eb h, sm⟩, r.ad, r.na, by rw [List.getElem?_set_ne hi]; exact r.s0, by rw [List.getElem?_set_ne hi]; exact r.n0, r.lim, vs, k _ _ e, l, RepL.mono (.of k fun q hq z => (zz_setOw z).elim id fun e => absurd n (by rw [← e]; exact hq)) _ _ rr⟩
theorem putF_zip : ∀ {ns : List Str} {vs : List V} {f : Str} {v : V}, ns.length = vs.length → f ∉ ns → putF f v (ns.zip vs) = (ns ++ [f]).zip (vs ++ [v])
  | [], [], f, v, _, _ => rfl
  | [], v' :: vs, f, v, h, _ => by cases h
  | n :: ns, [], f, v, h, _ => by cases h
  | n :: ns, u :: vs, f, v, h, m => by
    have ne : ¬ n = f := fun e => m (by rw [e]; exact List.mem_cons_self)
    show (if n = f then (n, v) :: ns.zip vs else (n, u) :: putF f v (ns.zip vs)) = _
    rw [if_neg ne, putF_zip (by simpa using h) fun q => m (List.mem_cons_of_mem _ q)]
    rfl
theorem take_succ_of : ∀ {ns : List Str} {j : Nat} {f : Str}, ns[j]? = some f → ns.take (j + 1) = ns.take j ++ [f]
  | [], j, f, h => by simp at h
  | n :: ns, 0, f, h => by simpa using h
  | n :: ns, j + 1, f, h => by
    rw [List.getElem?_cons_succ] at h
    rw [List.take_succ_cons, List.take_succ_cons, take_succ_of h]
    rfl
theorem IRel.put (r : IRel K g A H1 a dx c env fs σ H) {d : D} {v : V} {f : Str} (k : Same H H') (h : Rep K g H' (zz (fun b => A b ∨ b = a) env σ) d v) (hf : (g.fl c)[fs.length]? = some f) (hn : f ∉ (g.fl c).take fs.length) :
    ∃ o, H' a = some (.ins (g.cl c) dx o) ∧ o.length = fs.length ∧ IRel K g A H1 a dx c env (fs ++ [d]) σ (upd H' a (.ins (g.cl c) dx (putF f v o))) := by
  have r := r.later k
  obtain ⟨Ha, sr, sm⟩ := r.sr
  obtain ⟨vs, e, l, rr⟩ := r.cell
  have lt : fs.length < (g.fl c).length := (List.getElem?_eq_some_iff.mp hf).1
  have lk : ((g.fl c).take fs.length).length = vs.length := by rw [List.length_take, ← l]; omega
  refine ⟨_, e, by rw [List.length_zip, lk, ← l, Nat.min_self], ?_⟩
  rw [putF_zip lk hn, ← take_succ_of hf]
  have Za : (fun b => A b ∨ b = a) a := .inr rfl
  have nHa : Ha a ≠ none := sr.adom a Za
  have kp : ∀ {Z : Av}, Z a → Kp H' Z (upd H' a (.ins (g.cl c) dx (((g.fl c).take (fs.length + 1)).zip (vs ++ [v])))) Z := fun {Z} za =>
    ⟨fun b o eb nb => by rw [upd_ne fun q => nb (by rw [q]; exact za)]; exact eb, fun b o xs t => by rw [upd_ne fun q => by subst q; rw [e] at t; cases t]; exact t, fun b _ n => n⟩
  refine ⟨⟨upd Ha a (.ins (g.cl c) dx (((g.fl c).take (fs.length + 1)).zip (vs ++ [v]))), ⟨⟨fun b z => ?_, trivial, sr.er.len, fun j s f1 => ?_⟩, fun b o eb => ?_, fun b z => ?_, fun j xs b f1 f2 => ?_, sr.dist, sr.len⟩, fun b o eb => ?_⟩, r.ad, r.na, r.s0, r.n0, by rw [List.length_append]; exact lt, vs ++ [v], ?_, ?_, ?_⟩
  · by_cases q : b = a
    · rw [q, upd_same]; simp
    · rw [upd_ne q]; exact sr.er.dom b z
  · obtain ⟨u, f2, q⟩ := sr.er.at_ j s f1
    refine ⟨u, f2, ?_⟩
    cases s with
    | fr d2 => exact Rep.mono (kp (.inl Za)) _ _ q
    | ow ys =>
      obtain ⟨b, ws, ev, z, p, r2⟩ := q
      subst ev
      exact ⟨b, ws, rfl, z, by rw [upd_ne fun q => by subst q; rw [e] at p; cases p]; exact p, RepL.mono (kp (.inl Za)) _ _ r2⟩
  · by_cases q : b = a
    · subst q; rw [upd_same] at eb ⊢; exact eb
    · rw [upd_ne q] at eb ⊢; exact sr.same b o eb
  · by_cases q : b = a
    · rw [q, upd_same]; simp
    · rw [upd_ne q]; exact sr.adom b z
  · have hb := sr.fresh j xs b f1 f2
    rw [upd_ne fun q => nHa (by rw [← q]; exact hb)]
    exact hb
  · rw [upd_ne (ne_of_none eb r.na)]; exact sm b o eb
  · rw [upd_same, List.length_append]; rfl
  · rw [List.length_append, List.length_append, l]; rfl
  · exact (RepL.mono (kp (.inl Za)) _ _ rr).append (.one (Rep.mono (kp (.inl Za)) _ _ h))
end
section
variable {g : G0} {W : WX} {X : Cx} {e : Expr} {st : Stmt} {rest body orelse : List Stmt} {pos : Pos} {m : M} {c : Nat} {s t : MI}
theorem is_nil : PSsi g W X c [] iNop := weakSs pss_nil fun D σ H ⟨env, fs, A, H1, a, dx, r, hp⟩ => hp σ H r
theorem is_one (h1 : PSi g W X c st s) : PSsi g W X c [st] s := pss_one h1
theorem is_cons (h1 : PSi g W X c st s) (h2 : PSsi g W X c rest t) : PSsi g W X c (st :: rest) (iSeq s t) :=
  weakSs (pss_cons h1 h2) fun D σ H ⟨env, fs, A, H1, a, dx, r, hp⟩ => by
    refine ⟨env, fs, A, H1, a, dx, r, ?_⟩
    unfold iSeq at hp
    cases e : s env fs with
    | nx e' fs' => rw [e] at hp; exact fun σ' H' q => ⟨e', fs', A, H1, a, dx, q, hp⟩
    | ex c p => rw [e] at hp; exact hp
    | st => rw [e] at hp; exact hp
theorem runJ {env : En} {fs : List D} {A : Av} {H1 H : Hp} {a dx : Addr} {σ : L2.St} {D : Ends} {f : Sl → RI} {Q : VK} (r : IRel X.K g A H1 a dx c env fs σ H)
    (hp : PostJ X.K g W A H1 a dx c D (match m env with | .ok s => f s | .ex c p => .ex c p | .st => .st))
    (h1 : ∀ d v H', m env = .ok (.fr d) → Same H H' → Rep X.K g H' (zz (fun b => A b ∨ b = a) env σ) d v → PostJ X.K g W A H1 a dx c D (f (.fr d)) → Q v H')
    (h2 : ∀ xs b vs H', m env = .ok (.ow xs) → Same H H' → H b = none → H' b = some (.lst vs) → RepL X.K g H' (fun q => zz (fun b => A b ∨ b = a) env σ q ∨ q = b) xs vs → PostJ X.K g W A H1 a dx c D (f (.ow xs)) → Q (.ref b) H') : tM X.K g T W m σ H Q := by
  obtain ⟨Ha, sr, sm⟩ := r.sr
  refine ⟨env, _, sr.er, ?_⟩
  cases e : m env with
  | ok s =>
    rw [e] at hp
    cases s with
    | fr d => exact fun v H' k q => h1 d v H' e k q hp
    | ow xs => exact fun a vs H' k n p q => h2 xs a vs H' e k n p q hp
  | ex c p =>
    rw [e] at hp
    refine fun H' dd k q => hp σ H' dd (r.same.trans k) ?_
    cases p with
    | none => exact q
    | some fx =>
      obtain ⟨da, v, e1, e2, e3⟩ := q
      exact ⟨da, v, e1, e2, Rep.mono (.of (Same.refl _) fun _ _ z => .inl (.inl z)) _ _ e3⟩
  | st => rw [e] at hp; exact hp
theorem is_set {i : Nat} {y : Str} {pos' : Pos} (hi0 : i ≠ 0) (hN : X.N.Nodup) (hi : X.N[i]? = some y) (hl : Loc X.env.scope y) (he : PEd g T W X e m) (hs : swapsWith e (some (.Name y pos')) pos.line X.env = pure false := by rfl)
    (hf : X.fn y = true ∨ X.env.scope.names.lookup y = some .local := by first | exact .inl rfl | exact .inr rfl | assumption) : PSi g W X c (.Assign [.Name y pos'] e pos) (iSet i m) :=
  weakS (ps_set hN hi hl he hs hf) fun D σ H ⟨env, fs, A, H1, a, dx, r, hp⟩ =>
    runJ (f := fun s => .nx (env.set i (some s)) fs) r hp (fun d v H' _ k q hp => hp _ _ (r.setFr hi0 k q)) fun xs b vs H' _ k n p q hp => hp _ _ (r.setOw hi0 k n p q)
theorem is_expr (he : PEd g T W X e m) (hs : swapsWith e none pos.line X.env = pure false := by rfl) : PSi g W X c (.Expr e pos) (iDrop m) :=
  weakS (ps_expr he hs) fun D σ H ⟨env, fs, A, H1, a, dx, r, hp⟩ =>
    runJ (f := fun s => .nx env fs) r hp (fun d v H' _ k q hp => hp _ _ (r.later k)) fun xs b vs H' _ k n p q hp => hp _ _ (r.later k)
theorem is_if {t0 : Expr} {b : En → R Bool} (hc : PTd g T W X t0 b) (ha : PSsi g W X c body s) (hb : PSsi g W X c orelse t) : PSi g W X c (.If t0 body orelse pos) (iIf b s t) :=
  weakS (ps_if hc ha hb) fun D σ H ⟨env, fs, A, H1, a, dx, r, hp⟩ => by
    obtain ⟨Ha, sr, sm⟩ := r.sr
    refine ⟨env, _, sr.er, ?_⟩
    unfold iIf at hp
    cases e : b env with
    | ok q =>
      rw [e] at hp
      intro H' k
      cases q with
      | true => exact ⟨env, fs, A, H1, a, dx, r.later k, hp⟩
      | false => exact ⟨env, fs, A, H1, a, dx, r.later k, hp⟩
    | ex c p =>
      rw [e] at hp
      refine fun H' dd k q => hp σ H' dd (r.same.trans k) ?_
      cases p with
      | none => exact q
      | some fx =>
        obtain ⟨da, v, e1, e2, e3⟩ := q
        exact ⟨da, v, e1, e2, Rep.mono (.of (Same.refl _) fun _ _ z => .inl (.inl z)) _ _ e3⟩
    | st => rw [e] at hp; exact hp
theorem is_raise {n : Nat} {y z : Str} {j : Nat} {p p2 pos' : Pos} (hc : X.calm = true) (tk : Takes X W) (E : ECls X.K X.mg g n y) (hg : Gl X y) (hdb : (y == ("__debug__" : Str)) = false := by decide) :
    PSi g W X c (.Raise (some (.Call (.Name y p) [.Constant (.str z) j p2] [] pos)) none pos') (iRaise n) :=
  weakS (ps_raise hc tk (pmk_own PySem.F.excBase_ValueError E.ex E.mg E.kp (raises_own E.sub E.ty) hg hdb)) fun D σ H ⟨env, fs, A, H1, a, dx, r, hp⟩ => hp σ H none r.same rfl
theorem is_raise1 {n : Nat} {y : Str} {p pos' : Pos} (hc : X.calm = true) (tk : Takes X W) (E : ECls X.K X.mg g n y) (hg : Gl X y) (he : PEd g T W X e m) (hs : starEach [e] X.env = (false, eval e X.env) :: starEach [] X.env := by rfl)
    (hdb : (y == ("__debug__" : Str)) = false := by decide) : PSi g W X c (.Raise (some (.Call (.Name y p) [e] [] pos)) none pos') (iRaise1 n m) :=
  weakS (ps_raise hc tk (SkE.pmk_own1 PySem.F.excBase_ValueError E.ex E.mg E.kp (raises_own E.sub E.ty) hg he hs hdb)) fun D σ H ⟨env, fs, A, H1, a, dx, r, hp⟩ =>
    runJ (f := fun _ => .ex n none) r hp (fun d v H' _ k q hp => hp _ _ none (r.same.trans k) rfl) fun xs b vs H' _ k n p q hp => hp _ _ none (r.same.trans k) rfl
/-- the attribute f of the class c, number j -/
structure PutC (K : PySem.W.Frag) (g : G0) (f : Str) (c j : Nat) : Prop where
  cls : Cls K (g.cl c)
  na : NoAttr K (g.cl c) f
  at_ : (g.fl c)[j]? = some f
  ni : f ∉ (g.fl c).take j
  few : j < 999
theorem is_fld {j : Nat} {f y : Str} {p pos' : Pos} (F : PutC X.K g f c j) (he : PEd g T W X e m) (hN : X.N[0]? = some y := by rfl) (hv : Vis X.env.scope y := by first | exact Or.inl rfl | exact Or.inr (Or.inl rfl) | exact Or.inr (Or.inr rfl)) (hd : (y == ("__debug__" : Str)) = false := by decide)
    (hcd : (y == ("__classdict__" : Str)) = false := by decide) (hs : swapsWith e (some (.Attribute (.Name y p) f pos')) pos.line X.env = pure false := by rfl) : PSi g W X c (.Assign [.Attribute (.Name y p) f pos'] e pos) (iFld j m) :=
  weakS (ps_fld (pe_var hN hv hd hcd) he hs) fun D σ H ⟨env, fs, A, H1, a, dx, r, hp⟩ => by
    unfold iFld at hp
    refine runJ (f := fun s => if fs.length = j then .nx env (fs ++ [s.d]) else .st) r hp (fun d v H' _ k q hp => ?_) fun xs b vs H' _ k n p q hp => ?_
    · split at hp
      · rename_i hj
        obtain ⟨o, e1, e2, r2⟩ := r.put (f := f) k q (by rw [hj]; exact F.at_) (by rw [hj]; exact F.ni)
        exact ⟨.ref a, r.s0, a, _, dx, o, rfl, e1, F.cls, F.na, by rw [e2, hj]; exact Nat.lt_trans F.few (by decide), hp _ _ r2⟩
      · exact hp.elim
    · split at hp
      · rename_i hj
        obtain ⟨Ha, sr, sm⟩ := r.sr
        obtain ⟨o, e1, e2, r2⟩ := r.put (f := f) k (rep_fresh (Z := zz (fun b => A b ∨ b = a) env σ) sr.er.dom n p q) (by rw [hj]; exact F.at_) (by rw [hj]; exact F.ni)
        exact ⟨.ref a, r.s0, a, _, dx, o, rfl, e1, F.cls, F.na, by rw [e2, hj]; exact Nat.lt_trans F.few (by decide), hp _ _ r2⟩
      · exact hp.elim
/-- the form of the objects of class c after j attributes -/
structure Part (g : G0) (cp c j : Nat) : Prop where
  cl : g.cl cp = g.cl c
  fl : g.fl cp = (g.fl c).take j
/-- the object is read: its slot holds it while the expression is evaluated -/
theorem IRel.read {K : PySem.W.Frag} {cp j : Nat} {env : En} {fs : List D} {A : Av} {H1 H : Hp} {a dx : Addr} {σ : L2.St} (P : Part g cp c j) (hj : fs.length = j) (r : IRel K g A H1 a dx c env fs σ H) :
    ERel K g T (zz A env σ) (env.set 0 (some (.fr (.obj cp fs)))) σ H := by
  obtain ⟨Ha, sr, sm⟩ := r.sr
  obtain ⟨vs, e, l, rr⟩ := r.cell
  have sub : ∀ b, zz A env σ b → zz (fun b => A b ∨ b = a) env σ b := fun b z => z.elim (fun z => .inl (.inl z)) .inr
  have na : ¬ zz A env σ a := by
    rintro (z | ⟨i, xs, f1, f2⟩)
    · exact r.ad a z r.na
    · exact sr.adom a (.inr rfl) (sr.fresh i xs a f1 f2)
  refine ⟨fun b z => sr.er.dom b (sub b z), trivial, by rw [List.length_set]; exact sr.er.len, fun i s f => ?_⟩
  rcases set_get f with ⟨ij, ee, _⟩ | ⟨ne, f⟩
  · cases ee
    subst ij
    refine ⟨_, r.s0, Rep.obj_.mpr ⟨a, dx, vs, rfl, na, by rw [P.cl, P.fl, ← hj]; exact e, ?_, RepL.mono (.of (Same.refl _) fun b n z => sub b z) _ _ rr⟩⟩
    rw [P.fl, List.length_take, ← l, ← hj]
    exact Nat.min_eq_left r.lim
  · obtain ⟨u, f2, q⟩ := sr.er.at_ i s f
    refine ⟨u, f2, ?_⟩
    cases s with
    | fr d => exact Rep.mono (.of (Same.refl _) fun b _ z => sub b z) _ _ q
    | ow xs =>
      obtain ⟨b, ws, ev, z, p, r2⟩ := q
      subst ev
      exact ⟨b, ws, rfl, .inr ⟨i, xs, f, f2⟩, p, RepL.mono (.of (Same.refl _) fun b _ z => sub b z) _ _ r2⟩
/-- an expression that reads the object, of parts that neither list nor object is in -/
theorem runS {cp j : Nat} {env : En} {fs : List D} {A : Av} {H1 H : Hp} {a dx : Addr} {σ : L2.St} {D : Ends} {f : Sl → RI} {Q : VK} (P : Part g cp c j) (hj : fs.length = j) (r : IRel X.K g A H1 a dx c env fs σ H)
    (hp : PostJ X.K g W A H1 a dx c D (match selfM cp fs m env with | .ok s => f s | .ex c p => .ex c p | .st => .st))
    (h1 : ∀ d v H', Same H H' → Rep X.K g H' (zz (fun b => A b ∨ b = a) env σ) d v → PostJ X.K g W A H1 a dx c D (f (.fr d)) → Q v H')
    (h2 : ∀ xs b vs H', Same H H' → H b = none → H' b = some (.lst vs) → RepL X.K g H' (fun q => zz (fun b => A b ∨ b = a) env σ q ∨ q = b) xs vs → PostJ X.K g W A H1 a dx c D (f (.ow xs)) → Q (.ref b) H') : tM X.K g T W m σ H Q := by
  refine ⟨_, _, r.read P hj, ?_⟩
  unfold selfM at hp
  cases e : m (env.set 0 (some (.fr (.obj cp fs)))) with
  | ok s =>
    rw [e] at hp
    cases s with
    | fr d =>
      by_cases hn : noref d = true
      · simp only [hn, if_true] at hp
        exact fun v H' k q => h1 d v H' k (noref_z hn q) hp
      · simp only [hn, if_false] at hp
        exact hp.elim
    | ow xs =>
      by_cases hn : norefL xs = true
      · simp only [hn, if_true] at hp
        exact fun b vs H' k n p q => h2 xs b vs H' k n p (norefL_z hn q) hp
      · simp only [hn, if_false] at hp
        exact hp.elim
  | ex c p =>
    rw [e] at hp
    cases p with
    | none => exact fun H' dd k q => hp σ H' dd (r.same.trans k) q
    | some fx => exact hp.elim
  | st => rw [e] at hp; exact hp.elim
theorem is_fldS {cp j : Nat} {f y : Str} {p pos' : Pos} (P : Part g cp c j) (F : PutC X.K g f c j) (he : PEd g T W X e m) (hN : X.N[0]? = some y := by rfl) (hv : Vis X.env.scope y := by first | exact Or.inl rfl | exact Or.inr (Or.inl rfl) | exact Or.inr (Or.inr rfl)) (hd : (y == ("__debug__" : Str)) = false := by decide)
    (hcd : (y == ("__classdict__" : Str)) = false := by decide) (hs : swapsWith e (some (.Attribute (.Name y p) f pos')) pos.line X.env = pure false := by rfl) : PSi g W X c (.Assign [.Attribute (.Name y p) f pos'] e pos) (iFldS cp j m) :=
  weakS (ps_fld (pe_var hN hv hd hcd) he hs) fun D σ H ⟨env, fs, A, H1, a, dx, r, hp⟩ => by
    unfold iFldS at hp
    split at hp
    case isFalse => exact hp.elim
    rename_i hj
    unfold iFld at hp
    refine runS (f := fun s => if fs.length = j then .nx env (fs ++ [s.d]) else .st) P hj r hp (fun d v H' k q hp => ?_) fun xs b vs H' k n p q hp => ?_
    · rw [if_pos hj] at hp
      obtain ⟨o, e1, e2, r2⟩ := r.put (f := f) k q (by rw [hj]; exact F.at_) (by rw [hj]; exact F.ni)
      exact ⟨.ref a, r.s0, a, _, dx, o, rfl, e1, F.cls, F.na, by rw [e2, hj]; exact Nat.lt_trans F.few (by decide), hp _ _ r2⟩
    · rw [if_pos hj] at hp
      obtain ⟨Ha, sr, sm⟩ := r.sr
      obtain ⟨o, e1, e2, r2⟩ := r.put (f := f) k (rep_fresh (Z := zz (fun b => A b ∨ b = a) env σ) sr.er.dom n p q) (by rw [hj]; exact F.at_) (by rw [hj]; exact F.ni)
      exact ⟨.ref a, r.s0, a, _, dx, o, rfl, e1, F.cls, F.na, by rw [e2, hj]; exact Nat.lt_trans F.few (by decide), hp _ _ r2⟩
theorem is_setS {cp j i : Nat} {y : Str} {pos' : Pos} (P : Part g cp c j) (hi0 : i ≠ 0) (hN : X.N.Nodup) (hi : X.N[i]? = some y) (hl : Loc X.env.scope y) (he : PEd g T W X e m) (hs : swapsWith e (some (.Name y pos')) pos.line X.env = pure false := by rfl)
    (hf : X.fn y = true ∨ X.env.scope.names.lookup y = some .local := by first | exact .inl rfl | exact .inr rfl | assumption) : PSi g W X c (.Assign [.Name y pos'] e pos) (iSetS cp j i m) :=
  weakS (ps_set hN hi hl he hs hf) fun D σ H ⟨env, fs, A, H1, a, dx, r, hp⟩ => by
    unfold iSetS at hp
    split at hp
    case isFalse => exact hp.elim
    rename_i hj
    unfold iSet at hp
    exact runS (f := fun s => .nx (env.set i (some s)) fs) P hj r hp (fun d v H' k q hp => hp _ _ (r.setFr hi0 k q)) fun xs b vs H' k n p q hp => hp _ _ (r.setOw hi0 k n p q)
end
/-- slots at the start: the object itself is not among them -/
def envI (n slots : Nat) (ds : List D) : En := none :: (ds.map (fun d => some (.fr d)) ++ List.replicate (slots - n) none)
def runNew (n slots nf : Nat) (m : MI) : List D → R (List D) := fun ds => if ds.length + 1 = n then match m (envI n slots ds) [] with
  | .nx _ fs => if fs.length = nf then .ok fs else .st
  | .ex c p => .ex c p
  | .st => .st
  else .st
section
variable {P : Program} {w : World} {K : PySem.W.Frag} {mg : Str → Option Value} {base : Heap} {g : G0}
theorem okI {y qual : Str} {st : Stmt} {a : Addr} {fd : FuncData} {N ps : List Str} {k c nf : Nat} (F : Fun K "__init__" qual st a fd) (S : FnScope N ps (defScope st)) (hnf : (g.fl c).length = nf) (hm : mg y = some (.ref (g.cl c))) (M : Mk K (g.cl c) a) (hb : Binds K fd ps []) (m : MI)
    (body : ∀ (cdv : Value) (A : Around) (outer : List Env) (s : Shared) (H : Hp) (E : XK), Room k (A.deeper (envOfC qual (defScope st) s.heap.objs.size a cdv)) →
      PSsi g (fun c d _ H => E c d H) (cxOf (L2.CX P w) P w K mg base N qual (defScope st) a cdv A outer s H E) c (defBody st) m) : CD P w K mg base g (k + 1) y c (runNew ps.length N.length nf m) := by
  have hl : ps.length ≤ N.length := by have := congrArg List.length S.pre; rw [List.length_take] at this; omega
  have len : ∀ vs H Q E, PromI K g c (runNew ps.length N.length nf m) vs H Q E → vs.length = ps.length := fun vs H Q E ⟨b, dx, rest, H1, Z, ds, e1, _, _, _, _, _, r, hp⟩ => by
    unfold runNew at hp
    split at hp
    · rename_i hq
      have : ds.length + 1 = ps.length := by
        by_cases q : ds.length + 1 = ps.length
        · exact q
        · rw [if_neg q] at hq; cases hq
      rw [e1, List.length_cons, ← r.length, this]
    · rename_i hq
      have : ds.length + 1 = ps.length := by
        by_cases q : ds.length + 1 = ps.length
        · exact q
        · rw [if_neg q] at hq; cases hq
      rw [e1, List.length_cons, ← r.length, this]
    · exact hp.elim
  refine ⟨a, fd, ps, hm, M, hb, F.okX S len fun cdv A outer s H vs Q E hr hsp => ?_⟩
  have lv := len _ _ _ _ hsp
  obtain ⟨b, dx, rest, H1, Z, ds, ev, nb, ndx, nxb, eH, dom, r, hp⟩ := hsp
  refine ⟨_, body cdv A outer s H E hr, ?_⟩
  subst ev
  have ld : ds.length + 1 = ps.length := by rw [r.length]; exact lv
  unfold runNew at hp
  rw [if_pos ld] at hp
  have k0 : Same H1 H := fun q u e => by rw [eH, upd_ne (ne_of_none e nb), upd_ne (ne_of_none e ndx)]; exact e
  have noow : ∀ (i : Nat) (xs : List D), (envI ps.length N.length ds)[i]? = some (some (Sl.ow xs)) → False := fun i xs e1 => by
    unfold envI at e1
    cases i with
    | zero => cases e1
    | succ i =>
      rw [List.getElem?_cons_succ] at e1
      have e1 := env0_get (n := ps.length) (k := N.length) (ds := ds) (i := i) (by unfold env0; exact e1)
      rw [List.getElem?_map] at e1
      cases ed : ds[i]? with
      | none => rw [ed] at e1; cases e1
      | some d => rw [ed] at e1; cases e1
  have zZ : ∀ q, zz (fun q => Z q ∨ q = b) (envI ps.length N.length ds) (L2.start N (.ref b :: rest)) q → Z q ∨ q = b := by
    rintro q (z | ⟨i, xs, e1, e2⟩)
    · exact z
    · exact (noow i xs e1).elim
  have dom2 : ∀ q, Z q ∨ q = b → H q ≠ none := fun q z => by
    rcases z with z | z
    · exact dom_mono k0 dom q z
    · rw [z, eH, upd_same]; simp
  have hlen : (envI ps.length N.length ds).length = (L2.start N (.ref b :: rest)).length := by
    unfold envI L2.start
    have lr : rest.length + 1 = ps.length := lv
    simp only [List.length_cons, List.length_append, List.length_map, List.length_replicate]
    have l1 := r.length
    omega
  have sr : SRel K g T (fun q => Z q ∨ q = b) H (envI ps.length N.length ds) (L2.start N (.ref b :: rest)) H := by
    refine ⟨⟨fun q z => dom2 q (zZ q z), trivial, hlen, fun i s e1 => ?_⟩, Same.refl _, dom2, fun i xs a e1 _ => (noow i xs e1).elim, fun i j xs ys a e1 _ _ _ => (noow i xs e1).elim, hlen⟩
    unfold envI at e1
    cases i with
    | zero => cases e1
    | succ i =>
      rw [List.getElem?_cons_succ] at e1
      obtain ⟨v, e2, q⟩ := repl_map r (env0_get (n := ps.length) (k := N.length) (by unfold env0; exact e1))
      refine ⟨v, ?_, ?_⟩
      · unfold L2.start
        rw [List.map_cons, List.cons_append, List.getElem?_cons_succ, List.getElem?_append_left]
        · exact e2
        · exact (List.getElem?_eq_some_iff.mp e2).1
      · cases s with
        | fr d => exact Rep.mono (.of k0 fun u hu z => (zZ u z).elim id fun e => absurd nb (by rw [← e]; exact hu)) _ _ q
        | ow xs => exact (noow (i + 1) xs (by unfold envI; rw [List.getElem?_cons_succ]; exact e1)).elim
  refine ⟨envI ps.length N.length ds, [], Z, H1, b, dx, ⟨⟨H, sr, k0⟩, dom, nb, rfl, rfl, Nat.zero_le _, [], by rw [eH, upd_same]; rfl, rfl, RepL.nil_.mpr rfl⟩, ?_⟩
  cases e : m (envI ps.length N.length ds) [] with
  | nx e' fs =>
    rw [e] at hp
    intro σ' H' q
    have hp : (match (if fs.length = nf then R.ok fs else R.st : R (List D)) with
      | .ok fs => ∀ ws H', Same H1 H' → H' b = some (.ins (g.cl c) dx ((g.fl c).zip ws)) → (g.fl c).length = ws.length → RepL K g H' (fun q => Z q ∨ q = b) fs ws → Q .non H'
      | .ex e p => ∀ H' dd, Same H1 H' → ExP K g H' Z p dd → E (.ref (g.cl e)) dd H'
      | .st => False) := hp
    by_cases hq : fs.length = nf
    · rw [if_pos hq] at hp
      obtain ⟨ws, e1, l, rr⟩ := q.cell
      exact hp ws H' q.same (by rw [e1, hq, ← hnf, List.take_length]) (by rw [hnf, ← hq, l]) (RepL.mono (.of (Same.refl _) fun _ _ z => .inl z) _ _ rr)
    · rw [if_neg hq] at hp; exact hp.elim
  | ex c p => rw [e] at hp; exact fun σ' H' dd k q => hp H' dd k q
  | st => rw [e] at hp; exact hp.elim
end
end DL
set_option Elab.async false
set_option linter.all false
set_option maxRecDepth 100000
namespace DL
open PySem PySem.Spec L2
open PyProof.Rows hiding St

/-! ### an instance is called -/
section
variable {X : Cx} {CX : CXT} {E : St → XK} {pos : Pos} {e fe : Expr} {es : List Expr} {tf : TE} {t : TA}
def tCallV (X : Cx) (CX : CXT) (E : St → XK) (tf : TE) (t : TA) : TE := fun σ H Q => tf σ H fun x H1 => ∃ a C f fd ps sp k, x = .ref a ∧ StX.CallO X.K C f ∧ FnOk X.prog X.w X.K X.mg X.base CX k f fd ps sp ∧ Room k X.A ∧ Binds X.K fd ps [] ∧
  t σ H1 fun vs H2 => (∃ dx fs, H2 a = some (.ins C dx fs)) ∧ sp (x :: vs) H2 Q (E σ)
theorem pe_callV (hf : PE X fe tf) (hx : ∀ σ, PassesAt CX X σ (E σ)) (ha : PA X (e :: es) t)
    (ht : eval (.Call fe (e :: es) [] pos) X.env = (do callWith pos (← eval fe X.env) [] (backTo pos (starEach (e :: es) X.env)) (backToKw pos (keywordEach [] X.env))) := by rfl)
    (he : starEach (e :: es) X.env = (false, eval e X.env) :: starEach es X.env := by rfl) (hpl : (backTo pos (starEach es X.env)).any (·.1) = false := by rfl) : PE X (.Call fe (e :: es) [] pos) (tCallV X CX E tf t) := by
  refine ⟨fun pins s σ H Q I h => ?_⟩
  refine Call_ (thn (hf.run pins s σ H _ I h) fun u s1 ⟨y, H1, I1, ry, a, C, f, fd, ps, sp, k, ey, c, F, hr, hb, q⟩ => ?_) ht
  subst ey
  obtain rfl : u = Value.ref a := ry
  refine StX.callO_with (thn (ha.run pos pins s1 σ H1 _ I1 q) fun us s2 ⟨vs, H2, I2, r, ⟨dx, fs, hi⟩, q2⟩ => ?_) he hpl
  obtain ⟨ox, od, J, hd⟩ := StX.insC_at (C := C) I2 (.inr ⟨dx, fs, hi⟩)
  refine ⟨⟨C, ox, od, J, hd⟩, ?_⟩
  have r2 : Vals (V.ref a :: vs) (Value.ref a :: us) := .cons rfl r
  have hl : (Value.ref a :: us).length = ps.length := by rw [← r2.length]; exact F.len _ _ _ _ q2
  have b := hb s2 (Value.ref a :: us) I2.kIn (by rw [List.append_nil]; exact hl)
  rw [List.append_nil] at b
  refine wpAny_call (PySem.W.kco_code I2.kIn J hd c.at_ c.fn c.fi (codeAny_mono (F.run X.A X.stack s2 H2 ⟨Value.ref a :: us, []⟩ (Value.ref a :: us) (V.ref a :: vs) Q (E σ) hr I2.env0 b r2 q2) fun r s' hq => ?_))
  cases r with
  | error e => exact hx σ pins H2 s2 e s' I2 hq
  | ok fl =>
    cases fl with
    | ret u => exact I2.after hq
    | next => exact False.elim hq
    | brk => exact False.elim hq
    | cont => exact False.elim hq
end
/-- the objects of class c are called as f -/
structure KD (P : Program) (w : World) (K : PySem.W.Frag) (mg : Str → Option Value) (base : Heap) (g : G0) (k : Nat) (c : Nat) (f : Fn) : Prop where
  ex : ∃ a fd ps, StX.CallO K (g.cl c) a ∧ Binds K fd ps [] ∧ FnOk P w K mg base (L2.CX P w) k a fd ps (Prom K g f)
theorem KD.mono {P : Program} {w : World} {K : PySem.W.Frag} {mg : Str → Option Value} {base : Heap} {g : G0} {j k : Nat} {c : Nat} {f : Fn} (F : KD P w K mg base g j c f) (h : j ≤ k) : KD P w K mg base g k c f := by
  obtain ⟨a, fd, ps, h1, h4, h5⟩ := F.ex
  exact ⟨a, fd, ps, h1, h4, h5.mono h⟩
section
variable {g : G0} {x : L2.St → Prop} {W : WX} {X : Cx} {fe e : Expr} {es : List Expr} {pos : Pos} {mo : M} {mr : En → R (List D)} {k : Nat} {tab : Nat → Option Fn}
theorem de_callO (hM : ∀ c f, tab c = some f → KD X.prog X.w X.K X.mg X.base g k c f) (hr : Room k X.A) (tk : Takes X W) (ho : PEd g x W X fe mo) (ha : PAd g x W X (e :: es) mr)
    (ht : eval (.Call fe (e :: es) [] pos) X.env = (do callWith pos (← eval fe X.env) [] (backTo pos (starEach (e :: es) X.env)) (backToKw pos (keywordEach [] X.env))) := by rfl)
    (he : starEach (e :: es) X.env = (false, eval e X.env) :: starEach es X.env := by rfl) (hpl : (backTo pos (starEach es X.env)).any (·.1) = false := by rfl) :
    PEd g x W X (.Call fe (e :: es) [] pos) (mMeth tab mo mr) :=
  weakE (pe_callV (E := WE W) ho (fun σ => passAt tk σ) ha ht he hpl) fun σ H Q ⟨env, Z, er, hp⟩ => by
    refine use1 (m := mo) (f := fun o => match o.d with
      | .obj c fs => match tab c with
        | some f => (mr env).bind fun xs => f (.obj c fs :: xs)
        | none => .st
      | _ => .st) er hp fun s v H1 e1 k1 r1 hp1 => ?_
    cases ed : s.d with
    | obj c fs =>
      simp only [ed] at hp1
      rw [ed] at r1
      cases et : tab c with
      | none => simp only [et] at hp1; exact hp1.elim
      | some f =>
        simp only [et] at hp1
        obtain ⟨p, dx, vs, ev, nz, hH, hl, rr⟩ := Rep.obj_.mp r1
        obtain ⟨a, fd, ps, h1, h4, h5⟩ := (hM c f et).ex
        refine ⟨p, _, a, fd, ps, _, k, ev, h1, h5, hr, h4, ?_⟩
        exact useA (er.mono k1) hp1 fun ds ws H2 e2 k2 r2 hp2 => ⟨⟨_, _, k2 _ _ hH⟩, Z, .obj c fs :: ds, dom_mono (k1.trans k2) er.dom, RepL.cons_.mpr ⟨v, ws, rfl, Rep.mono (.same_ k2) _ _ r1, r2⟩, postW hp2⟩
    | _ => simp only [ed] at hp1; exact hp1.elim
end

/-! ### isinstance of an own class -/
def fIsC (tab : Nat → Option Bool) : D → R Sl
  | .obj c _ => match tab c with
    | some b => .ok (.fr (.bl b))
    | none => .st
  | .dct _ _ => .st
  | _ => .ok (.fr (.bl false))
/-- what isinstance asks of the class at D: its objects are of the classes that tab names so -/
structure IsC (K : PySem.W.Frag) (g : G0) (D : Addr) (tab : Nat → Option Bool) : Prop where
  t0 : PySem.W.kitOne K (.type "NoneType") (.ref D) = some false
  t1 : PySem.W.kitOne K (.type "bool") (.ref D) = some false
  t2 : PySem.W.kitOne K (.type "int") (.ref D) = some false
  t3 : PySem.W.kitOne K (.type "str") (.ref D) = some false
  t4 : PySem.W.kitOne K (.type "tuple") (.ref D) = some false
  t5 : PySem.W.kitOne K (.type "list") (.ref D) = some false
  own : ∀ c b, tab c = some b → Cls K (g.cl c) ∧ PySem.W.kitOne K (.ref (g.cl c)) (.ref D) = some b ∧ PySem.W.findIn K (.ref (g.cl c)) "__class__" = some (some (.builtin "object.__class__")) ∧ PySem.W.mroIn K (g.cl c) (.type "object") = some true
  og : PySem.W.specialIn K (.builtin "object.__class__") "__get__" = some (some (.builtin "getset_descriptor.__get__"))
  ot : PySem.W.takesIn K (.builtin "object.__class__") = some true
theorem uf_isC {K : PySem.W.Frag} {g0 : G0} {C : Addr} {tab : Nat → Option Bool} (I : IsC K g0 C tab) : ∀ (W : WX) (H : Hp) (Z : Av) (σ : L2.St) (x : D) (v : V) (Q : VK),
    (∀ a, Z a → H a ≠ none) → RepB K g0 H Z x v → PostE K g0 W Z σ H Q (fIsC tab x) → rIsi K [v, .ref C] H Q := by
  intro W H Z σ x v Q dom rx hp
  have fin : ∀ {n : String}, PySem.W.kitOne K (.type n) (.ref C) = some false → TyX K H v (.type n) → Q (.bl false) H → rIsi K [v, .ref C] H Q := fun {n} hk ty q => ⟨v, .ref C, .type n, .ref C, false, rfl, .own _, ty, hk, q⟩
  cases x with
  | non => rw [rx.non_] at fin ⊢; exact fin I.t0 (.base .non) (hp _ H (Same.refl _) (Rep.bl_.mpr rfl))
  | bl b => rw [rx.bl_] at fin ⊢; exact fin I.t1 (.base (.bl b)) (hp _ H (Same.refl _) (Rep.bl_.mpr rfl))
  | int b => rw [rx.int_] at fin ⊢; exact fin I.t2 (.base (.int b)) (hp _ H (Same.refl _) (Rep.bl_.mpr rfl))
  | str b => rw [rx.str_] at fin ⊢; exact fin I.t3 (.base (.str b)) (hp _ H (Same.refl _) (Rep.bl_.mpr rfl))
  | tup xs =>
    obtain ⟨a, ws, rfl, tu, rr⟩ := rx.tup_
    exact fin I.t4 (tyX_tu tu) (hp _ H (Same.refl _) (Rep.bl_.mpr rfl))
  | lst xs =>
    obtain ⟨a, ws, rfl, rd, rr⟩ := rx.lst_
    exact fin I.t5 (tyX_rd rd) (hp _ H (Same.refl _) (Rep.bl_.mpr rfl))
  | obj c fs =>
    unfold fIsC at hp
    cases et : tab c with
    | none => simp only [et] at hp; exact hp.elim
    | some b =>
      simp only [et] at hp
      obtain ⟨p, dx, vs, ev, nz, hH, hl, rr⟩ := Rep.obj_.mp rx.obj_
      obtain ⟨h1, h2, h3, h4⟩ := I.own c b et
      subst ev
      exact ⟨.ref p, .ref C, .ref (g0.cl c), .ref C, b, rfl, .own _, .base (.ins hH h1 h3 I.og I.ot h4), h2, hp _ H (Same.refl _) (Rep.bl_.mpr rfl)⟩
  | dct c fs => exact hp.elim
section
variable {g : G0} {x : L2.St → Prop} {W : WX} {X : Cx} {a b e : Expr} {es : List Expr} {pos p p2 pos2 : Pos} {ma mb : B}
theorem de_isC {C : Addr} {y : Str} {tab : Nat → Option Bool} (I : IsC X.K g C tab) (hg : Gl X "isinstance") (hm : X.mg "isinstance" = none) (hg2 : Gl X y) (hm2 : X.mg y = some (.ref C)) (ha : PBd g x W X a ma)
    (hdy : (y == ("__debug__" : Str)) = false := by decide)
    (he : starEach [a, .Name y p2] X.env = (false, eval a X.env) :: starEach [.Name y p2] X.env := by rfl) (he2 : starEach [.Name y p2] X.env = (false, eval (.Name y p2) X.env) :: starEach [] X.env := by rfl) :
    PEd g x W X (.Call (.Name "isinstance" p) [a, .Name y p2] [] pos) (mUn (fIsC tab) ma) := by
  have q : PA X [a, .Name y p2] (tCons (tB X.K g x W ma) (tCons (tC (.ref C)) tNil)) := pa_cons ha (pa_cons (pe_glob (v := .ref C) hg2 hm2 rfl hdy) pa_nil he2) he
  refine weakE (pe_callB call_isi hg hm (by decide +kernel) q (by decide) (by decide) he (by rw [he2]; rfl)) fun σ H Q ⟨env, Z, er, hp⟩ => ?_
  exact useB er hp fun d v H1 e1 k1 r1 hp1 => uf_isC I W H1 Z σ _ _ _ (dom_mono k1 er.dom) r1 hp1
end

/-! ### xs * k of an own list; t * k -/
theorem replL {K : PySem.W.Frag} {g : G0} {H : Hp} {Z : Av} {ds : List D} {vs : List V} (r : RepL K g H Z ds vs) : ∀ n : Nat, RepL K g H Z (List.replicate n ds).flatten (List.replicate n vs).flatten
  | 0 => by simpa using RepL.nil_.mpr rfl
  | n + 1 => by
    rw [List.replicate_succ, List.replicate_succ, List.flatten_cons, List.flatten_cons]
    exact r.append (replL r n)
def RepOk (n : Nat) (k : Int) : Bool := decide (-(2 ^ 63) ≤ k) && decide (k < 2 ^ 63) && decide (n * k.toNat ≤ lim)
def mRepV (i : Nat) (mb : B) : M := fun env => match env[i]? with
  | some (some (.ow xs)) => (mb env).bind fun y => match y with
    | .int k => if RepOk xs.length k = true then .ok (.ow (List.replicate k.toNat xs).flatten) else .st
    | _ => .st
  | _ => .st
section
variable {g : G0} {x : L2.St → Prop} {W : WX} {X : Cx} {a b e : Expr} {es : List Expr} {pos p p2 pos2 : Pos} {ma mb : B}
theorem de_repV (i : Nat) {y : Str} (hb : PBd g x W X b mb) (hN : X.N[i]? = some y := by rfl) (hv : Vis X.env.scope y := by first | exact Or.inl rfl | exact Or.inr (Or.inl rfl) | exact Or.inr (Or.inr rfl)) (hd : (y == ("__debug__" : Str)) = false := by decide)
    (hcd : (y == ("__classdict__" : Str)) = false := by decide) : PEd g x W X (.BinOp (.Name y p) .Mult b pos) (mRepV i mb) :=
  weakE (pe_op op_rep (pe_var hN hv hd hcd) hb) fun σ H Q ⟨env, Z, er, hp⟩ => by
    unfold mRepV at hp
    split at hp
    · rename_i xs e1
      obtain ⟨v, e2, a, vs, ev, z, p, rr⟩ := er.at_ i _ e1
      subst ev
      refine ⟨.ref a, e2, ?_⟩
      refine useB er hp fun d u H1 e3 k1 r1 hp1 => ?_
      cases d with
      | int k =>
        simp only at hp1
        split at hp1
        · rename_i hk
          unfold RepOk at hk
          rw [Bool.and_eq_true, Bool.and_eq_true, decide_eq_true_eq, decide_eq_true_eq, decide_eq_true_eq] at hk
          have rr2 := RepL.mono (.same_ k1) _ _ rr
          exact ⟨a, k, vs, rfl, r1.int_, k1 _ _ p, hk.1.1, hk.1.2, by rw [← rr.length]; exact limLine hk.2, fun q n => post_ow hp1 n (replL rr2 k.toNat)⟩
        · exact hp1.elim
      | _ => exact hp1.elim
    · exact hp.elim
end
section
variable {X : Cx}
def rRepN (K : PySem.W.Frag) : R2 := fun x y H Q => ∃ l k xs, x = .ref l ∧ y = .int k ∧ SqT K H l xs ∧ xs ≠ [] ∧ 2 ≤ k ∧ k ≤ 1000 ∧ xs.length ≤ 1000 ∧ NewT H (List.replicate k.toNat xs).flatten Q
theorem op_repN : OpR X (binaryOp .Mult) (rRepN X.K) := by
  intro pins s σ H x y v u Q I rx ry h
  obtain ⟨l, k, xs, rfl, rfl, hT, hne, h1, h2, hz, q⟩ := h
  cases rx
  obtain ⟨t, rfl⟩ := ry
  obtain ⟨its, r, ⟨⟨cls, dd, data, sl⟩, ho, hc, n, hd⟩, hs⟩ := I.tuple hT
  simp only at hc hd
  subst hc hd
  have hle : its.length = xs.length := r.length.symm
  have hn : its ≠ [] := fun e => hne (by
    rw [e] at hle
    exact List.eq_nil_of_length_eq_zero hle.symm)
  have hi : its.toArray.isEmpty = false := by
    cases its with
    | nil => exact absurd rfl hn
    | cons a b => rfl
  have hsz0 : its.toArray.size = xs.length := by rw [List.size_toArray, hle]
  have hm : ((its.toArray.size : Nat) : Int) * k ≤ 1000000 := by
    rw [hsz0]
    have a1 : ((xs.length : Nat) : Int) * k ≤ 1000 * k := Int.mul_le_mul_of_nonneg_right (by omega) (by omega)
    omega
  have vlen : (List.replicate k.toNat xs).flatten.length ≤ sizeLine := by
    rw [PyProof.Rows.lm_len_rep_flat, sizeLine_eq]
    have a1 : k.toNat * xs.length ≤ 1000 * 1000 := Nat.mul_le_mul (by omega) hz
    omega
  have flen : (List.replicate k.toNat its).flatten.length ≤ sizeLine := by
    rw [PyProof.Rows.lm_len_rep_flat, hle, sizeLine_eq]
    have a1 : k.toNat * xs.length ≤ 1000 * 1000 := Nat.mul_le_mul (by omega) hz
    omega
  have c0 : (decide (k < -(2 ^ 63)) || decide (k ≥ 2 ^ 63)) = false := by
    rw [decide_eq_false (by omega), decide_eq_false (by omega)] <;> rfl
  have c1 : (its.toArray.isEmpty || k == 1) = false := by
    rw [hi, Bool.false_or]
    exact beq_eq_false_iff_ne.mpr (by omega)
  have c2 : (decide (k ≤ 0) || its.toArray.isEmpty) = false := by
    rw [hi, Bool.or_false]
    exact decide_eq_false (by omega)
  have c4 : Builtin.Tuple.tupleTooMany (((its.toArray.size : Nat) : Int) * k) = false := by
    unfold Builtin.Tuple.tupleTooMany
    rw [sizeLine_eq]
    exact decide_eq_false (by omega)
  refine wpAny_binaryOp_repeat_ref (T := "tuple") (U := "int") (by decide) ⟨_, ho, rfl⟩ (fun s' => typeIs_int s' k t) noFill_tuple_mul F.fills_int_mul F.slot_int_rmul repeat_tuple F.slot_int_index.lookup
    (call_meets F.slot_int_rmul (typeIs_int s k t) F.entry_int_rmul (F.args_int_rmul_2 _ _) (int_rmul_tuple k t l its.toArray n dd sl)
      ⟨ho, rfl, ⟨_, ho, rfl⟩, call_meets F.slot_tuple_mul ⟨_, ho, rfl⟩ F.entry_tuple_mul (F.args_tuple_mul_2 _ _) (tuple_mulW l its.toArray n dd sl k t c0 c1 c2 (by omega) c4 (by rw [size_rep, List.size_toArray]; exact flen)) ⟨ho, ?_⟩⟩)
  rw [size_rep]
  exact newT (t' := s.toks) I (fun b ob q => Heap.get?_push_of_some _ q) (Nat.le_refl _) (Heap.get?_push_size _ rfl) (r.rep k.toNat) vlen q
end
def fMulT : D → D → R Sl
  | .tup xs, .int k => if xs ≠ [] ∧ 2 ≤ k ∧ k ≤ 1000 ∧ xs.length ≤ 1000 then .ok (.fr (.tup (List.replicate k.toNat xs).flatten)) else .st
  | x, y => fMul x y
theorem of_mulT {K : PySem.W.Frag} : OpF K (fun x y H Q => (rI CMul (fun i j => .int (i * j)) x y H Q ∨ rI CMulW (fun i j => .int (i * j)) x y H Q) ∨ rRepN K x y H Q) fMulT := by
  intro g W H Z σ x y v u Q dom rx ry hp
  by_cases c : ∃ a b, x = .tup a ∧ y = .int b
  · obtain ⟨a, b, e1, e2⟩ := c
    subst e1 e2
    have hp : PostE K g W Z σ H Q (if a ≠ [] ∧ 2 ≤ b ∧ b ≤ 1000 ∧ a.length ≤ 1000 then .ok (.fr (.tup (List.replicate b.toNat a).flatten)) else .st) := hp
    by_cases hl : a ≠ [] ∧ 2 ≤ b ∧ b ≤ 1000 ∧ a.length ≤ 1000
    · rw [if_pos hl] at hp
      obtain ⟨l, vs, e1, q1, r1⟩ := rx.tup_
      refine .inr ⟨l, b, vs, e1, ry.int_, q1.sqT, fun e => hl.1 ?_, hl.2.1, hl.2.2.1, by rw [← r1.length]; exact hl.2.2.2, post_tup hp (replL r1 _)⟩
      subst e
      exact List.eq_nil_of_length_eq_zero r1.length
    · rw [if_neg hl] at hp; exact hp.elim
  · refine .inl (of_mul g W H Z σ x y v u Q dom rx ry ?_)
    have e : fMulT x y = fMul x y := by
      cases x <;> cases y <;> first | rfl | exact absurd ⟨_, _, rfl, rfl⟩ c
    rw [← e]
    exact hp
section
variable {g : G0} {x : L2.St → Prop} {W : WX} {X : Cx} {a b e : Expr} {es : List Expr} {pos p p2 pos2 : Pos} {ma mb : B} {m : M}
theorem de_mulT (ha : PBd g x W X a ma) (hb : PBd g x W X b mb) : PEd g x W X (.BinOp a .Mult b pos) (mBin fMulT ma mb) := de_op ((op_mul.or op_mulW).or op_repN) of_mulT ha hb
end

/-! ### xs.extend(new list) -/
def sExt (i : Nat) (m : M) : MS := fun env => match env[i]? with
  | some (some (.ow xs)) => match m env with
    | .ok (.ow ys) => if xs.length + ys.length ≤ lim then .nx (env.set i (some (.ow (xs ++ ys)))) else .st
    | .ok _ => .st
    | .ex c p => .ex c p env
    | .st => .st
  | _ => .st
section
variable {g : G0} {x : L2.St → Prop} {W : WX} {X : Cx} {e : Expr} {pos : Pos} {m : M}
theorem ds_ext (i : Nat) {y : Str} {p apos cpos : Pos} (hN : X.N[i]? = some y := by rfl) (hv : Vis X.env.scope y := by first | exact Or.inl rfl | exact Or.inr (Or.inl rfl) | exact Or.inr (Or.inr rfl)) (hd : (y == ("__debug__" : Str)) = false := by decide)
    (hcd : (y == ("__classdict__" : Str)) = false := by decide) (he : PEd g x W X e m) (hx : ∀ σ, x σ)
    (hbase : attributeBase (.Name y p) "extend" X.env (eval (.Name y p) X.env) = eval (.Name y p) X.env := by rfl)
    (hline : (apos.endLine == cpos.line) = true := by rfl)
    (hse : starEach [e] X.env = [(false, eval e X.env)] := by rfl)
    (hs : swapsWith (.Call (.Attribute (.Name y p) "extend" apos) [e] [] cpos) none pos.line X.env = pure false := by rfl) : PSd g x W X (.Expr (.Call (.Attribute (.Name y p) "extend" apos) [e] [] cpos) pos) (sExt i m) :=
  weakS (ps_expr (pe_bm PySem.F.plainAttrs_list PySem.F.slot_list_extend PySem.F.type_list_extend mt_extend (pe_var hN hv hd hcd) (pa_cons he pa_nil hse) hbase (by rw [hse]; rfl) hline hse (by rfl)) hs) fun D σ H ⟨env, A, H0, r, hp⟩ => by
    unfold sExt at hp
    split at hp
    · rename_i xs e1
      obtain ⟨v, e2, a, vs, ev, z, p, rr⟩ := r.er.at_ i _ e1
      subst ev
      refine ⟨.ref a, e2, .inl ⟨rfl, vs, SqL.of p⟩, ?_⟩
      refine ⟨env, zz A env σ, r.er, ?_⟩
      cases em : m env with
      | ok s =>
        rw [em] at hp
        cases s with
        | fr d => exact hp.elim
        | ow ys =>
          intro b us H' k n pb q
          have hp : PostS X.K g x W A H0 D (if xs.length + ys.length ≤ lim then RS.nx (env.set i (some (.ow (xs ++ ys)))) else RS.st) := hp
          split at hp
          · rename_i hl
            refine ⟨a, b, vs, us, rfl, rfl, k _ _ p, pb, by rw [← rr.length, ← q.length]; exact limLine hl, hp _ _ ((r.later k).mut e1 e2 ((RepL.mono (.same_ k) _ _ rr).append (RepL.mono (.of (Same.refl _) fun _ _ z => .inl z) _ _ q)))⟩
          · exact hp.elim
      | ex c p =>
        rw [em] at hp
        refine fun H' dd k q => hp σ H' dd (r.later k) ?_
        cases p with
        | none => exact q
        | some fx =>
          obtain ⟨da, v, e1, e2, e3⟩ := q
          exact ⟨da, v, e1, e2, Rep.mono (.of (Same.refl _) fun _ _ z => .inl z) _ _ e3⟩
      | st => rw [em] at hp; exact hp
    · exact hp.elim
end
end DL
set_option Elab.async false
set_option linter.all false
set_option maxRecDepth 100000
namespace DL
open PySem PySem.Spec L2
open PyProof.Rows hiding St

/-! ### x op y by an own method, both of one class -/
section
variable {X : Cx} {CX : CXT} {E : L2.St → XK} {pos : Pos} {a b : Expr} {ta tb : TE}
theorem inst_of {pins : List (Addr × Obj)} {σ : L2.St} {H : Hp} {s : Shared} {p C dx : Addr} {fs : List (Str × V)} (I : Inv X pins σ H s) (h : H p = some (.ins C dx fs)) : ∃ ox od, PySem.W.InstAt s.heap p ox C od := by
  obtain ⟨mA, O, _⟩ := ins_get I.hok h
  obtain ⟨od, J, _⟩ := O.look
  exact ⟨_, _, J⟩
def tOpV (X : Cx) (CX : CXT) (nm : Str) (E : L2.St → XK) (ta tb : TE) : TE := fun σ H Q => ta σ H fun x H1 => tb σ H1 fun y H2 => ∃ p q C dx fs dy gs f fd ps sp k, x = .ref p ∧ y = .ref q ∧ H2 p = some (.ins C dx fs) ∧ H2 q = some (.ins C dy gs) ∧
  PySem.W.selfFirst X.K C = true ∧ PySem.W.findIn X.K (.ref C) nm = some (some (.ref f)) ∧ PySem.W.isFn X.K (.ref f) = true ∧ FnOk X.prog X.w X.K X.mg X.base CX k f fd ps sp ∧ Room k X.A ∧ Binds X.K fd ps [] ∧ sp [x, y] H2 Q (E σ)
theorem pe_opV {op : Operator} {nm : Str} (hn : PySem.dunder op.info.2 = nm) (hx : ∀ σ, PassesAt CX X σ (E σ)) (ha : PE X a ta) (hb : PE X b tb) : PE X (.BinOp a op b pos) (tOpV X CX nm E ta tb) := by
  refine ⟨fun pins s σ H Q I h => ?_⟩
  refine wpAny_BinOp (binT ha hb I h fun v u s2 x y H2 I2 rx ry q => ?_)
  obtain ⟨p, q', C, dx, fs, dy, gs, f, fd, ps, sp, k, ex, ey, h1, h2, hc, hs, hf, F, hr, hbd, q⟩ := q
  subst ex ey
  cases (show v = Value.ref p from rx)
  cases (show u = Value.ref q' from ry)
  obtain ⟨ox, od, J⟩ := inst_of I2 h1
  obtain ⟨oy, od', J'⟩ := inst_of I2 h2
  obtain ⟨m, hF⟩ := I2.fr
  refine PySem.W.binop_K (op := op) hF I2.ok.mod.kin J J'.type hc (by rw [hn]; exact hs) hf ?_
  refine wpAny_mono (run_fnS (us := [.ref p, .ref q']) (vs := [.ref p, .ref q']) F hr hbd (hx σ) I2 (.cons rfl (.cons rfl .nil)) q) (fun w s' z => ?_) fun _ _ x => x
  obtain ⟨z', H', I', rz, qz⟩ := z
  exact SlX.cmpback rz ⟨z', H', I', rz, qz⟩
end
/-- the objects of class c have f for the operator whose method is nm -/
structure OD (P : Program) (w : World) (K : PySem.W.Frag) (mg : Str → Option Value) (base : Heap) (g : G0) (k : Nat) (nm : Str) (c : Nat) (f : Fn) : Prop where
  ex : ∃ a fd ps, PySem.W.selfFirst K (g.cl c) = true ∧ PySem.W.findIn K (.ref (g.cl c)) nm = some (some (.ref a)) ∧ PySem.W.isFn K (.ref a) = true ∧ Binds K fd ps [] ∧ FnOk P w K mg base (L2.CX P w) k a fd ps (Prom K g f)
def fOwn (tab : Nat → Option Fn) : D → D → R Sl
  | .obj c fs, .obj c' gs => if c = c' then match tab c with
    | some f => f [.obj c fs, .obj c' gs]
    | none => .st else .st
  | _, _ => .st
section
variable {g : G0} {x : L2.St → Prop} {W : WX} {X : Cx} {a b e : Expr} {es : List Expr} {pos p : Pos} {ma mb : B} {m m2 : M} {k : Nat} {tab : Nat → Option Fn}
theorem de_own {op : Operator} {nm : Str} (hn : PySem.dunder op.info.2 = nm) (hM : ∀ c f, tab c = some f → OD X.prog X.w X.K X.mg X.base g k nm c f) (hr : Room k X.A) (tk : Takes X W) (ha : PBd g x W X a ma) (hb : PBd g x W X b mb) : PEd g x W X (.BinOp a op b pos) (mBin (fOwn tab) ma mb) :=
  weakE (pe_opV (E := WE W) hn (fun σ => passAt tk σ) ha hb) fun σ H Q ⟨env, Z, er, hp⟩ => by
    refine useB er hp fun s v H1 e1 k1 r1 hp1 => ?_
    refine useB (er.mono k1) hp1 fun s2 u H2 e2 k2 r2 hp2 => ?_
    have r1 := r1.mono k2
    cases s with
    | obj c fs =>
      cases s2 with
      | obj c' gs =>
        have hp2 : PostE X.K g W Z σ H2 Q (if c = c' then match tab c with | some f => f [.obj c fs, .obj c' gs] | none => .st else .st) := hp2
        by_cases hc : c = c'
        · subst hc
          rw [if_pos rfl] at hp2
          cases et : tab c with
          | none => rw [et] at hp2; exact hp2.elim
          | some f =>
            rw [et] at hp2
            obtain ⟨a, fd, ps, h1, h2, h3, h4, h5⟩ := (hM c f et).ex
            obtain ⟨p, dx, vs, ev, nz, hH, hl, rr⟩ := Rep.obj_.mp r1.obj_
            obtain ⟨q, dy, ws, ew, nz', hH', hl', rr'⟩ := Rep.obj_.mp r2.obj_
            exact ⟨p, q, _, dx, _, dy, _, a, fd, ps, _, k, ev, ew, hH, hH', h1, h2, h3, h5, hr, h4, Z, _, dom_mono (k1.trans k2) er.dom, RepL.cons_.mpr ⟨v, [u], rfl, r1.obj_, .one r2.obj_⟩, postW hp2⟩
        · rw [if_neg hc] at hp2; exact hp2.elim
      | _ => exact hp2.elim
    | _ => exact hp2.elim
end

/-! ### x == y by an own __eq__ -/
section
variable {X : Cx} {CX : CXT} {E : L2.St → XK} {pos : Pos} {a b : Expr} {ta tb : TE}
def TyLook (X : Cx) (H : Hp) (y : V) (t : Value) : Prop := (∃ T, t = .type T ∧ TyX X.K H y (.type T)) ∨ ∃ q C dx fs, y = .ref q ∧ t = .ref C ∧ H q = some (.ins C dx fs)
def tEqV (X : Cx) (CX : CXT) (E : L2.St → XK) (ta tb : TE) : TE := fun σ H Q => ta σ H fun x H1 => tb σ H1 fun y H2 => ∃ p C dx fs t f fd ps sp k, x = .ref p ∧ H2 p = some (.ins C dx fs) ∧ TyLook X H2 y t ∧ PySem.W.notFirst X.K C t = true ∧
  PySem.W.findIn X.K (.ref C) "__eq__" = some (some (.ref f)) ∧ PySem.W.isFn X.K (.ref f) = true ∧ FnOk X.prog X.w X.K X.mg X.base CX k f fd ps sp ∧ Room k X.A ∧ Binds X.K fd ps [] ∧ sp [x, y] H2 Q (E σ)
theorem pe_eqV (hx : ∀ σ, PassesAt CX X σ (E σ)) (ha : PE X a ta) (hb : PE X b tb) (hm : behindInMarks .Eq b = false) : PE X (.Compare a [.Eq] [b] pos) (tEqV X CX E ta tb) := by
  refine ⟨fun pins s σ H Q I h => ?_⟩
  refine wpAny_Compare1 (binT ha hb I h fun v u s2 x y H2 I2 rx ry q => ?_) hm
  obtain ⟨p, C, dx, fs, t, f, fd, ps, sp, k, ex, h1, ht, hn, hs, hf, F, hr, hbd, q⟩ := q
  subst ex
  cases (show v = Value.ref p from rx)
  obtain ⟨ox, od, J⟩ := inst_of I2 h1
  obtain ⟨m, hF⟩ := I2.fr
  have L : PySem.W.Looks (model X.prog X.w) s2.heap (typeOf u) t := by
    rcases ht with ⟨T, rfl, ty⟩ | ⟨q', C', dy, gs, rfl, rfl, h2⟩
    · obtain ⟨P, Z, hp, _⟩ := kit_of I2 ry ty
      exact Z.ty _ _ I2.kIn hp
    · cases (show u = Value.ref q' from ry)
      obtain ⟨oy, od', J'⟩ := inst_of I2 h2
      exact J'.type
  refine PySem.W.cmp_ofEq (PySem.W.cmp_K (op := .Eq) hr.units0 hF I2.ok.mod.kin J L hn hs hf ?_)
  refine wpAny_mono (run_fnS (us := [.ref p, u]) (vs := [.ref p, y]) F hr hbd (hx σ) I2 (.cons rfl (.cons ry .nil)) q) (fun w s' z => ?_) fun _ _ x => x
  obtain ⟨z', H', I', rz, qz⟩ := z
  exact SlX.cmpback rz ⟨z', H', I', rz, qz⟩
end
structure EqD (P : Program) (w : World) (K : PySem.W.Frag) (mg : Str → Option Value) (base : Heap) (g : G0) (k : Nat) (c : Nat) (f : Fn) : Prop where
  ex : ∃ a fd ps, PySem.W.findIn K (.ref (g.cl c)) "__eq__" = some (some (.ref a)) ∧ PySem.W.isFn K (.ref a) = true ∧ Binds K fd ps [] ∧ FnOk P w K mg base (L2.CX P w) k a fd ps (Prom K g f)
  nf : ∀ T, T = "NoneType" ∨ T = "bool" ∨ T = "int" ∨ T = "str" ∨ T = "tuple" ∨ T = "list" → PySem.W.notFirst K (g.cl c) (.type T) = true
def okEq (c : Nat) : D → Bool
  | .obj c' _ => decide (c = c')
  | .dct _ _ => false
  | _ => true
def mEqO (tab : Nat → Option Fn) (ma mb : M) : M := fun env => (ma env).bind fun s => (mb env).bind fun t => match s.d with
  | .obj c fs => match tab c with
    | some f => if okEq c t.d = true then f [.obj c fs, t.d] else .st
    | none => .st
  | _ => .st
section
variable {g : G0} {x : L2.St → Prop} {W : WX} {X : Cx} {a b e : Expr} {es : List Expr} {pos p : Pos} {ma mb : B} {m m2 : M} {k : Nat} {tab : Nat → Option Fn}
theorem tyLook {H : Hp} {Z : Av} {c : Nat} {d : D} {v : V} (hd : okEq c d = true) (r : Rep X.K g H Z d v) : ∃ t, TyLook X H v t ∧ ((∃ T, (T = "NoneType" ∨ T = "bool" ∨ T = "int" ∨ T = "str" ∨ T = "tuple" ∨ T = "list") ∧ t = .type T) ∨ t = .ref (g.cl c)) := by
  cases d with
  | non => rw [Rep.non_.mp r]; exact ⟨_, .inl ⟨"NoneType", rfl, .base .non⟩, .inl ⟨_, by simp, rfl⟩⟩
  | bl b => rw [Rep.bl_.mp r]; exact ⟨_, .inl ⟨"bool", rfl, .base (.bl b)⟩, .inl ⟨_, by simp, rfl⟩⟩
  | int b => rw [Rep.int_.mp r]; exact ⟨_, .inl ⟨"int", rfl, .base (.int b)⟩, .inl ⟨_, by simp, rfl⟩⟩
  | str b => rw [Rep.str_.mp r]; exact ⟨_, .inl ⟨"str", rfl, .base (.str b)⟩, .inl ⟨_, by simp, rfl⟩⟩
  | tup xs =>
    obtain ⟨a, ws, rfl, tu, rr⟩ := Rep.tup_.mp r
    exact ⟨_, .inl ⟨"tuple", rfl, tyX_tu tu⟩, .inl ⟨_, by simp, rfl⟩⟩
  | lst xs =>
    obtain ⟨a, ws, rfl, rd, rr⟩ := Rep.lst_.mp r
    exact ⟨_, .inl ⟨"list", rfl, tyX_rd rd.sq⟩, .inl ⟨_, by simp, rfl⟩⟩
  | dct c' fs => cases hd
  | obj c' fs =>
    have e : c = c' := of_decide_eq_true hd
    subst e
    obtain ⟨q, dx, vs, ev, nz, hH, hl, rr⟩ := Rep.obj_.mp r
    exact ⟨_, .inr ⟨q, _, dx, _, ev, rfl, hH⟩, .inr rfl⟩
theorem de_eqO (hM : ∀ c f, tab c = some f → EqD X.prog X.w X.K X.mg X.base g k c f) (hr : Room k X.A) (tk : Takes X W) (ha : PEd g x W X a m) (hb : PEd g x W X b m2) : PEd g x W X (.Compare a [.Eq] [b] pos) (mEqO tab m m2) :=
  weakE (pe_eqV (E := WE W) (fun σ => passAt tk σ) ha hb (nomark _)) fun σ H Q ⟨env, Z, er, hp⟩ => by
    refine use1 (f := fun s => (m2 env).bind fun t => match s.d with
      | .obj c fs => match tab c with
        | some f => if okEq c t.d = true then f [.obj c fs, t.d] else .st
        | none => .st
      | _ => .st) er hp fun s v H1 e1 k1 r1 hp1 => ?_
    refine use1 (f := fun t => match s.d with
      | .obj c fs => match tab c with
        | some f => if okEq c t.d = true then f [.obj c fs, t.d] else .st
        | none => .st
      | _ => .st) (er.mono k1) hp1 fun t u H2 e2 k2 r2 hp2 => ?_
    have r1 := Rep.mono (.same_ k2) _ _ r1
    cases ed : s.d with
    | obj c fs =>
      simp only [ed] at hp2
      rw [ed] at r1
      cases et : tab c with
      | none => simp only [et] at hp2; exact hp2.elim
      | some f =>
        simp only [et] at hp2
        by_cases ho : okEq c t.d = true
        · rw [if_pos ho] at hp2
          obtain ⟨⟨a, fd, ps, h2, h3, h4, h5⟩, nf⟩ := hM c f et
          obtain ⟨p, dx, vs, ev, nz, hH, hl, rr⟩ := Rep.obj_.mp r1
          obtain ⟨ty, hl, ht⟩ := tyLook (X := X) ho r2
          refine ⟨p, _, dx, _, ty, a, fd, ps, _, k, ev, hH, hl, ?_, h2, h3, h5, hr, h4, Z, _, dom_mono (k1.trans k2) er.dom, RepL.cons_.mpr ⟨v, [u], rfl, r1, .one r2⟩, postW hp2⟩
          rcases ht with ⟨T, hT, rfl⟩ | rfl
          · exact nf T hT
          · unfold PySem.W.notFirst
            rw [beq_self_eq_true, Bool.true_or]
        · rw [if_neg ho] at hp2; exact hp2.elim
    | _ => simp only [ed] at hp2; exact hp2.elim
end

/-! ### str(x) by an own __str__ -/
section
variable {X : Cx} {CX : CXT} {E : L2.St → XK} {p pos : Pos} {e : Expr} {es : List Expr} {t : TA}
def tStrV (X : Cx) (CX : CXT) (E : L2.St → XK) (t : TA) : TE := fun σ H Q => t σ H fun vs H1 => ∃ p C dx fs f fd ps sp k, vs = [.ref p] ∧ H1 p = some (.ins C dx fs) ∧ PySem.W.findIn X.K (.ref C) "__str__" = some (some (.ref f)) ∧ PySem.W.isFn X.K (.ref f) = true ∧
  FnOk X.prog X.w X.K X.mg X.base CX k f fd ps sp ∧ Room (k + 2) X.A ∧ Binds X.K fd ps [] ∧ sp vs H1 (fun v H2 => ∃ z, v = .str z ∧ Q v H2) (E σ)
theorem run_at2 {A : Around} {pins : List (Addr × Obj)} {σ : L2.St} {H : Hp} {s : Shared} {k : Nat} {f : Addr} {fd : FuncData} {ps : List Str} {sp : Sp} {Q : VK} {us : List Value} {vs : List V} (F : FnOk X.prog X.w X.K X.mg X.base CX k f fd ps sp) (hr : Room k A) (e0 : Env0 X.prog X.w X.K X.mg X.base A X.stack s H)
    (hb : Binds X.K fd ps []) (hx : PassesAt CX X σ (E σ)) (I : Inv X pins σ H s) (r : Vals vs us) (h : sp vs H Q (E σ)) : wpAny (model X.prog X.w) A (call (.ref f) us) (EP X pins σ Q) X.xe s := by
  have hl : us.length = ps.length := by rw [← r.length]; exact F.len _ _ _ _ h
  have b := hb s us I.kIn (by rw [List.append_nil]; exact hl)
  rw [List.append_nil] at b
  refine wpAny_call (codeAny_mono (F.run A X.stack s H ⟨us, []⟩ us vs Q (E σ) hr e0 b r h) fun r s' hq => ?_)
  cases r with
  | error e => exact hx pins H s e s' I hq
  | ok fl =>
    cases fl with
    | ret u => exact I.after hq
    | next => exact False.elim hq
    | brk => exact False.elim hq
    | cont => exact False.elim hq
theorem pe_strV (hg : Gl X "str") (hm : X.mg "str" = none) (hx : ∀ σ, PassesAt CX X σ (E σ)) (ha : PA X (e :: es) t)
    (he : starEach (e :: es) X.env = (false, eval e X.env) :: starEach es X.env := by rfl) (hpl : (backTo pos (starEach es X.env)).any (·.1) = false := by rfl) : PE X (.Call (.Name "str" p) (e :: es) [] pos) (tStrV X CX E t) := by
  refine ⟨fun pins s σ H Q I h => ?_⟩
  refine wpAny_Call_Name_kw (ld_blt I hg hm (show bootBuiltins "str" = some (.type "str") by decide +kernel) ?_ (by decide) (by decide))
  refine PyProof.Rows.callWith_type1 (thn (ha.run pos pins s σ H _ I h) fun us s1 ⟨vs, H1, I1, r1, p, C, dx, fs, f, fd, ps, sp, k, ev, h1, hs, hf, F, hr, hb, q⟩ => ?_) he hpl
  subst ev
  obtain ⟨u, rfl, ru⟩ := r1.one
  cases (show u = Value.ref p from ru)
  obtain ⟨ox, od, J⟩ := inst_of I1 h1
  have hr2 : Room k X.A.in1.in1 := (show Room (k + 1) X.A.in1 from Room.in1 hr).in1
  refine PySem.W.kso_call hr2.units0 I1.kIn J hs hf (wpAny_mono (run_at2 (us := [.ref p]) (vs := [.ref p]) F hr2 I1.env0.in1.in1 hb (hx σ) I1 (.cons rfl .nil) q) (fun w s' z => ?_) fun _ _ x => x)
  obtain ⟨z', H', I', rz, y, ey, qz⟩ := z
  subst ey
  obtain ⟨t, rfl⟩ := (show ∃ t, w = Value.str y t from rz)
  exact ⟨.str y, H', I', ⟨t, rfl⟩, qz⟩
end
structure SD (P : Program) (w : World) (K : PySem.W.Frag) (mg : Str → Option Value) (base : Heap) (g : G0) (k : Nat) (c : Nat) (f : Fn) : Prop where
  ex : ∃ a fd ps, PySem.W.findIn K (.ref (g.cl c)) "__str__" = some (some (.ref a)) ∧ PySem.W.isFn K (.ref a) = true ∧ Binds K fd ps [] ∧ FnOk P w K mg base (L2.CX P w) k a fd ps (Prom K g f)
def asS : D → R Sl
  | .str z => .ok (.fr (.str z))
  | _ => .st
def fStrO (tab : Nat → Option Fn) : List D → R Sl
  | [.obj c fs] => match tab c with
    | some f => (f [.obj c fs]).bind fun s => asS s.d
    | none => .st
  | _ => .st
section
variable {g : G0} {x : L2.St → Prop} {W : WX} {X : Cx} {e : Expr} {es : List Expr} {pos p : Pos} {k : Nat} {tab : Nat → Option Fn} {mr : En → R (List D)}
theorem de_strO (hM : ∀ c f, tab c = some f → SD X.prog X.w X.K X.mg X.base g k c f) (hr : Room (k + 2) X.A) (tk : Takes X W) (hg : Gl X "str") (hm : X.mg "str" = none) (ha : PAd g x W X (e :: es) mr)
    (he : starEach (e :: es) X.env = (false, eval e X.env) :: starEach es X.env := by rfl) (hpl : (backTo pos (starEach es X.env)).any (·.1) = false := by rfl) : PEd g x W X (.Call (.Name "str" p) (e :: es) [] pos) (mCall (fStrO tab) mr) :=
  weakE (pe_strV (E := WE W) hg hm (fun σ => passAt tk σ) ha he hpl) fun σ H Q ⟨env, Z, er, hp⟩ => useA er hp fun ds vs H1 e1 k1 r1 hp1 => by
    match ds with
    | [] => exact hp1.elim
    | [.obj c fs] =>
      have hp1 : PostE X.K g W Z σ H1 Q (match tab c with | some f => (f [.obj c fs]).bind fun s => asS s.d | none => .st) := hp1
      cases et : tab c with
      | none => rw [et] at hp1; exact hp1.elim
      | some f =>
        rw [et] at hp1
        obtain ⟨v, r, ev, r3, r2⟩ := RepL.cons_.mp r1
        have er2 := RepL.nil_.mp r2
        subst er2 ev
        obtain ⟨a, fd, ps, h2, h3, h4, h5⟩ := hM c f et
        obtain ⟨p, dx, vs, ev, nz, hH, hl, rr⟩ := Rep.obj_.mp r3
        subst ev
        refine ⟨p, _, dx, _, a, fd, ps, _, k, rfl, hH, h2, h3, h5, hr, h4, Z, _, dom_mono k1 er.dom, .one r3, ?_⟩
        have hp1 : PostE X.K g W Z σ H1 Q ((f [.obj c fs]).bind fun s => asS s.d) := hp1
        cases ef : f [.obj c fs] with
        | ok s =>
          rw [ef] at hp1
          have hp1 : PostE X.K g W Z σ H1 Q (asS s.d) := hp1
          cases s with
          | ow xs => exact hp1.elim
          | fr d =>
            cases d with
            | str z => exact fun v H2 k2 r => ⟨z, Rep.str_.mp r, hp1 v H2 k2 r⟩
            | _ => exact hp1.elim
        | ex c p => rw [ef] at hp1; exact hp1
        | st => rw [ef] at hp1; exact hp1.elim
    | a :: _ :: _ => cases a <;> exact hp1.elim
    | [.non] => exact hp1.elim
    | [.bl _] => exact hp1.elim
    | [.int _] => exact hp1.elim
    | [.str _] => exact hp1.elim
    | [.tup _] => exact hp1.elim
    | [.lst _] => exact hp1.elim
end

/-! ### a // b of any sign; gcd -/
def CDivNW (i j : Int) : Prop := j ≠ 0 ∧ j.natAbs < 2 ^ 4000
section
variable {X : Cx}
theorem op_fdivNW : OpR X (binaryOp .FloorDiv) (rI CDivNW fun i j => .int (i.fdiv j)) := opI fun i j _ _ _ _ _ hc q =>
  floordiv_int hc.1 q (.inl (PyProof.noPylong_of_log2 (Nat.lt_of_lt_of_le (PySem.Flt.log2_lt_of (by decide) hc.2) (by decide))))
end
def fFdiv : D → D → R Sl
  | .int a, .int b => if b ≠ 0 ∧ b.natAbs < 2 ^ 4000 then .ok (.fr (.int (a.fdiv b))) else .st
  | _, _ => .st
theorem of_fdivN {K : PySem.W.Frag} : OpF K (rI CDivNW fun i j => .int (i.fdiv j)) fFdiv := by
  intro g W H Z σ x y v u Q dom rx ry hp
  cases x <;> cases y <;> first | exact hp.elim | skip
  rename_i i j
  simp only [fFdiv] at hp
  split at hp
  · rename_i hm
    exact ⟨i, j, rx.int_, ry.int_, hm, hp _ H (Same.refl _) (Rep.int_.mpr rfl)⟩
  · exact hp.elim
def fGcd : List D → R Sl
  | [.int a, .int b] => .ok (.fr (.int (Nat.gcd a.natAbs b.natAbs : Nat)))
  | _ => .st
theorem cf_gcd {K : PySem.W.Frag} : CallF K rGcd fGcd := by
  intro g W H Z σ xs vs Q dom r hp
  unfold fGcd at hp
  split at hp
  · rename_i a b
    obtain ⟨v, r1, e1, h1, r2⟩ := r
    obtain ⟨u, r3, e2, h2, e3⟩ := r2
    subst e1 e2 e3
    exact ⟨a, b, by rw [h1.int_, h2.int_], hp _ H (Same.refl _) (Rep.int_.mpr rfl)⟩
  · exact hp.elim
section
variable {g : G0} {x : L2.St → Prop} {W : WX} {X : Cx} {a b e : Expr} {es : List Expr} {pos p : Pos} {ma mb : B} {mr : En → R (List D)}
theorem de_fdivN (ha : PBd g x W X a ma) (hb : PBd g x W X b mb) : PEd g x W X (.BinOp a .FloorDiv b pos) (mBin fFdiv ma mb) := de_op op_fdivNW of_fdivN ha hb
end
/-! ### a * b of greater ints -/
def fMulX : D → D → R Sl
  | .int a, .int b => if a.natAbs.log2 + b.natAbs.log2 < 1000000 then .ok (.fr (.int (a * b))) else .st
  | _, _ => .st
theorem of_mulX {K : PySem.W.Frag} : OpF K (rI CMulW fun i j => .int (i * j)) fMulX := by
  intro g W H Z σ x y v u Q dom rx ry hp
  cases x <;> cases y <;> first | exact hp.elim | skip
  rename_i i j
  simp only [fMulX] at hp
  split at hp
  · rename_i hm
    exact ⟨i, j, rx.int_, ry.int_, hm, hp _ H (Same.refl _) (Rep.int_.mpr rfl)⟩
  · exact hp.elim
section
variable {g : G0} {x : L2.St → Prop} {W : WX} {X : Cx} {a b e : Expr} {es : List Expr} {pos p : Pos} {ma mb : B} {mr : En → R (List D)}
theorem de_mulX (ha : PBd g x W X a ma) (hb : PBd g x W X b mb) : PEd g x W X (.BinOp a .Mult b pos) (mBin fMulX ma mb) := de_op op_mulW of_mulX ha hb
end
end DL
set_option Elab.async false
set_option linter.all false
set_option maxRecDepth 100000
namespace DL
open PySem PySem.Spec L2
open PyProof.Rows hiding St

/-! ### ~x by an own method -/
section
variable {X : Cx} {CX : CXT} {E : L2.St → XK} {pos : Pos} {a : Expr} {ta : TE}
def tInvV (X : Cx) (CX : CXT) (E : L2.St → XK) (ta : TE) : TE := fun σ H Q => ta σ H fun x H1 => ∃ p C dx fs f fd ps sp k, x = .ref p ∧ H1 p = some (.ins C dx fs) ∧
  PySem.W.findIn X.K (.ref C) "__invert__" = some (some (.ref f)) ∧ PySem.W.isFn X.K (.ref f) = true ∧ FnOk X.prog X.w X.K X.mg X.base CX k f fd ps sp ∧ Room k X.A ∧ Binds X.K fd ps [] ∧ sp [x] H1 Q (E σ)
theorem pe_invV (hx : ∀ σ, PassesAt CX X σ (E σ)) (ha : PE X a ta) : PE X (.UnaryOp .Invert a pos) (tInvV X CX E ta) := by
  constructor
  intro pins s σ H Q I h
  apply UnaryOp_
  apply thn (ha.run pins s σ H _ I h)
  rintro v s1 ⟨x, H1, I1, r1, p, C, dx, fs, f, fd, ps, sp, k, ex, h1, hs, hf, F, hr, hbd, q⟩
  subst ex
  cases (show v = Value.ref p from r1)
  obtain ⟨ox, od, J⟩ := inst_of I1 h1
  obtain ⟨m, hF⟩ := I1.fr
  apply PySem.W.ksp_inv hF I1.ok.mod.kin J hs hf
  apply wpAny_mono (run_fnS (us := [.ref p]) (vs := [.ref p]) F hr hbd (hx σ) I1 (.cons rfl .nil) q) _ fun _ _ x => x
  rintro w s' ⟨z', H', I', rz, qz⟩
  exact ⟨z', H', I', rz, qz⟩
end
/-- the objects of class c have f for ~ -/
structure VD (P : Program) (w : World) (K : PySem.W.Frag) (mg : Str → Option Value) (base : Heap) (g : G0) (k : Nat) (c : Nat) (f : Fn) : Prop where
  ex : ∃ a fd ps, PySem.W.findIn K (.ref (g.cl c)) "__invert__" = some (some (.ref a)) ∧ PySem.W.isFn K (.ref a) = true ∧ Binds K fd ps [] ∧ FnOk P w K mg base (L2.CX P w) k a fd ps (Prom K g f)
def mInvO (tab : Nat → Option Fn) (ma : M) : M := fun env => (ma env).bind fun s => match s.d with
  | .obj c fs => match tab c with
    | some f => f [.obj c fs]
    | none => .st
  | _ => .st
section
variable {g : G0} {x : L2.St → Prop} {W : WX} {X : Cx} {a b e : Expr} {es : List Expr} {pos p p2 pos2 : Pos} {ma mb : B} {m m2 : M} {k : Nat} {tab : Nat → Option Fn}
theorem de_inv (hM : ∀ c f, tab c = some f → VD X.prog X.w X.K X.mg X.base g k c f) (hr : Room k X.A) (tk : Takes X W) (ha : PEd g x W X a m) : PEd g x W X (.UnaryOp .Invert a pos) (mInvO tab m) :=
  weakE (pe_invV (E := WE W) (fun σ => passAt tk σ) ha) fun σ H Q ⟨env, Z, er, hp⟩ => by
    refine use1 (f := fun s => match s.d with
      | .obj c fs => match tab c with
        | some f => f [.obj c fs]
        | none => .st
      | _ => .st) er hp fun s v H1 e1 k1 r1 hp1 => ?_
    generalize s.d = d at r1 hp1
    cases d with
    | obj c fs =>
      have hp1 : PostE X.K g W _ σ H1 Q (match tab c with | some f => f [.obj c fs] | none => .st) := hp1
      cases et : tab c with
      | none => rw [et] at hp1; exact hp1.elim
      | some f =>
        rw [et] at hp1
        obtain ⟨a, fd, ps, h1, h2, h3, h4⟩ := (hM c f et).ex
        obtain ⟨p, dx, vs, ev, nz, hH, hl, rr⟩ := Rep.obj_.mp r1
        exact ⟨p, _, dx, _, a, fd, ps, _, k, ev, hH, h1, h2, h4, hr, h3, _, _, dom_mono k1 er.dom, .one r1, postW hp1⟩
    | _ => exact hp1.elim
end

/-! ### math.comb of two -/
def fComb : List D → R Sl
  | [.int a, .int 2] => if 0 ≤ a ∧ a ≤ 1000 then .ok (.fr (.int (a * (a - 1) / 2))) else .st
  | _ => .st
def rComb : List V → Hp → VK → Prop := fun xs H Q => ∃ a : Int, xs = [.int a, .int 2] ∧ 0 ≤ a ∧ a ≤ 1000 ∧ Q (.int (a * (a - 1) / 2)) H
theorem cr_comb {X : Cx} : CallR X (.builtin "math.comb") rComb := by
  intro pins s σ H vs us Q I r h
  obtain ⟨a, rfl, h0, h1, q⟩ := h
  obtain ⟨t, u, rfl⟩ := Vals.int2 r
  refine PySem.W.mc_comb h0 (by decide) (by omega) (.inl (by decide)) fun k => ?_
  have e : PySem.W.mcComb a 2 = a * (a - 1) / 2 := by
    have := k.2.2.2.2.2.2.2 rfl
    omega
  exact ⟨.int _, H, I.tok _, ⟨_, by rw [e]⟩, q⟩
theorem cf_comb {K : PySem.W.Frag} : CallF K rComb fComb := by
  intro g W H Z σ xs vs Q dom r hp
  unfold fComb at hp
  split at hp
  · rename_i a
    obtain ⟨v, r1, e1, h1, r2⟩ := r
    obtain ⟨u, r3, e2, h2, e3⟩ := r2
    subst e1 e2 e3
    split at hp
    · rename_i hi
      exact ⟨a, by rw [h1.int_, h2.int_], hi.1, hi.2, hp _ H (Same.refl _) (Rep.int_.mpr rfl)⟩
    · exact hp.elim
  · exact hp.elim

/-! ### tuple(range(..)) -/
section
variable {X : Cx} {e : Expr} {te : L2.St → Hp → (Int → Int → Hp → Prop) → Prop}
def tTupRN (te : L2.St → Hp → (Int → Int → Hp → Prop) → Prop) : TE := fun σ H Q => te σ H fun a b H1 => RgOk a b ∧ NewT H1 (rgV a b) Q
theorem pe_tupRN {p pos : Pos} (hc : X.calm = true) (hg : Gl X "tuple") (hm : X.mg "tuple" = none) (he : PRg X e te) (na : starEach [e] X.env = (false, eval e X.env) :: starEach [] X.env := by rfl) : PE X (.Call (.Name "tuple" p) [e] [] pos) (tTupRN te) := by
  constructor
  intro pins s σ H Q I h
  refine Call_ (ld_blt I hg hm boot_tuple (PyProof.Rows.callWith_type1 (args_cons (thn (he pins s σ H _ I h) ?_) na) na))
  rintro x s1 ⟨r, a, b, t, u, v, H1, ex, hr, I1, ok, q⟩
  subst ex
  apply args_nil
  apply call_tuple_range (n := (b - a).toNat) (I1.ok.hd hc) hr (small_one ok.1 ok.2.1 ok.2.2.1 ok.2.2.2.1) (rangeSize_nat a b) ok.2.2.2.2
  intro h' tk acc hk hi
  have I2 : Inv X pins σ H1 { s1 with heap := h', toks := tk } := I1.kept hk
  exact newT (s := { s1 with heap := h', toks := tk }) (t' := tk) I2 (fun c o e => Heap.get?_push_of_some _ e) (Nat.le_refl _) (by rw [Array.toArray_toList]; exact Heap.get?_push_size _ rfl) (vals_rg hi) (by rw [rgV_length, sizeLine_eq]; have := ok.2.2.2.2; omega) q
end
def mTupR1 (m : B) : M := fun env => (m env).bind fun d => match d with
  | .int n => if n ≤ 1000000 ∧ -1000000 ≤ n then .ok (.fr (.tup (rangeD 0 n.toNat))) else .st
  | _ => .st
def mTupR2 (m n : B) : M := fun env => (m env).bind fun d => (n env).bind fun t => match d, t with
  | .int i, .int j => if (i ≤ 1000000 ∧ -1000000 ≤ i) ∧ j ≤ 1000000 ∧ -1000000 ≤ j then .ok (.fr (.tup (rangeD i (j - i).toNat))) else .st
  | _, _ => .st
section
variable {g : G0} {x : L2.St → Prop} {W : WX} {X : Cx} {a b e : Expr} {es : List Expr} {pos p p2 pos2 : Pos} {ma mb : B}
theorem de_tupR1 (hc : X.calm = true) (hg : Gl X "tuple") (hm : X.mg "tuple" = none) (hg2 : Gl X "range") (hm2 : X.mg "range" = none) (ha : PBd g x W X a ma) (na : starEach [a] X.env = (false, eval a X.env) :: starEach [] X.env := by rfl)
    (na2 : starEach [.Call (.Name "range" p2) [a] [] pos2] X.env = (false, eval (.Call (.Name "range" p2) [a] [] pos2) X.env) :: starEach [] X.env := by rfl) : PEd g x W X (.Call (.Name "tuple" p) [.Call (.Name "range" p2) [a] [] pos2] [] pos) (mTupR1 ma) :=
  weakE (pe_tupRN hc hg hm (prg_1 hg2 hm2 ha na) na2) fun σ H Q ⟨env, Z, er, hp⟩ => useB er hp fun d v H1 e1 k1 r1 hp1 => by
    cases d with
    | int n =>
      have hp1 : PostE X.K g W Z σ H1 Q (if n ≤ 1000000 ∧ -1000000 ≤ n then .ok (.fr (.tup (rangeD 0 n.toNat))) else .st) := hp1
      split at hp1
      · refine ⟨n, r1.int_, ⟨by omega, by omega, by omega, by omega, by omega⟩, ?_⟩
        have rr : RepL X.K g H1 Z (rangeD 0 (n - 0).toNat) (rgV 0 n) := rangeD_rg
        rw [Int.sub_zero] at rr
        exact post_tup hp1 rr
      · exact hp1.elim
    | _ => exact hp1.elim
theorem de_tupR2 (hc : X.calm = true) (hg : Gl X "tuple") (hm : X.mg "tuple" = none) (hg2 : Gl X "range") (hm2 : X.mg "range" = none) (ha : PBd g x W X a ma) (hb : PBd g x W X b mb)
    (na : starEach [a, b] X.env = (false, eval a X.env) :: starEach [b] X.env := by rfl) (nb : starEach [b] X.env = (false, eval b X.env) :: starEach [] X.env := by rfl) (hpl : (backTo pos2 (starEach [b] X.env)).any (·.1) = false := by rfl)
    (na2 : starEach [.Call (.Name "range" p2) [a, b] [] pos2] X.env = (false, eval (.Call (.Name "range" p2) [a, b] [] pos2) X.env) :: starEach [] X.env := by rfl) : PEd g x W X (.Call (.Name "tuple" p) [.Call (.Name "range" p2) [a, b] [] pos2] [] pos) (mTupR2 ma mb) :=
  weakE (pe_tupRN hc hg hm (prg_2 hg2 hm2 ha hb na nb hpl) na2) fun σ H Q ⟨env, Z, er, hp⟩ => useB er hp fun d v H1 e1 k1 r1 hp1 => useB (er.mono k1) hp1 fun d2 v2 H2 e2 k2 r2 hp2 => by
    cases d with
    | int i =>
      cases d2 with
      | int j =>
        have hp2 : PostE X.K g W Z σ H2 Q (if (i ≤ 1000000 ∧ -1000000 ≤ i) ∧ j ≤ 1000000 ∧ -1000000 ≤ j then .ok (.fr (.tup (rangeD i (j - i).toNat))) else .st) := hp2
        split at hp2
        · refine ⟨i, j, r1.int_, r2.int_, ⟨by omega, by omega, by omega, by omega, by omega⟩, ?_⟩
          have rr : RepL X.K g H2 Z (rangeD i (j - i).toNat) (rgV i j) := rangeD_rg
          exact post_tup hp2 rr
        · exact hp2.elim
      | _ => exact hp2.elim
    | _ => exact hp2.elim
end
end DL
set_option Elab.async false
set_option linter.all false
set_option maxRecDepth 100000
set_option maxHeartbeats 4000000
namespace DL
open PySem PySem.Spec L2
open PyProof.Rows hiding St
/-! ### a constant read off its class -/
structure CCon (K : PySem.W.Frag) (C : Addr) (f : Str) (d : D) : Prop where
  rd : ClX.CRead K C (.type "type")
  con : ∃ v u, ClX.CVal K C (.type "type") f v u ∧ ∀ (K : PySem.W.Frag) (g : G0) (H : Hp) (Z : Av), Rep K g H Z d v
section
variable {g : G0} {x : L2.St → Prop} {W : WX} {X : Cx} {pos p : Pos} {f y : Str} {d : D} {C : Addr}
theorem de_ccon (c : CCon X.K C f d) (hg : Gl X y) (hm : X.mg y = some (.ref C)) (hd : (y == ("__debug__" : Str)) = false := by decide)
    (hb : attributeBase (.Name y p) f X.env (eval (.Name y p) X.env) = eval (.Name y p) X.env := by rfl) : PEd g x W X (.Attribute (.Name y p) f pos) (mC d) := by
  obtain ⟨v, u, k, rep⟩ := c.con
  have q : PE X (.Attribute (.Name y p) f pos) (tC v) := weakE (ClX.pe_cval (pe_glob (v := .ref C) hg hm rfl hd) hb) fun σ H Q h => ⟨C, _, v, u, rfl, c.rd, k, h⟩
  exact de_C q rep
end
/-! ### a call of a def without parameters -/
section
variable {X : Cx} {CX : CXT} {E : L2.St → XK} {k : Nat} {a : Addr} {fd : FuncData} {sp : Sp} {y : Str} {p pos : Pos}
theorem pe_callZ (F : FnOk X.prog X.w X.K X.mg X.base CX k a fd [] sp) (hr : Room k X.A) (hg : Gl X y) (hm : X.mg y = some (.ref a)) (hk : PySem.W.keepIn X.K (.ref a) = true) (hb : Binds X.K fd [] []) (hx : ∀ σ, PassesAt CX X σ (E σ)) (hdb : (y == ("__debug__" : Str)) = false := by decide) : PE X (.Call (.Name y p) [] [] pos) (tCallS sp E tNil) := by
  constructor
  intro pins s σ H Q I h
  apply wpAny_Call_Name_kw
  refine ld_glob I hg hm ?_ hdb
  exact PySem.W.callWith_K0 I.kIn hk (run_fnS (us := []) F hr hb (hx σ) I .nil h)
end
section
variable {g : G0} {x : L2.St → Prop} {W : WX} {X : Cx} {pos p : Pos}
theorem de_fn0 {k : Nat} {y : Str} {f : Fn} (F : FD X.prog X.w X.K X.mg X.base g k y [] f) (hr : Room k X.A) (tk : Takes X W) (hg : Gl X y) (hdb : (y == ("__debug__" : Str)) = false := by decide) : PEd g x W X (.Call (.Name y p) [] [] pos) (mCall f mNil) := by
  obtain ⟨a, fd, hm, hk, hb, hF⟩ := F.ex
  exact weakE (pe_callZ hF hr hg hm hk hb (fun σ => passAt tk σ) hdb) fun σ H Q ⟨env, Z, er, hp⟩ => ⟨Z, [], er.dom, (by first | exact True.intro | exact RepL.nil_.mpr rfl | (unfold RepL; rfl) | simp [RepL]), postW hp⟩
end
end DL
set_option Elab.async false
set_option linter.all false
set_option maxRecDepth 100000
set_option maxHeartbeats 4000000
namespace DL
open PySem PySem.Spec L2
open PyProof.Rows hiding St
/-! ### a name is set where an exception is at hand -/
section
variable {K : PySem.W.Frag} {g : G0} {x : L2.St → Prop} {A : Av} {H0 H H' : Hp} {env : En} {σ : L2.St}
/-- a value goes into a slot -/
theorem SRel.setFrX {i : Nat} (hx : ∀ σ v, x σ → x (σ.set i (some v))) (r : SRel K g x A H0 env σ H) {d : D} {v : V} (k : Same H H') (h : Rep K g H' (zz A env σ) d v) : SRel K g x A H0 (env.set i (some (.fr d))) (σ.set i (some v)) H' := by
  have r := r.later k
  have zs : ∀ a, zz A (env.set i (some (.fr d))) (σ.set i (some v)) a → zz A env σ a := by
    rintro a (z | ⟨j, xs, e1, e2⟩)
    · exact .inl z
    · rcases set_get e1 with ⟨_, e, _⟩ | ⟨ne, e1⟩
      · cases e
      · rcases set_get e2 with ⟨e, _⟩ | ⟨_, e2⟩
        · exact absurd e ne
        · exact .inr ⟨j, xs, e1, e2⟩
  refine ⟨⟨fun a z => r.er.dom a (zs a z), hx _ _ r.er.ex, by rw [List.length_set, List.length_set, r.len], fun j s e => ?_⟩, r.same, r.adom, fun j xs a e1 e2 => ?_, fun j l xs ys a e1 e2 e3 e4 => ?_, by rw [List.length_set, List.length_set, r.len]⟩
  · rcases set_get e with ⟨ij, e, hl⟩ | ⟨ne, e⟩
    · cases e
      subst ij
      exact ⟨v, by rw [List.getElem?_set_self (by rw [← r.len]; exact hl)], Rep.mono (.of (Same.refl _) fun a _ z => zs a z) _ _ h⟩
    · obtain ⟨u, e2, q⟩ := r.er.at_ j s e
      refine ⟨u, by rw [List.getElem?_set_ne ne]; exact e2, ?_⟩
      cases s with
      | fr d2 => exact Rep.mono (.of (Same.refl _) fun a _ z => zs a z) _ _ q
      | ow xs =>
        obtain ⟨a, vs, ev, z, p, rr⟩ := q
        subst ev
        exact ⟨a, vs, rfl, .inr ⟨j, xs, by rw [List.getElem?_set_ne ne]; exact e, by rw [List.getElem?_set_ne ne]; exact e2⟩, p, RepL.mono (.of (Same.refl _) fun a _ z => zs a z) _ _ rr⟩
  · rcases set_get e1 with ⟨_, e, _⟩ | ⟨ne, e1⟩
    · cases e
    · rw [List.getElem?_set_ne ne] at e2
      exact r.fresh j xs a e1 e2
  · rcases set_get e1 with ⟨_, e, _⟩ | ⟨ne, e1⟩
    · cases e
    · rcases set_get e2 with ⟨_, e, _⟩ | ⟨ne2, e2⟩
      · cases e
      · rw [List.getElem?_set_ne ne] at e3
        rw [List.getElem?_set_ne ne2] at e4
        exact r.dist j l xs ys a e1 e2 e3 e4
/-- a fresh list goes into a slot -/
theorem SRel.setOwX {i : Nat} (hx : ∀ σ v, x σ → x (σ.set i (some v))) (r : SRel K g x A H0 env σ H) {xs : List D} {a : Addr} {vs : List V} (k : Same H H') (n : H a = none) (e : H' a = some (.lst vs)) (h : RepL K g H' (fun b => zz A env σ b ∨ b = a) xs vs) :
    SRel K g x A H0 (env.set i (some (.ow xs))) (σ.set i (some (.ref a))) H' := by
  have r' := r.later k
  have zs : ∀ b, zz A (env.set i (some (.ow xs))) (σ.set i (some (.ref a))) b → zz A env σ b ∨ b = a := by
    rintro b (z | ⟨j, ys, e1, e2⟩)
    · exact .inl (.inl z)
    · rcases set_get e1 with ⟨ij, _, _⟩ | ⟨ne, e1⟩
      · subst ij
        rcases set_get e2 with ⟨_, e, _⟩ | ⟨ne, _⟩
        · cases e; exact .inr rfl
        · exact absurd rfl ne
      · rcases set_get e2 with ⟨e, _⟩ | ⟨_, e2⟩
        · exact absurd e ne
        · exact .inl (.inr ⟨j, ys, e1, e2⟩)
  have nH0 : H0 a = none := r.same.free n
  have old : ∀ b, H b ≠ none → zz A (env.set i (some (.ow xs))) (σ.set i (some (.ref a))) b → zz A env σ b := fun b hb z => (zs b z).elim id fun e => absurd n (by rw [← e]; exact hb)
  have kp : Kp H (zz A env σ) H' (zz A (env.set i (some (.ow xs))) (σ.set i (some (.ref a)))) := .of k old
  refine ⟨⟨fun b z => ?_, hx _ _ r.er.ex, by rw [List.length_set, List.length_set, r.len], fun j s e1 => ?_⟩, r'.same, r.adom, fun j ys b e1 e2 => ?_, fun j l ys zs' b e1 e2 e3 e4 => ?_, by rw [List.length_set, List.length_set, r.len]⟩
  · rcases zs b z with z | z
    · exact r'.er.dom b z
    · rw [z, e]; simp
  · rcases set_get e1 with ⟨ij, ee, hl⟩ | ⟨ne, e1⟩
    · cases ee
      subst ij
      have hs : (σ.set i (some (V.ref a)))[i]? = some (some (V.ref a)) := by rw [List.getElem?_set_self (by rw [← r.len]; exact hl)]
      exact ⟨.ref a, hs, a, vs, rfl, .inr ⟨i, xs, by rw [List.getElem?_set_self hl], hs⟩, e, RepL.mono (.of (Same.refl _) fun b _ z => zs b z) _ _ h⟩
    · obtain ⟨u, e2, q⟩ := r.er.at_ j s e1
      refine ⟨u, by rw [List.getElem?_set_ne ne]; exact e2, ?_⟩
      cases s with
      | fr d2 => exact Rep.mono kp _ _ q
      | ow ys =>
        obtain ⟨b, ws, ev, z, p, rr⟩ := q
        subst ev
        exact ⟨b, ws, rfl, .inr ⟨j, ys, by rw [List.getElem?_set_ne ne]; exact e1, by rw [List.getElem?_set_ne ne]; exact e2⟩, k _ _ p, RepL.mono kp _ _ rr⟩
  · rcases set_get e1 with ⟨ij, _, hl⟩ | ⟨ne, e1⟩
    · subst ij
      rw [List.getElem?_set_self (by rw [← r.len]; exact hl)] at e2
      cases e2
      exact nH0
    · rw [List.getElem?_set_ne ne] at e2
      exact r.fresh j ys b e1 e2
  · have own : ∀ {j : Nat} {ys : List D}, env[j]? = some (some (.ow ys)) → σ[j]? = some (some (.ref a)) → False := fun {j ys} f1 f2 => by
      obtain ⟨u, f3, b, ws, ev, _, p, _⟩ := r.er.at_ j _ f1
      rw [f2] at f3
      cases f3
      cases ev
      rw [n] at p
      cases p
    rcases set_get e1 with ⟨ij, _, hl⟩ | ⟨ne, e1⟩
    · subst ij
      rw [List.getElem?_set_self (by rw [← r.len]; exact hl)] at e3
      cases e3
      rcases set_get e2 with ⟨il, _, _⟩ | ⟨ne2, e2⟩
      · exact il
      · rw [List.getElem?_set_ne ne2] at e4
        exact (own e2 e4).elim
    · rw [List.getElem?_set_ne ne] at e3
      rcases set_get e2 with ⟨il, _, hl⟩ | ⟨ne2, e2⟩
      · subst il
        rw [List.getElem?_set_self (by rw [← r.len]; exact hl)] at e4
        cases e4
        exact (own e1 e3).elim
      · rw [List.getElem?_set_ne ne2] at e4
        exact r.dist j l ys zs' b e1 e2 e3 e4
end
theorem xS_set {a : Addr} {i j : Nat} (h : i ≠ j) : ∀ (σ : L2.St) (v : V), xS a j σ → xS a j (σ.set i (some v)) := fun σ v q => by
  unfold xS at *
  rw [List.getElem?_set_ne h]
  exact q
section
variable {g : G0} {x : L2.St → Prop} {W : WX} {X : Cx} {e : Expr} {m : M} {pos : Pos}
theorem ds_setX {i : Nat} {y : Str} {pos' : Pos} (hx : ∀ σ v, x σ → x (σ.set i (some v))) (hN : X.N.Nodup) (hi : X.N[i]? = some y) (hl : Loc X.env.scope y) (he : PEd g x W X e m) (hs : swapsWith e (some (.Name y pos')) pos.line X.env = pure false := by rfl)
    (hf : X.fn y = true ∨ X.env.scope.names.lookup y = some .local := by first | exact .inl rfl | exact .inr rfl | assumption) : PSd g x W X (.Assign [.Name y pos'] e pos) (sSet i m) :=
  weakS (ps_set hN hi hl he hs hf) fun D σ H z => by
    obtain ⟨env, A, H0, r, hp⟩ := z
    exact runE (f := fun s => .nx (env.set i (some s))) r hp (fun d v H' _ k q hp => hp _ _ (r.setFrX hx k q)) fun xs a vs H' _ k n p q hp => hp _ _ (r.setOwX hx k n p q)
end
end DL
set_option Elab.async false
set_option linter.all false
set_option maxRecDepth 100000
set_option maxHeartbeats 4000000
namespace DL
open PySem PySem.Spec L2
open PyProof.Rows hiding St
/-! ### several clauses `except A as e`, one name -/
/-- the ends of a clause: its name is gone -/
def cutE (i : Nat) (D : Ends) : Ends where
  nx := fun τ Hp => D.nx (τ.set i none) Hp
  rt := D.rt
  bk := fun τ Hp => D.bk (τ.set i none) Hp
  ct := fun τ Hp => D.ct (τ.set i none) Hp
abbrev ClT : Type := Addr → Value → Option Addr → TS
def wishN (K : PySem.W.Frag) (i : Nat) (Wo : WX) (D : Ends) : List (Value × ClT) → WX
  | [] => Wo
  | p :: r => fun cls d τ Hp => ∃ b, PySem.W.exmOne K cls p.1 = some b ∧ (b = true → ∀ a, Hp a = none → p.2 a cls d (cutE i D) (τ.set i (some (.ref a))) Hp) ∧ (b = false → wishN K i Wo D r cls d τ Hp)
inductive ClsN (X : Cx) (n : Str) : List ExceptHandler → List (Value × ClT) → Prop
  | nil : ClsN X n [] []
  | cons {x : Str} {c : Value} {t : ClT} {b0 : Stmt} {bs : List Stmt} {p q : Pos} {hs : List ExceptHandler} {l : List (Value × ClT)} (nm : Names X x c)
      (su : ∀ (a : Addr) (o : Obj) (cls : Value) (d : Option Addr) (pn : List (Addr × Obj)), Zc cls d o → (∃ vs, o.data = .fields vs) → PSs (X.suite a ((a, o) :: pn)) (b0 :: bs) (t a cls d))
      (r : ClsN X n hs l) : ClsN X n (.ExceptHandler (some (.Name x p)) (some n) (b0 :: bs) q :: hs) ((c, t) :: l)
/-- what happens with an exception of the body -/
def catchN (X : Cx) (pins : List (Addr × Obj)) (D : Ends) (hds : List ExceptHandler) : Value → Shared → Prop := fun e u => wpAny (model X.prog X.w) X.A (noteFrame e X.env) (fun _ u2 =>
  wpAny (model X.prog X.w) X.A (setFlight e none) (fun _ u3 => wpAny (model X.prog X.w) X.A (handleBy e X.env hds) (SP X pins D) X.xe u3) X.xe u2) X.xe u
section
variable {X : Cx} {n : Str} {i : Nat} {body : List Stmt} {h0 : ExceptHandler} {hds : List ExceptHandler} {l : List (Value × ClT)} {pos : Pos} {tb : WX → TS} {Wo : WX}
theorem sp_back {pins : List (Addr × Obj)} {pn : List (Addr × Obj)} {xe : Value → Shared → Prop} {D : Ends} {f : Flow} {s : Shared} (ok : X.Ok) (h : SP (X.tr (pn ++ pins) xe) [] D f s) (e : pn = X.pn) : SP X pins D f s := by
  subst e
  cases f with
  | next => exact h.elim fun τ h => h.elim fun Hn h => ⟨τ, Hn, h.1.ofTry ok, h.2⟩
  | brk => exact h.elim fun τ h => h.elim fun Hn h => ⟨τ, Hn, h.1.ofTry ok, h.2⟩
  | cont => exact h.elim fun τ h => h.elim fun Hn h => ⟨τ, Hn, h.1.ofTry ok, h.2⟩
  | ret u => exact h.elim fun v h => h.elim fun τ h => h.elim fun Hn h => ⟨v, τ, Hn, h.1.ofTry ok, h.2⟩
theorem ps_tryN (hs : X.stack = X.env :: X.outer) (hf : X.env.frame = some X.env.locals) (hN : X.N.Nodup) (hi : X.N[i]? = some n) (hl : X.env.kindOf n = some .local) (tk : Takes X Wo)
    (hb : ∀ (W' : WX) (pn : List (Addr × Obj)) (xe : Value → Shared → Prop), Takes (X.tr pn xe) W' → PassesOwn (model X.prog X.w) X.A X.env xe → PSs (X.tr pn xe) body (tb W')) (cl : ClsN X n (h0 :: hds) l) :
    PS X (.Try body (h0 :: hds) [] [] pos) (fun D τ Hp => tb (wishN X.K i Wo D l) D τ Hp) := by
  constructor
  intro pins s τ0 H0 D I h
  have ok := I.ok
  have ln : Loc X.env.scope n := .inl hl
  have hA : X.A.frames = some (X.env :: X.outer) := by
    rw [ok.frames]
    rw [hs]
  apply wpAny_Try_except
  have body_run := (hb (wishN X.K i Wo D l) (X.pn ++ pins) (catchN X pins D (h0 :: hds)) ?caught PassesOwn.looking).run [] s τ0 H0 D (I.toTry _) h
  case caught =>
    rintro u v ⟨a, B, v0, pq, τ, Hx, cls, d, rfl, J0, nb, up, sk, na, os, ag, wish⟩
    have J := J0.ofTry ok
    have sk2 : Sky B (X.env :: X.outer) a (Zc cls d) X.env.locals v.heap := hs ▸ sk
    unfold catchN
    refine Sky.land Zc.steady hA hf sk2 ?_
    intro hp fly upl
    have Jl : Inv X pins τ Hx { v with heap := hp } := J.landed nb fly.1 (up.trans upl) os ag
    obtain ⟨oe, vs, thr, zc, dat⟩ := fly.there
    have far : ∀ {k : Heap} {o : Obj} {ws : Array Value}, k.FunFrames B (X.env :: X.outer) → k.get? a = some o → o.data = .fields ws → a ∉ frs (X.env :: X.outer) := by
      intro k o ws ff e dd hm
      obtain ⟨_, o2, e2, no⟩ := ff.mem hm
      rw [e] at e2
      cases e2
      exact no _ dd
    have nfr := far fly.2.2.1 thr dat
    have nL : a ≠ X.env.locals := by
      intro z
      refine nfr (List.mem_filterMap.mpr ⟨X.env, List.mem_cons_self, ?_⟩)
      rw [hf, z]
    have nF : a ∉ X.fs := by
      intro hm
      obtain ⟨e, he, q⟩ := List.mem_filterMap.mp hm
      exact nfr (List.mem_filterMap.mpr ⟨e, List.mem_cons_of_mem _ he, q⟩)
    have Sl := Jl.suite thr dat na nL nF
    have walk : ∀ {hd2 : List ExceptHandler} {l2 : List (Value × ClT)}, ClsN X n hd2 l2 → wishN X.K i Wo D l2 cls d τ Hx → wpAny (model X.prog X.w) X.A (handleBy (.ref a) X.env hd2) (SP X pins D) X.xe { v with heap := hp } := by
      intro hd2 l2 ck
      induction ck with
      | nil =>
        intro w
        apply wpAny_handleBy_nil
        obtain ⟨f1, f2, f3, oz, zs, T, oT, tz, ez, zz, dz, at1, rz⟩ := id fly
        unfold PySem.passOn
        refine wpAny_bind (wpAny_field ez dz at1 ?_)
        have nt : ¬ ((Value.ref T == Value.none) = true) := by simp
        rw [if_neg nt]
        have out : wpAny (model X.prog X.w) X.A (setFlight (.ref a) X.env.frame) (fun _ u4 => wpAny (model X.prog X.w) X.A (throw (.ref a) : Sem Flow) (SP X pins D) X.xe u4) X.xe { v with heap := hp } := by
          rw [hf]
          refine HandSPX.setFlight_upZ fly ?_
          intro k4 sk4 up4
          refine wpAny_throw (tk _ _ ⟨a, B, v0, pins, τ, Hx, cls, d, rfl, J, nb, (up.trans upl).trans up4, ?_, na, os, ag, w⟩)
          exact .inr (.inr (hs ▸ sk4))
        first
        | exact wpAny_bind (wpAny_pure (wpAny_bind out))
        | exact wpAny_bind out
      | @cons x c t b0 bs p q hs2 l3 nm su r ih =>
        rintro ⟨b, ex, yes, no⟩
        refine wpAny_handleBy_cons (codeAny_handlers_test ?_) (fun z => by cases z)
        have look : PySem.W.Looks (model X.prog X.w) hp (typeOf (.ref a)) cls := by
          intro A Q E u k z
          refine wpAny_typeOf_ref (k _ _ thr) ?_
          rw [zc.1]
          exact z
        have one := PySem.W.exm_one (M := model X.prog X.w) Jl.kIn look ex
        have named : ∀ {Q : Value → Shared → Prop} {E : Value → Shared → Prop}, Q c { v with heap := hp } → wpAny (model X.prog X.w) (X.A.mark (some (.ref a))) (eval (.Name x p) X.env) Q E { v with heap := hp } := by
          intro Q E z
          obtain ⟨g1, g2, g3 | ⟨g3, g4, g5⟩⟩ := nm
          · exact ld_glob (X := X.suite a ((a, oe) :: (X.pn ++ pins))) Sl g1 g3 z g2
          · exact ld_blt (X := X.suite a ((a, oe) :: (X.pn ++ pins))) Sl g1 g3 g4 z g5 g2
        refine named (one.here ?_)
        cases b with
        | false => exact ih (no rfl)
        | true =>
          apply codeAny_handlers_suite_as
          refine HandSPX.lands_againZ fly ?_
          intro k4 fly4 up4
          have J4 : Inv X pins τ Hx { v with heap := k4 } := J.landed nb fly4.1 ((up.trans upl).trans up4) os ag
          obtain ⟨o4, w4, thr4, zc4, dat4⟩ := fly4.there
          have S4 := J4.suite thr4 dat4 na nL nF
          refine store_ok (X := X.suite a ((a, o4) :: (X.pn ++ pins))) (v := .ref a) S4 hN hi ln rfl ?_ (.inr hl)
          intro u5 S5
          refine wpAny_mono ((su a o4 cls d (X.pn ++ pins) zc4 ⟨_, dat4⟩).run [] u5 _ Hx _ S5 (yes rfl a na)) ?_ (fun _ _ z => z.elim)
          intro f u6 fin
          have gone : ∀ {τ6 : L2.St} {H6 : Hp} {Q : Shared → Prop}, Inv (X.suite a ((a, o4) :: (X.pn ++ pins))) [] τ6 H6 u6 → (∀ u7, Inv X pins (τ6.set i none) H6 u7 → Q u7) →
              wpAny (model X.prog X.w) X.A (do bindName X.env n .none; unbindBehindTheSuite X.env n q) (fun _ u7 => Q u7) X.xe u6 := fun S6 z => gone_ok (S6.unsuite ok) hN hi hl z
          cases f with
          | next => exact fin.elim fun τ6 z => z.elim fun H6 z => gone z.1 fun u7 J7 => ⟨_, _, J7, z.2⟩
          | brk => exact fin.elim fun τ6 z => z.elim fun H6 z => gone z.1 fun u7 J7 => ⟨_, _, J7, z.2⟩
          | cont => exact fin.elim fun τ6 z => z.elim fun H6 z => gone z.1 fun u7 J7 => ⟨_, _, J7, z.2⟩
          | ret u => exact fin.elim fun v6 z => z.elim fun τ6 z => z.elim fun H6 z => gone z.1 fun u7 J7 => ⟨_, _, _, J7, z.2.1, z.2.2⟩
    exact walk cl wish
  refine wpAny_mono body_run ?_ (fun e u z => z)
  intro f u z
  have z2 := sp_back ok z rfl
  cases f with
  | next => exact wpAny_execs_nil z2
  | brk => exact z2
  | cont => exact z2
  | ret w => exact z2
end
/-! ### the same as data -/
abbrev Cl1 : Type := (Nat → Option Bool) × (Nat → Pl → MS)
def clsN (i : Nat) : List Cl1 → Nat → Pl → En → RS
  | [], c, p, e => .ex c p e
  | k :: r, c, p, e => match k.1 c with
    | some true => if i < e.length then (k.2 c p (e.set i none)).clr i else .st
    | some false => clsN i r c p e
    | none => .st
def sTryN (i : Nat) (mb : MS) (ks : List Cl1) : MS := fun env => match mb env with
  | .ex c p e => clsN i ks c p e
  | r => r
inductive HdD (g : G0) (X : Cx) (i : Nat) (n : Str) : List ExceptHandler → List Cl1 → Prop
  | nil : HdD g X i n [] []
  | cons {y : Str} {cv : Value} {b0 : Stmt} {bs : List Stmt} {p q : Pos} {hs : List ExceptHandler} {ks : List Cl1} {cat : Nat → Option Bool} {su : Nat → Pl → MS} (nm : Names X y cv) (hcat : ∀ c b, cat c = some b → PySem.W.exmOne X.K (.ref (g.cl c)) cv = some b)
      (hsu : ∀ (c : Nat) (p : Pl) (a : Addr) (oe : Obj) (d : Option Addr) (pn : List (Addr × Obj)), cat c = some true → (p = none → d = none) → Zc (.ref (g.cl c)) d oe → (∃ vs, oe.data = .fields vs) → PSsd g (xS a i) W0 (X.suite a ((a, oe) :: pn)) (b0 :: bs) (su c p))
      (r : HdD g X i n hs ks) : HdD g X i n (.ExceptHandler (some (.Name y p)) (some n) (b0 :: bs) q :: hs) ((cat, su) :: ks)
section
variable {g : G0} {W : WX} {X : Cx} {n : Str} {i : Nat} {body : List Stmt} {h0 : ExceptHandler} {hds : List ExceptHandler} {ks : List Cl1} {pos : Pos} {mb : MS}
theorem HdD.cls {hds : List ExceptHandler} (h : HdD g X i n hds ks) : ∃ l, ClsN X n hds l ∧ ∀ (W : WX) (A : Av) (H0 : Hp) (D : Ends) (c : Nat) (p : Pl) (e : En) (τ : L2.St) (Hx : Hp) (dd : Option Addr), PostS X.K g T W A H0 D (clsN i ks c p e) → SRel X.K g T A H0 e τ Hx → ExP X.K g Hx A p dd → wishN X.K i W D l (.ref (g.cl c)) dd τ Hx := by
  induction h with
  | nil => exact ⟨[], .nil, fun W A H0 D c p e τ Hx dd hp q pl => hp τ Hx dd q pl⟩
  | @cons y cv b0 bs p0 q0 hs ks cat su nm hcat hsu r ih =>
    obtain ⟨l, cl, wi⟩ := ih
    refine ⟨(cv, fun a cls d D τ Hx => ∃ c p, cls = .ref (g.cl c) ∧ cat c = some true ∧ (p = none → d = none) ∧ tS X.K g (xS a i) W0 (su c p) D τ Hx) :: l, .cons nm (fun a oe cls d pn hz hd => ⟨fun pins s τ Hx D I z => ?_⟩) cl, fun W A H0 D c p e τ Hx dd hp q pl => ?_⟩
    · obtain ⟨c, p, ec, ct, pd, z⟩ := z
      subst ec
      exact (hsu c p a oe d pn ct pd hz hd).run pins s τ Hx D I z
    · have hp : PostS X.K g T W A H0 D (match cat c with | some true => (if i < e.length then (su c p (e.set i none)).clr i else .st) | some false => clsN i ks c p e | none => .st) := hp
      cases ec : cat c with
      | none => rw [ec] at hp; exact hp.elim
      | some b =>
        rw [ec] at hp
        refine ⟨b, hcat c b ec, fun hb a na => ?_, fun hb => ?_⟩
        · subst hb
          have hp : PostS X.K g T W A H0 D (if i < e.length then (su c p (e.set i none)).clr i else .st) := hp
          split at hp
          case isFalse => exact hp.elim
          rename_i hi'
          rw [q.len] at hi'
          have nd : p = none → dd = none := fun e => by subst e; exact pl
          exact ⟨c, p, rfl, ec, nd, e.set i none, A, H0, q.clr i (some (.ref a)) (by unfold xS; rw [List.getElem?_set_self hi']), clrPost hp⟩
        · subst hb
          exact wi W A H0 D c p e τ Hx dd hp q pl
theorem ds_tryN (hs : X.stack = X.env :: X.outer) (hf : X.env.frame = some X.env.locals) (hN : X.N.Nodup) (hi : X.N[i]? = some n) (hln : X.env.kindOf n = some .local) (tk : Takes X W)
    (hb : ∀ (W' : WX) (pn : List (Addr × Obj)) (xe : Value → Shared → Prop), Takes (X.tr pn xe) W' → PassesOwn (model X.prog X.w) X.A X.env xe → PSsd g T W' (X.tr pn xe) body mb)
    (hd : HdD g X i n (h0 :: hds) ks) : PSd g T W X (.Try body (h0 :: hds) [] [] pos) (sTryN i mb ks) := by
  obtain ⟨l, cl, wi⟩ := hd.cls
  refine weakS (ps_tryN (tb := fun W' => tS X.K g T W' mb) hs hf hN hi hln tk hb cl) fun D τ Hx z => ?_
  obtain ⟨env, A, H0, r, hp⟩ := z
  refine ⟨env, A, H0, r, ?_⟩
  unfold sTryN at hp
  cases eb : mb env with
  | ex c p e =>
    rw [eb] at hp
    intro σ' H' dd q pl
    exact wi W A H0 D c p e σ' H' dd hp q pl
  | rt s => rw [eb] at hp; cases s <;> exact hp
  | nx e => rw [eb] at hp; exact hp
  | bk e => rw [eb] at hp; exact hp
  | ct e => rw [eb] at hp; exact hp
  | st => rw [eb] at hp; exact hp
end
end DL
set_option Elab.async false
set_option linter.all false
set_option maxRecDepth 100000
set_option maxHeartbeats 4000000
namespace DL
open PySem PySem.Spec L2
open PyProof.Rows hiding St
theorem hu1 {n : Nat} (h : n + 65 < cLine) : n + 1 < cLine := by omega
/-! ### {"k": v, ..}, read by a written key -/
def keyAt (s : Str) : List Str → List D → Option D
  | k :: ks, f :: fs => if k = s then some f else keyAt s ks fs
  | _, _ => none
def fKey (s : Str) : D → R Sl
  | .dct ks fs => match keyAt s ks fs with
    | some d => .ok (.fr d)
    | none => .st
  | _ => .st
def fDct (ks : List Str) (ds : List D) : R Sl := .ok (.fr (.dct ks ds))
section
variable {K : PySem.W.Frag} {g : G0} {H : Hp} {Z : Av}
theorem keyAt_rep {s : Str} : ∀ {ks : List Str} {fs : List D} {kvs : List (Key × V)} {d : D}, kvs.map (fun kv => kv.1) = ks.map Sum.inr → RepL K g H Z fs (kvs.map fun kv => kv.2) → keyAt s ks fs = some d →
    ∃ v, valV kvs (Sum.inr s) = some v ∧ Rep K g H Z d v
  | [], fs, kvs, d, _, _, h => by unfold keyAt at h; cases h
  | k :: ks, [], kvs, d, _, _, h => by unfold keyAt at h; cases h
  | k :: ks, f :: fs, [], d, e, _, h => by cases e
  | k :: ks, f :: fs, kv :: kvs, d, e, r, h => by
    rw [List.map_cons, List.map_cons] at e
    obtain ⟨e1, e2⟩ := List.cons.inj e
    rw [List.map_cons] at r
    obtain ⟨v, ws, ev, h1, h2⟩ := RepL.cons_.mp r
    obtain ⟨ev1, ev2⟩ := List.cons.inj ev
    unfold keyAt at h
    by_cases hk : k = s
    · rw [if_pos hk] at h
      cases h
      exact ⟨kv.2, valV_pos (by rw [e1, hk]), by rw [ev1]; exact h1⟩
    · rw [if_neg hk] at h
      obtain ⟨w, hw, rw_⟩ := keyAt_rep e2 (by rw [ev2]; exact h2) h
      refine ⟨w, ?_, rw_⟩
      rw [valV_neg (fun q => hk (by rw [e1] at q; exact Sum.inr.inj q))]
      exact hw
theorem mergeK_nodup : ∀ (more kvs : List (Key × V)), ((kvs ++ more).map fun kv => kv.1).Nodup → mergeK kvs more = kvs ++ more
  | [], kvs, _ => by rw [List.append_nil]; rfl
  | p :: r, kvs, h => by
    have hn : valV kvs p.1 = none := by
      cases q : valV kvs p.1 with
      | none => rfl
      | some u =>
        have h1 := valV_any p.1 kvs
        rw [q] at h1
        obtain ⟨z, hz, hzz⟩ := List.any_eq_true.mp h1
        rw [List.map_append, List.nodup_append] at h
        exact absurd (of_decide_eq_true hzz) (h.2.2 z.1 (List.mem_map.mpr ⟨z, hz, rfl⟩) p.1 (by rw [List.map_cons]; exact List.mem_cons_self))
    have e : mergeK kvs (p :: r) = mergeK (putK kvs p.1 p.2) r := rfl
    rw [e, putK_new p.2 hn, mergeK_nodup r (kvs ++ [(p.1, p.2)]) (by rw [List.append_assoc]; exact h), List.append_assoc]
    rfl
theorem nodup_inr : ∀ {ks : List Str}, ks.Nodup → (ks.map Sum.inr : List Key).Nodup
  | [], _ => List.nodup_nil
  | k :: ks, h => by
    rw [List.map_cons, List.nodup_cons]
    refine ⟨fun m => ?_, nodup_inr (List.nodup_cons.mp h).2⟩
    obtain ⟨z, hz, e⟩ := List.mem_map.mp m
    exact (List.nodup_cons.mp h).1 (by rw [← Sum.inr.inj e]; exact hz)
theorem zip_kv : ∀ (ks : List Str) (vs : List V), (((ks.map Sum.inr : List Key).zip vs).map fun kv => (kV kv.1, kv.2)) = (ks.map V.str).zip vs
  | [], vs => rfl
  | k :: ks, [] => rfl
  | k :: ks, v :: vs => by
    rw [List.map_cons, List.map_cons, List.zip_cons_cons, List.zip_cons_cons, List.map_cons, zip_kv ks vs]
    rfl
end
/-- the pairs of a display with written keys -/
inductive Prs (K : PySem.W.Frag) (g : G0) (x : L2.St → Prop) (W : WX) : List Str → (En → R (List D)) → List (TE × TE) → Prop
  | nil : Prs K g x W [] mNil []
  | cons {k : Str} {ks : List Str} {m : M} {mr : En → R (List D)} {trs : List (TE × TE)} (r : Prs K g x W ks mr trs) : Prs K g x W (k :: ks) (mCons m mr) ((tC (.str k), tM K g x W m) :: trs)
structure PDd (g : G0) (x : L2.St → Prop) (W : WX) (X : Cx) (pos : Pos) (keys : List (Option Expr)) (values : List Expr) (ks : List Str) (mr : En → R (List D)) : Prop where
  ex : ∃ trs, PPs X pos keys values trs ∧ Prs X.K g x W ks mr trs
section
variable {K : PySem.W.Frag} {g : G0} {x : L2.St → Prop} {W : WX}
theorem pairs_run {env : En} {Z : Av} {σ : L2.St} : ∀ {ks : List Str} {mr : En → R (List D)} {trs : List (TE × TE)} {H : Hp} {Q : List (V × V) → Hp → Prop}, Prs K g x W ks mr trs → ERel K g x Z env σ H →
    PostA K g W Z σ H (fun vs H' => vs.length = ks.length → Q ((ks.map V.str).zip vs) H') (mr env) → tPairs trs σ H Q := by
  intro ks mr trs H Q p
  induction p generalizing H Q with
  | nil => intro er hp; exact hp [] H (Same.refl _) (RepL.nil_.mpr rfl) rfl
  | @cons k ks m mr trs r ih =>
    intro er hp
    show tM K g x W m σ H fun y H2 => tPairs trs σ H2 fun ps H3 => Q ((.str k, y) :: ps) H3
    refine use1A er hp fun s v H1 e1 k1 r1 hp1 => ih (er.mono k1) ?_
    cases em : mr env with
    | ok ds =>
      rw [em] at hp1
      intro vs H2 k2 r2 hl
      exact hp1 (v :: vs) H2 k2 (RepL.cons_.mpr ⟨v, vs, rfl, Rep.mono (.same_ k2) _ _ r1, r2⟩) (by rw [List.length_cons, List.length_cons, hl])
    | ex c p => rw [em] at hp1; exact hp1
    | st => rw [em] at hp1; exact hp1.elim
end
section
variable {g : G0} {x : L2.St → Prop} {W : WX} {X : Cx} {a : Expr} {pos : Pos} {ma : B}
theorem dd_nil : PDd g x W X pos [] [] [] mNil := ⟨[], pps_nil, .nil⟩
theorem dd_cons {k : Str} {j : Nat} {p : Pos} {v : Expr} {keys : List (Option Expr)} {values : List Expr} {ks : List Str} {m : M} {mr : En → R (List D)} (hv : PEd g x W X v m) (hr : PDd g x W X pos keys values ks mr) :
    PDd g x W X pos (some (.Constant (.str k) j p) :: keys) (v :: values) (k :: ks) (mCons m mr) := by
  obtain ⟨trs, h1, h2⟩ := hr.ex
  exact ⟨_, pps_cons pe_str hv h1, .cons h2⟩
theorem de_dct {keys : List (Option Expr)} {values : List Expr} {ks : List Str} {mr : En → R (List D)} (h : PDd g x W X pos keys values ks mr) (nd : ks.Nodup) (h15' : ks.length ≤ 15) (hall : keys.all (·.isSome) = true := by rfl)
    (hl : keys.length = values.length := by rfl) (h0 : keys ≠ [] := by simp) (h15 : keys.length ≤ 15 := by decide) : PEd g x W X (.Dict keys values pos) (mCall (fDct ks) mr) := by
  obtain ⟨trs, hp, prs⟩ := h.ex
  refine weakE (pe_disp hp hall hl h0 h15) fun σ H Q ⟨env, Z, er, hq⟩ p hn => ?_
  have sm : Same H (upd H p (.dK [])) := same_upd hn
  have nz : ¬ Z p := fun z => er.dom p z hn
  have er1 : ERel X.K g x (fun b => Z b ∨ b = p) env σ (upd H p (.dK [])) := by
    refine ⟨fun b z => ?_, er.ex, er.len, fun i s e => ?_⟩
    · rcases z with z | rfl
      · exact dom_mono sm er.dom b z
      · rw [upd_same]; simp
    · obtain ⟨v, e2, r⟩ := er.at_ i s e
      refine ⟨v, e2, ?_⟩
      have kp : Kp H Z (upd H p (.dK [])) (fun b => Z b ∨ b = p) := .of sm fun b n z => z.elim id fun e => absurd hn (by rw [← e]; exact n)
      cases s with
      | fr d => exact Rep.mono kp d v r
      | ow xs =>
        obtain ⟨b, vs, ev, z, hb, rr⟩ := r
        exact ⟨b, vs, ev, .inl z, sm _ _ hb, RepL.mono kp xs vs rr⟩
  refine pairs_run prs er1 ?_
  have hq : PostE X.K g W Z σ H Q ((mr env).bind fun ds => fDct ks ds) := hq
  cases em : mr env with
  | ok ds =>
    rw [em] at hq
    intro vs H2 k2 r2 hlen
    have hp2 : H2 p = some (.dK []) := k2 _ _ upd_same
    refine ⟨hp2, (ks.map Sum.inr : List Key).zip vs, (zip_kv ks vs).symm, ?_, ?_⟩
    · rw [List.length_zip, List.length_map, hlen, Nat.min_self]; exact h15'
    · have k1 : (((ks.map Sum.inr : List Key).zip vs).map fun kv => kv.1) = ks.map Sum.inr := by
        have := List.map_fst_zip (l₁ := (ks.map Sum.inr : List Key)) (l₂ := vs) (by rw [List.length_map, hlen]; exact Nat.le_refl _)
        exact this
      have k3 : (((ks.map Sum.inr : List Key).zip vs).map fun kv => kv.2) = vs := by
        have := List.map_snd_zip (l₁ := (ks.map Sum.inr : List Key)) (l₂ := vs) (by rw [List.length_map, hlen]; exact Nat.le_refl _)
        exact this
      have hm : mergeK [] ((ks.map Sum.inr : List Key).zip vs) = (ks.map Sum.inr : List Key).zip vs := by
        rw [mergeK_nodup _ [] (by rw [List.nil_append, k1]; exact nodup_inr nd)]
        rfl
      rw [hm]
      refine hq (.ref p) _ (fun b o e => ?_) (Rep.dct_.mpr ⟨p, _, rfl, nz, upd_same, k1, ?_⟩)
      · rw [upd_ne (ne_of_none e hn)]
        exact k2 _ _ (sm _ _ e)
      · rw [k3]
        exact RepL.mono ⟨fun b o e n => by rw [upd_ne (fun q => n (.inr q))]; exact e, fun b o xs e => by rw [upd_ne (fun q => by rw [q, hp2] at e; cases e)]; exact e, fun b _ n z => n (.inl z)⟩ _ _ r2
  | ex c pl =>
    rw [em] at hq
    intro H2 dd k2 q
    refine hq H2 dd (sm.trans k2) ?_
    cases pl with
    | none => exact q
    | some fx =>
      obtain ⟨da, v, e1, e2, e3⟩ := q
      exact ⟨da, v, e1, e2, Rep.mono (.of (Same.refl _) fun _ _ z => .inl z) _ _ e3⟩
  | st => rw [em] at hq; exact hq.elim
theorem de_key {k : Str} {j : Nat} {p : Pos} (hu : X.A.units + 1 < cLine) (ha : PBd g x W X a ma) (hs : NoSl (.Constant (.str k) j p) := by exact fun _ _ => rfl) : PEd g x W X (.Subscript a (.Constant (.str k) j p) pos) (mUn (fKey k) ma) :=
  weakE (pe_dget hu ha pe_str hs) fun σ H Q ⟨env, Z, er, hp⟩ => useB er hp fun d v H1 e1 k1 r1 hp1 => by
    cases d with
    | dct ks fs =>
      have hp1 : PostE X.K g W Z σ H1 Q (match keyAt k ks fs with | some d => .ok (.fr d) | none => .st) := hp1
      cases ek : keyAt k ks fs with
      | none => rw [ek] at hp1; exact hp1.elim
      | some d =>
        rw [ek] at hp1
        have r1 : Rep X.K g H1 Z (.dct ks fs) v := r1.elim id fun ⟨_, _, _, e, _⟩ => by cases e
        obtain ⟨q, kvs, ev, nz, hH, hk, rr⟩ := Rep.dct_.mp r1
        obtain ⟨u, hu, ru⟩ := keyAt_rep hk rr ek
        exact ⟨q, u, ev, .inl ⟨kvs, .inr k, .inl hH, rfl, hu.symm⟩, hp1 u H1 (Same.refl _) ru⟩
    | _ => exact hp1.elim
end

/-! ### xs.remove(d) -/
def rRemD (K : PySem.W.Frag) : V → List V → Hp → VK → Prop := fun x xs H Q => ∃ (a : Addr) (y : V) (d : PyData) (ds : List PyData) (j : Nat) (z : PyData) (vs : List V), x = V.ref a ∧ xs = [y] ∧ H a = some (.lst vs) ∧ DpAll K H vs ds ∧ Dp K H y d ∧
  SeqAt.shaped (.list ds) = true ∧ SeqAt.shaped d = true ∧ ds[j]? = some z ∧ PyData.eqv z d = true ∧ (∀ (m : Nat) (z' : PyData), m < j → ds[m]? = some z' → PyData.eqv z' d = false) ∧ Q .non (upd H a (.lst (vs.eraseIdx j)))
theorem mt_removeD {X : Cx} (hu : X.A.units + 65 < cLine) : MtR X "list.remove" (rRemD X.K) := by
  intro pins s σ H x xs v us Q I rx rxs h
  obtain ⟨a, y, d, ds, j, z, vs, rfl, rfl, hH, ha, hy, sl, sd, hz, hzj, hno, q⟩ := h
  cases rx
  cases rxs with
  | cons ry rt =>
    rename_i uy ut
    cases rt
    obtain ⟨bs, r1⟩ := Dp.reads I d y uy hy ry
    have hxs : PyData.canLayAll0 ds = true := SeqAt.canLay_of_shaped sl
    have hroom : X.A.units + 1 + min (PyData.depthAll ds) d.depth < cLine := room_in_shaped sd hu
    obtain ⟨hz0, its, n, rv, hlen, ho⟩ := I.lstM hH
    obtain ⟨as, h4⟩ := Dp.readsAll I ds _ its ha rv
    have hn : its.length = ds.length := SeqAt.ReadsAll.length ds its as h4
    have hmap : its.map (SeqAt.readOf s.heap) = ds := SeqAt.readsAll_map ds its as hxs h4
    obtain ⟨hjd, _⟩ := List.getElem?_eq_some_iff.mp hz
    have hjl : j < its.length := by omega
    have hj : j < its.toArray.size := by simpa using hjl
    have at_ : ∀ (m : Nat) (hm : m < its.toArray.size) (z' : PyData), ds[m]? = some z' → SeqAt.readOf s.heap its.toArray[m] = z' := by
      intro m hm z' hz'
      have hml : m < its.length := by simpa using hm
      rw [← hmap, List.getElem?_map, List.getElem?_eq_getElem hml] at hz'
      have e1 : SeqAt.readOf s.heap its[m] = z' := Option.some.inj (show some (SeqAt.readOf s.heap its[m]) = some z' from hz')
      simpa using e1
    refine call_meets PySem.F.slot_list_remove ⟨_, ho, rfl⟩ PySem.F.entry_list_remove (PySem.F.args_list_remove_2 _ _)
      (PySem.SeqAt.list_removeAt a its.toArray n none #[] uy (fun u => PyData.eqv (SeqAt.readOf s.heap u) d) j hj ?_ ?_ (by rw [List.size_toArray]; omega)) ⟨ho, SeqAt.items_eqAt (vs := its.toArray) (show ReadsAll s.heap its.toArray.toList ds as from h4) r1 hxs (SeqAt.canLay_of_shaped sd) hroom, ?_⟩
    · show PyData.eqv (SeqAt.readOf s.heap its.toArray[j]) d = true
      rw [at_ j hj z hz]
      exact hzj
    · intro m hm hmj
      have hmd : m < ds.length := by omega
      have hz' : ds[m]? = some ds[m] := List.getElem?_eq_getElem hmd
      show PyData.eqv (SeqAt.readOf s.heap its.toArray[m]) d = false
      rw [at_ m hm _ hz']
      exact hno m _ hmj hz'
    · refine ⟨.non, _, I.lset (its' := its.eraseIdx j) (t' := s.toks) hH ho ?_ (rv.eraseIdx j) ?_, rfl, q⟩
      · show its.toArray.eraseIdxIfInBounds j = (its.eraseIdx j).toArray
        rw [List.eraseIdxIfInBounds_toArray]
      · have h1 := List.length_eraseIdx_le vs j
        omega
def sRem (i : Nat) (me : B) : MS := fun env => match env[i]? with
  | some (some (.ow xs)) => match me env with
    | .ok y => if (okE (.lst xs) && okE y) = true then match fIdxAux y xs 0 with
      | some j => .nx (env.set i (some (.ow (xs.eraseIdx j))))
      | none => .st else .st
    | _ => .st
  | _ => .st
section
variable {g : G0} {x : L2.St → Prop} {W : WX} {X : Cx} {e : Expr} {pos apos cpos p : Pos} {me : B} {y : Str}
theorem ds_rem (i : Nat) (hu : X.A.units + 65 < cLine) (he : PBd g x W X e me) (hN : X.N[i]? = some y := by rfl) (hv : Vis X.env.scope y := by first | exact Or.inl rfl | exact Or.inr (Or.inl rfl) | exact Or.inr (Or.inr rfl)) (hd : (y == ("__debug__" : Str)) = false := by decide) (hcd : (y == ("__classdict__" : Str)) = false := by decide)
    (hbase : attributeBase (.Name y p) "remove" X.env (eval (.Name y p) X.env) = eval (.Name y p) X.env := by rfl) (hline : (apos.endLine == cpos.line) = true := by rfl)
    (hse : starEach [e] X.env = [(false, eval e X.env)] := by rfl)
    (hs : swapsWith (.Call (.Attribute (.Name y p) "remove" apos) [e] [] cpos) none pos.line X.env = pure false := by rfl) : PSd g x W X (.Expr (.Call (.Attribute (.Name y p) "remove" apos) [e] [] cpos) pos) (sRem i me) :=
  weakS (ps_expr (pe_bm PySem.F.plainAttrs_list PySem.F.slot_list_remove PySem.F.type_list_remove (mt_removeD hu) (pe_var hN hv hd hcd) (pa_cons he pa_nil hse) hbase (by rw [hse]; rfl) hline hse rfl) hs) fun D σ H ⟨env, A, H0, r, hp⟩ => by
    unfold sRem at hp
    split at hp
    · rename_i xs e1
      obtain ⟨v, f1, a, vs, ev, za, pa, ra⟩ := r.er.at_ i _ e1
      subst ev
      refine ⟨.ref a, f1, .inl ⟨rfl, vs, SqL.of pa⟩, ?_⟩
      split at hp
      · rename_i y2 em
        refine ⟨env, zz A env σ, r.er, ?_⟩
        rw [em]
        intro u H2 k2 r2
        split at hp
        · rename_i hm
          simp only [okE, Bool.and_eq_true] at hm
          split at hp
          · rename_i j hj
            obtain ⟨_, c, h2, h3, h4⟩ := idx_at hj
            rw [Nat.sub_zero] at h2 h4
            have nl : noObjL xs = true := by simpa [noObj] using hm.1.1
            have tl : toPy (.lst xs) = .list (toPyL xs) := by simp [toPy]
            have ra2 := RepL.mono (.same_ (Z := zz A env σ) k2) _ _ ra
            refine ⟨a, u, toPy y2, toPyL xs, j, toPy c, vs, rfl, rfl, k2 _ _ pa, RepL.dp xs vs nl ra2, r2.dp hm.2.1, by rw [← tl]; exact hm.1.2, hm.2.2, by rw [toPyL_get, h2]; rfl, ?_, fun m z' lm hz' => ?_, hp σ _ ((r.later k2).mut e1 f1 (ra2.eraseIdx j))⟩
            · rw [eqv_py c y2 (noObjL_get nl h2) hm.2.1]
              exact h3
            · rw [toPyL_get] at hz'
              cases em : xs[m]? with
              | none => rw [em] at hz'; cases hz'
              | some b =>
                rw [em] at hz'
                cases hz'
                rw [eqv_py b y2 (noObjL_get nl em) hm.2.1]
                exact h4 m b lm em
          · exact hp.elim
        · exact hp.elim
      · exact hp.elim
    · exact hp.elim
end
end DL
set_option Elab.async false
set_option linter.all false
set_option maxRecDepth 100000
set_option maxHeartbeats 4000000
namespace DL
open PySem PySem.Spec L2
open PyProof.Rows hiding St
/-! ### loops and targets where the frame has a word on it (exception suites, __init__) -/
def SetOk (x : L2.St → Prop) (i : Nat) : Prop := ∀ σ v, x σ → x (σ.set i (some v))
theorem setOk0 {a : Addr} {is : List Nat} (h : ∀ i ∈ is, 0 ≠ i) : ∀ i ∈ is, SetOk (xS a 0) i := fun i m => xS_set (Ne.symm (h i m))
section
variable {K : PySem.W.Frag} {g : G0} {x : L2.St → Prop} {A : Av} {H0 H : Hp}
theorem gAll_ok2X : ∀ (is : List Nat) (ds : List D) (vs : List V) (env : En) (σ : L2.St) (Q : L2.St → Hp → Prop), (∀ i ∈ is, SetOk x i) → SRel K g x A H0 env σ H → RepL K g H (zz A env σ) ds vs → ds.length = is.length →
    (∀ σ', SRel K g x A H0 (setAll is ds env) σ' H → (∀ a, zz A (setAll is ds env) σ' a → zz A env σ a) → Q σ' H) → gAll is vs σ H Q
  | [], [], vs, env, σ, Q, hx, r, rr, l, h => ⟨RepL.nil_.mp rr, h σ r fun _ z => z⟩
  | i :: is, d :: ds, vs, env, σ, Q, hx, r, rr, l, h => by
    obtain ⟨v, w, ev, h1, h2⟩ := RepL.cons_.mp rr
    refine ⟨v, w, ev, ?_⟩
    have r2 := r.setFrX (hx i (List.mem_cons_self ..)) (i := i) (Same.refl _) h1
    refine gAll_ok2X is ds w _ _ Q (fun j m => hx j (List.mem_cons_of_mem _ m)) r2 (RepL.mono ?_ _ _ h2) (by simpa using l) fun σ' q z => h σ' q fun a za => zz_frA (z a za)
    exact .of (Same.refl _) fun a _ z => zz_frA z
  | [], d :: ds, vs, env, σ, Q, hx, r, rr, l, h => by simp at l
  | i :: is, [], vs, env, σ, Q, hx, r, rr, l, h => by simp at l
theorem Pq.okX {q : Pq} {env e1 : En} {σ : L2.St} {d : D} {v : V} {Q : L2.St → Hp → Prop} (hx : ∀ i ∈ q.slots, SetOk x i) (r : SRel K g x A H0 env σ H) (p : Rep K g H (zz A env σ) d v) (h : q.go d env = some e1)
    (k : ∀ σ', SRel K g x A H0 e1 σ' H → (∀ a, zz A e1 σ' a → zz A env σ a) → Q σ' H) : q.tg K v σ H Q := by
  cases q with
  | n i => cases h; exact k _ (r.setFrX (hx i (List.mem_singleton.mpr rfl)) (Same.refl _) p) fun a z => zz_frA z
  | t is =>
    cases d with
    | tup ds =>
      have h : (if ds.length = is.length then some (setAll is ds env) else none) = some e1 := h
      split at h
      · rename_i l
        cases h
        obtain ⟨a, vs, ev, sq, rr⟩ := Rep.tup_.mp p
        exact ⟨a, vs, ev, sq.sqT, by rw [← rr.length]; exact l, gAll_ok2X is ds vs env σ Q hx r rr l k⟩
      · cases h
    | _ => cases h
theorem gAllQ_okX : ∀ (qs : List Pq) (ds : List D) (vs : List V) (env e1 : En) (σ : L2.St) (Q : L2.St → Hp → Prop), (∀ i ∈ qs.flatMap Pq.slots, SetOk x i) → SRel K g x A H0 env σ H → RepL K g H (zz A env σ) ds vs → setQ qs ds env = some e1 →
    (∀ σ', SRel K g x A H0 e1 σ' H → Q σ' H) → gAllQ K qs vs σ H Q
  | [], [], vs, env, e1, σ, Q, hx, r, rr, h, k => by cases h; exact ⟨RepL.nil_.mp rr, k σ r⟩
  | q :: qs, d :: ds, vs, env, e1, σ, Q, hx, r, rr, h, k => by
    obtain ⟨v, w, ev, h1, h2⟩ := RepL.cons_.mp rr
    have h : (match q.go d env with | some e => setQ qs ds e | none => none) = some e1 := h
    cases c : q.go d env with
    | none => rw [c] at h; cases h
    | some e =>
      rw [c] at h
      refine ⟨v, w, ev, Pq.okX (fun i m => hx i (by rw [List.flatMap_cons]; exact List.mem_append_left _ m)) r h1 c fun σ' r' z => ?_⟩
      exact gAllQ_okX qs ds w e e1 σ' Q (fun i m => hx i (by rw [List.flatMap_cons]; exact List.mem_append_right _ m)) r' (RepL.mono (.of (Same.refl _) fun a _ za => z a za) _ _ h2) h k
  | [], _ :: _, _, _, _, _, _, _, _, _, h, _ => by cases h
  | _ :: _, [], _, _, _, _, _, _, _, _, h, _ => by cases h
theorem Pt.okX {pt : Pt} {env e1 : En} {σ : L2.St} {d : D} {v : V} {Q : L2.St → Hp → Prop} (hx : ∀ i ∈ pt.slots, SetOk x i) (r : SRel K g x A H0 env σ H) (q : Rep K g H (zz A env σ) d v) (h : pt.go d env = some e1)
    (k : ∀ σ', SRel K g x A H0 e1 σ' H → Q σ' H) : pt.tg K v σ H Q := by
  cases pt with
  | nm i => cases h; exact k _ (r.setFrX (hx i (List.mem_singleton.mpr rfl)) (Same.refl _) q)
  | tp is =>
    cases d with
    | tup ds =>
      have h : (if ds.length = is.length then some (setAll is ds env) else none) = some e1 := h
      split at h
      · rename_i l
        cases h
        obtain ⟨a, vs, ev, sq, rr⟩ := Rep.tup_.mp q
        exact ⟨a, vs, ev, sq.sqT, by rw [← rr.length]; exact l, gAll_ok2X is ds vs env σ Q hx r rr l fun σ' r' _ => k σ' r'⟩
      · cases h
    | _ => cases h
  | tn qs =>
    cases d with
    | tup ds =>
      have h : setQ qs ds env = some e1 := h
      obtain ⟨a, vs, ev, sq, rr⟩ := Rep.tup_.mp q
      exact ⟨a, vs, ev, sq.sqT, by rw [← rr.length]; exact setQ_len h, gAllQ_okX qs ds vs env e1 σ Q hx r rr h k⟩
    | _ => cases h
end
section
variable {g : G0} {x : L2.St → Prop} {W : WX} {X : Cx} {tg iter c : Expr} {body : List Stmt} {pos : Pos} {mi : En → R (List D)} {b : MS} {t : En → R Bool} {e : Expr} {m : M}
theorem ds_forX (pt : Pt) (hx : ∀ i ∈ pt.slots, SetOk x i) (hp : PassesOwn (model X.prog X.w) X.A X.env X.xe) (hc : X.calm = true) (hi : PId g x W X tg iter mi) (hg : PG X tg (pt.tg X.K)) (hb : PSsd g x W X body b)
    (hs : ∀ x, foldedSetIterable iter X.env x = pure x := by intro _; rfl) : PSd g x W X (.For tg iter body [] pos) (sFor mi pt b) := by
  refine weakS (ps_for hp hc hi hg hb hs) fun D σ H ⟨env, A, H0, r, hp⟩ => ?_
  refine ⟨env, zz A env σ, r.er, ?_⟩
  unfold sFor at hp
  cases ei : mi env with
  | ok xs =>
    rw [ei] at hp
    intro J H1 k walk
    have r1 := r.later k
    refine ⟨fun i m σ' H' => m = xs.length - i ∧ i ≤ xs.length ∧ ∃ env', SRel X.K g x A (hid env σ H1) env' σ' H' ∧ PostS X.K g x W A H0 D (forM pt.go b (xs.drop i) env'), ⟨xs.length, rfl, Nat.zero_le _, env, r1.to_hid, hp⟩, ?_⟩
    rintro i m σ' H' ⟨rfl, hi, env', r', hp⟩
    have kp := r1.kp_hid r'
    by_cases hl : i < xs.length
    · obtain ⟨d, ed, edr⟩ := drop_get hl
      rw [edr] at hp
      refine .inr ⟨walk.go i d H' ed kp.toF, fun σ2 H2 => ∃ env2, SRel X.K g x A (hid env σ H1) env2 σ2 H2 ∧ PostS X.K g x W A H0 D (forM pt.go b (xs.drop (i + 1)) env2), ?_, ?_⟩
      · rintro σ2 H2 ⟨env2, r2, hp2⟩
        exact ⟨xs.length - (i + 1), by omega, rfl, hl, env2, r2, hp2⟩
      · intro v H2 y
        obtain ⟨k2, rep⟩ := walk.yld i d H' v H2 ed kp.toF y
        have r2 := r'.later k2
        have kp2 := r1.kp_hid r2
        unfold forM at hp
        cases ea : pt.go d env' with
        | none => rw [ea] at hp; exact hp.elim
        | some e1 =>
          rw [ea] at hp
          have hp : PostS X.K g x W A H0 D (match b e1 with | .nx e => forM pt.go b (xs.drop (i + 1)) e | .ct e => forM pt.go b (xs.drop (i + 1)) e | .bk e => .nx e | .rt s => .rt s | .ex c p e => .ex c p e | .st => .st) := hp
          refine Pt.okX hx r2 (rep _ kp2 r'.er.dom) ea fun σ3 r3 => ?_
          refine ⟨e1, A, _, r3, turnPost r1 (fun e ee σ4 H4 r4 => ⟨e, r4, ?_⟩) ?_⟩
          · rcases ee with ee | ee <;> (rw [ee] at hp; exact hp)
          · cases eb : b e1 with
            | nx e => exact .inr ⟨e, .inl rfl⟩
            | ct e => exact .inr ⟨e, .inr rfl⟩
            | bk e => rw [eb] at hp; exact .inl hp
            | rt s => rw [eb] at hp; exact .inl hp
            | ex c p e => rw [eb] at hp; exact .inl hp
            | st => rw [eb] at hp; exact .inl hp
    · have ei : i = xs.length := by omega
      subst ei
      rw [List.drop_length] at hp
      exact .inl ⟨walk.stop _ H' (Nat.le_refl _) kp.toF, hp σ' H' (r'.anchor r1.same_hid r.adom)⟩
  | ex c p =>
    rw [ei] at hp
    refine fun H' dd k q => hp σ H' dd (r.later k) ?_
    cases p with
    | none => exact q
    | some fx =>
      obtain ⟨da, v, e1, e2, e3⟩ := q
      exact ⟨da, v, e1, e2, Rep.mono (.of (Same.refl _) fun _ _ z => .inl z) _ _ e3⟩
  | st => rw [ei] at hp; exact hp
theorem ds_unpX (pt : Pt) (hx : ∀ i ∈ pt.slots, SetOk x i) (he : PEd g x W X e m) (hg : PG X tg (pt.tg X.K)) (hs : swapsWithSole [tg] e pos.line X.env = pure false := by rfl) (hw : swappedStores [tg] e X.env = pure none := by rfl) (h1 : (assignEach [tg] X.env).map (·.2) = [assign tg X.env] := by rfl) : PSd g x W X (.Assign [tg] e pos) (sUnp pt m) :=
  weakS (ps_asg he hg hs hw h1) fun D σ H ⟨env, A, H0, r, hp⟩ => by
    refine use r.er ?_
    unfold sUnp at hp
    cases em : m env with
    | ok s =>
      rw [em] at hp
      intro v H' k q
      have hp : PostS X.K g x W A H0 D (match pt.go s.d env with | some e => .nx e | none => .st) := hp
      cases ep : pt.go s.d env with
      | none => rw [ep] at hp; exact hp.elim
      | some e1 =>
        rw [ep] at hp
        exact Pt.okX hx (r.later k) q ep fun σ' r' => hp σ' H' r'
    | ex c p => rw [em] at hp; exact fun H' dd k q => hp σ H' dd (r.later k) (exA q)
    | st => rw [em] at hp; exact hp
theorem ds_appX (i : Nat) {y : Str} {p apos cpos : Pos} (hN : X.N[i]? = some y := by rfl) (hv : Vis X.env.scope y := by first | exact Or.inl rfl | exact Or.inr (Or.inl rfl) | exact Or.inr (Or.inr rfl)) (hd : (y == ("__debug__" : Str)) = false := by decide)
    (hcd : (y == ("__classdict__" : Str)) = false := by decide) (he : PEd g x W X e m)
    (hbase : attributeBase (.Name y p) "append" X.env (eval (.Name y p) X.env) = eval (.Name y p) X.env := by rfl)
    (hline : (apos.endLine == cpos.line) = true := by rfl)
    (hse : starEach [e] X.env = [(false, eval e X.env)] := by rfl)
    (hs : swapsWith (.Call (.Attribute (.Name y p) "append" apos) [e] [] cpos) none pos.line X.env = pure false := by rfl) : PSd g x W X (.Expr (.Call (.Attribute (.Name y p) "append" apos) [e] [] cpos) pos) (sApp i m) :=
  weakS (ps_expr (pe_bm PySem.F.plainAttrs_list PySem.F.slot_list_append PySem.F.type_list_append mt_append (pe_var hN hv hd hcd) (pa_cons he pa_nil hse) hbase (by rw [hse]; rfl) hline hse (by rfl)) hs) fun D σ H ⟨env, A, H0, r, hp⟩ => by
    unfold sApp at hp
    split at hp
    · rename_i xs e1
      obtain ⟨v, e2, a, vs, ev, z, p, rr⟩ := r.er.at_ i _ e1
      subst ev
      refine ⟨.ref a, e2, .inl ⟨rfl, vs, SqL.of p⟩, ?_⟩
      refine use (Z := zz A env σ) r.er ?_
      cases em : m env with
      | ok s =>
        rw [em] at hp
        intro u H' k q
        have hp : PostS X.K g x W A H0 D (if xs.length < lim then RS.nx (env.set i (some (.ow (xs ++ [s.d])))) else RS.st) := hp
        split at hp
        · rename_i hl
          have lv := rr.length
          exact ⟨a, vs, u, rfl, rfl, k _ _ p, by rw [← lv]; exact limLine' hl, hp _ _ ((r.later k).mut e1 e2 ((RepL.mono (.same_ k) _ _ rr).append (.one q)))⟩
        · exact hp.elim
      | ex c p =>
        rw [em] at hp
        refine fun H' dd k q => hp σ H' dd (r.later k) ?_
        cases p with
        | none => exact q
        | some fx =>
          obtain ⟨da, v, e1, e2, e3⟩ := q
          exact ⟨da, v, e1, e2, Rep.mono (.of (Same.refl _) fun _ _ z => .inl z) _ _ e3⟩
      | st => rw [em] at hp; exact hp
    · exact hp.elim
/-! ### y = xs.pop() -/
def sSetPop (j i : Nat) : MS := fun env => match env[i]? with
  | some (some (.ow xs)) => match xs[xs.length - 1]? with
    | some d => .nx ((env.set i (some (.ow xs.dropLast))).set j (some (.fr d)))
    | none => .st
  | _ => .st
theorem ds_setPop {z y : Str} {p p2 apos cpos : Pos} (j i : Nat) (hx : ∀ σ, x σ) (hN : X.N[i]? = some y := by rfl) (hv : Vis X.env.scope y := by first | exact Or.inl rfl | exact Or.inr (Or.inl rfl) | exact Or.inr (Or.inr rfl)) (hd : (y == ("__debug__" : Str)) = false := by decide) (hcd : (y == ("__classdict__" : Str)) = false := by decide)
    (hND : X.N.Nodup) (hj : X.N[j]? = some z) (hl : Loc X.env.scope z)
    (hb : attributeBase (.Name y p) "pop" X.env (eval (.Name y p) X.env) = eval (.Name y p) X.env := by rfl) (hli : (apos.endLine == cpos.line) = true := by rfl)
    (hs : swapsWith (.Call (.Attribute (.Name y p) "pop" apos) [] [] cpos) (some (.Name z p2)) pos.line X.env = pure false := by rfl)
    (hf : X.fn z = true ∨ X.env.scope.names.lookup z = some .local := by first | exact .inl rfl | exact .inr rfl | assumption) : PSd g x W X (.Assign [.Name z p2] (.Call (.Attribute (.Name y p) "pop" apos) [] [] cpos) pos) (sSetPop j i) :=
  weakS (ps_set hND hj hl (pe_bm0 PySem.F.plainAttrs_list PySem.F.slot_list_pop PySem.F.type_list_pop mt_pop (pe_var hN hv hd hcd) hb hli) hs hf) fun D σ H ⟨env, A, H0, r, hp⟩ => by
    unfold sSetPop at hp
    split at hp
    · rename_i xs e1
      obtain ⟨v, f1, a, vs, ev, za, pa, ra⟩ := r.er.at_ i _ e1
      subst ev
      split at hp
      · rename_i d hd
        obtain ⟨u, hu, q⟩ := ra.get hd
        rw [ra.length] at hu
        have hi : i < env.length := (List.getElem?_eq_some_iff.mp e1).1
        have kp : Kp H (zz A env σ) (upd H a (.lst vs.dropLast)) (zz A (env.set i (some (.ow xs.dropLast))) σ) := by
          refine ⟨fun b o e n => by rw [upd_ne (fun q => n (by rw [q]; exact za))]; exact e, fun b o us t => ?_, fun b _ n z => n ?_⟩
          · have nb : b ≠ a := fun q => by
              subst q
              rw [pa] at t
              cases t
            rw [upd_ne nb]
            exact t
          · rcases z with z | ⟨l, ws, g1, g2⟩
            · exact .inl z
            · rcases set_get g1 with ⟨ij, _, _⟩ | ⟨ne, g1⟩
              · subst ij; exact .inr ⟨i, xs, e1, g2⟩
              · exact .inr ⟨l, ws, g1, g2⟩
        exact ⟨.ref a, f1, .inl ⟨rfl, vs, SqL.of pa⟩, a, vs, u, rfl, rfl, pa, hu, hp _ _ ((r.mut e1 f1 ra.dropLast).setFr hx (Same.refl _) (Rep.mono kp _ _ q))⟩
      · exact hp.elim
    · exact hp.elim
/-! ### a statement of __init__ that does not name self -/
def iStm (m : MS) : MI := fun env fs => match m env with
  | .nx e => match e[0]? with
    | some none => .nx e fs
    | _ => .st
  | .ex c p _ => .ex c p
  | _ => .st
theorem is_stm {st : Stmt} {c : Nat} {m : MS} (h : ∀ a, PSd g (xS a 0) W X st m) : PSi g W X c st (iStm m) :=
  ⟨fun pins s σ H D I ⟨env, fs, A, H1, a, dx, r, hp⟩ => by
    obtain ⟨Ha, sr, sm⟩ := r.sr
    have rX : SRel X.K g (xS a 0) (fun b => A b ∨ b = a) Ha env σ H := ⟨⟨sr.er.dom, r.s0, sr.er.len, sr.er.at_⟩, sr.same, sr.adom, sr.fresh, sr.dist, sr.len⟩
    refine (h a).run pins s σ H D I ⟨env, _, _, rX.to_hid, ?_⟩
    unfold iStm at hp
    have back : ∀ {e σ' H'}, SRel X.K g (xS a 0) (fun b => A b ∨ b = a) (hid env σ H) e σ' H' → e[0]? = some none → IRel X.K g A H1 a dx c e fs σ' H' := fun {e σ' H'} r' n0 => by
      have rb := r'.anchor rX.same_hid rX.adom
      obtain ⟨vs, e0, l, rr⟩ := r.cell
      refine ⟨⟨Ha, ⟨⟨rb.er.dom, trivial, rb.er.len, rb.er.at_⟩, rb.same, rb.adom, rb.fresh, rb.dist, rb.len⟩, sm⟩, r.ad, r.na, r'.er.ex, n0, r.lim, vs, ?_, l, RepL.mono (rX.kp_hid r') _ _ rr⟩
      refine r'.same _ _ ?_
      rw [hid_ne]
      · exact e0
      · rintro ⟨i, xs, g1, g2⟩
        obtain ⟨u, g3, b, ws, ev, _, p, _⟩ := rX.er.at_ i _ g1
        rw [g2] at g3
        cases g3
        cases ev
        rw [e0] at p
        cases p
    cases em : m env with
    | nx e =>
      rw [em] at hp
      intro σ' H' r'
      have hp : PostJ X.K g W A H1 a dx c D (match e[0]? with | some none => .nx e fs | _ => .st) := hp
      split at hp
      · rename_i n0
        exact hp σ' H' (back r' n0)
      · exact hp.elim
    | ex n p e =>
      rw [em] at hp
      intro σ' H' dd r' q
      refine hp σ' H' dd (sm.trans (rX.same_hid.trans r'.same)) ?_
      cases p with
      | none => exact q
      | some fx =>
        obtain ⟨da, v, e1, e2, e3⟩ := q
        exact ⟨da, v, e1, e2, Rep.mono (.of (Same.refl _) fun _ _ z => .inl z) _ _ e3⟩
    | _ => rw [em] at hp; exact hp.elim⟩
end
end DL
set_option Elab.async false
set_option linter.all false
set_option maxRecDepth 100000
set_option maxHeartbeats 4000000
namespace DL
open PySem PySem.Spec L2
open PyProof.Rows hiding St
/-! ### an own list is handed over to a def that may change it -/
def del (H : Hp) (a : Addr) : Hp := fun b => if b = a then none else H b
theorem del_self {H : Hp} {a : Addr} : del H a a = none := if_pos rfl
theorem del_ne {H : Hp} {a b : Addr} (h : b ≠ a) : del H a b = H b := if_neg h
theorem del_some {H : Hp} {a b : Addr} {o : HO} (h : del H a b = some o) : b ≠ a ∧ H b = some o := by
  by_cases e : b = a
  · rw [e, del_self] at h; cases h
  · rw [del_ne e] at h; exact ⟨e, h⟩
theorem same_del {H : Hp} {a : Addr} : Same (del H a) H := fun b o e => (del_some e).2
def RepO (K : PySem.W.Frag) (g : G0) (H : Hp) (Z : Av) (p : Nat) (ds : List D) (vs : List V) : Prop := ds.length = vs.length ∧ ∀ q d, q ≠ p → ds[q]? = some d → ∃ v, vs[q]? = some v ∧ Rep K g H Z d v
def PromO (K : PySem.W.Frag) (g : G0) (p : Nat) (f : Fn) : Sp := fun vs H Q E => ∃ (Z : Av) (ds xs : List D) (a : Addr) (ws : List V), (∀ c, Z c → H c ≠ none ∧ c ≠ a) ∧ ds[p]? = some (.lst xs) ∧ vs[p]? = some (.ref a) ∧ H a = some (.lst ws) ∧
  RepO K g H (fun c => Z c ∨ c = a) p ds vs ∧ RepL K g H (fun c => Z c ∨ c = a) xs ws ∧ PostE K g (fun c d _ H => E c d H) Z [] (del H a) Q (f ds)
structure FDO (P : Program) (w : World) (K : PySem.W.Frag) (mg : Str → Option Value) (base : Heap) (g : G0) (k : Nat) (y : Str) (ps : List Str) (p : Nat) (f : Fn) : Prop where
  ex : ∃ a fd, mg y = some (.ref a) ∧ PySem.W.keepIn K (.ref a) = true ∧ Binds K fd ps [] ∧ FnOk P w K mg base (L2.CX P w) k a fd ps (PromO K g p f)
theorem FDO.mono {P : Program} {w : World} {K : PySem.W.Frag} {mg : Str → Option Value} {base : Heap} {g : G0} {j k : Nat} {y : Str} {ps : List Str} {p : Nat} {f : Fn} (F : FDO P w K mg base g j y ps p f) (h : j ≤ k) : FDO P w K mg base g k y ps p f := by
  obtain ⟨a, fd, h1, h2, h3, h4⟩ := F.ex
  exact ⟨a, fd, h1, h2, h3, h4.mono h⟩
def runO (p n slots : Nat) (m : MS) : Fn := fun ds => if ds.length = n then match ds[p]? with
  | some (.lst xs) => fin (m ((env0 n slots ds).set p (some (.ow xs))))
  | _ => .st else .st
section
variable {P : Program} {w : World} {K : PySem.W.Frag} {mg : Str → Option Value} {base : Heap} {g : G0}
theorem okO {y qual : Str} {st : Stmt} {a : Addr} {fd : FuncData} {N ps : List Str} {k : Nat} (p : Nat) (F : Fun K y qual st a fd) (S : FnScope N ps (defScope st)) (hm : mg y = some (.ref a)) (hb : Binds K fd ps []) (m : MS)
    (body : ∀ (cdv : Value) (A : Around) (outer : List Env) (s : Shared) (H : Hp) (E : XK), Room k (A.deeper (envOfC qual (defScope st) s.heap.objs.size a cdv)) →
      PSsd g T (fun c d _ H => E c d H) (cxOf (L2.CX P w) P w K mg base N qual (defScope st) a cdv A outer s H E) (defBody st) m) : FDO P w K mg base g (k + 1) y ps p (runO p ps.length N.length m) := by
  refine ⟨a, fd, hm, F.kp, hb, ?_⟩
  have hl : ps.length ≤ N.length := by have := congrArg List.length S.pre; rw [List.length_take] at this; omega
  have len : ∀ vs H Q E, PromO K g p (runO p ps.length N.length m) vs H Q E → vs.length = ps.length := fun vs H Q E ⟨Z, ds, xs, a1, ws, dom, e1, e2, e3, ro, rl, hp⟩ => by
    unfold runO at hp
    split at hp
    · rw [← ro.1]; assumption
    · exact hp.elim
  refine F.okX S len fun cdv A outer s H vs Q E hr hsp => ?_
  have lv := len _ _ _ _ hsp
  obtain ⟨Z, ds, xs, a1, ws, dom, e1, e2, e3, ro, rl, hp⟩ := hsp
  refine ⟨_, body cdv A outer s H E hr, ?_⟩
  have ld : ds.length = ps.length := by rw [ro.1, lv]
  unfold runO at hp
  rw [if_pos ld, e1] at hp
  have hp : PostE K g (fun c d _ H => E c d H) Z [] (del H a1) Q (fin (m ((env0 ps.length N.length ds).set p (some (.ow xs))))) := hp
  have hpl : p < ds.length := (List.getElem?_eq_some_iff.mp e1).1
  have st_get : ∀ {i : Nat} {v : V}, vs[i]? = some v → (L2.start N vs)[i]? = some (some v) := fun {i v} e => by
    unfold L2.start
    have hi : i < vs.length := (List.getElem?_eq_some_iff.mp e).1
    rw [List.getElem?_append_left (by simpa using hi), List.getElem?_map, e]
    rfl
  have gets : ∀ {i : Nat} {s : Sl}, ((env0 ps.length N.length ds).set p (some (.ow xs)))[i]? = some (some s) → (i = p ∧ s = .ow xs) ∨ (i ≠ p ∧ ∃ d, ds[i]? = some d ∧ s = .fr d) := fun {i s} e => by
    rcases set_get e with ⟨pi, e, _⟩ | ⟨ne, e⟩
    · cases e
      exact .inl ⟨pi.symm, rfl⟩
    · have e := env0_get e
      rw [List.getElem?_map] at e
      cases ed : ds[i]? with
      | none => rw [ed] at e; cases e
      | some d => rw [ed] at e; cases e; exact .inr ⟨Ne.symm ne, d, rfl, rfl⟩
  have zZ : ∀ b, zz Z ((env0 ps.length N.length ds).set p (some (.ow xs))) (L2.start N vs) b → Z b ∨ b = a1 := by
    rintro b (z | ⟨i, ys, f1, f2⟩)
    · exact .inl z
    · rcases gets f1 with ⟨ip, _⟩ | ⟨_, d, _, e⟩
      · subst ip
        rw [st_get e2] at f2
        cases f2
        exact .inr rfl
      · cases e
  have hlen : ((env0 ps.length N.length ds).set p (some (.ow xs))).length = (L2.start N vs).length := by
    rw [List.length_set]
    unfold env0 L2.start
    rw [List.length_append, List.length_append, List.length_map, List.length_map, List.length_replicate, List.length_replicate, lv, ld]
  have hp0 : ((env0 ps.length N.length ds).set p (some (.ow xs)))[p]? = some (some (.ow xs)) := by
    rw [List.getElem?_set_self]
    unfold env0
    rw [List.length_append, List.length_map]
    omega
  have sr : SRel K g T Z (del H a1) ((env0 ps.length N.length ds).set p (some (.ow xs))) (L2.start N vs) H := by
    refine ⟨⟨fun b z => (zZ b z).elim (fun z => (dom b z).1) fun e => by rw [e, e3]; simp, trivial, hlen, fun i s f1 => ?_⟩, same_del, fun b z => by rw [del_ne (dom b z).2]; exact (dom b z).1, fun i ys b f1 f2 => ?_, fun i j ys zs b f1 f2 _ _ => ?_, hlen⟩
    · rcases gets f1 with ⟨ip, e⟩ | ⟨ne, d, ed, e⟩
      · subst ip e
        exact ⟨.ref a1, st_get e2, a1, ws, rfl, .inr ⟨_, xs, hp0, st_get e2⟩, e3, RepL.mono (.of (Same.refl _) fun b _ z => zZ b z) _ _ rl⟩
      · subst e
        obtain ⟨v, ev, q⟩ := ro.2 i d ne ed
        exact ⟨v, st_get ev, Rep.mono (.of (Same.refl _) fun b _ z => zZ b z) _ _ q⟩
    · rcases gets f1 with ⟨ip, e⟩ | ⟨ne, d, ed, e⟩
      · subst ip
        rw [st_get e2] at f2
        cases f2
        exact del_self
      · cases e
    · rcases gets f1 with ⟨ip, _⟩ | ⟨_, d, _, e⟩
      · rcases gets f2 with ⟨jp, _⟩ | ⟨_, d, _, e⟩
        · rw [ip, jp]
        · cases e
      · cases e
  refine ⟨_, Z, del H a1, sr, ?_⟩
  cases e : m ((env0 ps.length N.length ds).set p (some (.ow xs))) with
  | nx e' => rw [e] at hp; exact fun σ' H' q => hp .non H' q.same (Rep.non_.mpr rfl)
  | rt s => rw [e] at hp; cases s <;> exact hp
  | ex c p e' => rw [e] at hp; exact fun σ' H' dd q z => hp H' dd q.same z
  | bk e' => rw [e] at hp; exact hp.elim
  | ct e' => rw [e] at hp; exact hp.elim
  | st => rw [e] at hp; exact hp.elim
end
/-! the arguments of such a call -/
def PostMA (K : PySem.W.Frag) (g : G0) (W : WX) (Z : Av) (σ : L2.St) (H : Hp) (Q : List V → Hp → Prop) (p i : Nat) : R (List D) → Prop
  | .ok ds => ∀ vs H', Same H H' → RepO K g H' Z p ds vs → (∀ v, σ[i]? = some (some v) → vs[p]? = some v) → Q vs H'
  | .ex c q => ∀ H' dd, Same H H' → ExP K g H' Z q dd → W (.ref (g.cl c)) dd σ H'
  | .st => False
def tMA (K : PySem.W.Frag) (g : G0) (x : L2.St → Prop) (W : WX) (p i : Nat) (m : En → R (List D)) : TA := fun σ H Q => ∃ env Z, ERel K g x Z env σ H ∧ PostMA K g W Z σ H Q p i (m env)
def mvHere (i : Nat) (mr : En → R (List D)) : En → R (List D) := fun env => match env[i]? with
  | some (some (.ow xs)) => (mr env).bind fun ds => .ok (.lst xs :: ds)
  | _ => .st
section
variable {g : G0} {x : L2.St → Prop} {W : WX} {X : Cx} {a : Expr} {es : List Expr} {m : M} {mr : En → R (List D)} {pos p0 : Pos} {y : Str}
theorem pm_here (i : Nat) (hr : PAd g x W X es mr) (hN : X.N[i]? = some y := by rfl) (hv : Vis X.env.scope y := by first | exact Or.inl rfl | exact Or.inr (Or.inl rfl) | exact Or.inr (Or.inr rfl)) (hd : (y == ("__debug__" : Str)) = false := by decide)
    (hcd : (y == ("__classdict__" : Str)) = false := by decide) (hs : starEach (.Name y p0 :: es) X.env = (false, eval (.Name y p0) X.env) :: starEach es X.env := by rfl) : PA X (.Name y p0 :: es) (tMA X.K g x W 0 i (mvHere i mr)) :=
  weakA (pa_cons (pe_var hN hv hd hcd) hr hs) fun σ H Q ⟨env, Z, er, hp⟩ => by
    unfold mvHere at hp
    split at hp
    · rename_i xs e1
      obtain ⟨v, f1, q⟩ := er.at_ i _ e1
      refine ⟨v, f1, env, Z, er, ?_⟩
      cases em : mr env with
      | ok ds =>
        rw [em] at hp
        intro vs H' k r
        refine hp (v :: vs) H' k ⟨by simp [r.length], fun q d n e => ?_⟩ fun u eu => by rw [f1] at eu; cases eu; rfl
        cases q with
        | zero => exact absurd rfl n
        | succ q => exact r.get (by simpa using e)
      | ex c p => rw [em] at hp; exact hp
      | st => rw [em] at hp; exact hp
    · exact hp.elim
theorem pm_there {p i : Nat} (ha : PEd g x W X a m) (hr : PA X es (tMA X.K g x W p i mr)) (hs : starEach (a :: es) X.env = (false, eval a X.env) :: starEach es X.env := by rfl) : PA X (a :: es) (tMA X.K g x W (p + 1) i (mCons m mr)) :=
  weakA (pa_cons ha hr hs) fun σ H Q ⟨env, Z, er, hp⟩ => by
    refine use er ?_
    unfold mCons at hp
    cases em : m env with
    | ok s =>
      rw [em] at hp
      intro v H1 k1 r1
      refine ⟨env, Z, er.mono k1, ?_⟩
      have hp : PostMA X.K g W Z σ H Q (p + 1) i ((mr env).bind fun xs => .ok (s.d :: xs)) := hp
      cases en : mr env with
      | ok ds =>
        rw [en] at hp
        intro vs H2 k2 ro hv
        refine hp (v :: vs) H2 (k1.trans k2) ⟨by simp [ro.1], fun q d n e => ?_⟩ fun u eu => by simpa using hv u eu
        cases q with
        | zero =>
          have e : s.d = d := by simpa using e
          subst e
          exact ⟨v, rfl, Rep.mono (.same_ k2) _ _ r1⟩
        | succ q => exact ro.2 q d (fun e => n (by rw [e])) (by simpa using e)
      | ex c q => rw [en] at hp; exact fun H2 dd k2 z => hp H2 dd (k1.trans k2) z
      | st => rw [en] at hp; exact hp
    | ex c p => rw [em] at hp; exact hp
    | st => rw [em] at hp; exact hp
theorem SRel.drop {K : PySem.W.Frag} {A : Av} {H0 H : Hp} {env : En} {σ : L2.St} (r : SRel K g x A H0 env σ H) {i : Nat} {xs : List D} {a : Addr} (e1 : env[i]? = some (some (.ow xs))) (e2 : σ[i]? = some (some (.ref a))) :
    SRel K g x A H0 (env.set i none) σ (del H a) ∧ (∀ c, zz A (env.set i none) σ c → zz A env σ c ∧ c ≠ a) := by
  have hi : i < env.length := (List.getElem?_eq_some_iff.mp e1).1
  have za : zz A env σ a := .inr ⟨i, xs, e1, e2⟩
  have nH0 : H0 a = none := r.fresh i xs a e1 e2
  obtain ⟨u, f3, b, ws, ev, _, p, _⟩ := r.er.at_ i _ e1
  rw [e2] at f3
  cases f3
  cases ev
  have old : ∀ {j : Nat} {s : Sl}, (env.set i none)[j]? = some (some s) → j ≠ i ∧ env[j]? = some (some s) := fun {j s} e => by
    rcases set_get e with ⟨_, e, _⟩ | ⟨ne, e⟩
    · cases e
    · exact ⟨Ne.symm ne, e⟩
  have zs : ∀ c, zz A (env.set i none) σ c → zz A env σ c ∧ c ≠ a := by
    rintro c (z | ⟨j, ys, f1, f2⟩)
    · exact ⟨.inl z, fun e => r.adom c z (by rw [e]; exact nH0)⟩
    · obtain ⟨ne, f1⟩ := old f1
      exact ⟨.inr ⟨j, ys, f1, f2⟩, fun e => ne (r.dist j i ys xs a f1 e1 (by rw [← e]; exact f2) e2)⟩
  have kp : Kp H (zz A env σ) (del H a) (zz A (env.set i none) σ) :=
    ⟨fun c o e n => by rw [del_ne (fun q => n (by rw [q]; exact za))]; exact e, fun c o us t => by
      have nb : c ≠ a := fun q => by
        subst q
        rw [p] at t
        cases t
      rw [del_ne nb]
      exact t, fun c _ n z => n (zs c z).1⟩
  refine ⟨⟨⟨fun c z => ?_, r.er.ex, by rw [List.length_set, r.len], fun j s f => ?_⟩, fun c o e => ?_, r.adom, fun j ys c f1 f2 => r.fresh j ys c (old f1).2 f2, fun j l ys us c f1 f2 f3 f4 => r.dist j l ys us c (old f1).2 (old f2).2 f3 f4, by rw [List.length_set, r.len]⟩, zs⟩
  · obtain ⟨z1, z2⟩ := zs c z
    rw [del_ne z2]
    exact r.er.dom c z1
  · obtain ⟨ne, f⟩ := old f
    obtain ⟨v, g2, q⟩ := r.er.at_ j s f
    refine ⟨v, g2, ?_⟩
    cases s with
    | fr d => exact Rep.mono kp _ _ q
    | ow ys =>
      obtain ⟨b, us, ev, z, pb, rr⟩ := q
      subst ev
      have hz : zz A (env.set i none) σ b := .inr ⟨j, ys, by rw [List.getElem?_set_ne (Ne.symm ne)]; exact f, g2⟩
      exact ⟨b, us, rfl, hz, by rw [del_ne (zs b hz).2]; exact pb, RepL.mono kp _ _ rr⟩
  · have n : c ≠ a := fun q => by rw [q, nH0] at e; cases e
    rw [del_ne n]
    exact r.same c o e
/-- y = f(.., xs, ..): xs is handed over -/
def sMvSet (j i : Nat) (f : Fn) (mr : En → R (List D)) : MS := fun env => match mr env with
  | .ok ds => match f ds with
    | .ok s => .nx ((env.set i none).set j (some s))
    | .ex c q => .ex c q (env.set i none)
    | .st => .st
  | .ex c q => .ex c q env
  | .st => .st
theorem ds_setMv {k j i p : Nat} {z fy : Str} {ps : List Str} {f : Fn} {pz pc pf : Pos} {e0 : Expr} (F : FDO X.prog X.w X.K X.mg X.base g k fy ps p f) (hr : Room k X.A) (tk : Takes X W) (hg : Gl X fy) (hx : ∀ σ, x σ)
    (hNi : X.N[i]? = some y := by rfl) (hND : X.N.Nodup) (hj : X.N[j]? = some z) (hl : Loc X.env.scope z) (ha : PA X (e0 :: es) (tMA X.K g x W p i mr)) (own : ∀ env ds, mr env = .ok ds → ∃ xs, env[i]? = some (some (.ow xs)) ∧ ds[p]? = some (.lst xs))
    (hdb : (fy == ("__debug__" : Str)) = false := by decide) (he : starEach (e0 :: es) X.env = (false, eval e0 X.env) :: starEach es X.env := by rfl) (hpl : (backTo pc (starEach es X.env)).any (·.1) = false := by rfl)
    (hs : swapsWith (.Call (.Name fy pf) (e0 :: es) [] pc) (some (.Name z pz)) pos.line X.env = pure false := by rfl)
    (hf : X.fn z = true ∨ X.env.scope.names.lookup z = some .local := by first | exact .inl rfl | exact .inr rfl | assumption) : PSd g x W X (.Assign [.Name z pz] (.Call (.Name fy pf) (e0 :: es) [] pc) pos) (sMvSet j i f mr) := by
  obtain ⟨a, fd, hm, hk, hb, hF⟩ := F.ex
  refine weakS (ps_set hND hj hl (pe_callS hF hr hg hm hk hb (fun σ => passAt tk σ) ha hdb he hpl) hs hf) fun D σ H ⟨env, A, H0, r, hp⟩ => ?_
  refine ⟨env, zz A env σ, r.er, ?_⟩
  unfold sMvSet at hp
  cases em : mr env with
  | ok ds =>
    rw [em] at hp
    obtain ⟨xs, e1, e2⟩ := own env ds em
    intro vs H1 k1 ro hv
    have r1 := r.later k1
    obtain ⟨v, f1, b, ws, ev, za, pa, ra⟩ := r1.er.at_ i _ e1
    subst ev
    obtain ⟨rd, zs⟩ := r1.drop e1 f1
    have up : ∀ c, (zz A (env.set i none) σ c ∨ c = b) → zz A env σ c := fun c z => z.elim (fun z => (zs c z).1) fun e => by rw [e]; exact za
    refine ⟨zz A (env.set i none) σ, ds, xs, b, ws, fun c z => ⟨r1.er.dom c (zs c z).1, (zs c z).2⟩, e2, hv _ f1, pa, ⟨ro.1, fun q d n e => ?_⟩, RepL.mono (.of (Same.refl _) fun c _ z => up c z) _ _ ra, ?_⟩
    · obtain ⟨v, ev, rv⟩ := ro.2 q d n e
      exact ⟨v, ev, Rep.mono (.of (Same.refl _) fun c _ z => up c z) _ _ rv⟩
    · have hp : PostS X.K g x W A H0 D (match f ds with | .ok s => .nx ((env.set i none).set j (some s)) | .ex c q => .ex c q (env.set i none) | .st => .st) := hp
      cases ef : f ds with
      | ok s =>
        rw [ef] at hp
        cases s with
        | fr d => exact fun v H' k q => hp _ _ (rd.setFr hx k q)
        | ow ys => exact fun a vs H' k n p q => hp _ _ (rd.setOw hx k n p q)
      | ex c q =>
        rw [ef] at hp
        exact fun H' dd k z => hp σ H' dd (rd.later k) (exA z)
      | st => rw [ef] at hp; exact hp
  | ex c q => rw [em] at hp; exact fun H' dd k z => hp σ H' dd (r.later k) (exA z)
  | st => rw [em] at hp; exact hp
theorem own_here {i : Nat} {mr : En → R (List D)} : ∀ env ds, mvHere i mr env = .ok ds → ∃ xs, env[i]? = some (some (Sl.ow xs)) ∧ ds[0]? = some (.lst xs) := fun env ds h => by
  unfold mvHere at h
  split at h
  · rename_i xs e
    cases em : mr env with
    | ok us => rw [em] at h; cases h; exact ⟨xs, e, rfl⟩
    | ex c p => rw [em] at h; cases h
    | st => rw [em] at h; cases h
  · cases h
theorem own_there {i p : Nat} {m : M} {mr : En → R (List D)} (o : ∀ env ds, mr env = .ok ds → ∃ xs, env[i]? = some (some (Sl.ow xs)) ∧ ds[p]? = some (.lst xs)) : ∀ env ds, mCons m mr env = .ok ds → ∃ xs, env[i]? = some (some (Sl.ow xs)) ∧ ds[p + 1]? = some (.lst xs) := fun env ds h => by
  unfold mCons at h
  cases em : m env with
  | ok s =>
    rw [em] at h
    have h : ((mr env).bind fun xs => .ok (s.d :: xs)) = .ok ds := h
    cases en : mr env with
    | ok us =>
      rw [en] at h
      cases h
      obtain ⟨xs, e1, e2⟩ := o env us en
      exact ⟨xs, e1, by simpa using e2⟩
    | ex c p => rw [en] at h; cases h
    | st => rw [en] at h; cases h
  | ex c p => rw [em] at h; cases h
  | st => rw [em] at h; cases h
end
end DL
set_option Elab.async false
set_option linter.all false
set_option maxRecDepth 100000
set_option maxHeartbeats 4000000
namespace DL
open PySem PySem.Spec L2
open PyProof.Rows hiding St
/-! ### enumerate(tuple, start=k) -/
section
variable {M : Model} {A : Around} {E : Value → Shared → Prop} {s : Shared} {env : Env}
theorem callWith_typeK {pos : Pos} {T : String} {e : Expr} {rest : List Expr} {kws : List Keyword} {Q : Value → Shared → Prop}
    (h : wpAny M A (spliced (backTo pos (starEach (e :: rest) env))) (fun vs s₁ => wpAny M A (evalAll ((backToKw pos (keywordEach kws env)).map (·.2)))
      (fun kvs s₂ => wpAny M A (call (.type T) vs (((backToKw pos (keywordEach kws env)).filterMap (·.1)).zip kvs)) Q E s₂) E s₁) E s)
    (he : backTo pos (starEach (e :: rest) env) = (false, eval e env) :: backTo pos (starEach rest env))
    (hplain : (backTo pos (starEach (e :: rest) env)).any (·.1) = false)
    (hall : (backToKw pos (keywordEach kws env)).all (·.1.isSome) = true)
    (hkw : (backToKw pos (keywordEach kws env)).any (·.1.isNone) = false) :
    wpAny M A (callWith pos (.type T) [] (backTo pos (starEach (e :: rest) env)) (backToKw pos (keywordEach kws env))) Q E s := by
  have h2 : wpAny M A (evalArgs (.type T) true (backTo pos (starEach (e :: rest) env)) (backToKw pos (keywordEach kws env))) (fun a s₁ => wpAny M A (call (.type T) ([] ++ a.pos) a.kw) Q E s₁) E s := by
    rw [he] at h ⊢
    exact evalArgs_kwB hall h
  unfold callWith
  refine wpAny_bind (wpAny_holding (wpAny_mono h2 (fun a s₁ h₁ => wpAny_bind (wpAny_standAt ?_)) fun _ _ x => x))
  simp only [hplain, hkw, Bool.or_false]
  refine wpAny_bind (wpAny_pure ?_)
  exact wpAny_bind (wpAny_mono h₁ (fun r s₂ hr => wpAny_bind (wpAny_holding (wpAny_point (wpAny_pure hr)))) fun _ _ x => x)
end
/-- the items of what sq tells, each in a new pair with its number, from k0 on -/
def ItK (sq : Hp → List V → Prop) (k0 : Int) : It :=
  ⟨fun i H => ∃ (xs : List V) (x : V), sq H xs ∧ xs[i]? = some x, fun i H v H' => ∃ (T : Addr) (o : Obj) (x : V), v = .ref T ∧ H T = none ∧ o.cls = .type "tuple" ∧ o.dict = none ∧ H' = upd H T (.frz o (.tup [.int (k0 + (i : Nat)), x])) ∧ ∀ xs, sq H xs → xs[i]? = some x,
    fun i H => ∃ xs : List V, sq H xs ∧ xs.length ≤ i⟩
section
variable {P : Program} {w : World} {K : PySem.W.Frag} {elts : List Expr} {kk : Nat} {tpos : Pos}
theorem enum_new_okK {X : Cx} {pins : List (Addr × Obj)} {s : Shared} {σ : L2.St} {H : Hp} {e it : Addr} {c : Int} {x : V} {u : Value} {tk : Nat} {t : Tok} {h' : Heap} (I : Inv X pins σ H s) (hf : ∀ b ∈ [e, it], FpOk X pins H b)
    (hT : h'.get? s.heap.objs.size = some { cls := .type "tuple", data := .seq #[.int c t, u] }) (ru : RelV x u) (hk : ∀ b o, b ∉ [e, it] → s.heap.get? b = some o → h'.get? b = some o) :
    Inv X pins σ (upd H s.heap.objs.size (.frz { cls := .type "tuple", data := .seq #[.int c t, u] } (.tup [.int c, x]))) { s with heap := h', toks := tk } := by
  have new : ObjOk X.prog X.w (upd H s.heap.objs.size (.frz { cls := .type "tuple", data := .seq #[.int c t, u] } (.tup [.int c, x]))) h' s.heap.objs.size (.frz { cls := .type "tuple", data := .seq #[.int c t, u] } (.tup [.int c, x])) :=
    ⟨hT, by show 2 ≤ sizeLine; decide, [.int c t, u], .cons ⟨_, rfl⟩ (.cons ru .nil), ⟨_, hT, rfl, _, rfl⟩⟩
  exact I.turnedNew (ch := [e, it]) hk hf (Nat.le_refl _) new
theorem turn_enumTK (k0 : Int) (a e it : Addr) : Turn P w K (.Tuple elts kk tpos) (ItK (fun H xs => SqT K H a xs) k0) [e, it] e (fun i h => (∃ old, IsEnum h e it (k0 + ((i : Nat) : Int)) old) ∧ h.IsTupleIter it a i ∧ e ≠ it) where
  mem := by simp
  obj := fun i h st b hb => by
    obtain ⟨⟨old, he⟩, ⟨o, ho, hc, hd⟩, _⟩ := st
    rcases (show b = e ∨ b = it by simpa using hb) with z | z
    · rw [z]; exact ⟨_, he, fun v q => nomatch q⟩
    · rw [z]; exact ⟨o, ho, fun v q => by rw [hd] at q; cases q⟩
  keep := fun i h h' st k => let ⟨⟨old, he⟩, hi, hne⟩ := st; ⟨⟨old, k e (by simp) _ he⟩, hi.at fun o q => k it (by simp) o q, hne⟩
  item := by
    intro X hP hw hK hc i pins s σ H E I hf st hg
    subst hP hw hK
    obtain ⟨⟨old, he⟩, hit, hne⟩ := st
    obtain ⟨xs, x, hq, hx⟩ := hg
    obtain ⟨its, rv, p, hz⟩ := I.tuple hq
    obtain ⟨u, hu, ru⟩ := rv.get hx
    have hlt : i < its.toArray.size := by rw [List.size_toArray]; exact (List.getElem?_eq_some_iff.mp hu).1
    have nat : a ≠ it := fun z => by
      obtain ⟨o1, h1, c1, _⟩ := p
      obtain ⟨o2, h2, c2, _⟩ := hit
      rw [z, h2] at h1
      cases h1
      rw [c2] at c1
      injection c1 with q
      exact absurd q (by decide)
    have nae : e ≠ a := fun z => by
      obtain ⟨o1, h1, c1, _⟩ := p
      have h2 : s.heap.get? e = _ := he
      rw [z, h1] at h2
      cases h2
      injection c1 with q
      exact absurd q (by decide)
    have hel : e < s.heap.objs.size := Heap.lt_size he
    have hil : it < s.heap.objs.size := by obtain ⟨_, q, _⟩ := hit; exact Heap.lt_size q
    refine wpAny_pyNext_enum_itemC (Draws.tuple (A := X.A.in1) (show X.A.in1.handled = none from I.ok.hd hc) it a nat its.toArray) he ⟨hit, p⟩ hlt hne (by simp [hne, nae]) fun y h' tk hP ho hs' hT hsz hk => ?_
    have ey : y = u := by
      have hP : its.toArray[i]? = some y := hP
      rw [List.getElem?_toArray, hu] at hP
      exact (Option.some.inj hP).symm
    subst ey
    refine ⟨_, rfl, wpAny_letOwnedTupleGo_enum (s := { s with heap := h', toks := tk + 1 }) ho fun h'' he' sb => ?_⟩
    have hT2 := (sb.2 _ (Nat.ne_of_gt hel)).trans hT
    have I1 := enum_new_okK (tk := tk + 1) I hf hT2 ru fun b ob hb q => (sb.2 b (fun z => hb (by simp [z]))).trans (hk b ob (fun z => hb (by simp [z])) (fun z => hb (by simp [z])) q)
    refine ⟨.ref s.heap.objs.size, _, I1, rfl, ⟨_, _, x, rfl, I.hok.fresh (Nat.le_refl _), rfl, rfl, rfl, fun ys hy => by rw [I.tuple_inj hy hq]; exact hx⟩, ⟨⟨y, ?_⟩, hs'.1.at fun o q => (sb.2 it (Ne.symm hne)).trans q, hne⟩, fun b hb => ?_⟩
    · have e1 : k0 + ((i + 1 : Nat) : Int) = (k0 + (i : Int)) + 1 := by omega
      rw [e1]; exact he'
    · have hb' : b < s.heap.objs.size := by
        rcases (show b = e ∨ b = it by simpa using hb) with z | z
        · rw [z]; exact hel
        · rw [z]; exact hil
      rw [upd_ne (Nat.ne_of_lt hb')]
      exact (hf b hb).1
  done := by
    intro X hP hw hK hc i pins s σ H E I hf st hg
    subst hP hw hK
    obtain ⟨⟨old, he⟩, hit, hne⟩ := st
    obtain ⟨xs, hq, hx⟩ := hg
    obtain ⟨its, rv, p, hz⟩ := I.tuple hq
    obtain ⟨f0, f1, f2, f3, f4, f5⟩ := hf it (by simp)
    have hl := rv.length
    have hT : s.TypeIs (.ref e) "enumerate" := ⟨_, he, rfl⟩
    unfold pyNext
    refine wpAny_bind (wpAny_attempt (wpAny_callSpecial?_slot (name := Str.ofString "__next__") hT F.slot_enumerate_next (wpAny_call_entry F.slot_enumerate_next hT F.entry_enumerate_next ?_ (F.args_enumerate_next_1 _))))
    show wpAny _ _ (field (.ref e) 2 >>= _) _ _ _
    refine wpAny_bind (wpAny_field he rfl (x := .ref it) rfl ?_)
    refine wpAny_bind (wpAny_nextOf_tuple_end (show X.A.in1.handled = none from I.ok.hd hc) hit p (by rw [List.getElem?_toArray]; exact List.getElem?_eq_none (by omega)) fun h' y eb hy => ?_)
    obtain ⟨oy, hoy, hcy⟩ := hy
    refine wpAny_bind (wpAny_isInstance (T := "StopIteration") (b := true) ⟨oy, hoy, hcy⟩ isSubtype_stop ?_)
    exact wpAny_pure ⟨rfl, I.turned (t' := s.toks) (fun b o hb q => eb b o hb q) f0 f1 f3 f4 f5⟩
  self := fun A i s Q E st h => let ⟨⟨_, he⟩, _⟩ := st; wpAny_pyIter_enum he h

end
section
variable {X : Cx} {e ek : Expr} {te tk : TE} {p pos tpos kp : Pos} {elts : List Expr} {kk : Nat}
theorem pi_enumS (hg : Gl X "enumerate") (hm : X.mg "enumerate" = none) (he : PE X e te) (hk : PE X ek tk) (hs : starEach [e] X.env = (false, eval e X.env) :: starEach [] X.env := by rfl) :
    PI X (.Tuple elts kk tpos) (.Call (.Name "enumerate" p) [e] [⟨some "start", ek, kp⟩] pos) (fun σ H R => te σ H fun v H1 => tk σ H1 fun u H2 => ∃ a xs n, v = .ref a ∧ u = .int n ∧ 0 ≤ n ∧ n ≤ 1000000 ∧ SqT X.K H2 a xs ∧ R (ItK (fun H xs => SqT X.K H a xs) n) H2) := by
  refine ⟨fun pins s σ H R I h => ?_⟩
  have hE : eval (.Call (.Name "enumerate" p) [e] [⟨some "start", ek, kp⟩] pos) X.env = (do callWith pos (← eval (.Name "enumerate" p) X.env) [] (backTo pos (starEach [e] X.env)) (backToKw pos (keywordEach [⟨some "start", ek, kp⟩] X.env))) := by rfl
  rw [hE]
  refine wpAny_bind (ld_blt I hg hm PyProof.Rows.boot_enumerate (callWith_typeK (args_cons (thn (he.run pins s σ H _ I h) fun u s1 ⟨v, H1, I1, r1, q1⟩ => args_nil (kws_cons (thn (hk.run pins s1 σ H1 _ I1 q1) fun u2 s2 ⟨v2, H2, I2, r2, q2⟩ => kws_nil ?_))) hs) (by rw [hs]; rfl) (by rw [hs]; rfl) rfl rfl))
  obtain ⟨a, xs, n, ev, eu, n0, n1, hq, q⟩ := q2
  subst ev eu
  cases r1
  obtain ⟨tk0, rfl⟩ := r2
  have fp : ∀ b ∈ [s2.heap.objs.size + 1, s2.heap.objs.size], FpOk X pins H2 b := fun b hb => by
    have hle : s2.heap.objs.size ≤ b := by
      rcases (show b = s2.heap.objs.size + 1 ∨ b = s2.heap.objs.size by simpa using hb) with z | z
      · rw [z]; exact Nat.le_add_right _ _
      · rw [z]; exact Nat.le_refl _
    exact I2.fpOk hle (I2.hok.fresh hle)
  obtain ⟨its, rv, p', hz⟩ := I2.tuple hq
  refine enum_begins_start (begins_tuple a its.toArray) (show s2.heap.IsTuple a its.toArray from p') (by omega) (by omega) fun h' he ho hsz hk => wpAny_pyIter_enum he ?_
  have I3 : Inv X pins σ H2 { s2 with heap := h' } := I2.kept (t' := s2.toks) hk
  exact ⟨s2.heap.objs.size + 1, [s2.heap.objs.size + 1, s2.heap.objs.size], _, _, H2, rfl, I3, turn_enumTK n a (s2.heap.objs.size + 1) s2.heap.objs.size, ⟨⟨.none, by simpa using he⟩, ⟨_, ho, rfl, rfl⟩, Nat.succ_ne_self _⟩, fp, q⟩
end
def enumK (n : Int) : List D → List D
  | [] => []
  | d :: ds => .tup [.int n, d] :: enumK (n + 1) ds
def mEnumS (m : M) (k : B) : En → R (List D) := fun env => (m env).bind fun s => (k env).bind fun c => match s.d, c with
  | .tup xs, .int n => if 0 ≤ n ∧ n ≤ 1000000 then .ok (enumK n xs) else .st
  | _, _ => .st
theorem enumK_get : ∀ {xs : List D} {n : Int} {i : Nat} {d : D}, (enumK n xs)[i]? = some d → ∃ c, xs[i]? = some c ∧ d = .tup [.int (n + (i : Nat)), c]
  | [], n, i, d, h => by simp [enumK] at h
  | x :: xs, n, 0, d, h => by
    unfold enumK at h
    simp at h
    exact ⟨x, rfl, by rw [← h]; simp⟩
  | x :: xs, n, i + 1, d, h => by
    unfold enumK at h
    obtain ⟨c, h1, h2⟩ := enumK_get (by simpa using h)
    exact ⟨c, by simpa using h1, by rw [h2, show n + 1 + ((i : Nat) : Int) = n + ((i + 1 : Nat) : Int) by omega]⟩
theorem enumK_length : ∀ {xs : List D} {n : Int}, (enumK n xs).length = xs.length
  | [], n => rfl
  | x :: xs, n => by unfold enumK; rw [List.length_cons, List.length_cons, enumK_length]
section
variable {K : PySem.W.Frag} {g : G0} {Z : Av} {H : Hp}
theorem walk_enumK {k0 : Int} {sq : Hp → List V → Prop} {ds : List D} {vs : List V} (r : RepL K g H Z ds vs) (hs : ∀ H', Kp H Z H' (fun _ => False) → sq H' vs) : Walk K g Z H (ItK sq k0) (enumK k0 ds) where
  go := fun i d H' e k => by
    obtain ⟨c, h1, _⟩ := enumK_get e
    obtain ⟨v, h3, _⟩ := r.get h1
    exact ⟨vs, v, hs H' k, h3⟩
  yld := fun i d H' v H'' e k y => by
    obtain ⟨T, o, x, rfl, hn, oc, od, rfl, hy⟩ := y
    obtain ⟨c, h1, h2⟩ := enumK_get e
    obtain ⟨u, h3, q⟩ := r.get h1
    have e4 := hy vs (hs H' k)
    rw [h3] at e4
    cases e4
    refine ⟨same_upd hn, fun Z' k2 hz => ?_⟩
    rw [h2]
    exact Rep.tup_.mpr ⟨T, _, rfl, .inl ⟨o, upd_same, oc, od⟩, RepL.cons_.mpr ⟨_, _, rfl, Rep.int_.mpr rfl, .one (Rep.mono k2 _ _ q)⟩⟩
  stop := fun i H' l k => ⟨vs, hs H' k, by rw [enumK_length] at l; rw [← r.length]; exact l⟩
end
section
variable {g : G0} {x : L2.St → Prop} {W : WX} {X : Cx} {e ek : Expr} {p pos tpos kp : Pos} {elts : List Expr} {kk : Nat} {m : M} {k : B}
theorem PostI.later {K : PySem.W.Frag} {Z : Av} {σ : L2.St} {H H' : Hp} {Rn : It → Hp → Prop} {r : R (List D)} (k : Same H H') (h : PostI K g W Z σ H Rn r) : PostI K g W Z σ H' Rn r := by
  cases r with
  | ok s => exact fun J H2 k2 q => h J H2 (k.trans k2) q
  | ex c p => exact fun H2 dd k2 q => h H2 dd (k.trans k2) q
  | st => exact h
theorem di_enumS (hg : Gl X "enumerate") (hm : X.mg "enumerate" = none) (he : PEd g x W X e m) (hk : PBd g x W X ek k) (hs : starEach [e] X.env = (false, eval e X.env) :: starEach [] X.env := by rfl) : PId g x W X (.Tuple elts kk tpos) (.Call (.Name "enumerate" p) [e] [⟨some "start", ek, kp⟩] pos) (mEnumS m k) :=
  weakI (pi_enumS hg hm he hk hs) fun σ H Rn ⟨env, Z, er, hp⟩ => by
    refine use er ?_
    unfold mEnumS at hp
    cases em : m env with
    | ok s =>
      rw [em] at hp
      have hp : PostI X.K g W Z σ H Rn ((k env).bind fun c => match s.d, c with | .tup xs, .int n => if 0 ≤ n ∧ n ≤ 1000000 then .ok (enumK n xs) else .st | _, _ => .st) := hp
      intro v H1 k1 r1
      refine use1I (er.mono k1) (PostI.later k1 hp) fun d u H2 e2 k2 r2 hp2 => ?_
      cases ed : s.d with
      | tup xs =>
        rw [ed] at hp2 r1
        cases d with
        | int n =>
          have hp2 : PostI X.K g W Z σ H2 Rn (if 0 ≤ n ∧ n ≤ 1000000 then .ok (enumK n xs) else .st) := hp2
          split at hp2
          · rename_i hn
            obtain ⟨a, vs, ev, tu, rr⟩ := Rep.tup_.mp (Rep.mono (.same_ k2) _ _ r1)
            exact ⟨a, vs, n, ev, r2.int_, hn.1, hn.2, tu.sqT, hp2 _ H2 (Same.refl _) (walk_enumK rr fun H3 k3 => (k3.tu tu).sqT)⟩
          · exact hp2.elim
        | _ => exact hp2.elim
      | _ => rw [ed] at hp2; cases d <;> exact hp2.elim
    | ex c p => rw [em] at hp; exact hp
    | st => rw [em] at hp; exact hp.elim
end
end DL
set_option Elab.async false
set_option linter.all false
set_option maxRecDepth 100000
set_option maxHeartbeats 4000000
namespace DL
open PySem PySem.Spec L2
open PyProof.Rows hiding St
/-! ### a call that is lent lists and answers a new list of plain values -/
def lentL (F : List D → R Sl) : List D → R Sl := fun ds => match F ds with
  | .ok (.fr d) => if noref d = true then .ok (.fr d) else .st
  | .ok (.ow xs) => if norefL xs = true then .ok (.ow xs) else .st
  | .ex c none => .ex c none
  | _ => .st
section
variable {g : G0} {x : L2.St → Prop} {W : WX} {X : Cx} {e : Expr} {es : List Expr} {mr : En → R (List D)} {pos p : Pos}
theorem de_fnL {k : Nat} {y : Str} {ps : List Str} {f : Fn} (F : FD X.prog X.w X.K X.mg X.base g k y ps f) (hr : Room k X.A) (tk : Takes X W) (hg : Gl X y) (ha : PBAd g x W X (e :: es) mr)
    (hdb : (y == ("__debug__" : Str)) = false := by decide) (he : starEach (e :: es) X.env = (false, eval e X.env) :: starEach es X.env := by rfl) (hpl : (backTo pos (starEach es X.env)).any (·.1) = false := by rfl) :
    PEd g x W X (.Call (.Name y p) (e :: es) [] pos) (mCall (lentL f) mr) := by
  obtain ⟨a, fd, hm, hk, hb, hF⟩ := F.ex
  exact weakE (pe_callS hF hr hg hm hk hb (fun σ => passAt tk σ) ha hdb he hpl) fun σ H Q ⟨env, Z, er, hp⟩ =>
    useBL er hp fun ds vs H1 e1 k1 r1 hp1 => by
      refine ⟨fun _ => False, ds, fun _ z => z.elim, r1.all, ?_⟩
      unfold lentL at hp1
      cases ef : f ds with
      | ok s =>
        rw [ef] at hp1
        cases s with
        | ow xs =>
          have hp1 : PostE X.K g W Z σ H1 Q (if norefL xs = true then .ok (.ow xs) else .st) := hp1
          split at hp1
          · rename_i fl
            exact fun a vs H' k n e r => hp1 a vs H' k n e (norefL_z fl r)
          · exact hp1.elim
        | fr d =>
          have hp1 : PostE X.K g W Z σ H1 Q (if noref d = true then .ok (.fr d) else .st) := hp1
          split at hp1
          · rename_i fl
            exact fun v H' k r => hp1 v H' k (noref_z fl r)
          · exact hp1.elim
      | ex c p =>
        rw [ef] at hp1
        cases p with
        | none => exact hp1
        | some q => exact hp1.elim
      | st => rw [ef] at hp1; exact hp1.elim
end
end DL
set_option Elab.async false
set_option linter.all false
set_option maxRecDepth 100000
set_option maxHeartbeats 4000000
namespace DL
open PySem PySem.Spec L2
open PyProof.Rows hiding St
/-! ### is True, is not False -/
def fIsB : D → D → R Sl
  | .bl a, .bl b => .ok (.fr (.bl (decide (a = b))))
  | _, _ => .st
def fNotB : D → D → R Sl
  | .bl a, .bl b => .ok (.fr (.bl (!decide (a = b))))
  | _, _ => .st
section
variable {K : PySem.W.Frag}
theorem of_isB : OpF K rIsB fIsB := by
  intro g W H Z σ x y v u Q dom rx ry hp
  cases x <;> first | exact hp.elim | skip
  cases y <;> first | exact hp.elim | skip
  exact ⟨_, _, rx.bl_, ry.bl_, hp _ H (Same.refl _) (Rep.bl_.mpr rfl)⟩
theorem of_notB : OpF K rNotB fNotB := by
  intro g W H Z σ x y v u Q dom rx ry hp
  cases x <;> first | exact hp.elim | skip
  cases y <;> first | exact hp.elim | skip
  exact ⟨_, _, rx.bl_, ry.bl_, hp _ H (Same.refl _) (Rep.bl_.mpr rfl)⟩
end
section
variable {g : G0} {x : L2.St → Prop} {W : WX} {X : Cx} {a b c e : Expr} {pos p : Pos} {ma mb mc : B}
theorem de_isB (ha : PBd g x W X a ma) (hb : PBd g x W X b mb) : PEd g x W X (.Compare a [.Is] [b] pos) (mBin fIsB ma mb) := de_cmp op_isBl of_isB ha hb (nomark _)
theorem de_notB (ha : PBd g x W X a ma) (hb : PBd g x W X b mb) : PEd g x W X (.Compare a [.IsNot] [b] pos) (mBin fNotB ma mb) := de_cmp op_notBl of_notB ha hb (nomark _)
theorem dt_isB (ha : PBd g x W X a ma) (hb : PBd g x W X b mb) : PTd g x W X (.Compare a [.Is] [b] pos) (mTest (mB (mBin fIsB ma mb))) := dt_cmp op_isBl of_isB ha hb (nomark _)
theorem dt_notB (ha : PBd g x W X a ma) (hb : PBd g x W X b mb) : PTd g x W X (.Compare a [.IsNot] [b] pos) (mTest (mB (mBin fNotB ma mb))) := dt_cmp op_notBl of_notB ha hb (nomark _)
end
/-! ### isinstance of the caught error, two classes -/
section
variable {g : G0} {W : WX} {X : Cx} {a Dc : Addr} {oe : Obj} {pn : List (Addr × Obj)} {i : Nat} {n y y2 : Str} {p p2 p3 p4 pt pos : Pos}
def rIsET (K : PySem.W.Frag) (D a : Addr) : List V → Hp → VK → Prop := fun xs H Q => ∃ (tp : Addr) (cs : List V) (us : List Value) (b : Bool), xs = [.ref a, .ref tp] ∧ H tp = some (.tup cs) ∧ Paired ClsV cs us ∧ PySem.W.kitAny K (.ref D) us = some b ∧ Q (.bl b) H
theorem call_isET (C : ExcC X.K Dc) (hz : Zc (.ref Dc) none oe) (hf : ∃ vs, oe.data = .fields vs) : CallR (X.suite a ((a, oe) :: pn)) (.builtin "isinstance") (rIsET X.K Dc a) := by
  intro pins s σ H xs us Q I r h
  obtain ⟨tp, cs, ws, b, rfl, hT, k, e, q⟩ := h
  obtain ⟨u1, u2, rfl, r1, r2⟩ := vals2 r
  cases (show u1 = Value.ref a from r1)
  cases (show u2 = Value.ref tp from r2)
  obtain ⟨hget, _⟩ := I.pin (a, oe) (List.mem_append.mpr (.inl List.mem_cons_self))
  obtain ⟨vs, hv⟩ := hf
  have J : PySem.W.InstAt s.heap a oe Dc none := by
    obtain ⟨oc, od, oda, osl⟩ := oe
    obtain ⟨h1, h2⟩ := hz
    dsimp only at h1 h2 hv
    subst h1 h2 hv
    exact ⟨hget, rfl, rfl, trivial⟩
  obtain ⟨_, its, rv, o, h1, h2, n, h3⟩ := (show ObjOk X.prog X.w H s.heap tp (.tup cs) from I.hok tp _ hT)
  have e3 := ClsV.all k rv
  subst e3
  obtain ⟨oc, od, dt, sl⟩ := o
  simp only at h2 h3
  subst h2 h3
  exact PySem.W.kia_tup (PySem.W.handS_kitx_exc C.hg C.hk C.hs C.hd C.ha C.hn C.ht C.hm) I.kIn J h1 e (fun z => nomatch z) fun tk => ⟨.bl b, H, I.kept (t' := tk) fun _ _ z => z, rfl, q⟩
theorem de_isE2 {c1 c2 : Addr} {b1 b2 : Bool} {kk : Nat} (C : ExcC X.K Dc) (hz : Zc (.ref Dc) none oe) (hf : ∃ vs, oe.data = .fields vs) (hk1 : PySem.W.kitOne X.K (.ref Dc) (.ref c1) = some b1) (hk2 : PySem.W.kitOne X.K (.ref Dc) (.ref c2) = some b2)
    (hg : Gl (X.suite a ((a, oe) :: pn)) "isinstance") (hm : X.mg "isinstance" = none) (hg1 : Gl (X.suite a ((a, oe) :: pn)) y) (hm1 : X.mg y = some (.ref c1)) (hg2 : Gl (X.suite a ((a, oe) :: pn)) y2) (hm2 : X.mg y2 = some (.ref c2))
    (hN : X.N[i]? = some n) (hv : Vis X.env.scope n) (hd : (n == ("__debug__" : Str)) = false) (hcd : (n == ("__classdict__" : Str)) = false) (hdy : (y == ("__debug__" : Str)) = false) (hdy2 : (y2 == ("__debug__" : Str)) = false)
    (he : starEach [.Name n p2, .Tuple [.Name y p3, .Name y2 p4] kk pt] X.env = (false, eval (.Name n p2) X.env) :: starEach [.Tuple [.Name y p3, .Name y2 p4] kk pt] X.env)
    (he2 : starEach [.Tuple [.Name y p3, .Name y2 p4] kk pt] X.env = (false, eval (.Tuple [.Name y p3, .Name y2 p4] kk pt) X.env) :: starEach [] X.env)
    (he3 : starEach [.Name y p3, .Name y2 p4] X.env = (false, eval (.Name y p3) X.env) :: starEach [.Name y2 p4] X.env) (he4 : starEach [.Name y2 p4] X.env = (false, eval (.Name y2 p4) X.env) :: starEach [] X.env) :
    PEd g (xS a i) W (X.suite a ((a, oe) :: pn)) (.Call (.Name "isinstance" p) [.Name n p2, .Tuple [.Name y p3, .Name y2 p4] kk pt] [] pos) (mC (.bl (b1 || b2))) := by
  have q : PA (X.suite a ((a, oe) :: pn)) [.Name n p2, .Tuple [.Name y p3, .Name y2 p4] kk pt] (tCons (tVar i) (tCons (tTup (tCons (tC (.ref c1)) (tCons (tC (.ref c2)) tNil))) tNil)) :=
    pa_cons (pe_var (X := X.suite a ((a, oe) :: pn)) hN hv hd hcd) (pa_cons (pe_tup (pa_cons (pe_glob hg1 hm1 rfl hdy) (pa_cons (pe_glob hg2 hm2 rfl hdy2) pa_nil he4) he3)) pa_nil he2) he
  refine weakE (pe_callB (call_isET C hz hf) hg hm (by decide +kernel) q (by decide) (by decide) he (by rw [show starEach [.Tuple [.Name y p3, .Name y2 p4] kk pt] (X.suite a ((a, oe) :: pn)).env = (false, eval (.Tuple [.Name y p3, .Name y2 p4] kk pt) X.env) :: starEach [] X.env from he2]; rfl)) fun σ H Q ⟨env, Z, er, hp⟩ => ?_
  refine ⟨.ref a, er.ex, by show 2 ≤ sizeLine; decide, fun tp hn => ?_⟩
  refine ⟨tp, [.ref c1, .ref c2], [.ref c1, .ref c2], b1 || b2, rfl, upd_same, .cons (.own c1) (.cons (.own c2) .nil), ?_, hp _ _ (same_upd hn) (Rep.bl_.mpr rfl)⟩
  refine kitAny_cons hk1 (fun h => kitAny_cons hk2 (fun h2 => ?_) fun h2 => ?_) fun h => ?_
  · rw [h, h2]; exact kitAny_nil
  · rw [h2, Bool.or_true]
  · rw [h, Bool.true_or]
end
end DL
set_option Elab.async false
set_option linter.all false
set_option maxRecDepth 100000
set_option maxHeartbeats 4000000
namespace DL
open PySem PySem.Spec L2
open PyProof.Rows hiding St
/-! ### a keyword-only parameter with a default -/
section
variable {X : Cx} {CX : CXT} {k n : Nat} {f : Addr} {fd : FuncData} {ps ks : List Str} {sp : Sp} {E : L2.St → XK} {x : Str} {p pos : Pos} {e : Expr} {es : List Expr} {kws : List Keyword} {t tk : TA} {g : List Value → List Value → List Value} {gV : List V → List V → List V}
def tCallSN (n m : Nat) (sp : Sp) (gV : List V → List V → List V) (E : L2.St → XK) (t tk : TA) : TE := fun σ H Q => t σ H fun vs H1 => tk σ H1 fun zs H2 => vs.length = n ∧ zs.length = m ∧ sp (gV vs zs) H2 Q (E σ)
theorem run_fnSN {pins : List (Addr × Obj)} {σ : L2.St} {H : Hp} {s : Shared} {Q : VK} {us ws : List Value} {vs zs : List V} (F : FnOk X.prog X.w X.K X.mg X.base CX k f fd ps sp) (hr : Room k X.A) (hb : KBn X.K fd ps n ks g gV) (hx : PassesAt CX X σ (E σ))
    (I : Inv X pins σ H s) (r : Vals vs us) (rz : Vals zs ws) (l1 : vs.length = n) (l2 : zs.length = ks.length) (h : sp (gV vs zs) H Q (E σ)) : wpAny (model X.prog X.w) X.A (call (.ref f) us (ks.zip ws)) (EP X pins σ Q) X.xe s := by
  refine wpAny_call (codeAny_mono (F.run X.A X.stack s H _ _ _ Q (E σ) hr I.env0 (hb.to s us ws I.kIn (r.length.symm.trans l1) (rz.length.symm.trans l2)) (hb.rel r rz) h) fun r s' hq => ?_)
  match r, hq with
  | .error e, hq => exact hx pins H s e s' I hq
  | .ok (.ret u), hq => exact I.after hq
  | .ok .next, hq => exact hq.elim
  | .ok .brk, hq => exact hq.elim
  | .ok .cont, hq => exact hq.elim
theorem pe_callSN (F : FnOk X.prog X.w X.K X.mg X.base CX k f fd ps sp) (hr : Room k X.A) (hg : Gl X x) (hm : X.mg x = some (.ref f)) (hk : PySem.W.keepIn X.K (.ref f) = true) (hb : KBn X.K fd ps n ks g gV) (hx : ∀ σ, PassesAt CX X σ (E σ))
    (ha : PA X (e :: es) t) (hkw : PK X kws tk) (hall : (backToKw pos (keywordEach kws X.env)).all (·.1.isSome) = true) (hks : (backToKw pos (keywordEach kws X.env)).filterMap (·.1) = ks)
    (hdb : (x == ("__debug__" : Str)) = false) (he : starEach (e :: es) X.env = (false, eval e X.env) :: starEach es X.env)
    (hpl : ((backTo pos (starEach (e :: es) X.env)).any (·.1) || (backToKw pos (keywordEach kws X.env)).any (·.1.isNone)) = false) :
    PE X (.Call (.Name x p) (e :: es) kws pos) (tCallSN n ks.length sp gV E t tk) := by
  refine ⟨fun pins s σ H Q I h => wpAny_Call_Name_kw (ld_glob I hg hm ?_ hdb)⟩
  refine PySem.W.callWith_KW (h₀ := X.base) I.ok.mod.kin hk hall (thn (ha.run pos pins s σ H _ I h) fun us s1 ⟨vs, H1, I1, r, q⟩ => ?_) hpl he
  refine thn (hkw.run pos pins s1 σ H1 _ I1 q) fun ws s2 ⟨zs, H2, I2, rz, l1, l2, q2⟩ => ⟨I2.kIn, ?_⟩
  rw [hks]
  exact run_fnSN F hr hb (hx σ) I2 r rz l1 l2 q2
end
/-- the def y, called with n values and the keyword z behind them -/
structure FDk (P : Program) (w : World) (K : PySem.W.Frag) (mg : Str → Option Value) (base : Heap) (g : G0) (k : Nat) (y : Str) (ps : List Str) (n : Nat) (z : Str) (f : Fn) : Prop where
  ex : ∃ a fd, mg y = some (.ref a) ∧ PySem.W.keepIn K (.ref a) = true ∧ KBn K fd ps n [z] (fun us ws => us ++ ws) (fun vs zs => vs ++ zs) ∧ FnOk P w K mg base (L2.CX P w) k a fd ps (Prom K g f)
theorem FDk.mono {P : Program} {w : World} {K : PySem.W.Frag} {mg : Str → Option Value} {base : Heap} {g : G0} {j k n : Nat} {y z : Str} {ps : List Str} {f : Fn} (F : FDk P w K mg base g j y ps n z f) (h : j ≤ k) : FDk P w K mg base g k y ps n z f := by
  obtain ⟨a, fd, h1, h2, h3, h4⟩ := F.ex
  exact ⟨a, fd, h1, h2, h3, h4.mono h⟩
def mCallK (n : Nat) (f : Fn) (mr : En → R (List D)) (mv : M) : M := fun env => (mr env).bind fun ds => if ds.length = n then (mv env).bind fun s => f (ds ++ [s.d]) else .st
section
variable {g : G0} {x : L2.St → Prop} {W : WX} {X : Cx} {e v : Expr} {es : List Expr} {mr : En → R (List D)} {mv : M} {pos p kp : Pos}
theorem de_fnK {k n : Nat} {y z : Str} {ps : List Str} {f : Fn} (F : FDk X.prog X.w X.K X.mg X.base g k y ps n z f) (hr : Room k X.A) (tk : Takes X W) (hg : Gl X y) (ha : PAd g x W X (e :: es) mr) (hv : PEd g x W X v mv)
    (hdb : (y == ("__debug__" : Str)) = false := by decide) (he : starEach (e :: es) X.env = (false, eval e X.env) :: starEach es X.env := by rfl)
    (hall : (backToKw pos (keywordEach [⟨some z, v, kp⟩] X.env)).all (·.1.isSome) = true := by rfl) (hks : (backToKw pos (keywordEach [⟨some z, v, kp⟩] X.env)).filterMap (·.1) = [z] := by rfl)
    (hpl : ((backTo pos (starEach (e :: es) X.env)).any (·.1) || (backToKw pos (keywordEach [⟨some z, v, kp⟩] X.env)).any (·.1.isNone)) = false := by rfl) :
    PEd g x W X (.Call (.Name y p) (e :: es) [⟨some z, v, kp⟩] pos) (mCallK n f mr mv) := by
  obtain ⟨a, fd, hm, hk, hb, hF⟩ := F.ex
  exact weakE (pe_callSN hF hr hg hm hk hb (fun σ => passAt tk σ) ha (pk_cons hv pk_nil) hall hks hdb he hpl) fun σ H Q ⟨env, Z, er, hp⟩ =>
    useA er hp fun ds vs H1 e1 k1 r1 hp1 => by
      by_cases c : ds.length = n
      · rw [if_pos c] at hp1
        exact use1 (er.mono k1) hp1 fun s u H2 e2 k2 r2 hp2 => ⟨r1.length.symm.trans c, rfl, Z, ds ++ [s.d], dom_mono k2 (dom_mono k1 er.dom), (RepL.mono (.same_ k2) _ _ r1).append (RepL.cons_.mpr ⟨u, [], rfl, r2, by unfold RepL; rfl⟩), postW hp2⟩
      · rw [if_neg c] at hp1
        exact hp1.elim
end
section
variable {P : Program} {w : World} {K : PySem.W.Frag} {mg : Str → Option Value} {base : Heap} {g : G0}
theorem okK {y qual : Str} {params : Arguments} {bd : List Stmt} {scope : Scope} {kws : List (Str × V)} {a : Addr} {fd : FuncData} {N ps : List Str} {k n : Nat} {z : Str} {dD : List D} (F : FunD K y qual params bd scope [] kws a fd) (S : FnScope N ps scope) (hm : mg y = some (.ref a))
    (hb : ∃ ds, Vals (kws.map (·.2)) ds ∧ Binds K fd ps ds) (hk : KBn K fd ps n [z] (fun us ws => us ++ ws) (fun vs zs => vs ++ zs)) (hrep : ∀ (H : Hp) (Z : Av), RepL K g H Z dD (kws.map (·.2))) (m : MS)
    (body : ∀ (cdv : Value) (A : Around) (outer : List Env) (s : Shared) (H : Hp) (E : XK), Room k (A.deeper (envOfC qual scope s.heap.objs.size a cdv)) →
      PSsd g T (fun c d _ H => E c d H) (cxOf (L2.CX P w) P w K mg base N qual scope a cdv A outer s H E) bd m) :
    FDd P w K mg base g (k + 1) y ps dD (runF ps.length N.length m) ∧ FDk P w K mg base g (k + 1) y ps n z (runF ps.length N.length m) := by
  have ok := okD0 F S m body
  obtain ⟨ds, h1, h2⟩ := hb
  exact ⟨⟨a, fd, _, ds, hm, F.kp, h1, h2, hrep, ok⟩, ⟨a, fd, hm, F.kp, hk, ok⟩⟩
/-- a def (p, *, z = d): its two calls -/
theorem kw1_binds {y qual : Str} {body : List Stmt} {params : Arguments} {scope : Scope} {v : V} {z q : Str} {a : Addr} {fd : FuncData} (F : FunD K y qual params body scope [] [(z, v)] a fd)
    (h0 : ∀ (D : Addr) (doc pm : Value) (an : Option Addr) (cdv ct u k : Value), KwChain D [(z, k)] (bindArgs (PySem.W.fnOf y qual params body scope .none (.ref D) doc pm an cdv ct) ⟨[u], []⟩) [(q, u), (z, k)])
    (h1 : ∀ (D : Addr) (doc pm : Value) (an : Option Addr) (cdv ct u k : Value), bindArgs (PySem.W.fnOf y qual params body scope .none (.ref D) doc pm an cdv ct) ⟨[u], [(z, k)]⟩ = pure [(q, u), (z, k)]) :
    (∃ ds, Vals ([(z, v)].map (·.2)) ds ∧ Binds K fd [q, z] ds) ∧ KBn K fd [q, z] 1 [z] (fun us ws => us ++ ws) (fun vs zs => vs ++ zs) := by
  refine ⟨FunD.binds0 F 1 (by simp) rfl fun D doc pm an cdv ct us ks l1 l2 => ?_, ?_⟩
  · match us, ks, l1, l2 with
    | [u], [k], _, _ => exact h0 D doc pm an cdv ct u k
  · obtain ⟨mv, b⟩ := FunD.kbinds0 (ps := [q, z]) F 1 [z] [] (fun vs _ zs => vs ++ zs) (by simp) (fun q h => by cases h) (fun r1 _ r3 => r1.append r3) fun D doc pm an cdv ct us mv ws l1 l2 l3 => by
      match us, mv, ws, l1, l2, l3 with
      | [u], [], [k], _, _, _ => exact h1 D doc pm an cdv ct u k
    exact b
end
end DL
set_option Elab.async false
set_option linter.all false
set_option maxRecDepth 100000
namespace DL
open PySem PySem.Spec PyProof.Rows L2
structure RepL0 (K : PySem.W.Frag) (T : Addr) : Prop where
  e : HK.emptyT K T = true
theorem RepL0.rep {K : PySem.W.Frag} {T : Addr} (h : RepL0 K T) (g : G0) (H : Hp) (Z : Av) : RepL K g H Z [.tup []] [V.ref T] := by
  have e := h.e
  unfold HK.emptyT at e
  split at e
  · rename_i o l
    obtain ⟨h1, e⟩ := He.ba e
    obtain ⟨h2, e⟩ := He.ba e
    split at e
    · rename_i its n d
      have hz : its = #[] := Array.isEmpty_iff.mp e
      subst hz
      refine RepL.cons_.mpr ⟨_, [], rfl, Rep.tup_.mpr ⟨T, [], rfl, .inr ⟨o, #[], n, l, of_decide_eq_true h1, by simpa using h2, d, by simp [sizeLine], .nil⟩, by unfold RepL; rfl⟩, by unfold RepL; rfl⟩
    · cases e
  · cases e
end DL
namespace HK
open PySem PySem.Spec PyProof.Rows L2
theorem kwB_ok {K : PySem.W.Frag} {a : Addr} {z x qual : Str} {params : Arguments} {body : List Stmt} {scope : Scope} {dV kV doc pm cdv ct oc : Value} {an od : Option Addr} {osl : Array (Option Value)} (h : kwB K a z = true)
    (l : K.lookup a = some ⟨oc, od, .func (PySem.W.fnOf x qual params body scope dV kV doc pm an cdv ct), osl⟩) : ∃ T : Addr, KwdV K kV [(z, .ref T)] ∧ DL.RepL0 K T := by
  obtain ⟨T, h1, h2⟩ := kwB_at h l
  exact ⟨T, h1, ⟨h2⟩⟩
end HK
set_option Elab.async false
set_option linter.all false
set_option maxRecDepth 100000
namespace DL
open PySem PySem.Spec L2
open PyProof.Rows hiding St
/-! ### lists of ints -/
theorem leD_int (a b : Int) : leD (.int a) (.int b) = decide (a ≤ b) := congrFun (congrFun (PySem.W.dataLe_int (fun i : Int => i)) a) b
theorem eqDL_ints : ∀ xs ys : List Int, eqDL (xs.map .int) (ys.map .int) = decide (xs = ys)
  | [], [] => by simp [eqDL]
  | [], y :: ys => by simp [eqDL]
  | x :: xs, [] => by simp [eqDL]
  | x :: xs, y :: ys => by
    show eqDL (.int x :: xs.map .int) (.int y :: ys.map .int) = _
    unfold eqDL
    rw [eqDL_ints xs ys]
    show (eqD (.int x) (.int y) && decide (xs = ys)) = _
    rw [show eqD (.int x) (.int y) = (x == y) by unfold eqD; rfl]
    by_cases h : x = y
    · subst h; simp
    · simp [h]
def leI (a b : Int) : Bool := decide (a ≤ b)
theorem ins_ints (a : Int) : ∀ xs : List Int, ins leD (.int a) (xs.map .int) = (ins leI a xs).map .int
  | [] => rfl
  | x :: xs => by
    show ins leD (.int a) (.int x :: xs.map .int) = _
    unfold ins
    rw [leD_int, ins_ints a xs]
    show (if leI a x = true then _ else _) = _
    split <;> rfl
theorem isort_ints : ∀ xs : List Int, isort leD (xs.map .int) = (isort leI xs).map .int
  | [] => rfl
  | x :: xs => by
    show ins leD (.int x) (isort leD (xs.map .int)) = (ins leI x (isort leI xs)).map .int
    rw [isort_ints xs, ins_ints]
theorem ins_perm {α : Type} (le : α → α → Bool) (a : α) : ∀ xs : List α, (ins le a xs).Perm (a :: xs)
  | [] => .refl _
  | x :: xs => by
    unfold ins
    split
    · exact .refl _
    · exact ((ins_perm le a xs).cons x).trans (.swap a x xs)
theorem isort_permI {α : Type} (le : α → α → Bool) : ∀ xs : List α, (isort le xs).Perm xs
  | [] => .refl _
  | x :: xs => (ins_perm le x _).trans ((isort_permI le xs).cons x)
theorem okSort_ints (xs : List Int) (h : xs.length ≤ lim) : okSort (xs.map .int) = true := by
  have hd : ∀ a : Int, decide ((toPy (.int a)).depth ≤ 60) = true := fun a => rfl
  have e1 : ((xs.map D.int).all fun a => noObj a && decide ((toPy a).depth ≤ 60)) = true := by
    rw [List.all_eq_true]
    intro d m
    obtain ⟨a, _, rfl⟩ := List.mem_map.mp m
    rfl
  have e2 : ((xs.map D.int).all fun a => (xs.map D.int).all fun b => PySem.W.alike (toPy a) (toPy b)) = true := by
    rw [List.all_eq_true]
    intro d m
    rw [List.all_eq_true]
    intro d2 m2
    obtain ⟨a, _, rfl⟩ := List.mem_map.mp m
    obtain ⟨b, _, rfl⟩ := List.mem_map.mp m2
    rfl
  have e3 : (xs.map D.int).all noTN = true := by
    rw [List.all_eq_true]
    intro d m
    obtain ⟨a, _, rfl⟩ := List.mem_map.mp m
    rfl
  unfold okSort
  rw [e1, e2, e3, decide_eq_true (show (xs.map D.int).length ≤ lim by rw [List.length_map]; exact h)]
  simp
theorem fSorted_ints (xs : List Int) (h : xs.length ≤ lim) : fSorted [.tup (xs.map .int)] = .ok (.ow ((isort leI xs).map .int)) := by
  show (if okSort (xs.map .int) = true then _ else _) = _
  rw [if_pos (okSort_ints xs h), isort_ints]
theorem isort_ordered : ∀ xs : List Int, (isort leI xs).Pairwise (· ≤ ·) := by
  have hi : ∀ (a : Int) (xs : List Int), xs.Pairwise (· ≤ ·) → (ins leI a xs).Pairwise (· ≤ ·) := by
    intro a xs
    induction xs with
    | nil => intro _; simp [ins]
    | cons x xs ih =>
      intro h
      unfold ins
      split
      · rename_i e
        have e : a ≤ x := of_decide_eq_true e
        refine List.pairwise_cons.mpr ⟨fun b m => ?_, h⟩
        rcases List.mem_cons.mp m with rfl | m
        · exact e
        · exact Int.le_trans e ((List.pairwise_cons.mp h).1 b m)
      · rename_i e
        have e : ¬ a ≤ x := fun q => e (decide_eq_true q)
        refine List.pairwise_cons.mpr ⟨fun b m => ?_, ih (List.pairwise_cons.mp h).2⟩
        rcases List.mem_cons.mp ((ins_perm leI a xs).mem_iff.mp m) with rfl | m
        · omega
        · exact (List.pairwise_cons.mp h).1 b m
  intro xs
  induction xs with
  | nil => exact List.Pairwise.nil
  | cons x xs ih => exact hi x _ ih
def rng (n : Nat) : List Int := (List.range n).map fun i : Nat => (i : Int)
theorem rng_ordered (n : Nat) : (rng n).Pairwise (· ≤ ·) := by
  unfold rng
  rw [List.pairwise_map]
  exact (List.pairwise_lt_range (n := n)).imp fun h => by omega
theorem eq_of_ordered : ∀ {xs ys : List Int}, xs.Pairwise (· ≤ ·) → ys.Pairwise (· ≤ ·) → xs.Perm ys → xs = ys
  | [], ys, _, _, p => (List.nil_perm.mp p).symm
  | x :: xs, [], _, _, p => by simpa using p.length_eq
  | x :: xs, y :: ys, h1, h2, p => by
    have a1 := List.pairwise_cons.mp h1
    have a2 := List.pairwise_cons.mp h2
    have le1 : x ≤ y := by
      rcases List.mem_cons.mp (p.mem_iff.mpr (List.mem_cons_self (a := y) (l := ys))) with e | m
      · omega
      · exact a1.1 y m
    have le2 : y ≤ x := by
      rcases List.mem_cons.mp (p.mem_iff.mp (List.mem_cons_self (a := x) (l := xs))) with e | m
      · omega
      · exact a2.1 x m
    have e : x = y := by omega
    subst e
    rw [eq_of_ordered a1.2 a2.2 (List.Perm.cons_inv p)]
/-- sorted(xs) is the range: xs is a permutation -/
theorem isort_rng (xs : List Int) (n : Nat) : isort leI xs = rng n ↔ xs.Perm (rng n) :=
  ⟨fun h => (isort_permI leI xs).symm.trans (by rw [h]), fun h => eq_of_ordered (isort_ordered xs) (rng_ordered n) ((isort_permI leI xs).trans h)⟩
theorem rng_nodup (n : Nat) : (rng n).Nodup := by
  unfold rng
  rw [List.nodup_iff_pairwise_ne, List.pairwise_map]
  exact (List.pairwise_lt_range (n := n)).imp fun h => by omega
theorem mem_rng {n : Nat} {x : Int} : x ∈ rng n ↔ ∃ i, i < n ∧ x = (i : Int) := by
  unfold rng
  simp only [List.mem_map, List.mem_range]
  exact ⟨fun ⟨i, h, e⟩ => ⟨i, h, e.symm⟩, fun ⟨i, h, e⟩ => ⟨i, h, e.symm⟩⟩
theorem perm_of_sub : ∀ (ys xs : List Int), ys.Nodup → xs.length = ys.length → (∀ y ∈ ys, y ∈ xs) → xs.Perm ys
  | [], xs, _, hl, _ => by
    have : xs = [] := List.length_eq_zero_iff.mp hl
    rw [this]
  | y :: ys, xs, hn, hl, h => by
    have hy := h y List.mem_cons_self
    have hn2 := List.nodup_cons.mp hn
    have e1 : xs.Perm (y :: xs.erase y) := List.perm_cons_erase hy
    have l2 : (xs.erase y).length = ys.length := by
      have := e1.length_eq
      simp at this hl
      omega
    refine e1.trans (.cons y (perm_of_sub ys _ hn2.2 l2 fun z m => ?_))
    have zy : z ≠ y := fun q => hn2.1 (q ▸ m)
    exact (List.mem_erase_of_ne zy).mpr (h z (List.mem_cons_of_mem _ m))
/-- each number of the range occurs once -/
theorem perm_count (xs : List Int) : (∀ k, k < xs.length → (xs.filter fun x => decide (x = (k : Int))).length = 1) ↔ xs.Perm (rng xs.length) := by
  constructor
  · intro h
    refine perm_of_sub _ _ (rng_nodup _) (by simp [rng]) fun y m => ?_
    obtain ⟨k, hk, rfl⟩ := mem_rng.mp m
    have := h k hk
    obtain ⟨z, hz⟩ : ∃ z, z ∈ xs.filter fun x => decide (x = (k : Int)) := by
      cases e : xs.filter fun x => decide (x = (k : Int)) with
      | nil => rw [e] at this; cases this
      | cons z r => exact ⟨z, List.mem_cons_self⟩
    obtain ⟨h1, h2⟩ := List.mem_filter.mp hz
    exact of_decide_eq_true h2 ▸ h1
  · intro p k hk
    have q := (p.filter fun x => decide (x = (k : Int))).length_eq
    rw [q]
    have : ∀ n k, k < n → ((rng n).filter fun x => decide (x = (k : Int))).length = 1 := by
      intro n k hk
      have hn := rng_nodup n
      have hm : (k : Int) ∈ rng n := mem_rng.mpr ⟨k, hk, rfl⟩
      have : (rng n).filter (fun x => decide (x = (k : Int))) = (rng n).filter (fun x => x == (k : Int)) := by
        congr 1
      rw [this, ← List.countP_eq_length_filter]
      have c := hn.count (a := (k : Int))
      rw [if_pos hm] at c
      exact c
    exact this _ k hk
end DL
set_option Elab.async false
set_option linter.all false
set_option maxRecDepth 100000
set_option maxHeartbeats 4000000
namespace DM
open PySem PySem.Spec L2 DL
open PyProof.Rows hiding St
/-! ### helpers that recur in the laws: their mirrors as gen.py prints them, and their values -/
abbrev nbody : MS := (sIf (mTest (mB (mBin fGe (mBV 2) (mB (mC (.int 5040)))))) (sSeq (sApp 4 (mBin fMod (mB (mCall fInt (bCons (mBV 2) bNil))) (mB (mC (.int 5040)))))
    (sSet 2 (mBin fDiv (mBV 2) (mB (mC (.int 5040)))))) (sSeq (sSet 3 (mBin fMod (mB (mCall fInt (bCons (mB (mBin fAddL (mB (mBin fMul (mBV 3) (mB (mC (.int 48271))))) (mB (mBin fMul (mB (mC (.int 69621))) (mB (mBin fAddL (mBV 5) (mB (mC (.int 1))))))))) bNil))) (mB (mC (.int 2147483647)))))
    (sApp 4 (mBin fMod (mB (mBin fDiv (mB (mBin fMod (mB (mCall fInt (bCons (mB (mBin fAddL (mB (mBin fDiv (mB (mBin fMul (mBV 3) (mBV 3))) (mB (mC (.int 7))))) (mB (mBin fMul (mB (mC (.int 3))) (mBV 3))))) bNil))) (mB (mC (.int 2147483629))))) (mB (mC (.int 11))))) (mB (mC (.int 5040)))))))
def m_numbers : MS := (sSeq (sSet 2 (mCall fAbs (bCons (mB (mCall fInt (bCons (mBV 0) bNil))) bNil)))
    (sSeq (sSet 3 (mBin fAddL (mB (mBin fMod (mB (mCall fInt (bCons (mBV 2) bNil))) (mB (mC (.int 2147483629))))) (mB (mC (.int 1)))))
    (sSeq (sSet 4 (mCall fLst mNil))
    (sSeq (sFor (mRng1 (mBV 1)) (.nm 5) nbody)
    (sRetV 4)))))
def f_numbers : Fn := runF 2 6 m_numbers
theorem fDiv_small (a : Int) {b : Int} (h : 0 < b) (h2 : b < 100000) : fDiv (.int a) (.int b) = .ok (.fr (.int (a / b))) := by
  have h3 : b.natAbs < 2 ^ 4000 := Nat.lt_of_lt_of_le (show b.natAbs < 2 ^ 17 by omega) (Nat.pow_le_pow_right (by decide) (by decide))
  show (if 0 < b ∧ b.natAbs < 2 ^ 4000 then R.ok (Sl.fr (.int (a / b))) else .st) = _
  rw [if_pos ⟨h, h3⟩]
theorem fMul_left {a b : Int} (h : a.natAbs < 2 ^ 64) : fMul (.int a) (.int b) = .ok (.fr (.int (a * b))) := by
  show (if DL.MulOk a b = true then R.ok (Sl.fr (.int (a * b))) else .st) = _
  rw [if_pos]
  unfold DL.MulOk
  rw [decide_eq_true h]
  rfl
theorem fMul_right {a b : Int} (h : b.natAbs < 2 ^ 64) : fMul (.int a) (.int b) = .ok (.fr (.int (a * b))) := by
  show (if DL.MulOk a b = true then R.ok (Sl.fr (.int (a * b))) else .st) = _
  rw [if_pos]
  unfold DL.MulOk
  rw [decide_eq_true h, Bool.or_true]
  rfl
theorem fAddL_int (a b : Int) : fAddL (.int a) (.int b) = .ok (.fr (.int (a + b))) := rfl
theorem nstep {s0 s1 : Option Sl} {num mx k : Int} {zs : List Int} (h0 : 0 ≤ num) (h1 : 0 ≤ mx ∧ mx < 2147483650) (hl : zs.length < lim) :
    ∃ (num' mx' z : Int), 0 ≤ num' ∧ (0 ≤ mx' ∧ mx' < 2147483650) ∧ (0 ≤ z ∧ z < 5040) ∧ nbody [s0, s1, some (.fr (.int num)), some (.fr (.int mx)), some (.ow (zs.map .int)), some (.fr (.int k))] = .nx [s0, s1, some (.fr (.int num')), some (.fr (.int mx')), some (.ow ((zs ++ [z]).map .int)), some (.fr (.int k))] := by
  have d1 := fDiv_small num (b := 5040) (by decide) (by decide)
  by_cases c : 5040 ≤ num
  · refine ⟨num / 5040, mx, num % 5040, Int.ediv_nonneg h0 (by decide), h1, ⟨Int.emod_nonneg _ (by decide), Int.emod_lt_of_pos _ (by decide)⟩, ?_⟩
    unfold nbody
    simp [runF, env0, fin, sSeq, sSet, sIf, sRet, sRetV, sDrop, sFrz, frz, frz1, sNop, sTry, mAnd, mOr, mNot, mB, mBin, mUn, mCall, mCons, mNil, bCons, bNil, mBV, mVar, mC, mTest, tNotM, tAndM, tOrM, R.bind, Sl.d, asB, fGe, c, fMod, fInt, d1, sApp, hl]
  · obtain ⟨m2, hm2⟩ : ∃ m2 : Int, (mx * 48271 + 69621 * (k + 1)) % 2147483647 = m2 := ⟨_, rfl⟩
    have b2 : 0 ≤ m2 ∧ m2 < 2147483647 := by rw [← hm2]; exact ⟨Int.emod_nonneg _ (by decide), Int.emod_lt_of_pos _ (by decide)⟩
    have e1 : fMul (.int mx) (.int 48271) = .ok (.fr (.int (mx * 48271))) := fMul_right (by decide)
    have e2 : fMul (.int 69621) (.int (k + 1)) = .ok (.fr (.int (69621 * (k + 1)))) := fMul_left (by decide)
    have e3 : fMul (.int m2) (.int m2) = .ok (.fr (.int (m2 * m2))) := fMul_left (by omega)
    have e4 : fMul (.int 3) (.int m2) = .ok (.fr (.int (3 * m2))) := fMul_left (by decide)
    have d7 := fDiv_small (m2 * m2) (b := 7) (by decide) (by decide)
    have d11 := fDiv_small ((m2 * m2 / 7 + 3 * m2) % 2147483629) (b := 11) (by decide) (by decide)
    refine ⟨num, m2, (m2 * m2 / 7 + 3 * m2) % 2147483629 / 11 % 5040, h0, ⟨b2.1, by omega⟩, ⟨Int.emod_nonneg _ (by decide), Int.emod_lt_of_pos _ (by decide)⟩, ?_⟩
    unfold nbody
    simp [runF, env0, fin, sSeq, sSet, sIf, sRet, sRetV, sDrop, sFrz, frz, frz1, sNop, sTry, mAnd, mOr, mNot, mB, mBin, mUn, mCall, mCons, mNil, bCons, bNil, mBV, mVar, mC, mTest, tNotM, tAndM, tOrM, R.bind, Sl.d, asB, fGe, c, fMod, fInt, sApp, hl, fAddL_int, e1, e2, hm2, e3, e4, d7, d11]
theorem nloop {s0 s1 : Option Sl} : ∀ (ks : List Nat) {num mx : Int} {zs : List Int} (s : Option Sl), 0 ≤ num → (0 ≤ mx ∧ mx < 2147483650) → zs.length + ks.length ≤ 1000 → (∀ z ∈ zs, 0 ≤ z ∧ z < 5040) →
    ∃ (num' mx' : Int) (ws : List Int) (s' : Option Sl), ws.length = zs.length + ks.length ∧ (∀ z ∈ ws, 0 ≤ z ∧ z < 5040) ∧
      forM (Pt.nm 5).go nbody (ks.map fun k : Nat => .int (k : Int)) [s0, s1, some (.fr (.int num)), some (.fr (.int mx)), some (.ow (zs.map .int)), s] = .nx [s0, s1, some (.fr (.int num')), some (.fr (.int mx')), some (.ow (ws.map .int)), s']
  | [], num, mx, zs, s, h0, h1, hl, hz => ⟨num, mx, zs, s, rfl, hz, rfl⟩
  | k :: ks, num, mx, zs, s, h0, h1, hl, hz => by
    have hl' : zs.length + (ks.length + 1) ≤ 1000 := by simpa using hl
    obtain ⟨n1, m1, z, a1, a2, a3, e⟩ := nstep (s0 := s0) (s1 := s1) (k := k) (zs := zs) h0 h1 (by unfold lim; omega)
    obtain ⟨n2, m2, ws, s2, l2, z2, e2⟩ := nloop (s0 := s0) (s1 := s1) ks (zs := zs ++ [z]) (some (.fr (.int k))) a1 a2 (by simp; omega) (by
      intro y hy
      rcases List.mem_append.mp hy with q | q
      · exact hz y q
      · rw [List.mem_singleton.mp q]; exact a3)
    refine ⟨n2, m2, ws, s2, by rw [l2]; simp; omega, z2, ?_⟩
    have st : forM (Pt.nm 5).go nbody ((k :: ks).map fun k : Nat => .int (k : Int)) [s0, s1, some (.fr (.int num)), some (.fr (.int mx)), some (.ow (zs.map .int)), s] = match nbody [s0, s1, some (.fr (.int num)), some (.fr (.int mx)), some (.ow (zs.map .int)), some (.fr (.int k))] with
      | .nx e => forM (Pt.nm 5).go nbody (ks.map fun k : Nat => .int (k : Int)) e
      | .ct e => forM (Pt.nm 5).go nbody (ks.map fun k : Nat => .int (k : Int)) e
      | .bk e => .nx e
      | .rt s => .rt s
      | .ex c p e => .ex c p e
      | .st => .st := rfl
    rw [st, e]
    exact e2
theorem rangeD_nat (n : Nat) : rangeD 0 n = (List.range n).map fun k : Nat => D.int (k : Int) := by
  unfold rangeD
  refine List.map_congr_left fun i _ => ?_
  show D.int (0 + (i : Int)) = D.int (i : Int)
  rw [Int.zero_add]
/-- _law_numbers(cell, many): so many numbers from 0 to 5039 -/
theorem numbers_ok (c : Int) {m : Nat} (hm : m ≤ 1000) : ∃ zs : List Int, zs.length = m ∧ (∀ z ∈ zs, 0 ≤ z ∧ z < 5040) ∧ f_numbers [.int c, .int m] = .ok (.ow (zs.map .int)) := by
  have l3 : (m : Int) ≤ big := by unfold big; omega
  have l4 : -big ≤ (m : Int) := by unfold big; omega
  obtain ⟨d, hd⟩ : ∃ d : Int, (if c < 0 then -c else c) = d := ⟨_, rfl⟩
  have d0 : 0 ≤ d := by rw [← hd]; split <;> omega
  have b1 : 0 ≤ d % 2147483629 + 1 ∧ d % 2147483629 + 1 < 2147483650 := by
    have := Int.emod_nonneg d (show (2147483629 : Int) ≠ 0 by decide)
    have := Int.emod_lt_of_pos d (show (0 : Int) < 2147483629 by decide)
    omega
  obtain ⟨n2, m2, ws, s2, l2, z2, e2⟩ := nloop (s0 := some (.fr (.int c))) (s1 := some (.fr (.int m))) (List.range m) (zs := []) none d0 b1 (by simpa using hm) (by simp)
  rw [List.map_nil] at e2
  refine ⟨ws, by simpa using l2, z2, ?_⟩
  unfold f_numbers m_numbers
  simp [runF, env0, fin, sSeq, sSet, sIf, sRet, sRetV, sDrop, sFrz, frz, frz1, sNop, sTry, mAnd, mOr, mNot, mB, mBin, mUn, mCall, mCons, mNil, bCons, bNil, mBV, mVar, mC, mTest, tNotM, tAndM, tOrM, R.bind, Sl.d, asB, fAbs, fInt, hd, fMod, fAddL_int, fLst, sFor, mRng1, l3, l4, rangeD_nat, e2]

/-! ### _law_same -/
def m_same (self : Fn) : MS := (sSeq (sIf (tOrM (mTest (mB (mUn (fIs .tuple) (mBV 1)))) (mTest (mB (mUn (fIs .list) (mBV 1))))) (sSeq (sIf (tOrM (mTest (mB (mBin fNe (mB (mUn (fIs .tuple) (mBV 1))) (mB (mUn (fIs .tuple) (mBV 0)))))) (mTest (mB (mBin fNe (mB (mUn (fIs .list) (mBV 1))) (mB (mUn (fIs .list) (mBV 0))))))) (sRet (mC (.bl false))) sNop)
    (sSeq (sIf (mTest (mB (mBin fNe (mB (mCall fLen (bCons (mBV 0) bNil))) (mB (mCall fLen (bCons (mBV 1) bNil)))))) (sRet (mC (.bl false))) sNop)
    (sSeq (sFor (mRng1 (mB (mCall fLen (bCons (mBV 1) bNil)))) (.nm 2) (sIf (tNotM (mTest (mB (mCall self (mCons (mBin fIx (mBV 0) (mBV 2)) (mCons (mBin fIx (mBV 1) (mBV 2)) mNil)))))) (sRet (mC (.bl false))) sNop))
    (sRet (mC (.bl true)))))) sNop)
    (sSeq (sIf (mTest (mB (mBin fIsN (mBV 1) (mB (mC .non))))) (sRet (mBin fIsN (mBV 0) (mB (mC .non)))) sNop)
    (sSeq (sIf (mTest (mB (mUn (fIs .bool) (mBV 1)))) (sRet (mAnd (mB (mUn (fIs .bool) (mBV 0))) (mB (mBin fEq (mBV 0) (mBV 1))))) sNop)
    (sSeq (sIf (mTest (mB (mUn (fIs .str) (mBV 1)))) (sRet (mAnd (mB (mUn (fIs .str) (mBV 0))) (mB (mBin fEq (mBV 0) (mBV 1))))) sNop)
    (sRet (mAnd (mB (mUn (fIs .int) (mBV 0))) (mB (mAnd (mB (mNot (mB (mUn (fIs .bool) (mBV 0))))) (mB (mBin fEq (mBV 0) (mBV 1)))))))))))
/-! data without objects, whose texts can be compared -/
mutual
def goodD : Nat → D → Bool
  | _, .non => true
  | _, .bl _ => true
  | _, .int _ => true
  | _, .str z => okE (.str z)
  | k + 1, .tup xs => decide (xs.length ≤ 1000000) && goodL k xs
  | k + 1, .lst xs => decide (xs.length ≤ 1000000) && goodL k xs
  | _, _ => false
def goodL : Nat → List D → Bool
  | _, [] => true
  | k, x :: xs => goodD k x && goodL k xs
end
theorem goodL_get {k : Nat} : ∀ {xs : List D} {i : Nat} {d : D}, goodL k xs = true → xs[i]? = some d → goodD k d = true
  | [], i, d, h, e => by simp at e
  | x :: xs, 0, d, h, e => by
    unfold goodL at h
    rw [Bool.and_eq_true] at h
    cases e
    exact h.1
  | x :: xs, i + 1, d, h, e => by
    unfold goodL at h
    rw [Bool.and_eq_true] at h
    exact goodL_get h.2 (by simpa using e)
theorem fNe_bl (b : Bool) : fNe (.bl b) (.bl b) = .ok (.fr (.bl false)) := by cases b <;> with_unfolding_all rfl
theorem fEq_bl (b : Bool) : fEq (.bl b) (.bl b) = .ok (.fr (.bl true)) := by cases b <;> with_unfolding_all rfl
theorem fEq_int (a b : Int) : fEq (.int a) (.int b) = .ok (.fr (.bl (decide (a = b)))) := by
  show R.ok (Sl.fr (.bl (eqD (.int a) (.int b)))) = _
  rw [show eqD (.int a) (.int b) = (a == b) by unfold eqD; rfl]
  rfl
theorem fNe_int (a b : Int) : fNe (.int a) (.int b) = .ok (.fr (.bl (!decide (a = b)))) := by
  show R.ok (Sl.fr (.bl (!eqD (.int a) (.int b)))) = _
  rw [show eqD (.int a) (.int b) = (a == b) by unfold eqD; rfl]
  rfl
theorem fEq_str {z : Str} (h : okE (.str z) = true) : fEq (.str z) (.str z) = .ok (.fr (.bl true)) := by
  unfold fEq
  rw [h]
  show R.ok (Sl.fr (.bl (eqD (.str z) (.str z)))) = _
  rw [show eqD (.str z) (.str z) = (z == z) by unfold eqD; rfl, beq_self_eq_true]
theorem ix_at {xs : List D} {k : Nat} {d : D} (h : xs[k]? = some d) : atD xs (k : Int) = .ok (.fr d) := by
  have hk : k < xs.length := (List.getElem?_eq_some_iff.mp h).1
  unfold atD ixD
  rw [if_pos (Int.natCast_nonneg k), if_pos (by omega)]
  show (match xs[(k : Int).toNat]? with | some d => R.ok (Sl.fr d) | none => .st) = _
  rw [Int.toNat_natCast, h]
abbrev samebody (self : Fn) : MS := sIf (tNotM (mTest (mB (mCall self (mCons (mBin fIx (mBV 0) (mBV 2)) (mCons (mBin fIx (mBV 1) (mBV 2)) mNil)))))) (sRet (mC (.bl false))) sNop
theorem same_loop {self : Fn} {d : D} {xs : List D} (hd : ∀ (k : Nat) (e : D), xs[k]? = some e → fIx d (.int k) = .ok (.fr e)) (hs : ∀ (k : Nat) (e : D), xs[k]? = some e → self [e, e] = .ok (.fr (.bl true))) : ∀ (ks : List Nat) (a : Option Sl), (∀ k ∈ ks, k < xs.length) →
    ∃ a', forM (Pt.nm 2).go (samebody self) (ks.map fun k : Nat => .int (k : Int)) [some (.fr d), some (.fr d), a] = .nx [some (.fr d), some (.fr d), a']
  | [], a, _ => ⟨a, rfl⟩
  | k :: ks, a, hk => by
    obtain ⟨z, hz⟩ : ∃ z, xs[k]? = some z := ⟨_, List.getElem?_eq_getElem (hk k List.mem_cons_self)⟩
    obtain ⟨a', ih⟩ := same_loop hd hs ks (some (.fr (.int (k : Int)))) fun k m => hk k (List.mem_cons_of_mem _ m)
    refine ⟨a', ?_⟩
    have df : ∀ d, (Sl.fr d).d = d := fun _ => rfl
    have e : samebody self [some (.fr d), some (.fr d), some (.fr (.int (k : Int)))] = .nx [some (.fr d), some (.fr d), some (.fr (.int (k : Int)))] := by
      unfold samebody
      simp only [sIf, tNotM, mTest, mB, mCall, mCons, mNil, mBin, mBV, R.bind, List.getElem?_cons_zero, List.getElem?_cons_succ, df, hd k z hz, hs k z hz, asB, Bool.not_true]
      rfl
    have st : forM (Pt.nm 2).go (samebody self) ((k :: ks).map fun k : Nat => .int (k : Int)) [some (.fr d), some (.fr d), a] = match samebody self [some (.fr d), some (.fr d), some (.fr (.int (k : Int)))] with
      | .nx e => forM (Pt.nm 2).go (samebody self) (ks.map fun k : Nat => .int (k : Int)) e
      | .ct e => forM (Pt.nm 2).go (samebody self) (ks.map fun k : Nat => .int (k : Int)) e
      | .bk e => .nx e
      | .rt s => .rt s
      | .ex c p e => .ex c p e
      | .st => .st := rfl
    rw [st, e]
    exact ih
/-- what is the same value is told to be the same -/
theorem same_ok : ∀ (k : Nat) (d : D), goodD k d = true → recF 2 3 m_same (k + 1) [d, d] = .ok (.fr (.bl true))
  | k, .non, h => by
    unfold recF m_same
    simp [runF, env0, fin, sSeq, sSet, sIf, sRet, sRetV, sDrop, sFrz, frz, frz1, sNop, sTry, mAnd, mOr, mNot, mB, mBin, mUn, mCall, mCons, mNil, bCons, bNil, mBV, mVar, mC, mTest, tNotM, tAndM, tOrM, R.bind, Sl.d, asB, fIs, fIsN, DL.isNon]
  | k, .bl b, h => by
    unfold recF m_same
    simp [runF, env0, fin, sSeq, sSet, sIf, sRet, sRetV, sDrop, sFrz, frz, frz1, sNop, sTry, mAnd, mOr, mNot, mB, mBin, mUn, mCall, mCons, mNil, bCons, bNil, mBV, mVar, mC, mTest, tNotM, tAndM, tOrM, R.bind, Sl.d, asB, fIs, fIsN, DL.isNon, fEq_bl]
  | k, .int i, h => by
    unfold recF m_same
    simp [runF, env0, fin, sSeq, sSet, sIf, sRet, sRetV, sDrop, sFrz, frz, frz1, sNop, sTry, mAnd, mOr, mNot, mB, mBin, mUn, mCall, mCons, mNil, bCons, bNil, mBV, mVar, mC, mTest, tNotM, tAndM, tOrM, R.bind, Sl.d, asB, fIs, fIsN, DL.isNon, fEq_int]
  | k, .str z, h => by
    have e := fEq_str (z := z) (by simpa [goodD] using h)
    unfold recF m_same
    simp [runF, env0, fin, sSeq, sSet, sIf, sRet, sRetV, sDrop, sFrz, frz, frz1, sNop, sTry, mAnd, mOr, mNot, mB, mBin, mUn, mCall, mCons, mNil, bCons, bNil, mBV, mVar, mC, mTest, tNotM, tAndM, tOrM, R.bind, Sl.d, asB, fIs, fIsN, DL.isNon, e]
  | k + 1, .tup xs, h => by
    rw [goodD, Bool.and_eq_true, decide_eq_true_iff] at h
    obtain ⟨hl, hg⟩ := h
    obtain ⟨a', lp⟩ := same_loop (self := recF 2 3 m_same (k + 1)) (d := .tup xs) (xs := xs) (fun j e q => ix_at q) (fun j e q => same_ok k e (goodL_get hg q)) (List.range xs.length) none fun j m => List.mem_range.mp m
    have l3 : (xs.length : Int) ≤ big := by unfold big; omega
    have l4 : -big ≤ (xs.length : Int) := by unfold big; omega
    have hln : fLen [.tup xs] = .ok (.fr (.int xs.length)) := rfl
    rw [recF]
    obtain ⟨self, hself⟩ : ∃ self, recF 2 3 m_same (k + 1) = self := ⟨_, rfl⟩
    rw [hself] at lp ⊢
    unfold m_same
    simp [runF, env0, fin, sSeq, sSet, sIf, sRet, sRetV, sDrop, sFrz, frz, frz1, sNop, sTry, mAnd, mOr, mNot, mB, mBin, mUn, mCall, mCons, mNil, bCons, bNil, mBV, mVar, mC, mTest, tNotM, tAndM, tOrM, R.bind, Sl.d, asB, fIs, fNe_bl, fNe_int, hln, sFor, mRng1, l3, l4, rangeD_nat, lp]
  | k + 1, .lst xs, h => by
    rw [goodD, Bool.and_eq_true, decide_eq_true_iff] at h
    obtain ⟨hl, hg⟩ := h
    obtain ⟨a', lp⟩ := same_loop (self := recF 2 3 m_same (k + 1)) (d := .lst xs) (xs := xs) (fun j e q => ix_at q) (fun j e q => same_ok k e (goodL_get hg q)) (List.range xs.length) none fun j m => List.mem_range.mp m
    have l3 : (xs.length : Int) ≤ big := by unfold big; omega
    have l4 : -big ≤ (xs.length : Int) := by unfold big; omega
    have hln : fLen [.lst xs] = .ok (.fr (.int xs.length)) := rfl
    rw [recF]
    obtain ⟨self, hself⟩ : ∃ self, recF 2 3 m_same (k + 1) = self := ⟨_, rfl⟩
    rw [hself] at lp ⊢
    unfold m_same
    simp [runF, env0, fin, sSeq, sSet, sIf, sRet, sRetV, sDrop, sFrz, frz, frz1, sNop, sTry, mAnd, mOr, mNot, mB, mBin, mUn, mCall, mCons, mNil, bCons, bNil, mBV, mVar, mC, mTest, tNotM, tAndM, tOrM, R.bind, Sl.d, asB, fIs, fNe_bl, fNe_int, hln, sFor, mRng1, l3, l4, rangeD_nat, lp]
  | 0, .tup xs, h => by simp [goodD] at h
  | 0, .lst xs, h => by simp [goodD] at h
  | 0, .obj c fs, h => by simp [goodD] at h
  | k + 1, .obj c fs, h => by simp [goodD] at h

/-! ### _law_cell -/
def m_cell : MS := (sSeq (sIf (mTest (mB (mBin fLt (mBV 1) (mB (mCall fLen (bCons (mBV 0) bNil)))))) (sRet (mCall fInt (bCons (mB (mBin fIx (mBV 0) (mBV 1))) bNil))) sNop)
    (sSeq (sIf (mTest (mB (mBin fGt (mB (mCall fLen (bCons (mBV 0) bNil))) (mB (mC (.int 0)))))) (sRet (mBin fAddL (mB (mBin fMul (mB (mCall fInt (bCons (mB (mBin fIx (mBV 0) (mB (mC (.int 0))))) bNil))) (mB (mBin fAddL (mB (mBin fMul (mB (mC (.int 2))) (mBV 1))) (mB (mC (.int 3))))))) (mB (mBin fMul (mB (mC (.int 977))) (mBV 1))))) sNop)
    (sRet (mBin fMul (mB (mC (.int 977))) (mBV 1)))))
def f_cell : Fn := runF 2 2 m_cell
theorem fMul_small (a : Int) {b : Int} (h : b.natAbs < 2 ^ 64) : fMul (.int a) (.int b) = .ok (.fr (.int (a * b))) := fMul_right h
/-- a cell of the script is an int -/
theorem cell_ok (ns : List Int) {k : Nat} (hk : k ≤ 1000) : ∃ v : Int, f_cell [.lst (ns.map .int), .int k] = .ok (.fr (.int v)) := by
  have hlen : fLen [.lst (ns.map .int)] = .ok (.fr (.int ns.length)) := by
    show R.ok (Sl.fr (.int ((ns.map D.int).length : Int))) = _
    rw [List.length_map]
  have ix : ∀ (j : Nat) (a : Int), ns[j]? = some a → fIx (.lst (ns.map .int)) (.int j) = .ok (.fr (.int a)) := fun j a h => by
    have := ix_at (xs := ns.map D.int) (k := j) (d := .int a) (by rw [List.getElem?_map, h]; rfl)
    exact this
  have m977 : fMul (.int 977) (.int k) = .ok (.fr (.int (977 * k))) := fMul_left (by decide)
  have m2 : fMul (.int 2) (.int k) = .ok (.fr (.int (2 * k))) := fMul_left (by decide)
  unfold f_cell m_cell
  by_cases c : k < ns.length
  · have e1 := ix k ns[k] (List.getElem?_eq_getElem c)
    have ci : ((k : Int) < (ns.length : Int)) := by omega
    exact ⟨ns[k], by simp [runF, env0, fin, sSeq, sSet, sIf, sRet, sRetV, sDrop, sFrz, frz, frz1, sNop, sTry, mAnd, mOr, mNot, mB, mBin, mUn, mCall, mCons, mNil, bCons, bNil, mBV, mVar, mC, mTest, tNotM, tAndM, tOrM, R.bind, Sl.d, asB, hlen, fLt, e1, ci, fInt]⟩
  · have ci : ¬ ((k : Int) < (ns.length : Int)) := by omega
    by_cases c0 : 0 < ns.length
    · have e0 := ix 0 ns[0] (List.getElem?_eq_getElem c0)
      have e0' : fIx (.lst (ns.map .int)) (.int 0) = .ok (.fr (.int ns[0])) := e0
      have c0' : (0 : Int) < (ns.length : Int) := by omega
      have mm : fMul (.int ns[0]) (.int (2 * (k : Int) + 3)) = .ok (.fr (.int (ns[0] * (2 * (k : Int) + 3)))) := fMul_right (by omega)
      exact ⟨ns[0] * (2 * (k : Int) + 3) + 977 * k, by simp [runF, env0, fin, sSeq, sSet, sIf, sRet, sRetV, sDrop, sFrz, frz, frz1, sNop, sTry, mAnd, mOr, mNot, mB, mBin, mUn, mCall, mCons, mNil, bCons, bNil, mBV, mVar, mC, mTest, tNotM, tAndM, tOrM, R.bind, Sl.d, asB, hlen, fLt, fGt, ci, c0, e0', fInt, m977, m2, mm, fAddL_int]⟩
    · have c0' : ¬ (0 : Int) < (ns.length : Int) := by omega
      exact ⟨977 * k, by simp [runF, env0, fin, sSeq, sSet, sIf, sRet, sRetV, sDrop, sFrz, frz, frz1, sNop, sTry, mAnd, mOr, mNot, mB, mBin, mUn, mCall, mCons, mNil, bCons, bNil, mBV, mVar, mC, mTest, tNotM, tAndM, tOrM, R.bind, Sl.d, asB, hlen, fLt, fGt, ci, c0, fInt, m977]⟩
end DM
set_option Elab.async false
set_option linter.all false
set_option maxRecDepth 100000
set_option maxHeartbeats 4000000
namespace DM
open PySem PySem.Spec L2 DL
open PyProof.Rows hiding St
/-! ### tuples of ints, pairs of ints -/
abbrev tupI (xs : List Int) : D := .tup (xs.map .int)
abbrev pr (p : Int × Int) : D := .tup [.int p.1, .int p.2]
theorem rangeD_rng (n : Nat) : rangeD 0 n = (rng n).map .int := by
  unfold rangeD rng
  rw [List.map_map]
  refine List.map_congr_left fun i _ => ?_
  show D.int (0 + (i : Int)) = D.int (i : Int)
  rw [Int.zero_add]
theorem fLen_tupI (xs : List Int) : fLen [tupI xs] = .ok (.fr (.int xs.length)) := by
  show R.ok (Sl.fr (.int ((xs.map D.int).length : Int))) = _
  rw [List.length_map]
theorem fLen_lstI (xs : List Int) : fLen [.lst (xs.map .int)] = .ok (.fr (.int xs.length)) := by
  show R.ok (Sl.fr (.int ((xs.map D.int).length : Int))) = _
  rw [List.length_map]
theorem okE_int (a : Int) : okE (.int a) = true := rfl
theorem okE7 : ∀ xs : List Int, xs.length ≤ 7 → okE (.lst (xs.map .int)) = true
  | [], _ => rfl
  | [_], _ => rfl
  | [_, _], _ => rfl
  | [_, _, _], _ => rfl
  | [_, _, _, _], _ => rfl
  | [_, _, _, _, _], _ => rfl
  | [_, _, _, _, _, _], _ => rfl
  | [_, _, _, _, _, _, _], _ => rfl
  | _ :: _ :: _ :: _ :: _ :: _ :: _ :: _ :: _, h => absurd h (by simp only [List.length_cons]; omega)
theorem okT7 : ∀ xs : List Int, xs.length ≤ 7 → okE (tupI xs) = true
  | [], _ => rfl
  | [_], _ => rfl
  | [_, _], _ => rfl
  | [_, _, _], _ => rfl
  | [_, _, _, _], _ => rfl
  | [_, _, _, _, _], _ => rfl
  | [_, _, _, _, _, _], _ => rfl
  | [_, _, _, _, _, _, _], _ => rfl
  | _ :: _ :: _ :: _ :: _ :: _ :: _ :: _ :: _, h => absurd h (by simp only [List.length_cons]; omega)
theorem fEq_lst {xs ys : List Int} (hx : xs.length ≤ 7) (hy : ys.length ≤ 7) : fEq (.lst (xs.map .int)) (.lst (ys.map .int)) = .ok (.fr (.bl (decide (xs = ys)))) := by
  unfold fEq
  rw [okE7 xs hx, okE7 ys hy, ← eqDL_ints]
  show (if true = true then R.ok (Sl.fr (.bl (eqD (.lst (xs.map .int)) (.lst (ys.map .int))))) else _) = _
  rw [if_pos rfl]
  unfold eqD
  rfl
theorem fEq_tup {xs ys : List Int} (hx : xs.length ≤ 7) (hy : ys.length ≤ 7) : fEq (tupI xs) (tupI ys) = .ok (.fr (.bl (decide (xs = ys)))) := by
  unfold fEq
  rw [okT7 xs hx, okT7 ys hy, ← eqDL_ints]
  show (if true = true then R.ok (Sl.fr (.bl (eqD (.tup (xs.map .int)) (.tup (ys.map .int))))) else _) = _
  rw [if_pos rfl]
  unfold eqD
  rfl
theorem fIx_tupI {xs : List Int} {k : Nat} {a : Int} (h : xs[k]? = some a) : fIx (tupI xs) (.int k) = .ok (.fr (.int a)) :=
  ix_at (xs := xs.map D.int) (by rw [List.getElem?_map, h]; rfl)
theorem fIx_lstI {xs : List Int} {k : Nat} {a : Int} (h : xs[k]? = some a) : fIx (.lst (xs.map .int)) (.int k) = .ok (.fr (.int a)) := fIx_tupI h
theorem ix_neg {xs : List D} {k : Nat} {d : D} (hk : 0 < k) (hl : k ≤ xs.length) (h : xs[xs.length - k]? = some d) : atD xs (-(k : Int)) = .ok (.fr d) := by
  unfold atD ixD
  rw [if_neg (by omega), if_pos (by omega)]
  show (match xs[(-(k : Int) + (xs.length : Int)).toNat]? with | some d => R.ok (Sl.fr d) | none => .st) = _
  rw [show (-(k : Int) + (xs.length : Int)).toNat = xs.length - k by omega, h]
theorem fIx_tupN {xs : List Int} {k : Nat} {a : Int} (hk : 0 < k) (hl : k ≤ xs.length) (h : xs[xs.length - k]? = some a) : fIx (tupI xs) (.int (-(k : Int))) = .ok (.fr (.int a)) :=
  ix_neg (xs := xs.map D.int) hk (by simpa using hl) (by rw [List.length_map, List.getElem?_map, h]; rfl)
/-! ### slices -/
theorem cutD_map {α β : Type} (f : α → β) (xs : List α) (lo hi : Option Int) : cutD (xs.map f) lo hi = (cutD xs lo hi).map f := by
  unfold DL.cutD
  rw [List.length_map, ← List.map_drop, ← List.map_take]
theorem cut_from {α : Type} (xs : List α) {k : Nat} (h : k ≤ xs.length) : cutD xs (some (k : Int)) none = xs.drop k := by
  unfold DL.cutD
  rw [HT.sIx_nat, HT.sIx_none, Nat.min_eq_left h, List.take_of_length_le (by rw [List.length_drop]; omega)]
theorem cut_to {α : Type} (xs : List α) {k : Nat} (h : k ≤ xs.length) : cutD xs none (some (k : Int)) = xs.take k := by
  unfold DL.cutD
  rw [HT.sIx_nat, HT.sIx_none, Nat.min_eq_left h, List.drop_zero, Nat.sub_zero]
theorem cut_mid {α : Type} (xs : List α) {a b : Nat} (h : b ≤ xs.length) (hab : a ≤ b) : cutD xs (some (a : Int)) (some (b : Int)) = (xs.drop a).take (b - a) := by
  unfold DL.cutD
  rw [HT.sIx_nat, HT.sIx_nat, Nat.min_eq_left h, Nat.min_eq_left (by omega)]
theorem fSl_from {xs : List Int} {k : Nat} (h : k ≤ xs.length) : fSl (tupI xs) (some (k : Int)) none = .ok (.fr (tupI (xs.drop k))) := by
  show R.ok (Sl.fr (.tup (cutD (xs.map D.int) _ _))) = _
  rw [cutD_map, cut_from xs h]
theorem fSl_to {xs : List Int} {k : Nat} (h : k ≤ xs.length) : fSl (tupI xs) none (some (k : Int)) = .ok (.fr (tupI (xs.take k))) := by
  show R.ok (Sl.fr (.tup (cutD (xs.map D.int) _ _))) = _
  rw [cutD_map, cut_to xs h]
theorem fAddL_tup {xs ys : List Int} (h : xs.length + ys.length ≤ 1000000) : fAddL (tupI xs) (tupI ys) = .ok (.fr (tupI (xs ++ ys))) := by
  show (if (xs.map D.int).length + (ys.map D.int).length ≤ lim then R.ok (Sl.fr (.tup (xs.map D.int ++ ys.map D.int))) else .st) = _
  rw [List.length_map, List.length_map, if_pos (show xs.length + ys.length ≤ lim from h), ← List.map_append]
theorem pick_back {α : Type} (xs : List α) : ∀ m : Nat, m ≤ xs.length → pick xs ((List.range m).map fun (k : Nat) => ((xs.length : Int) - 1 + (k : Int) * (-1)).toNat) = (xs.drop (xs.length - m)).reverse
  | 0, _ => by
    rw [Nat.sub_zero, List.drop_length]
    rfl
  | m + 1, h => by
    have ih := pick_back xs m (by omega)
    have e : xs.drop (xs.length - (m + 1)) = xs[xs.length - (m + 1)] :: xs.drop (xs.length - m) := by
      rw [List.drop_eq_getElem_cons (by omega), show xs.length - (m + 1) + 1 = xs.length - m by omega]
    rw [e, List.reverse_cons, ← ih, List.range_succ, List.map_append]
    unfold pick
    rw [List.filterMap_append]
    congr 1
    show [((xs.length : Int) - 1 + (m : Int) * (-1)).toNat].filterMap (xs[·]?) = _
    rw [show ((xs.length : Int) - 1 + (m : Int) * (-1)).toNat = xs.length - (m + 1) by omega, List.filterMap_cons, List.getElem?_eq_getElem (by omega)]
    rfl
theorem backN_all (n : Nat) : backN n none none = ((n : Int) - 1, n) := by
  unfold backN Builtin.Slice.sliceAdjust Builtin.Slice.slicePlaces
  simp
  by_cases h : 0 < n
  · rw [if_pos (by omega)]; omega
  · rw [if_neg (by omega)]; omega
theorem backN_0 (n : Nat) : backN n none (some 0) = ((n : Int) - 1, n - 1) := by
  unfold backN Builtin.Slice.sliceAdjust Builtin.Slice.slicePlaces
  simp
  by_cases h : 1 < n
  · rw [show min (0 : Int) ((n : Int) - 1) = 0 by omega, if_pos (by omega)]; omega
  · rw [if_neg (by omega)]; omega
theorem back0 (xs : List Int) (h : xs.length ≤ 1000) : fSlB (tupI xs) none (some 0) = .ok (.fr (tupI ((xs.drop 1).reverse))) := by
  have e : pick (xs.map D.int) (backIx (xs.map D.int).length none (some 0)) = ((xs.drop 1).reverse).map .int := by
    unfold backIx
    rw [backN_0, pick_back (xs.map D.int) _ (by omega), ← List.map_drop, ← List.map_reverse, List.length_map]
    by_cases c : xs.length = 0
    · rw [List.length_eq_zero_iff.mp c]; rfl
    · rw [show xs.length - (xs.length - 1) = 1 by omega]
  show (if (backIx (xs.map D.int).length none (some 0)).length ≤ lim then R.ok (Sl.fr (.tup (pick (xs.map D.int) (backIx (xs.map D.int).length none (some 0))))) else .st) = _
  rw [e, if_pos]
  unfold backIx
  rw [backN_0, List.length_map, List.length_range, List.length_map]
  show xs.length - 1 ≤ 1000000
  omega
theorem backA (xs : List Int) (h : xs.length ≤ 1000) : fSlB (tupI xs) none none = .ok (.fr (tupI xs.reverse)) := by
  have e : pick (xs.map D.int) (backIx (xs.map D.int).length none none) = (xs.reverse).map .int := by
    unfold backIx
    rw [backN_all, pick_back (xs.map D.int) _ (Nat.le_refl _), Nat.sub_self, List.drop_zero, ← List.map_reverse]
  show (if (backIx (xs.map D.int).length none none).length ≤ lim then R.ok (Sl.fr (.tup (pick (xs.map D.int) (backIx (xs.map D.int).length none none)))) else .st) = _
  rw [e, if_pos]
  unfold backIx
  rw [backN_all, List.length_map, List.length_range, List.length_map]
  show xs.length ≤ 1000000
  omega
/-! ### index -/
def idxA (a : Int) : List Int → Nat → Option Nat
  | [], _ => none
  | x :: xs, n => if x = a then some n else idxA a xs (n + 1)
theorem eqD_int (a b : Int) : eqD (.int a) (.int b) = decide (a = b) := by
  rw [show eqD (.int a) (.int b) = (a == b) by unfold eqD; rfl]; rfl
theorem fIdx_int (a : Int) : ∀ (xs : List Int) (n : Nat), fIdxAux (.int a) (xs.map .int) n = idxA a xs n
  | [], n => rfl
  | x :: xs, n => by
    show (if eqD (.int x) (.int a) = true then some n else fIdxAux (.int a) (xs.map .int) (n + 1)) = if x = a then some n else idxA a xs (n + 1)
    rw [eqD_int, fIdx_int a xs (n + 1)]
    by_cases h : x = a <;> simp [h]
theorem idxA_mem {a : Int} : ∀ {xs : List Int} (n : Nat), a ∈ xs → ∃ j, idxA a xs n = some (n + j) ∧ j < xs.length
  | x :: xs, n, h => by
    unfold idxA
    by_cases e : x = a
    · exact ⟨0, by rw [if_pos e]; rfl, by simp⟩
    · rcases List.mem_cons.mp h with q | q
      · exact absurd q.symm e
      · obtain ⟨j, h1, h2⟩ := idxA_mem (n + 1) q
        exact ⟨j + 1, by rw [if_neg e, h1]; congr 1; omega, by simp; omega⟩
theorem flat_ints (a : Int) (xs : List Int) : (flatD (.int a) && (xs.map D.int).all flatD) = true := by
  rw [Bool.and_eq_true]
  refine ⟨rfl, List.all_eq_true.mpr fun d m => ?_⟩
  obtain ⟨i, _, rfl⟩ := List.mem_map.mp m
  rfl
theorem fTupIdx_int {a : Int} {xs : List Int} {j : Nat} (h : idxA a xs 0 = some j) : fTupIdx (tupI xs) (.int a) = .ok (.fr (.int j)) := by
  show (if (flatD (.int a) && (xs.map D.int).all flatD) = true then match fIdxAux (.int a) (xs.map D.int) 0 with | some j => R.ok (Sl.fr (.int j)) | none => .st else .st) = _
  rw [flat_ints, if_pos rfl, fIdx_int, h]
theorem fLstIdx_int {a : Int} {xs : List Int} {j : Nat} (hx : xs.length ≤ 7) (h : idxA a xs 0 = some j) : fLstIdx (.lst (xs.map .int)) (.int a) = .ok (.fr (.int j)) := by
  show (if (okE (.lst (xs.map D.int)) && okE (.int a)) = true then match fIdxAux (.int a) (xs.map D.int) 0 with | some j => R.ok (Sl.fr (.int j)) | none => .st else .st) = _
  rw [okE7 xs hx, okE_int, fIdx_int, h]
  rfl
/-! ### pairs, sorted -/
def leP (p q : Int × Int) : Bool := decide (p.1 < q.1 ∨ (p.1 = q.1 ∧ p.2 ≤ q.2))
theorem leD_pr (p q : Int × Int) : leD (pr p) (pr q) = leP p q := congrFun (congrFun (PySem.W.dataLe_ii (fun p : Int × Int => p.1) (fun p : Int × Int => p.2)) p) q
theorem ins_prs (a : Int × Int) : ∀ xs : List (Int × Int), ins leD (pr a) (xs.map pr) = (ins leP a xs).map pr
  | [] => rfl
  | x :: xs => by
    show ins leD (pr a) (pr x :: xs.map pr) = _
    unfold ins
    rw [leD_pr, ins_prs a xs]
    show (if leP a x = true then _ else _) = _
    split <;> rfl
theorem isort_prs : ∀ xs : List (Int × Int), isort leD (xs.map pr) = (isort leP xs).map pr
  | [] => rfl
  | x :: xs => by
    show ins leD (pr x) (isort leD (xs.map pr)) = (ins leP x (isort leP xs)).map pr
    rw [isort_prs xs, ins_prs]
theorem okSort_prs (xs : List (Int × Int)) (h : xs.length ≤ lim) : okSort (xs.map pr) = true := by
  have e1 : ((xs.map pr).all fun a => noObj a && decide ((toPy a).depth ≤ 60)) = true := by
    rw [List.all_eq_true]
    intro d m
    obtain ⟨a, _, rfl⟩ := List.mem_map.mp m
    rfl
  have e2 : ((xs.map pr).all fun a => (xs.map pr).all fun b => PySem.W.alike (toPy a) (toPy b)) = true := by
    rw [List.all_eq_true]
    intro d m
    rw [List.all_eq_true]
    intro d2 m2
    obtain ⟨a, _, rfl⟩ := List.mem_map.mp m
    obtain ⟨b, _, rfl⟩ := List.mem_map.mp m2
    rfl
  have e3 : (xs.map pr).all isTupC = true := by
    rw [List.all_eq_true]
    intro d m
    obtain ⟨a, _, rfl⟩ := List.mem_map.mp m
    rfl
  unfold okSort
  rw [e1, e2, e3, decide_eq_true (show (xs.map pr).length ≤ lim by rw [List.length_map]; exact h)]
  rfl
theorem fSorted_prs (xs : List (Int × Int)) (h : xs.length ≤ lim) : fSorted [.lst (xs.map pr)] = .ok (.ow ((isort leP xs).map pr)) := by
  show (if okSort (xs.map pr) = true then _ else _) = _
  rw [if_pos (okSort_prs xs h), isort_prs]
/-! ### comprehensions and loops -/
theorem compL_map {α : Type} {as : D → En → Option En} {t : En → R Bool} {me : M} {env : En} {f : α → D} {g : α → D} : ∀ {xs : List α},
    (∀ a ∈ xs, ∃ e1 s, as (f a) env = some e1 ∧ t e1 = .ok true ∧ me e1 = .ok s ∧ s.d = g a) → compL as t me env (xs.map f) = .ok (xs.map g)
  | [], _ => rfl
  | a :: xs, h => by
    obtain ⟨e1, s, h1, h2, h3, h4⟩ := h a List.mem_cons_self
    have ih := compL_map fun b m => h b (List.mem_cons_of_mem _ m)
    show compL as t me env (f a :: xs.map f) = _
    unfold compL
    rw [h1]
    show ((t e1).quiet.bind fun b => if b = true then (me e1).quiet.bind fun s => (compL as t me env (xs.map f)).bind fun r => .ok (s.d :: r) else compL as t me env (xs.map f)) = _
    rw [h2, ih]
    show ((me e1).quiet.bind fun s => R.ok (s.d :: xs.map g)) = _
    rw [h3]
    show R.ok (s.d :: xs.map g) = _
    rw [h4]
    rfl
theorem compL_filter {α : Type} {as : D → En → Option En} {t : En → R Bool} {me : M} {env : En} {f : α → D} {g : α → D} {p : α → Bool} : ∀ {xs : List α},
    (∀ a ∈ xs, ∃ e1, as (f a) env = some e1 ∧ t e1 = .ok (p a) ∧ (p a = true → ∃ s, me e1 = .ok s ∧ s.d = g a)) → compL as t me env (xs.map f) = .ok ((xs.filter p).map g)
  | [], _ => rfl
  | a :: xs, h => by
    obtain ⟨e1, h1, h2, h3⟩ := h a List.mem_cons_self
    have ih := compL_filter fun b m => h b (List.mem_cons_of_mem _ m)
    show compL as t me env (f a :: xs.map f) = _
    unfold compL
    rw [h1]
    show ((t e1).quiet.bind fun b => if b = true then (me e1).quiet.bind fun s => (compL as t me env (xs.map f)).bind fun r => .ok (s.d :: r) else compL as t me env (xs.map f)) = _
    rw [h2, ih]
    cases hp : p a with
    | true =>
      obtain ⟨s, h4, h5⟩ := h3 hp
      show ((me e1).quiet.bind fun s => R.ok (s.d :: (xs.filter p).map g)) = _
      rw [h4, List.filter_cons, hp, if_pos rfl]
      show R.ok (s.d :: (xs.filter p).map g) = _
      rw [h5]
      rfl
    | false =>
      rw [List.filter_cons, hp]
      rfl
/-- a loop's invariant over what is left -/
theorem forM_inv {as : D → En → Option En} {b : MS} {P : List D → En → Prop} (step : ∀ d ds env, P (d :: ds) env → ∃ e1 e2, as d env = some e1 ∧ (b e1 = .nx e2 ∨ b e1 = .ct e2) ∧ P ds e2) : ∀ (ds : List D) (env : En), P ds env → ∃ e2, forM as b ds env = .nx e2 ∧ P [] e2
  | [], env, h => ⟨env, rfl, h⟩
  | d :: ds, env, h => by
    obtain ⟨e1, e2, h1, h2, h3⟩ := step d ds env h
    obtain ⟨e3, h4, h5⟩ := forM_inv step ds e2 h3
    refine ⟨e3, ?_, h5⟩
    unfold DL.forM
    rw [h1]
    rcases h2 with h2 | h2
    · show (match b e1 with | .nx e => forM as b ds e | .ct e => forM as b ds e | .bk e => .nx e | .rt s => .rt s | .ex c p e => .ex c p e | .st => .st) = _
      rw [h2]; exact h4
    · show (match b e1 with | .nx e => forM as b ds e | .ct e => forM as b ds e | .bk e => .nx e | .rt s => .rt s | .ex c p e => .ex c p e | .st => .st) = _
      rw [h2]; exact h4
/-- a loop that only looks: each turn ends where it may, and leaves the environment but for its variable -/
theorem forM_each {α : Type} {i : Nat} {b : MS} {f : α → D} {env : En} : ∀ (xs : List α) (o : Option Sl), (∀ a ∈ xs, ∃ w, b (env.set i (some (.fr (f a)))) = .nx (w) ∧ ∃ o, w = env.set i o) →
    (∃ o', forM (Pt.nm i).go b (xs.map f) (env.set i o) = .nx (env.set i o'))
  | [], o, _ => ⟨o, rfl⟩
  | a :: xs, o, h => by
    obtain ⟨w, h1, o1, rfl⟩ := h a List.mem_cons_self
    obtain ⟨o2, ih⟩ := forM_each xs o1 fun b m => h b (List.mem_cons_of_mem _ m)
    refine ⟨o2, ?_⟩
    by_cases hi : i < env.length
    · have hg : (Pt.nm i).go (f a) (env.set i o) = some (env.set i (some (.fr (f a)))) := by
        simp [Pt.go, hi]
      show forM (Pt.nm i).go b (f a :: xs.map f) (env.set i o) = _
      unfold DL.forM
      rw [hg]
      show (match b (env.set i (some (.fr (f a)))) with | .nx e => forM (Pt.nm i).go b (xs.map f) e | .ct e => forM (Pt.nm i).go b (xs.map f) e | .bk e => .nx e | .rt s => .rt s | .ex c p e => .ex c p e | .st => .st) = _
      rw [h1]
      exact ih
    · have hg : (Pt.nm i).go (f a) (env.set i o) = some (env.set i (some (.fr (f a)))) := by
        simp [Pt.go, hi]
      show forM (Pt.nm i).go b (f a :: xs.map f) (env.set i o) = _
      unfold DL.forM
      rw [hg]
      show (match b (env.set i (some (.fr (f a)))) with | .nx e => forM (Pt.nm i).go b (xs.map f) e | .ct e => forM (Pt.nm i).go b (xs.map f) e | .bk e => .nx e | .rt s => .rt s | .ex c p e => .ex c p e | .st => .st) = _
      rw [h1]
      exact ih
/-! ### all orders of a list -/
def insAll (x : Int) : List Int → List (List Int)
  | [] => [[x]]
  | y :: ys => (x :: y :: ys) :: (insAll x ys).map (y :: ·)
def perms : List Int → List (List Int)
  | [] => [[]]
  | x :: xs => (perms xs).flatMap (insAll x)
theorem mem_insAll (x : Int) : ∀ a b : List Int, a ++ x :: b ∈ insAll x (a ++ b)
  | [], [] => by simp [insAll]
  | [], y :: b => by simp [insAll]
  | z :: a, b => by
    have ih := mem_insAll x a b
    show z :: (a ++ x :: b) ∈ insAll x (z :: (a ++ b))
    unfold insAll
    exact List.mem_cons_of_mem _ (List.mem_map.mpr ⟨_, ih, rfl⟩)
theorem mem_perms : ∀ (ys xs : List Int), xs.Perm ys → xs ∈ perms ys
  | [], xs, h => by rw [List.perm_nil.mp h]; exact List.mem_cons_self
  | y :: ys, xs, h => by
    have hy : y ∈ xs := h.mem_iff.mpr List.mem_cons_self
    obtain ⟨a, b, rfl⟩ := List.append_of_mem hy
    have h2 : (a ++ b).Perm ys := List.Perm.cons_inv (List.perm_middle.symm.trans h)
    unfold perms
    exact List.mem_flatMap.mpr ⟨a ++ b, mem_perms ys _ h2, mem_insAll y a b⟩
end DM
set_option Elab.async false
set_option linter.all false
set_option maxRecDepth 100000
set_option maxHeartbeats 4000000
namespace DM
open PySem PySem.Spec L2 DL
open PyProof.Rows hiding St
/-! ### _law_factorial, _law_permutation -/
def m_factorial : MS := (sSeq (sSet 1 (mC (.int 1)))
    (sSeq (sFor (mRng1 (mBV 0)) (.nm 2) (sSet 1 (mBin fMul (mBV 1) (mB (mBin fAddL (mBV 2) (mB (mC (.int 1))))))))
    (sRetV 1)))
def f_factorial : Fn := runF 1 3 m_factorial
def isI (n : Int) : R Sl → Bool
  | .ok (.fr (.int m)) => decide (m = n)
  | _ => false
theorem isI_eq {r : R Sl} {n : Int} (h : isI n r = true) : r = .ok (.fr (.int n)) := by
  unfold isI at h
  split at h
  · rw [of_decide_eq_true h]
  · cases h
theorem fac_tab : (List.range 8).all (fun n => isI (facN n) (f_factorial [.int n])) = true := by decide +kernel
theorem fac_ok {n : Nat} (h : n ≤ 7) : f_factorial [.int n] = .ok (.fr (.int (facN n))) := isI_eq (List.all_eq_true.mp fac_tab n (List.mem_range.mpr (by omega)))
theorem facN_pos : ∀ n : Nat, 0 < facN n
  | 0 => by decide
  | n + 1 => Nat.mul_pos (facN_pos n) (by omega)
theorem facN_le {n : Nat} (h : n ≤ 7) : facN n ≤ 5040 := by
  have : (List.range 8).all (fun n => decide (facN n ≤ 5040)) = true := by decide +kernel
  exact of_decide_eq_true (List.all_eq_true.mp this n (List.mem_range.mpr (by omega)))
theorem getD_some {xs : List Int} {k : Nat} (h : k < xs.length) : xs[k]? = some (xs.getD k 0) := by
  rw [List.getElem?_eq_getElem h]
  simp [List.getD, h]
theorem getD_get {xs : List Int} {k : Nat} (h : k < xs.length) : xs.getD k 0 = xs[k] := by simp [List.getD, h]
abbrev pbody : MS := (sSeq (sSet 5 (mCall f_factorial (mCons (mBin fSub (mB (mBin fSub (mBV 0) (mB (mC (.int 1))))) (mBV 3)) mNil)))
    (sSeq (sAppPop 4 2 (mB (mBin fDiv (mBV 1) (mBV 5))))
    (sSet 1 (mBin fMod (mB (mCall fInt (bCons (mBV 1) bNil))) (mBV 5)))))
def m_perm : MS := (sSeq (sSet 2 (mComp (mRng1 (mBV 0)) (.nm 3) tYesM (mVar 3) [3]))
    (sSeq (sSet 4 (mCall fLst mNil))
    (sSeq (sFor (mRng1 (mBV 0)) (.nm 3) pbody)
    (sRetV 4))))
def f_perm : Fn := runF 2 6 m_perm
def PInv (n : Nat) (ds : List D) (env : En) : Prop := ∃ (k : Nat) (row left : List Int) (num : Nat) (o3 o5 : Option Sl),
  env = [some (.fr (.int n)), some (.fr (.int num)), some (.ow (left.map .int)), o3, some (.ow (row.map .int)), o5] ∧ k + left.length = n ∧ (row ++ left).Perm (rng n) ∧ num < facN left.length ∧ ds = (List.range' k left.length).map fun k : Nat => D.int k
theorem pstep {n : Nat} (hn : n ≤ 7) (d : D) (ds : List D) (env : En) (h : PInv n (d :: ds) env) : ∃ e1 e2, (Pt.nm 3).go d env = some e1 ∧ (pbody e1 = .nx e2 ∨ pbody e1 = .ct e2) ∧ PInv n ds e2 := by
  obtain ⟨k, row, left, num, o3, o5, rfl, hl, hp, hnum, hd⟩ := h
  cases left with
  | nil => simp at hd
  | cons x xs =>
    have hd2 : d = .int k ∧ ds = (List.range' (k + 1) xs.length).map fun k : Nat => D.int k := by
      rw [List.length_cons, List.range'_succ, List.map_cons] at hd
      exact ⟨(List.cons.inj hd).1, (List.cons.inj hd).2⟩
    obtain ⟨rfl, rfl⟩ := hd2
    have hlen : k + (xs.length + 1) = n := by simpa using hl
    have lk : xs.length ≤ 7 := by omega
    have f1 := fac_ok (n := xs.length) lk
    have fp := facN_pos xs.length
    have fb := facN_le lk
    have hnum' : num < facN xs.length * (xs.length + 1) := hnum
    have ix : num / facN xs.length < (x :: xs).length := by
      rw [List.length_cons]
      exact (Nat.div_lt_iff_lt_mul fp).mpr (by rw [Nat.mul_comm]; exact hnum')
    obtain ⟨q, hq⟩ : ∃ q, num / facN xs.length = q := ⟨_, rfl⟩
    rw [hq] at ix
    have e1 : fDiv (.int num) (.int (facN xs.length)) = .ok (.fr (.int q)) := by
      rw [fDiv_small _ (by omega) (by omega), ← Int.natCast_ediv, hq]
    have e2 : fMod (.int num) (.int (facN xs.length)) = .ok (.fr (.int ((num % facN xs.length : Nat) : Int))) := by
      show (if 0 < (facN xs.length : Int) then R.ok (Sl.fr (.int ((num : Int) % (facN xs.length : Int)))) else .st) = _
      rw [if_pos (by omega), ← Int.natCast_emod]
    have e3 : ((n : Int) - 1) - (k : Int) = (xs.length : Int) := by omega
    have rl : row.length ≤ 7 := by
      have := hp.length_eq
      simp [rng] at this
      omega
    have gi : ((x :: xs).map D.int)[q]? = some (D.int ((x :: xs).getD q 0)) := by
      rw [List.getElem?_map, getD_some ix]
      rfl
    have xd : ixD ((x :: xs).map D.int).length (q : Int) = some q := by
      unfold ixD
      rw [List.length_map, if_pos (by omega), if_pos (by omega), Int.toNat_natCast]
    have el : ((x :: xs).map D.int).eraseIdx q = ((x :: xs).eraseIdx q).map .int := by
      rw [List.eraseIdx_eq_take_drop_succ, List.eraseIdx_eq_take_drop_succ, List.map_append, List.map_take, List.map_drop]
    refine ⟨[some (.fr (.int n)), some (.fr (.int num)), some (.ow ((x :: xs).map .int)), some (.fr (.int k)), some (.ow (row.map .int)), o5], [some (.fr (.int n)), some (.fr (.int ((num % facN xs.length : Nat) : Int))), some (.ow (((x :: xs).eraseIdx q).map .int)), some (.fr (.int k)), some (.ow ((row ++ [(x :: xs).getD q 0]).map .int)), some (.fr (.int (facN xs.length)))], rfl, .inl ?_, ?_⟩
    · have s1 : (sSet 5 (mCall f_factorial (mCons (mBin fSub (mB (mBin fSub (mBV 0) (mB (mC (.int 1))))) (mBV 3)) mNil))) [some (.fr (.int n)), some (.fr (.int num)), some (.ow ((x :: xs).map .int)), some (.fr (.int k)), some (.ow (row.map .int)), o5] = .nx [some (.fr (.int n)), some (.fr (.int num)), some (.ow ((x :: xs).map .int)), some (.fr (.int k)), some (.ow (row.map .int)), some (.fr (.int (facN xs.length)))] := by
        simp [runF, env0, fin, sSeq, sSet, sIf, sRet, sRetN, sRetV, sDrop, sFrz, frz, frz1, sNop, sTry, sTryAs, mAnd, mOr, mNot, mB, mBin, mUn, mCall, mCons, mNil, bCons, bNil, mBV, mVar, mC, mTest, tNotM, tAndM, tOrM, tYesM, R.bind, R.quiet, Sl.d, asB, mIf, fSub, e3, f1]
      have s2 : (sAppPop 4 2 (mB (mBin fDiv (mBV 1) (mBV 5)))) [some (.fr (.int n)), some (.fr (.int num)), some (.ow ((x :: xs).map .int)), some (.fr (.int k)), some (.ow (row.map .int)), some (.fr (.int (facN xs.length)))] = .nx [some (.fr (.int n)), some (.fr (.int num)), some (.ow (((x :: xs).eraseIdx q).map .int)), some (.fr (.int k)), some (.ow ((row ++ [(x :: xs).getD q 0]).map .int)), some (.fr (.int (facN xs.length)))] := by
        generalize hL : (x :: xs).map D.int = L at gi xd el ⊢
        unfold sAppPop
        simp [runF, env0, fin, sSeq, sSet, sIf, sRet, sRetN, sRetV, sDrop, sFrz, frz, frz1, sNop, sTry, sTryAs, mAnd, mOr, mNot, mB, mBin, mUn, mCall, mCons, mNil, bCons, bNil, mBV, mVar, mC, mTest, tNotM, tAndM, tOrM, tYesM, R.bind, R.quiet, Sl.d, asB, mIf, e1, xd, gi, lim, el]
        have ix' : q < xs.length + 1 := by simpa using ix
        omega
      unfold pbody
      unfold sSeq
      rw [s1]
      simp only [s2]
      simp [runF, env0, fin, sSeq, sSet, sIf, sRet, sRetN, sRetV, sDrop, sFrz, frz, frz1, sNop, sTry, sTryAs, mAnd, mOr, mNot, mB, mBin, mUn, mCall, mCons, mNil, bCons, bNil, mBV, mVar, mC, mTest, tNotM, tAndM, tOrM, tYesM, R.bind, R.quiet, Sl.d, asB, mIf, fInt, e2]
    · have xl : ((x :: xs).eraseIdx q).length = xs.length := by
        rw [List.length_eraseIdx, if_pos ix]; simp
      refine ⟨k + 1, row ++ [(x :: xs).getD q 0], (x :: xs).eraseIdx q, num % facN xs.length, _, _, rfl, by rw [xl]; omega, ?_, by rw [xl]; exact Nat.mod_lt _ fp, by rw [xl]⟩
      refine List.Perm.trans ?_ hp
      rw [List.append_assoc]
      refine List.Perm.append_left _ ?_
      rw [List.eraseIdx_eq_take_drop_succ]
      have dr : (x :: xs) = (x :: xs).take q ++ (x :: xs).getD q 0 :: (x :: xs).drop (q + 1) := by
        have h2 := List.drop_eq_getElem_cons ix
        have h3 : (x :: xs).getD q 0 = (x :: xs)[q] := getD_get ix
        rw [h3, ← h2, List.take_append_drop]
      have : ([(x :: xs).getD q 0] ++ ((x :: xs).take q ++ (x :: xs).drop (q + 1))).Perm ((x :: xs).take q ++ (x :: xs).getD q 0 :: (x :: xs).drop (q + 1)) := (List.perm_middle (a := (x :: xs).getD q 0) (l₁ := (x :: xs).take q) (l₂ := (x :: xs).drop (q + 1))).symm
      rw [← dr] at this
      exact this
theorem self_comp (n : Nat) (o0 o1 o2 o4 o5 : Option Sl) : compL (Pt.nm 3).go tYesM (mVar 3) [o0, o1, o2, none, o4, o5] ((rng n).map .int) = .ok ((rng n).map .int) := compL_map fun i _ => ⟨_, _, rfl, rfl, rfl, rfl⟩
theorem rng_len (n : Nat) : (rng n).length = n := by simp [rng]
/-- the permutation of this number is one -/
theorem perm_ok {n num : Nat} (hn : n ≤ 7) (hm : num < facN n) : ∃ xs : List Int, f_perm [.int n, .int num] = .ok (.ow (xs.map .int)) ∧ xs.Perm (rng n) := by
  have c := self_comp n (some (.fr (.int n))) (some (.fr (.int num))) none none none
  have l4 : (n : Int) ≤ big ∧ -big ≤ (n : Int) := by unfold big; omega
  have rl : (rng n).length ≤ lim := by rw [rng_len]; unfold lim; omega
  obtain ⟨e2, q, r⟩ := forM_inv (as := (Pt.nm 3).go) (b := pbody) (P := PInv n) (pstep hn) ((rng n).map .int) [some (.fr (.int n)), some (.fr (.int num)), some (.ow ((rng n).map .int)), none, some (.ow []), none] ⟨0, [], rng n, num, none, none, rfl, by rw [rng_len]; omega, .refl _, by rw [rng_len]; exact hm, by
    rw [rng_len, ← List.range_eq_range']
    unfold rng
    rw [List.map_map]
    rfl⟩
  obtain ⟨k, row, left, num2, o3, o5, rfl, h1, h2, h3, h4⟩ := r
  have l0 : left = [] := by
    cases left with
    | nil => rfl
    | cons x xs => simp [List.range'_succ] at h4
  subst l0
  rw [List.append_nil] at h2
  refine ⟨row, ?_, h2⟩
  unfold f_perm m_perm
  obtain ⟨PB, hpb⟩ : ∃ m, pbody = m := ⟨_, rfl⟩
  rw [hpb] at q ⊢
  have rr := rangeD_rng n
  have rl2 : ((rng n).map D.int).length ≤ lim := by rw [List.length_map]; exact rl
  generalize (rng n).map D.int = RR at c q rr rl2
  simp [runF, env0, fin, sSeq, sSet, sIf, sRet, sRetN, sRetV, sDrop, sFrz, frz, frz1, sNop, sTry, sTryAs, mAnd, mOr, mNot, mB, mBin, mUn, mCall, mCons, mNil, bCons, bNil, mBV, mVar, mC, mTest, tNotM, tAndM, tOrM, tYesM, R.bind, R.quiet, Sl.d, asB, mIf, mComp, mRng1, wipeE, l4, rr, c, rl2, fLst, sFor, q]
/-! ### sums of orders -/
theorem perm_sum {xs ys : List Int} (h : xs.Perm ys) : xs.sum = ys.sum := by
  induction h with
  | nil => rfl
  | cons x _ ih => simp [ih]
  | swap x y l => simp; omega
  | trans _ _ h1 h2 => exact h1.trans h2
/-- one entry exchanged for another: no order of the same any more -/
theorem not_perm {a b : List Int} {x y : Int} {n : Nat} (h : (a ++ x :: b).Perm (rng n)) (hy : y ≠ x) : ¬ (a ++ y :: b).Perm (rng n) := fun h2 => by
  have := perm_sum (h.trans h2.symm)
  simp at this
  omega
end DM
set_option Elab.async false
set_option linter.all false
set_option maxRecDepth 100000
set_option maxHeartbeats 4000000
namespace DM
open PySem PySem.Spec L2 DL
open PyProof.Rows hiding St
/-! ### data that can be compared, whatever its length -/
def cmp (k : Nat) (d : D) : Prop := noObj d = true ∧ (toPy d).canLay0 = true ∧ (toPy d).depth ≤ k
theorem cmp_all {α : Type} {f : α → D} {k : Nat} (h : ∀ a, cmp k (f a)) : ∀ xs : List α, noObjL (xs.map f) = true ∧ PyData.canLayAll0 (toPyL (xs.map f)) = true ∧ PyData.depthAll (toPyL (xs.map f)) ≤ k
  | [] => ⟨rfl, rfl, Nat.zero_le _⟩
  | x :: xs => by
    obtain ⟨h1, h2, h3⟩ := cmp_all h xs
    obtain ⟨g1, g2, g3⟩ := h x
    refine ⟨?_, ?_, ?_⟩
    · show (noObj (f x) && noObjL (xs.map f)) = true
      rw [g1, h1]; rfl
    · show PyData.canLayAll0 (toPy (f x) :: toPyL (xs.map f)) = true
      simp only [PyData.canLayAll0, g2, h2, Bool.and_self]
    · show PyData.depthAll (toPy (f x) :: toPyL (xs.map f)) ≤ k
      simp only [PyData.depthAll]
      omega
theorem cmp_lst {α : Type} {f : α → D} {k : Nat} (h : ∀ a, cmp k (f a)) (xs : List α) : cmp (k + 1) (.lst (xs.map f)) := by
  obtain ⟨h1, h2, h3⟩ := cmp_all h xs
  refine ⟨by simpa [noObj] using h1, by simpa [toPy, PyData.canLay0] using h2, ?_⟩
  simp only [toPy, PyData.depth]
  omega
theorem cmp_tup {α : Type} {f : α → D} {k : Nat} (h : ∀ a, cmp k (f a)) (xs : List α) : cmp (k + 1) (.tup (xs.map f)) := by
  obtain ⟨h1, h2, h3⟩ := cmp_all h xs
  refine ⟨by simpa [noObj] using h1, by simpa [toPy, PyData.canLay0] using h2, ?_⟩
  simp only [toPy, PyData.depth]
  omega
theorem okE_of {d : D} {k : Nat} (h : cmp k d) (hk : k ≤ 64) : okE d = true := by
  obtain ⟨h1, h2, h3⟩ := h
  unfold okE SeqAt.shaped
  rw [h1, h2, decide_eq_true (Nat.le_trans h3 hk)]
  rfl
theorem cmp_int (a : Int) : cmp 0 (.int a) := ⟨rfl, rfl, Nat.le_refl _⟩
theorem cmp_pr (p : Int × Int) : cmp 1 (pr p) := cmp_tup cmp_int [p.1, p.2]
theorem okE_ints (xs : List Int) : okE (.lst (xs.map .int)) = true := okE_of (cmp_lst cmp_int xs) (by decide)
theorem okE_tints (xs : List Int) : okE (tupI xs) = true := okE_of (cmp_tup cmp_int xs) (by decide)
theorem okE_pr (p : Int × Int) : okE (pr p) = true := okE_of (cmp_pr p) (by decide)
theorem okE_prs (xs : List (Int × Int)) : okE (.lst (xs.map pr)) = true := okE_of (cmp_lst cmp_pr xs) (by decide)
/-! ### pairs: membership, place -/
theorem eqD_pr (p q : Int × Int) : eqD (pr p) (pr q) = decide (p = q) := by
  have e : eqD (pr p) (pr q) = eqDL ([p.1, p.2].map .int) ([q.1, q.2].map .int) := by
    show eqD (.tup _) (.tup _) = _
    unfold eqD; rfl
  rw [e, eqDL_ints]
  obtain ⟨a, b⟩ := p
  obtain ⟨c, d⟩ := q
  by_cases h : (a, b) = (c, d)
  · cases h; simp
  · rw [decide_eq_false h, decide_eq_false]
    intro q
    simp at q
    exact h (by rw [q.1, q.2])
theorem inD_prs (p : Int × Int) (xs : List (Int × Int)) : inD (pr p) (xs.map pr) = decide (p ∈ xs) := by
  unfold inD
  rw [List.any_map]
  induction xs with
  | nil => simp
  | cons x xs ih =>
    rw [List.any_cons, ih]
    show (eqD (pr x) (pr p) || _) = _
    rw [eqD_pr]
    by_cases h : x = p
    · subst h; simp
    · have h' : ¬ p = x := fun q => h q.symm
      by_cases h2 : p ∈ xs <;> simp [h, h', h2]
theorem fIn_lst (p : Int × Int) (xs : List (Int × Int)) : fIn (pr p) (.lst (xs.map pr)) = .ok (.fr (.bl (decide (p ∈ xs)))) := by
  show (if (okE (pr p) && okE (.lst (xs.map pr))) = true then R.ok (Sl.fr (.bl (if false = true then !inD (pr p) (xs.map pr) else inD (pr p) (xs.map pr)))) else .st) = _
  rw [okE_pr, okE_prs, inD_prs]
  rfl
theorem fIn_tup (p : Int × Int) (xs : List (Int × Int)) : fIn (pr p) (.tup (xs.map pr)) = .ok (.fr (.bl (decide (p ∈ xs)))) := fIn_lst p xs
/-! ### the lesser and the greater end -/
def ped (p : Int × Int) : Int × Int := (if p.2 < p.1 then p.2 else p.1, if p.2 > p.1 then p.2 else p.1)
theorem fMin_is (a b : Int) : fMin [.int a, .int b] = .ok (.fr (.int (ped (a, b)).1)) := rfl
theorem fMax_is (a b : Int) : fMax [.int a, .int b] = .ok (.fr (.int (ped (a, b)).2)) := rfl
theorem ped_le (p : Int × Int) : (ped p).1 ≤ (ped p).2 := by unfold ped; split <;> split <;> simp <;> omega
theorem ped_of {p : Int × Int} (h : p.1 ≤ p.2) : ped p = p := by
  obtain ⟨a, b⟩ := p
  unfold ped
  simp at h ⊢
  constructor
  · intro h1; omega
  · intro h1; omega
theorem ped_swap (a b : Int) : ped (b, a) = ped (a, b) := by
  unfold ped
  simp
  constructor
  · split <;> split <;> omega
  · split <;> split <;> omega
theorem ped_cases (p : Int × Int) : ped p = p ∨ ped p = (p.2, p.1) := by
  by_cases h : p.1 ≤ p.2
  · exact .inl (ped_of h)
  · right
    have := ped_of (p := (p.2, p.1)) (by simp; omega)
    rw [ped_swap] at this
    exact this
/-! ### graphs -/
def okEdge (n : Nat) (e : Int × Int) (found : List (Int × Int)) : Bool := decide (0 ≤ e.1) && decide (e.2 < n) && decide (e.1 ≠ e.2) && decide (e ∉ found)
def pfound (n : Nat) : List (Int × Int) → List (Int × Int) → Option (List (Int × Int))
  | [], found => some found
  | p :: ps, found => if okEdge n (ped p) found = true then pfound n ps (found ++ [ped p]) else none
def pgraph (n : Nat) (ps : List (Int × Int)) : Option (List (Int × Int)) := (pfound n ps []).map (isort leP)
/-- what a graph's edges are -/
def GE (n : Nat) (g : List (Int × Int)) : Prop := (∀ e ∈ g, 0 ≤ e.1 ∧ e.1 < e.2 ∧ e.2 < n) ∧ g.Nodup
theorem pfound_ge {n : Nat} : ∀ {ps found g : List (Int × Int)}, GE n found → pfound n ps found = some g → GE n g ∧ g = found ++ ps.map ped
  | [], found, g, h, e => by
    cases e
    exact ⟨h, by simp⟩
  | p :: ps, found, g, h, e => by
    unfold pfound at e
    split at e
    · rename_i c
      unfold okEdge at c
      simp only [Bool.and_eq_true, decide_eq_true_iff] at c
      have l := ped_le p
      have := pfound_ge (found := found ++ [ped p]) ⟨fun q m => by
        rcases List.mem_append.mp m with m | m
        · exact h.1 q m
        · rw [List.mem_singleton.mp m]
          exact ⟨c.1.1.1, by have := c.1.2; omega, c.1.1.2⟩, by
        rw [List.nodup_append]
        refine ⟨h.2, by simp, fun a ha b hb => ?_⟩
        rw [List.mem_singleton.mp hb]
        intro q
        exact c.2 (q ▸ ha)⟩ e
      refine ⟨this.1, ?_⟩
      rw [this.2]
      simp
    · cases e
theorem pfound_of {n : Nat} : ∀ {ps found : List (Int × Int)}, (∀ p ∈ ps, 0 ≤ (ped p).1 ∧ (ped p).1 < (ped p).2 ∧ (ped p).2 < n) → (found ++ ps.map ped).Nodup → pfound n ps found = some (found ++ ps.map ped)
  | [], found, _, _ => by simp [pfound]
  | p :: ps, found, h, hn => by
    have hp := h p List.mem_cons_self
    have hn' : ((found ++ [ped p]) ++ ps.map ped).Nodup := by simpa using hn
    have nm : ped p ∉ found := by
      rw [List.nodup_append] at hn'
      have := hn'.1
      rw [List.nodup_append] at this
      exact fun m => this.2.2 _ m (ped p) (by simp) rfl
    have ih := pfound_of (fun q m => h q (List.mem_cons_of_mem _ m)) hn'
    unfold pfound
    rw [if_pos, ih]
    · simp
    · unfold okEdge
      simp only [Bool.and_eq_true, decide_eq_true_iff]
      exact ⟨⟨⟨hp.1, hp.2.2⟩, by omega⟩, nm⟩
theorem GE.perm {n : Nat} {g h : List (Int × Int)} (k : GE n g) (p : h.Perm g) : GE n h := ⟨fun e m => k.1 e (p.mem_iff.mp m), p.nodup_iff.mpr k.2⟩
theorem pgraph_ge {n : Nat} {ps g : List (Int × Int)} (h : pgraph n ps = some g) : GE n g ∧ g = isort leP (ps.map ped) := by
  unfold pgraph at h
  cases e : pfound n ps [] with
  | none => rw [e] at h; cases h
  | some f =>
    rw [e] at h
    obtain ⟨h1, h2⟩ := pfound_ge ⟨by simp, by simp⟩ e
    cases h
    rw [List.nil_append] at h2
    exact ⟨h1.perm (isort_permI _ _), by rw [h2]⟩
theorem pgraph_of {n : Nat} {ps : List (Int × Int)} (h : GE n (ps.map ped)) : pgraph n ps = some (isort leP (ps.map ped)) := by
  unfold pgraph
  rw [pfound_of (fun p m => by have := h.1 (ped p) (List.mem_map.mpr ⟨p, m, rfl⟩); exact this) (by simpa using h.2)]
  simp
/-! ### sorted pairs: one order for one set -/
theorem leP_total (p q : Int × Int) : leP p q = true ∨ leP q p = true := by
  unfold leP
  rw [decide_eq_true_iff, decide_eq_true_iff]
  omega
theorem leP_trans {p q r : Int × Int} (h1 : leP p q = true) (h2 : leP q r = true) : leP p r = true := by
  unfold leP at *
  rw [decide_eq_true_iff] at *
  omega
theorem leP_antisymm {p q : Int × Int} (h1 : leP p q = true) (h2 : leP q p = true) : p = q := by
  unfold leP at *
  rw [decide_eq_true_iff] at *
  exact Prod.ext (by omega) (by omega)
theorem isortP_ordered : ∀ xs : List (Int × Int), (isort leP xs).Pairwise (fun a b => leP a b = true) := by
  have hi : ∀ (a : Int × Int) (xs : List (Int × Int)), xs.Pairwise (fun a b => leP a b = true) → (ins leP a xs).Pairwise (fun a b => leP a b = true) := by
    intro a xs
    induction xs with
    | nil => intro _; simp [ins]
    | cons x xs ih =>
      intro h
      unfold ins
      split
      · rename_i e
        refine List.pairwise_cons.mpr ⟨fun b m => ?_, h⟩
        rcases List.mem_cons.mp m with rfl | m
        · exact e
        · exact leP_trans e ((List.pairwise_cons.mp h).1 b m)
      · rename_i e
        refine List.pairwise_cons.mpr ⟨fun b m => ?_, ih (List.pairwise_cons.mp h).2⟩
        rcases List.mem_cons.mp ((ins_perm leP a xs).mem_iff.mp m) with rfl | m
        · exact (leP_total x b).resolve_right e
        · exact (List.pairwise_cons.mp h).1 b m
  intro xs
  induction xs with
  | nil => exact List.Pairwise.nil
  | cons x xs ih => exact hi x _ ih
theorem eqP_of_ordered : ∀ {xs ys : List (Int × Int)}, xs.Pairwise (fun a b => leP a b = true) → ys.Pairwise (fun a b => leP a b = true) → xs.Perm ys → xs = ys
  | [], ys, _, _, p => (List.nil_perm.mp p).symm
  | x :: xs, [], _, _, p => by simpa using p.length_eq
  | x :: xs, y :: ys, h1, h2, p => by
    have a1 := List.pairwise_cons.mp h1
    have a2 := List.pairwise_cons.mp h2
    have le1 : leP x y = true := by
      rcases List.mem_cons.mp (p.mem_iff.mpr (List.mem_cons_self (a := y) (l := ys))) with e | m
      · rw [e]; exact (leP_total x x).elim id id
      · exact a1.1 y m
    have le2 : leP y x = true := by
      rcases List.mem_cons.mp (p.mem_iff.mp (List.mem_cons_self (a := x) (l := xs))) with e | m
      · rw [e]; exact (leP_total y y).elim id id
      · exact a2.1 x m
    have e := leP_antisymm le1 le2
    subst e
    rw [eqP_of_ordered a1.2 a2.2 (List.Perm.cons_inv p)]
theorem isortP_perm {xs ys : List (Int × Int)} (p : xs.Perm ys) : isort leP xs = isort leP ys :=
  eqP_of_ordered (isortP_ordered xs) (isortP_ordered ys) ((isort_permI _ _).trans (p.trans (isort_permI _ _).symm))
theorem isortP_fix {g : List (Int × Int)} (xs : List (Int × Int)) (h : g = isort leP xs) : isort leP g = g := by
  rw [h, isortP_perm (isort_permI leP xs)]
/-! ### nodes called anew -/
def at0 (row : List Int) (i : Int) : Int := row.getD i.toNat 0
def mov (row : List Int) (e : Int × Int) : Int × Int := (at0 row e.1, at0 row e.2)
theorem at0_nat (row : List Int) (k : Nat) : at0 row (k : Int) = row.getD k 0 := by unfold at0; rw [Int.toNat_natCast]
theorem at0_mem {row : List Int} {n : Nat} (hp : row.Perm (rng n)) {i : Int} (h : 0 ≤ i ∧ i < n) : 0 ≤ at0 row i ∧ at0 row i < n := by
  have l : row.length = n := by rw [hp.length_eq, rng_len]
  have m : at0 row i ∈ row := by unfold at0; rw [getD_get (by omega)]; exact List.getElem_mem _
  obtain ⟨k, h1, h2⟩ := mem_rng.mp (hp.mem_iff.mp m)
  omega
theorem at0_inj {row : List Int} {n : Nat} (hp : row.Perm (rng n)) {i j : Int} (hi : 0 ≤ i ∧ i < n) (hj : 0 ≤ j ∧ j < n) (h : at0 row i = at0 row j) : i = j := by
  have l : row.length = n := by rw [hp.length_eq, rng_len]
  have nd : row.Nodup := hp.nodup_iff.mpr (rng_nodup n)
  unfold at0 at h
  rw [getD_get (by omega), getD_get (by omega)] at h
  have pw := List.pairwise_iff_getElem.mp (List.nodup_iff_pairwise_ne.mp nd)
  have : i.toNat = j.toNat := by
    rcases Nat.lt_trichotomy i.toNat j.toNat with q | q | q
    · exact absurd h (pw _ _ (by omega) (by omega) q)
    · exact q
    · exact absurd h.symm (pw _ _ (by omega) (by omega) q)
  omega
theorem mov_ge {row : List Int} {n : Nat} (hp : row.Perm (rng n)) {g : List (Int × Int)} (h : GE n g) : GE n ((g.map (mov row)).map ped) := by
  constructor
  · intro e m
    rw [List.map_map] at m
    obtain ⟨p, hm, rfl⟩ := List.mem_map.mp m
    have b := h.1 p hm
    have b1 := at0_mem hp (i := p.1) (by omega)
    have b2 := at0_mem hp (i := p.2) (by omega)
    have ne : at0 row p.1 ≠ at0 row p.2 := fun q => by have := at0_inj hp (by omega) (by omega) q; omega
    show 0 ≤ (ped (mov row p)).1 ∧ (ped (mov row p)).1 < (ped (mov row p)).2 ∧ (ped (mov row p)).2 < n
    rcases ped_cases (mov row p) with c | c
    · have := ped_le (mov row p)
      rw [c] at this ⊢
      unfold mov at this ⊢
      simp at this ⊢
      omega
    · have := ped_le (mov row p)
      rw [c] at this ⊢
      unfold mov at this ⊢
      simp at this ⊢
      omega
  · rw [List.map_map]
    refine List.nodup_iff_pairwise_ne.mpr ?_
    rw [List.pairwise_map]
    refine (List.pairwise_iff_forall_sublist.mpr ?_)
    intro p q sub
    have mp := sub.subset (List.mem_cons_self (a := p) (l := [q]))
    have mq := sub.subset (List.mem_cons_of_mem p (List.mem_cons_self (a := q) (l := [])))
    have ne : p ≠ q := by
      have nd := List.nodup_iff_pairwise_ne.mp h.2
      exact List.pairwise_iff_forall_sublist.mp nd sub
    have bp := h.1 p mp
    have bq := h.1 q mq
    intro e
    apply ne
    have e : ped (mov row p) = ped (mov row q) := e
    have key : ∀ u v : Int × Int, ped u = ped v → u = v ∨ u = (v.2, v.1) := by
      intro u v q
      rcases ped_cases u with c | c <;> rcases ped_cases v with d | d <;> rw [c, d] at q
      · exact .inl q
      · exact .inr q
      · right
        obtain ⟨u1, u2⟩ := u
        obtain ⟨v1, v2⟩ := v
        simp at q ⊢
        omega
      · left
        obtain ⟨u1, u2⟩ := u
        obtain ⟨v1, v2⟩ := v
        simp at q ⊢
        omega
    rcases key _ _ e with k | k
    · unfold mov at k
      simp at k
      exact Prod.ext (at0_inj hp (by omega) (by omega) k.1) (at0_inj hp (by omega) (by omega) k.2)
    · unfold mov at k
      simp at k
      have a := at0_inj hp (by omega) (by omega) k.1
      have b := at0_inj hp (by omega) (by omega) k.2
      omega
theorem ped_mov {row : List Int} (p : Int × Int) : ped (mov row (ped p)) = ped (mov row p) := by
  rcases ped_cases p with c | c
  · rw [c]
  · rw [c]
    unfold mov
    exact ped_swap _ _
/-- the graph called anew twice -/
def pmoved (row : List Int) (g : List (Int × Int)) : List (Int × Int) := isort leP ((g.map (mov row)).map ped)
theorem pmoved_perm {row : List Int} {g h : List (Int × Int)} (p : g.Perm h) : pmoved row g = pmoved row h := isortP_perm ((p.map _).map _)
theorem pmoved_ge {row : List Int} {n : Nat} (hp : row.Perm (rng n)) {g : List (Int × Int)} (h : GE n g) : GE n (pmoved row g) := (mov_ge hp h).perm (isort_permI _ _)
def pafter (p q : List Int) : List Int := p.map (at0 q)
theorem at0_after {p q : List Int} {i : Int} (h : 0 ≤ i ∧ i < p.length) : at0 (pafter p q) i = at0 q (at0 p i) := by
  unfold pafter
  show (p.map (at0 q)).getD i.toNat 0 = at0 q (p.getD i.toNat 0)
  rw [getD_get (by simp; omega), getD_get (by omega), List.getElem_map]
theorem pmoved_twice {n : Nat} {p q : List Int} {g : List (Int × Int)} (hl : p.length = n) (h : GE n g) : pmoved q (pmoved p g) = pmoved (pafter p q) g := by
  have e : pmoved q (pmoved p g) = pmoved q ((g.map (mov p)).map ped) := pmoved_perm (isort_permI _ _)
  rw [e]
  unfold pmoved
  congr 1
  rw [List.map_map, List.map_map, List.map_map, List.map_map]
  refine List.map_congr_left fun x m => ?_
  have b := h.1 x m
  show ped (mov q (ped (mov p x))) = ped (mov (pafter p q) x)
  rw [ped_mov]
  unfold mov
  rw [at0_after (by omega), at0_after (by omega)]
theorem pmoved_id {n : Nat} {r : List Int} {g : List (Int × Int)} (h : GE n g) (hr : ∀ i : Int, 0 ≤ i → i < n → at0 r i = i) : pmoved r g = isort leP g := by
  unfold pmoved
  congr 1
  rw [List.map_map]
  conv => rhs; rw [← List.map_id g]
  refine List.map_congr_left fun x m => ?_
  have b := h.1 x m
  show ped (mov r x) = x
  unfold mov
  rw [hr _ (by omega) (by omega), hr _ (by omega) (by omega)]
  exact ped_of (by omega)
/-- the places of the nodes: the order that undoes -/
def pinv (p : List Int) : List Int := (List.range p.length).map fun (a : Nat) => (((idxA (a : Int) p 0).getD 0 : Nat) : Int)
theorem idxA_at {a : Int} : ∀ {xs : List Int} {n j : Nat}, idxA a xs n = some j → n ≤ j ∧ xs[j - n]? = some a
  | x :: xs, n, j, h => by
    unfold idxA at h
    split at h
    · rename_i e
      cases h
      exact ⟨Nat.le_refl _, by rw [Nat.sub_self, e]; rfl⟩
    · have ih := idxA_at (n := n + 1) h
      refine ⟨by omega, ?_⟩
      rw [show j - n = (j - (n + 1)) + 1 by omega]
      exact ih.2
theorem pinv_at {n : Nat} {p : List Int} (hp : p.Perm (rng n)) {i : Int} (h : 0 ≤ i ∧ i < n) : at0 (pafter p (pinv p)) i = i := by
  have l : p.length = n := by rw [hp.length_eq, rng_len]
  rw [at0_after (by omega)]
  have b := at0_mem hp h
  obtain ⟨k, hk⟩ := Int.eq_ofNat_of_zero_le b.1
  have mk : (k : Int) ∈ p := hp.mem_iff.mpr (mem_rng.mpr ⟨k, by omega, rfl⟩)
  obtain ⟨j, hj, jl⟩ := idxA_mem 0 mk
  rw [Nat.zero_add] at hj
  have e1 : at0 (pinv p) (at0 p i) = (j : Int) := by
    rw [hk, at0_nat]
    unfold pinv
    rw [getD_get (by simp; omega), List.getElem_map, List.getElem_range, hj]
    rfl
  have e2 := (idxA_at hj).2
  rw [Nat.sub_zero, getD_some (by omega)] at e2
  have e3 : at0 p (j : Int) = at0 p i := by rw [at0_nat, Option.some.inj e2, hk]
  rw [e1]
  exact at0_inj hp (by omega) h e3
theorem pinv_perm {n : Nat} {p : List Int} (hp : p.Perm (rng n)) : (pinv p).Perm (rng n) := by
  have l : p.length = n := by rw [hp.length_eq, rng_len]
  have pl : (pinv p).length = n := by unfold pinv; simp [l]
  refine perm_of_sub _ _ (rng_nodup _) (by rw [pl, rng_len]) fun y m => ?_
  obtain ⟨i, hi, rfl⟩ := mem_rng.mp m
  have e := pinv_at hp (i := (i : Int)) (by omega)
  rw [at0_after (by omega)] at e
  have b := at0_mem hp (i := (i : Int)) (by omega)
  rw [← e]
  unfold at0
  rw [getD_get (xs := pinv p) (by rw [pl]; exact (by have := b; unfold at0 at this; omega))]
  exact List.getElem_mem _
theorem pafter_perm {n : Nat} {p q : List Int} (hp : p.Perm (rng n)) (hq : q.Perm (rng n)) : (pafter p q).Perm (rng n) := by
  have e : (rng n).map (at0 q) = q := by
    have l : q.length = n := by rw [hq.length_eq, rng_len]
    apply List.ext_getElem
    · rw [List.length_map, rng_len, l]
    · intro i h1 h2
      rw [List.getElem_map]
      unfold rng
      rw [List.getElem_map, List.getElem_range, at0_nat, getD_get h2]
  have h1 : (pafter p q).Perm ((rng n).map (at0 q)) := hp.map _
  rw [e] at h1
  exact h1.trans hq
end DM
set_option Elab.async false
set_option linter.all false
set_option maxRecDepth 100000
set_option maxHeartbeats 4000000
namespace DM
open PySem PySem.Spec L2 DL
open PyProof.Rows hiding St
theorem fMod_nat {a : Int} {n : Nat} (h : 0 < n) : fMod (.int a) (.int n) = .ok (.fr (.int (a % n))) := by
  show (if 0 < (n : Int) then R.ok (Sl.fr (.int (a % n))) else .st) = _
  rw [if_pos (by omega)]
theorem mod_nat (z : Int) {n : Nat} (h : 0 < n) : ∃ k : Nat, k < n ∧ fMod (.int z) (.int n) = .ok (.fr (.int k)) := by
  have h1 := Int.emod_nonneg z (show (n : Int) ≠ 0 by omega)
  have h2 := Int.emod_lt_of_pos z (show (0 : Int) < n by omega)
  obtain ⟨k, hk⟩ := Int.eq_ofNat_of_zero_le h1
  refine ⟨k, by omega, ?_⟩
  rw [fMod_nat h, hk]
/-- an item of a written list of ints -/
theorem ints_at {xs : List Int} {i : Int} (h : 0 ≤ i ∧ i < xs.length) : fIx (.lst (xs.map .int)) (.int i) = .ok (.fr (.int (at0 xs i))) := by
  obtain ⟨k, rfl⟩ := Int.eq_ofNat_of_zero_le h.1
  rw [at0_nat]
  exact fIx_lstI (getD_some (by omega))
theorem isort_map {α : Type} (le : D → D → Bool) (f : α → D) : ∀ xs : List α, isort le (xs.map f) = (isort (fun a b => le (f a) (f b)) xs).map f
  | [] => rfl
  | x :: xs => by
    have hi : ∀ (a : α) (ys : List α), ins le (f a) (ys.map f) = (ins (fun a b => le (f a) (f b)) a ys).map f := by
      intro a ys
      induction ys with
      | nil => rfl
      | cons y ys ih =>
        show ins le (f a) (f y :: ys.map f) = _
        unfold ins
        rw [ih]
        show (if le (f a) (f y) = true then _ else _) = _
        split <;> rfl
    show ins le (f x) (isort le (xs.map f)) = (ins _ x (isort _ xs)).map f
    rw [isort_map le f xs, hi]
theorem fSl_lto {α : Type} (f : α → D) {xs : List α} {k : Nat} (h : k ≤ xs.length) : fSl (.lst (xs.map f)) none (some (k : Int)) = .ok (.ow ((xs.take k).map f)) := by
  show R.ok (Sl.ow (DL.cutD (xs.map f) _ _)) = _
  rw [cutD_map, cut_to xs h]
theorem fSl_lfrom {α : Type} (f : α → D) {xs : List α} {k : Nat} (h : k ≤ xs.length) : fSl (.lst (xs.map f)) (some (k : Int)) none = .ok (.ow ((xs.drop k).map f)) := by
  show R.ok (Sl.ow (DL.cutD (xs.map f) _ _)) = _
  rw [cutD_map, cut_from xs h]
theorem fSl_lmid {α : Type} (f : α → D) {xs : List α} {a b : Nat} (h : b ≤ xs.length) (hab : a ≤ b) : fSl (.lst (xs.map f)) (some (a : Int)) (some (b : Int)) = .ok (.ow (((xs.drop a).take (b - a)).map f)) := by
  show R.ok (Sl.ow (DL.cutD (xs.map f) _ _)) = _
  rw [cutD_map, cut_mid xs h hab]
theorem fAddL_lst {xs ys : List D} (h : xs.length + ys.length ≤ 1000000) : fAddL (.lst xs) (.lst ys) = .ok (.ow (xs ++ ys)) := by
  show (if xs.length + ys.length ≤ lim then R.ok (Sl.ow (xs ++ ys)) else .st) = _
  rw [if_pos (show xs.length + ys.length ≤ lim from h)]
theorem fIx_map {α : Type} (f : α → D) {xs : List α} {k : Nat} {a : α} (h : xs[k]? = some a) : fIx (.lst (xs.map f)) (.int k) = .ok (.fr (f a)) :=
  ix_at (xs := xs.map f) (by rw [List.getElem?_map, h]; rfl)
theorem fLen_map {α : Type} (f : α → D) (xs : List α) : fLen [.lst (xs.map f)] = .ok (.fr (.int xs.length)) := by
  show R.ok (Sl.fr (.int ((xs.map f).length : Int))) = _
  rw [List.length_map]
theorem emod_b (z : Int) {n : Int} (h : 0 < n) : 0 ≤ z % n ∧ z % n < n := ⟨Int.emod_nonneg _ (by omega), Int.emod_lt_of_pos _ h⟩
theorem fMod_int {a b : Int} (h : 0 < b) : fMod (.int a) (.int b) = .ok (.fr (.int (a % b))) := by
  show (if 0 < b then R.ok (Sl.fr (.int (a % b))) else .st) = _
  rw [if_pos h]
end DM
set_option Elab.async false
set_option linter.all false
set_option maxRecDepth 100000
set_option maxHeartbeats 4000000
namespace DM
open PySem PySem.Spec L2 DL
open PyProof.Rows hiding St

/-! ### a mirror is run rule by rule -/
theorem x_fin {α : Type} {a : R α} {s s' : α} (h1 : a = .ok s) (h2 : s = s') : a = .ok s' := by rw [h1, h2]
theorem x_finS {s1 : MS} {env e e' : En} (h1 : s1 env = .nx e) (h2 : e = e') : s1 env = .nx e' := by rw [h1, h2]
theorem d_fr {t : D} : Sl.d (.fr t) = t := rfl
theorem d_ow {xs : List D} : Sl.d (.ow xs) = .lst xs := rfl
section
variable {env e : En} {s : Sl} {d x y : D} {i : Nat} {m m2 : M} {ma mb mc : B} {mr : En → R (List D)} {ds xs : List D} {F G : D → D → R Sl} {f : D → R Sl} {h : List D → R Sl} {t u : En → R Bool} {b c : Bool} {s1 s2 : MS} {r : RS}
theorem x_B (h1 : m env = .ok s) (h2 : s.d = d) : mB m env = .ok d := by unfold mB; rw [h1, ← h2]; rfl
theorem x_BV (h1 : env[i]? = some (some s)) (h2 : s.d = d) : mBV i env = .ok d := by unfold mBV; rw [h1, ← h2]
theorem x_var (h1 : env[i]? = some (some (.fr d))) : mVar i env = .ok (.fr d) := by unfold mVar; rw [h1]
theorem x_C : mC d env = .ok (.fr d) := rfl
theorem x_bin (h1 : ma env = .ok x) (h2 : mb env = .ok y) (h3 : F x y = .ok s) : mBin F ma mb env = .ok s := by unfold mBin; rw [h1]; show (mb env).bind _ = _; rw [h2]; exact h3
theorem x_un (h1 : ma env = .ok x) (h2 : f x = .ok s) : mUn f ma env = .ok s := by unfold mUn; rw [h1]; exact h2
theorem x_bnil : bNil env = .ok [] := rfl
theorem x_bcons (h1 : ma env = .ok x) (h2 : mr env = .ok xs) : bCons ma mr env = .ok (x :: xs) := by unfold bCons; rw [h1]; show (mr env).bind _ = _; rw [h2]; rfl
theorem x_nil : mNil env = .ok [] := rfl
theorem x_cons (h1 : m env = .ok s) (h2 : s.d = d) (h3 : mr env = .ok xs) : mCons m mr env = .ok (d :: xs) := by unfold mCons; rw [h1]; show (mr env).bind _ = _; rw [h3, ← h2]; rfl
theorem x_star (h1 : m env = .ok s) (h2 : asSeq s.d = .ok ds) (h3 : mr env = .ok xs) : mStar m mr env = .ok (ds ++ xs) := by unfold mStar; rw [h1]; show (asSeq s.d).bind _ = _; rw [h2]; show (mr env).bind _ = _; rw [h3]; rfl
theorem x_call (h1 : mr env = .ok xs) (h2 : h xs = .ok s) : mCall h mr env = .ok s := by unfold mCall; rw [h1]; exact h2
theorem x_chain {z : D} (h1 : ma env = .ok x) (h2 : mb env = .ok y) (h3 : F x y = .ok (.fr (.bl b))) (h4 : b = true → mc env = .ok z) (h5 : b = true → G y z = .ok (.fr (.bl c))) : mChain F G ma mb mc env = .ok (.fr (.bl (b && c))) := by
  unfold mChain; rw [h1]; show (mb env).bind _ = _; rw [h2]; show (F x y).bind _ = _; rw [h3]
  cases b with
  | true => show (mc env).bind _ = _; rw [h4 rfl]; rw [Bool.true_and]; exact h5 rfl
  | false => rfl
theorem x_test (h1 : ma env = .ok (.bl b)) : mTest ma env = .ok b := by unfold mTest; rw [h1]; rfl
theorem x_tnot (h1 : t env = .ok b) : tNotM t env = .ok (!b) := by unfold tNotM; rw [h1]; rfl
theorem x_tand (h1 : t env = .ok b) (h2 : b = true → u env = .ok c) : tAndM t u env = .ok (b && c) := by
  unfold tAndM; rw [h1]
  cases b with
  | true => show u env = _; rw [h2 rfl, Bool.true_and]
  | false => rfl
theorem x_tor (h1 : t env = .ok b) (h2 : b = false → u env = .ok c) : tOrM t u env = .ok (b || c) := by
  unfold tOrM; rw [h1]
  cases b with
  | false => show u env = _; rw [h2 rfl, Bool.false_or]
  | true => rfl
theorem x_tandF (h1 : t env = .ok b) (hb : b = false) : tAndM t u env = .ok false := by subst hb; unfold tAndM; rw [h1]; rfl
theorem x_torT (h1 : t env = .ok b) (hb : b = true) : tOrM t u env = .ok true := by subst hb; unfold tOrM; rw [h1]; rfl
theorem x_andF (h1 : ma env = .ok (.bl b)) (hb : b = false) : mAnd ma mb env = .ok (.fr (.bl false)) := by subst hb; unfold mAnd; rw [h1]; rfl
theorem x_orT (h1 : ma env = .ok (.bl b)) (hb : b = true) : mOr ma mb env = .ok (.fr (.bl true)) := by subst hb; unfold mOr; rw [h1]; rfl
theorem x_and (h1 : ma env = .ok (.bl b)) (h2 : b = true → mb env = .ok (.bl c)) : mAnd ma mb env = .ok (.fr (.bl (b && c))) := by
  unfold mAnd; rw [h1]
  cases b with
  | true => show (mb env).bind _ = _; rw [h2 rfl, Bool.true_and]; rfl
  | false => rfl
theorem x_or (h1 : ma env = .ok (.bl b)) (h2 : b = false → mb env = .ok (.bl c)) : mOr ma mb env = .ok (.fr (.bl (b || c))) := by
  unfold mOr; rw [h1]
  cases b with
  | false => show (mb env).bind _ = _; rw [h2 rfl, Bool.false_or]; rfl
  | true => rfl
theorem x_not (h1 : ma env = .ok (.bl b)) : mNot ma env = .ok (.fr (.bl (!b))) := by unfold mNot; rw [h1]; rfl
theorem x_ifT (h1 : t env = .ok b) (hb : b = true) (h2 : m env = .ok s) (h3 : s.d = d) : mIf t m m2 env = .ok (.fr d) := by subst hb; unfold mIf; rw [h1]; show (m env).bind _ = _; rw [h2, ← h3]; rfl
theorem x_ifF (h1 : t env = .ok b) (hb : b = false) (h2 : m2 env = .ok s) (h3 : s.d = d) : mIf t m m2 env = .ok (.fr d) := by subst hb; unfold mIf; rw [h1]; show (m2 env).bind _ = _; rw [h2, ← h3]; rfl
theorem x_ofalse : oNone env = .ok none := rfl
theorem x_osome {i : Int} (h1 : ma env = .ok (.int i)) : oSome ma env = .ok (some i) := by unfold oSome; rw [h1]; rfl
theorem x_sl {l u : BO} {lo hi : Option Int} (h1 : ma env = .ok x) (h2 : l env = .ok lo) (h3 : u env = .ok hi) (h4 : fSl x lo hi = .ok s) : mSl ma l u env = .ok s := by
  unfold mSl; rw [h1]; show (l env).bind _ = _; rw [h2]; show (u env).bind _ = _; rw [h3]; exact h4
theorem x_meth {tab : Nat → Option Fn} {g : Fn} {k : Nat} {fs : List D} (h1 : m env = .ok (.fr (.obj k fs))) (h2 : tab k = some g) (h3 : mr env = .ok xs) (h4 : g (.obj k fs :: xs) = .ok s) : mMeth tab m mr env = .ok s := by
  unfold mMeth; rw [h1]; show (match tab k with | some f => _ | none => _) = _; rw [h2]; show (mr env).bind _ = _; rw [h3]; exact h4
theorem x_rng1 {n : Nat} (h1 : ma env = .ok (.int n)) (h2 : n ≤ 1000000000) : mRng1 ma env = .ok ((List.range n).map fun k : Nat => .int k) := by
  unfold mRng1; rw [h1]
  show (if -big ≤ (n : Int) ∧ (n : Int) ≤ big then R.ok (rangeD 0 (n : Int).toNat) else .st) = _
  rw [if_pos (by unfold big; omega), Int.toNat_natCast]
  unfold rangeD
  congr 2
  funext k
  rw [Int.zero_add]
theorem x_iter (h1 : m env = .ok s) (h2 : asSeq s.d = .ok xs) : mIter m env = .ok xs := by unfold mIter; rw [h1]; exact h2
/-! statements -/
theorem x_seq (h1 : s1 env = .nx e) (h2 : s2 e = r) : sSeq s1 s2 env = r := by unfold sSeq; rw [h1]; exact h2
theorem x_seqR (h1 : s1 env = .rt s) : sSeq s1 s2 env = .rt s := by unfold sSeq; rw [h1]
theorem x_seqX {n : Nat} {p : Pl} (h1 : s1 env = .ex n p e) : sSeq s1 s2 env = .ex n p e := by unfold sSeq; rw [h1]
theorem x_seqC (h1 : s1 env = .ct e) : sSeq s1 s2 env = .ct e := by unfold sSeq; rw [h1]
theorem x_seqB (h1 : s1 env = .bk e) : sSeq s1 s2 env = .bk e := by unfold sSeq; rw [h1]
theorem x_set (h1 : m env = .ok s) (h2 : env.set i (some s) = e) : sSet i m env = .nx e := by unfold sSet; rw [h1, ← h2]
theorem x_setX {n : Nat} {p : Pl} (h1 : m env = .ex n p) : sSet i m env = .ex n p env := by unfold sSet; rw [h1]
theorem x_ret (h1 : m env = .ok s) : sRet m env = .rt s := by unfold sRet; rw [h1]
theorem x_retX {n : Nat} {p : Pl} (h1 : m env = .ex n p) : sRet m env = .ex n p env := by unfold sRet; rw [h1]
theorem x_retV (h1 : env[i]? = some (some s)) : sRetV i env = .rt s := by unfold sRetV; rw [h1]
theorem x_retN : sRetN env = .rt (.fr .non) := rfl
theorem x_nop : sNop env = .nx env := rfl
theorem x_sifT (h1 : t env = .ok b) (hb : b = true) (h2 : s1 env = r) : sIf t s1 s2 env = r := by subst hb; unfold sIf; rw [h1]; exact h2
theorem x_sifF (h1 : t env = .ok b) (hb : b = false) (h2 : s2 env = r) : sIf t s1 s2 env = r := by subst hb; unfold sIf; rw [h1]; exact h2
theorem x_sif (h1 : t env = .ok b) (h2 : b = true → s1 env = r) (h3 : b = false → s2 env = r) : sIf t s1 s2 env = r := by
  cases b with
  | true => exact x_sifT h1 rfl (h2 rfl)
  | false => exact x_sifF h1 rfl (h3 rfl)
theorem x_sifX {n : Nat} {p : Pl} (h1 : t env = .ex n p) : sIf t s1 s2 env = .ex n p env := by unfold sIf; rw [h1]
theorem x_drop (h1 : m env = .ok s) : sDrop m env = .nx env := by unfold sDrop; rw [h1]
theorem x_frz {is : List Nat} (h0 : frz is env = e) (h1 : s1 e = r) : sFrz is s1 env = r := by unfold sFrz; rw [h0]; exact h1
theorem x_app (h1 : env[i]? = some (some (.ow xs))) (h2 : m env = .ok s) (h3 : s.d = d) (hl : xs.length < lim) (h4 : env.set i (some (.ow (xs ++ [d]))) = e) : sApp i m env = .nx e := by
  unfold sApp; rw [h1]; simp only []; rw [h2]; simp only []; rw [if_pos hl, h3, h4]
theorem x_ext {ys : List D} (h1 : env[i]? = some (some (.ow xs))) (h2 : m env = .ok (.ow ys)) (hl : xs.length + ys.length ≤ lim) (h4 : env.set i (some (.ow (xs ++ ys))) = e) : sExt i m env = .nx e := by
  unfold sExt; rw [h1]; simp only []; rw [h2]; simp only []; rw [if_pos hl, h4]
theorem x_put {j : Int} {n : Nat} (h1 : m env = .ok s) (h2 : s.d = d) (h3 : env[i]? = some (some (.ow xs))) (h4 : ma env = .ok (.int j)) (h5 : ixD xs.length j = some n) (h6 : env.set i (some (.ow (xs.set n d))) = e) : sPut i ma m env = .nx e := by
  unfold sPut; rw [h1]; simp only []; rw [h3]; simp only []; rw [h4]; simp only []; rw [h5]; simp only []; rw [h2, h6]
theorem x_unp {is : List Nat} (h1 : m env = .ok s) (h2 : s.d = .tup ds) (h3 : ds.length = is.length) (h4 : setAll is ds env = e) : sUnp (.tp is) m env = .nx e := by
  unfold sUnp; rw [h1]; simp only []; rw [h2]; show (match (if ds.length = is.length then some (setAll is ds env) else none) with | some e => RS.nx e | none => .st) = _; rw [if_pos h3, h4]
theorem x_run {n slots : Nat} {m : MS} (h0 : ds.length = n) (h1 : m (env0 n slots ds) = r) : runF n slots m ds = fin r := by unfold runF; rw [if_pos h0, h1]
theorem x_runR {n slots : Nat} {m : MS} (h0 : ds.length = n) (h1 : m (env0 n slots ds) = .rt s) : runF n slots m ds = .ok s := by unfold runF; rw [if_pos h0, h1]; rfl
theorem x_runX {n slots k : Nat} {m : MS} {p : Pl} (h0 : ds.length = n) (h1 : m (env0 n slots ds) = .ex k p e) : runF n slots m ds = .ex k p := by unfold runF; rw [if_pos h0, h1]; rfl
theorem x_seqSet (h1 : m env = .ok s) (h2 : env.set i (some s) = e) (h3 : s2 e = r) : sSeq (sSet i m) s2 env = r := x_seq (x_set h1 h2) h3
theorem x_seqUnp {is : List Nat} (h1 : m env = .ok s) (h2 : s.d = .tup ds) (h3 : ds.length = is.length) (h4 : setAll is ds env = e) (h5 : s2 e = r) : sSeq (sUnp (.tp is) m) s2 env = r := x_seq (x_unp h1 h2 h3 h4) h5
theorem x_seqApp (h1 : env[i]? = some (some (.ow xs))) (h2 : m env = .ok s) (h3 : s.d = d) (hl : xs.length < lim) (h4 : env.set i (some (.ow (xs ++ [d]))) = e) (h5 : s2 e = r) : sSeq (sApp i m) s2 env = r := x_seq (x_app h1 h2 h3 hl h4) h5
theorem x_seqPut {j : Int} {n : Nat} (h1 : m env = .ok s) (h2 : s.d = d) (h3 : env[i]? = some (some (.ow xs))) (h4 : ma env = .ok (.int j)) (h5 : ixD xs.length j = some n) (h6 : env.set i (some (.ow (xs.set n d))) = e) (h7 : s2 e = r) : sSeq (sPut i ma m) s2 env = r := x_seq (x_put h1 h2 h3 h4 h5 h6) h7
/-- if t: return .. -/
theorem x_guard {v w : Sl} (h1 : t env = .ok b) (h2 : b = true → s1 env = .rt v) (h3 : b = false → s2 env = .rt w) : sSeq (sIf t s1 sNop) s2 env = .rt (bif b then v else w) := by
  cases b with
  | true => exact x_seqR (x_sifT h1 rfl (h2 rfl))
  | false => exact x_seq (x_sifF h1 rfl x_nop) (h3 rfl)
theorem x_guardT {v : Sl} (h1 : t env = .ok b) (hb : b = true) (h2 : s1 env = .rt v) : sSeq (sIf t s1 sNop) s2 env = .rt v := x_seqR (x_sifT h1 hb h2)
theorem x_guardF (h1 : t env = .ok b) (hb : b = false) (h2 : s2 env = r) : sSeq (sIf t s1 sNop) s2 env = r := x_seq (x_sifF h1 hb x_nop) h2
/-! loops -/
theorem x_for {mi : En → R (List D)} {pt : Pt} (h1 : mi env = .ok xs) (h2 : DL.forM pt.go s1 xs env = r) : sFor mi pt s1 env = r := by unfold sFor; rw [h1]; exact h2
/-- every turn goes on: the slots outside of the turn's stay -/
theorem for_all {α : Type} {pt : Pt} {b : MS} {f : α → D} (P : List α → En → Prop) : ∀ (as : List α) (env : En), P as env → (∀ a as env, P (a :: as) env → ∃ e1 e2, pt.go (f a) env = some e1 ∧ (b e1 = .nx e2 ∨ b e1 = .ct e2) ∧ P as e2) → ∃ e, DL.forM pt.go b (as.map f) env = .nx e ∧ P [] e
  | [], env, h, _ => ⟨env, rfl, h⟩
  | a :: as, env, h, step => by
    obtain ⟨e1, e2, h1, h2, h3⟩ := step a as env h
    obtain ⟨e, h4, h5⟩ := for_all P as e2 h3 step
    refine ⟨e, ?_, h5⟩
    show DL.forM pt.go b (f a :: as.map f) env = _
    unfold DL.forM
    rw [h1]
    rcases h2 with h2 | h2 <;> (simp only [h2]; exact h4)
theorem x_rngI {j : Int} (h1 : ma env = .ok (.int j)) (h2 : -1000000 ≤ j ∧ j ≤ 1000000) : mRng1 ma env = .ok ((List.range j.toNat).map fun k : Nat => .int k) := by
  unfold mRng1; rw [h1]
  show (if -big ≤ j ∧ j ≤ big then R.ok (rangeD 0 j.toNat) else .st) = _
  rw [if_pos (by unfold big; omega)]
  unfold rangeD
  congr 2
  funext k
  rw [Int.zero_add]
/-- [g(k) for k in range(j)] -/
theorem comp_rng {i : Nat} {j : Int} {g : Nat → D} (h1 : ma env = .ok (.int j)) (h2 : -1000000 ≤ j ∧ j ≤ 1000000) (h3 : ∀ k : Nat, (k : Int) < j → ∃ s, m ((wipeE env [i]).set i (some (.fr (.int k)))) = .ok s ∧ s.d = g k) : mComp (mRng1 ma) (.nm i) tYesM m [i] env = .ok (.ow ((List.range j.toNat).map g)) := by
  unfold mComp
  rw [x_rngI h1 h2]
  show (if ((List.range j.toNat).map fun k : Nat => D.int k).length ≤ lim then _ else _) = _
  rw [if_pos (by rw [List.length_map, List.length_range]; unfold lim; omega)]
  have hc : compL (Pt.nm i).go tYesM m (wipeE env [i]) ((List.range j.toNat).map fun k : Nat => D.int k) = .ok ((List.range j.toNat).map g) := by
    refine compL_map fun k hk => ?_
    obtain ⟨s, h4, h5⟩ := h3 k (by have := List.mem_range.mp hk; omega)
    exact ⟨_, s, rfl, rfl, h4, h5⟩
  rw [hc]
  rfl
/-- the same, of ints -/
theorem comp_rngZ {i : Nat} {j : Int} {G : Nat → Int} (h1 : ma env = .ok (.int j)) (h2 : -1000000 ≤ j ∧ j ≤ 1000000) (h3 : ∀ k : Nat, (k : Int) < j → m ((wipeE env [i]).set i (some (.fr (.int k)))) = .ok (.fr (.int (G k)))) : mComp (mRng1 ma) (.nm i) tYesM m [i] env = .ok (.ow (((List.range j.toNat).map G).map .int)) := by
  rw [comp_rng (g := fun k => .int (G k)) h1 h2 fun k hk => ⟨_, h3 k hk, rfl⟩, List.map_map]
  rfl
theorem comp_gen {α : Type} {pt : Pt} {vs : List Nat} {mi : En → R (List D)} {as : List α} {f g : α → D} (h1 : mi env = .ok (as.map f)) (hl : as.length ≤ 1000000) (h3 : ∀ a ∈ as, ∃ e1 s, pt.go (f a) (wipeE env vs) = some e1 ∧ m e1 = .ok s ∧ s.d = g a) : mComp mi pt tYesM m vs env = .ok (.ow (as.map g)) := by
  unfold mComp
  rw [h1]
  show (if (as.map f).length ≤ lim then _ else _) = _
  rw [if_pos (by rw [List.length_map]; unfold lim; omega)]
  have hc : compL pt.go tYesM m (wipeE env vs) (as.map f) = .ok (as.map g) := by
    refine compL_map fun a ha => ?_
    obtain ⟨e1, s, h4, h5, h6⟩ := h3 a ha
    exact ⟨_, s, h4, rfl, h5, h6⟩
  rw [hc]
  rfl
theorem comp_nm {α : Type} {i : Nat} {mi : En → R (List D)} {as : List α} {f g : α → D} (h1 : mi env = .ok (as.map f)) (hl : as.length ≤ 1000000) (h3 : ∀ a ∈ as, ∃ s, m ((wipeE env [i]).set i (some (.fr (f a)))) = .ok s ∧ s.d = g a) : mComp mi (.nm i) tYesM m [i] env = .ok (.ow (as.map g)) :=
  comp_gen h1 hl fun a ha => let ⟨s, h4, h5⟩ := h3 a ha; ⟨_, s, rfl, h4, h5⟩
theorem comp_if {α : Type} {pt : Pt} {vs : List Nat} {mi : En → R (List D)} {as : List α} {f g : α → D} {p : α → Bool} (h1 : mi env = .ok (as.map f)) (hl : as.length ≤ 1000000) (h3 : ∀ a ∈ as, ∃ e1 s, pt.go (f a) (wipeE env vs) = some e1 ∧ t e1 = .ok (p a) ∧ (p a = true → m e1 = .ok s ∧ s.d = g a)) : mComp mi pt t m vs env = .ok (.ow ((as.filter p).map g)) := by
  unfold mComp
  rw [h1]
  show (if (as.map f).length ≤ lim then _ else _) = _
  rw [if_pos (by rw [List.length_map]; unfold lim; omega)]
  have hc : compL pt.go t m (wipeE env vs) (as.map f) = .ok ((as.filter p).map g) := by
    clear h1 hl
    induction as with
    | nil => rfl
    | cons a as ih =>
      obtain ⟨e1, s, h4, h5, h6⟩ := h3 a List.mem_cons_self
      have ih := ih fun a ha => h3 a (List.mem_cons_of_mem _ ha)
      show compL pt.go t m (wipeE env vs) (f a :: as.map f) = _
      unfold compL
      rw [h4]
      simp only [h5, DL.R.quiet, DL.R.bind]
      cases c : p a with
      | true =>
        obtain ⟨h7, h8⟩ := h6 c
        rw [if_pos rfl, h7, ih, List.filter_cons_of_pos c, List.map_cons, ← h8]
      | false =>
        rw [if_neg (by simp), ih, List.filter_cons_of_neg (by simp [c])]
  rw [hc]
  rfl
end

theorem set_same {env : En} {i : Nat} {u : Option Sl} (h : env[i]? = some u) : env.set i u = env := by
  obtain ⟨hl, e⟩ := List.getElem?_eq_some_iff.mp h
  subst e
  exact List.set_getElem_self hl
/-- if t: x = .. (x is known before) -/
theorem x_ifset {env e : En} {t : En → R Bool} {m : M} {i : Nat} {b : Bool} {d d' : D} (h1 : t env = .ok b) (h2 : b = true → m env = .ok (.fr d)) (h0 : env[i]? = some (some (.fr d'))) (h4 : env.set i (some (.fr (bif b then d else d'))) = e) : sIf t (sSet i m) sNop env = .nx e := by
  cases b with
  | true => exact x_sifT h1 rfl (x_set (h2 rfl) h4)
  | false => exact x_sifF h1 rfl (by rw [← h4]; show RS.nx env = _; exact congrArg RS.nx (set_same h0).symm)
theorem xi_guard {env : En} {fs : List D} {t : En → R Bool} {m1 m2 : MI} {b : Bool} {n : Nat} {p : Pl} (h1 : t env = .ok b) (h2 : m1 env fs = .ex n p) : iSeq (iIf t m1 iNop) m2 env fs = bif b then .ex n p else m2 env fs := by
  unfold iSeq iIf
  rw [h1]
  cases b with
  | true => simp only [if_true, h2]; rfl
  | false => simp [iNop]

/-! ### values of the operations -/
section
variable {a b : Int} {xs : List D} {d d0 d1 d2 d3 d4 : D} {r : List D}
theorem l_mod (h : 0 < b) : fMod (.int a) (.int b) = .ok (.fr (.int (a % b))) := by simp [fMod, h]
theorem l_div (h : 0 < b) (h2 : b < 2 ^ 64) : fDiv (.int a) (.int b) = .ok (.fr (.int (a / b))) := by
  have h3 : b.natAbs < 2 ^ 64 := by omega
  have h4 : b.natAbs < 2 ^ 4000 := Nat.lt_of_lt_of_le h3 (by decide)
  show (if 0 < b ∧ b.natAbs < 2 ^ 4000 then R.ok (Sl.fr (.int (a / b))) else .st) = _
  rw [if_pos ⟨h, h4⟩]
theorem l_mulR (h : -(2 ^ 64) < b ∧ b < 2 ^ 64) : fMul (.int a) (.int b) = .ok (.fr (.int (a * b))) := fMul_right (by omega)
theorem l_mulL (h : -(2 ^ 64) < a ∧ a < 2 ^ 64) : fMul (.int a) (.int b) = .ok (.fr (.int (a * b))) := fMul_left (by omega)
theorem l_add : fAddL (.int a) (.int b) = .ok (.fr (.int (a + b))) := rfl
theorem l_sub : fSub (.int a) (.int b) = .ok (.fr (.int (a - b))) := rfl
theorem l_neg : fNeg (.int a) = .ok (.fr (.int (-a))) := rfl
theorem l_lt : fLt (.int a) (.int b) = .ok (.fr (.bl (decide (a < b)))) := rfl
theorem l_le : fLe (.int a) (.int b) = .ok (.fr (.bl (decide (a ≤ b)))) := rfl
theorem l_gt : fGt (.int a) (.int b) = .ok (.fr (.bl (decide (b < a)))) := rfl
theorem l_ge : fGe (.int a) (.int b) = .ok (.fr (.bl (decide (b ≤ a)))) := rfl
theorem l_int : fInt [.int a] = .ok (.fr (.int a)) := rfl
theorem l_intB {b : Bool} : fInt [.bl b] = .ok (.fr (.int (if b then 1 else 0))) := rfl
theorem l_abs : fAbs [.int a] = .ok (.fr (.int (if a < 0 then -a else a))) := rfl
theorem l_min : fMin [.int a, .int b] = .ok (.fr (.int (if b < a then b else a))) := rfl
theorem l_max : fMax [.int a, .int b] = .ok (.fr (.int (if b > a then b else a))) := rfl
theorem l_lenL : fLen [.lst xs] = .ok (.fr (.int xs.length)) := rfl
theorem l_lenT : fLen [.tup xs] = .ok (.fr (.int xs.length)) := rfl
theorem l_tuple : fTuple [.lst xs] = .ok (.fr (.tup xs)) := rfl
theorem l_tupleT : fTuple [.tup xs] = .ok (.fr (.tup xs)) := rfl
theorem l_list : fList [.lst xs] = .ok (.ow xs) := rfl
theorem l_listT : fList [.tup xs] = .ok (.ow xs) := rfl
theorem l_tup (h : xs.length ≤ lim) : fTup xs = .ok (.fr (.tup xs)) := by unfold fTup; rw [if_pos h]
theorem l_lst (h : xs.length ≤ lim) : fLst xs = .ok (.ow xs) := by unfold fLst; rw [if_pos h]
theorem l_T0 : fIx (.tup (d0 :: r)) (.int 0) = .ok (.fr d0) := by show atD _ 0 = _; unfold atD ixD; simp
theorem l_T1 : fIx (.tup (d0 :: d1 :: r)) (.int 1) = .ok (.fr d1) := by
  show atD _ 1 = _; unfold atD ixD
  rw [if_pos (by omega), if_pos (by simp only [List.length_cons]; omega)]; rfl
theorem l_T2 : fIx (.tup (d0 :: d1 :: d2 :: r)) (.int 2) = .ok (.fr d2) := by
  show atD _ 2 = _; unfold atD ixD
  rw [if_pos (by omega), if_pos (by simp only [List.length_cons]; omega)]; rfl
theorem l_T3 : fIx (.tup (d0 :: d1 :: d2 :: d3 :: r)) (.int 3) = .ok (.fr d3) := by
  show atD _ 3 = _; unfold atD ixD
  rw [if_pos (by omega), if_pos (by simp only [List.length_cons]; omega)]; rfl
theorem l_L0 : fIx (.lst (d0 :: r)) (.int 0) = .ok (.fr d0) := l_T0
theorem l_L1 : fIx (.lst (d0 :: d1 :: r)) (.int 1) = .ok (.fr d1) := l_T1
theorem l_L2 : fIx (.lst (d0 :: d1 :: d2 :: r)) (.int 2) = .ok (.fr d2) := l_T2
theorem l_L3 : fIx (.lst (d0 :: d1 :: d2 :: d3 :: r)) (.int 3) = .ok (.fr d3) := l_T3
theorem l_eqI : fEq (.int a) (.int b) = .ok (.fr (.bl (decide (a = b)))) := fEq_int a b
theorem l_neI : fNe (.int a) (.int b) = .ok (.fr (.bl (!decide (a = b)))) := fNe_int a b
theorem l_seqL : asSeq (.lst xs) = .ok xs := rfl
theorem l_seqT : asSeq (.tup xs) = .ok xs := rfl
theorem l_ixL {j : Int} (h : 0 ≤ j ∧ j < xs.length) : fIx (.lst xs) (.int j) = .ok (.fr (xs.getD j.toNat .non)) := by
  obtain ⟨n, rfl⟩ : ∃ n : Nat, j = n := ⟨j.toNat, by omega⟩
  have hn : n < xs.length := by omega
  rw [Int.toNat_natCast]
  exact ix_at (by rw [List.getD, List.getElem?_eq_getElem hn]; rfl)
theorem l_ixT {j : Int} (h : 0 ≤ j ∧ j < xs.length) : fIx (.tup xs) (.int j) = .ok (.fr (xs.getD j.toNat .non)) := l_ixL h
theorem l_row {zs : List Int} (h : 0 ≤ a ∧ a < zs.length) : fIx (.lst (zs.map .int)) (.int a) = .ok (.fr (.int (at0 zs a))) := ints_at h
theorem l_rowT {zs : List Int} (h : 0 ≤ a ∧ a < zs.length) : fIx (tupI zs) (.int a) = .ok (.fr (.int (at0 zs a))) := ints_at h
theorem l_fld {tab : Nat → Option Nat} {c i : Nat} {fs : List D} (h1 : tab c = some i) (h2 : fs[i]? = some d) : fFld tab (.obj c fs) = .ok (.fr d) := by unfold fFld; simp only [h1, h2]
theorem l_addL {ys : List D} (h : xs.length + ys.length ≤ 1000000) : fAddL (.lst xs) (.lst ys) = .ok (.ow (xs ++ ys)) := fAddL_lst h
theorem asBL_map : ∀ bs : List Bool, asBL (bs.map .bl) = some bs
  | [] => rfl
  | b :: bs => by show (asBL (bs.map .bl)).map (b :: ·) = _; rw [asBL_map bs]; rfl
end
/-! data that _law_same compares -/
theorem goodL_mem {α : Type} {f : α → D} {k : Nat} : ∀ {xs : List α}, (∀ a ∈ xs, goodD k (f a) = true) → goodL k (xs.map f) = true
  | [], _ => by unfold goodL; rfl
  | x :: xs, h => by
    show goodL k (f x :: xs.map f) = true
    unfold goodL
    rw [h x List.mem_cons_self, goodL_mem fun a m => h a (List.mem_cons_of_mem _ m)]; rfl
theorem gd_int (k : Nat) (a : Int) : goodD k (.int a) = true := by cases k <;> rfl
theorem gd_bl (k : Nat) (a : Bool) : goodD k (.bl a) = true := by cases k <;> rfl
theorem gd_tup {k : Nat} {xs : List D} (hl : xs.length ≤ 1000000) (h : goodL k xs = true) : goodD (k + 1) (.tup xs) = true := by
  show (decide (xs.length ≤ 1000000) && goodL k xs) = true
  rw [h, decide_eq_true hl]; rfl
theorem gd_lst {k : Nat} {xs : List D} (hl : xs.length ≤ 1000000) (h : goodL k xs = true) : goodD (k + 1) (.lst xs) = true := by
  show (decide (xs.length ≤ 1000000) && goodL k xs) = true
  rw [h, decide_eq_true hl]; rfl
theorem gd_tints {k : Nat} {xs : List Int} (h : xs.length ≤ 1000000) : goodD (k + 1) (tupI xs) = true := gd_tup (by rw [List.length_map]; exact h) (goodL_mem fun a _ => gd_int k a)
theorem gL_nil (k : Nat) : goodL k [] = true := by unfold goodL; rfl
theorem gL_cons {k : Nat} {d : D} {ds : List D} (h : goodD k d = true) (h2 : goodL k ds = true) : goodL k (d :: ds) = true := by unfold goodL; rw [h, h2]; rfl
theorem x_get {α : Type} {f : α → D} {xs : List α} {k : Nat} {a : α} (h : xs[k]? = some a) : fIx (.tup (xs.map f)) (.int k) = .ok (.fr (f a)) := ix_at (by rw [List.getElem?_map, h]; rfl)
theorem x_getL {α : Type} {f : α → D} {xs : List α} {k : Nat} {a : α} (h : xs[k]? = some a) : fIx (.lst (xs.map f)) (.int k) = .ok (.fr (f a)) := ix_at (by rw [List.getElem?_map, h]; rfl)
/-! texts -/
theorem strOk_of (s : String) : PyData.strOk (Str.ofString s) = true := by
  rw [Str.ofString_eq_toList]
  unfold PyData.strOk
  simp only [List.all_toArray, List.all_map, List.all_eq_true]
  intro c _
  have h : c.val.toNat.isValidChar := c.valid
  simp only [Function.comp, decide_eq_true_eq]
  show c.val.toNat < 1114112
  rcases h with h | h <;> omega
theorem strOk_app (a b : Str) (h : PyData.strOk a = true) (h2 : PyData.strOk b = true) : PyData.strOk (a ++ b) = true := by
  unfold PyData.strOk at *
  show (a.cps ++ b.cps).all _ = true
  rw [Array.all_append, h, h2]; rfl
theorem okE_str {z : Str} (h : PyData.strOk z = true) : okE (.str z) = true := by
  unfold okE
  show (true && SeqAt.shaped (.str z)) = true
  unfold SeqAt.shaped
  rw [show PyData.canLay0 (.str z) = PyData.strOk z by simp [PyData.canLay0], h]
  simp [PyData.depth]
theorem len_app (a b : Str) : (a ++ b).length = a.length + b.length := by
  show (a.cps ++ b.cps).size = _
  exact Array.size_append
theorem x_eqO {env : En} {tab : Nat → Option Fn} {m m2 : M} {c : Nat} {fs : List D} {t s : Sl} {d : D} {f : Fn} (h1 : m env = .ok (.fr (.obj c fs))) (h2 : m2 env = .ok t) (h3 : t.d = d) (h4 : tab c = some f) (h5 : okEq c d = true) (h6 : f [.obj c fs, d] = .ok s) : mEqO tab m m2 env = .ok s := by
  subst h3
  unfold mEqO
  rw [h1]
  show (m2 env).bind _ = _
  rw [h2]
  show (match tab c with | some f => if okEq c t.d = true then f [.obj c fs, t.d] else .st | none => .st) = _
  rw [h4]
  simp only [h5, if_true]
  exact h6
end DM
set_option Elab.async false
set_option linter.all false
set_option maxRecDepth 100000
set_option maxHeartbeats 4000000
namespace K44
open PySem PySem.Spec L2 DL
open PyProof.Rows hiding St

def topS (i : Nat) : Stmt := PySem.Challenge.pw_provedunseen_k44_best_by_one_more_color.main.body.getD i (.Pass ⟨0, 0, 0, 0⟩)
def cat_BadStatement (c : Nat) : Option Bool := match c with
  | 0 => some false
  | 1 => some false
  | 2 => some true
  | 3 => some false
  | 4 => some false
  | _ => none
theorem cat_BadStatement_lt {c : Nat} (h : cat_BadStatement c = some true) : c < 5 := by
  match c, h with
  | 0, _ => exact (by decide)
  | 1, _ => exact (by decide)
  | 2, _ => exact (by decide)
  | 3, _ => exact (by decide)
  | 4, _ => exact (by decide)
  | n + 5, h => cases h
def cat_BadWitness (c : Nat) : Option Bool := match c with
  | 0 => some false
  | 1 => some false
  | 2 => some false
  | 3 => some true
  | 4 => some false
  | _ => none
theorem cat_BadWitness_lt {c : Nat} (h : cat_BadWitness c = some true) : c < 5 := by
  match c, h with
  | 0, _ => exact (by decide)
  | 1, _ => exact (by decide)
  | 2, _ => exact (by decide)
  | 3, _ => exact (by decide)
  | 4, _ => exact (by decide)
  | n + 5, h => cases h
def isv_BadStatement (c : Nat) : Bool := match c with
  | 0 => false
  | 1 => false
  | 2 => true
  | 3 => false
  | 4 => false
  | _ => false
def isv_BadWitness (c : Nat) : Bool := match c with
  | 0 => false
  | 1 => false
  | 2 => false
  | 3 => true
  | 4 => false
  | _ => false
def isv_UnseenError (c : Nat) : Bool := match c with
  | 0 => true
  | 1 => true
  | 2 => true
  | 3 => true
  | 4 => true
  | _ => false
def isv_ValueError (c : Nat) : Bool := match c with
  | 0 => true
  | 1 => true
  | 2 => true
  | 3 => true
  | 4 => true
  | _ => false
structure Tx (K : PySem.W.Frag) (mg : Str → Option Value) (g : G0) : Prop where
  n_ValueError : mg "ValueError" = none
  n_abs : mg "abs" = none
  n_all : mg "all" = none
  n_bool : mg "bool" = none
  n_enumerate : mg "enumerate" = none
  n_int : mg "int" = none
  n_isinstance : mg "isinstance" = none
  n_len : mg "len" = none
  n_list : mg "list" = none
  n_max : mg "max" = none
  n_min : mg "min" = none
  n_range : mg "range" = none
  n_sorted : mg "sorted" = none
  n_str : mg "str" = none
  n_tuple : mg "tuple" = none
  n_type : mg "type" = none
  c_LEAST_COLORS : ∃ t, mg "LEAST_COLORS" = some (.int 2 t)
  c_MOST_COLORS : ∃ t, mg "MOST_COLORS" = some (.int 4 t)
  c_MOST_GATES : ∃ t, mg "MOST_GATES" = some (.int 6 t)
  c_MOST_INPUTS : ∃ t, mg "MOST_INPUTS" = some (.int 4 t)
  c_MOST_NODES : ∃ t, mg "MOST_NODES" = some (.int 6 t)
  e_UnseenError : ECls K mg g 0 "UnseenError"
  e_BadGraph : ECls K mg g 1 "BadGraph"
  e_BadStatement : ECls K mg g 2 "BadStatement"
  e_BadWitness : ECls K mg g 3 "BadWitness"
  e_BadContents : ECls K mg g 4 "BadContents"
  xc : ∀ c, c < 5 → ExcC K (g.cl c)
  exm_BadStatement : ∀ c b, cat_BadStatement c = some b → PySem.W.exmOne K (.ref (g.cl c)) (.ref (g.cl 2)) = some b
  exm_BadWitness : ∀ c b, cat_BadWitness c = some b → PySem.W.exmOne K (.ref (g.cl c)) (.ref (g.cl 3)) = some b
  kit_BadStatement : ∀ c, c < 5 → PySem.W.kitOne K (.ref (g.cl c)) (.ref (g.cl 2)) = some (isv_BadStatement c)
  kit_BadWitness : ∀ c, c < 5 → PySem.W.kitOne K (.ref (g.cl c)) (.ref (g.cl 3)) = some (isv_BadWitness c)
  kit_UnseenError : ∀ c, c < 5 → PySem.W.kitOne K (.ref (g.cl c)) (.ref (g.cl 0)) = some (isv_UnseenError c)
  kit_ValueError : ∀ c, c < 5 → PySem.W.kitOne K (.ref (g.cl c)) (.type "ValueError") = some (isv_ValueError c)

abbrev s_make_graph : Stmt := topS 8
theorem sc_make_graph : FnScope ["nodes", "edges", "joined", "a", "b", "edge"] ["nodes", "edges"] (defScope s_make_graph) := ⟨rfl, rfl, rfl, by decide +kernel, rfl, by decide +kernel, by decide +kernel⟩
def m_make_graph : MS := (sSeq (sIf (tOrM (mTest (mB (mBin fLt (mBV 0) (mB (mC (.int 1)))))) (mTest (mB (mBin fGt (mBV 0) (mB (mC (.int 6))))))) (sRaise1 1 (mJoin [(mB (mC (.str (Str.ofString "a graph has 1 to ")))), (mB (mUn fFmt (mB (mC (.int 6))))), (mB (mC (.str (Str.ofString " nodes"))))])) sNop)
    (sSeq (sSet 2 (mCall fLst mNil))
    (sSeq (sFor (mIter (mVar 1)) (.tp [3, 4]) (sSeq (sSet 5 (mCall fTup (mCons (mCall fMin (bCons (mBV 3) (bCons (mBV 4) bNil))) (mCons (mCall fMax (bCons (mBV 3) (bCons (mBV 4) bNil))) mNil))))
    (sSeq (sIf (tOrM (mTest (mB (mBin fLt (mB (mBin fIx (mBV 5) (mB (mC (.int 0))))) (mB (mC (.int 0)))))) (mTest (mB (mBin fGe (mB (mBin fIx (mBV 5) (mB (mC (.int 1))))) (mBV 0))))) (sRaise 1) sNop)
    (sSeq (sIf (mTest (mB (mBin fEq (mBV 3) (mBV 4)))) (sRaise 1) sNop)
    (sSeq (sIf (mTest (mB (mBin fIn (mBV 5) (mBV 2)))) (sRaise 1) sNop)
    (sApp 2 (mVar 5)))))))
    (sRet (mCall fTup (mCons (mVar 0) (mCons (mCall fTuple (bCons (mB (mCall fSorted (bCons (mBV 2) bNil))) bNil)) mNil)))))))
def f_make_graph : Fn := runF 2 6 m_make_graph

abbrev s_alike : Stmt := topS 14
theorem sc_alike : FnScope ["first", "second"] ["first", "second"] (defScope s_alike) := ⟨rfl, rfl, rfl, by decide +kernel, rfl, by decide +kernel, by decide +kernel⟩
def m_alike : MS := (sSeq (sIf (mTest (mB (mBin fNe (mB (mBin fIx (mBV 0) (mB (mC (.int 0))))) (mB (mBin fIx (mBV 1) (mB (mC (.int 0)))))))) (sRaise 2) sNop)
    (sRet (mCall fTup (mCons (mC (.str (Str.ofString "alike"))) (mCons (mVar 0) (mCons (mVar 1) mNil))))))
def f_alike : Fn := runF 2 2 m_alike

abbrev s_is_gate : Stmt := topS 16
theorem sc_is_gate : FnScope ["gate", "own", "wires", "wire"] ["gate", "own"] (defScope s_is_gate) := ⟨rfl, rfl, rfl, by decide +kernel, rfl, by decide +kernel, by decide +kernel⟩
def m_is_gate : MS := (sSeq (sIf (tOrM (tNotM (mTest (mB (mUn (fIs .tuple) (mBV 0))))) (mTest (mB (mBin fEq (mB (mCall fLen (bCons (mBV 0) bNil))) (mB (mC (.int 0))))))) (sRet (mC (.bl false))) sNop)
    (sSeq (sIf (mTest (mB (mBin fNotIn (mB (mBin fIx (mBV 0) (mB (mC (.int 0))))) (mB (mCall fTup (mCons (mC (.str (Str.ofString "not"))) (mCons (mC (.str (Str.ofString "and"))) (mCons (mC (.str (Str.ofString "or"))) (mCons (mC (.str (Str.ofString "xor"))) mNil))))))))) (sRet (mC (.bl false))) sNop)
    (sSeq (sSet 2 (mSl (mBV 0) (oSome (mB (mC (.int 1)))) oNone))
    (sSeq (sIf (mTest (mB (mBin fNe (mB (mCall fLen (bCons (mBV 2) bNil))) (mB (mIf (mTest (mB (mBin fEq (mB (mBin fIx (mBV 0) (mB (mC (.int 0))))) (mB (mC (.str (Str.ofString "not"))))))) (mC (.int 1)) (mC (.int 2))))))) (sRet (mC (.bl false))) sNop)
    (sFrz [2] (sRet (mCall fAll (bCons (mB (mComp (mIter (mVar 2)) (.nm 3) tYesM (mAnd (mB (mUn (fTyIs .int) (mBV 3))) (mB (mChain fLe fLt (mB (mC (.int 0))) (mBV 3) (mBV 1)))) [3])) bNil))))))))
def f_is_gate : Fn := runF 2 4 m_is_gate

abbrev s_circuit : Stmt := topS 15
theorem sc_circuit : FnScope ["inputs", "gates", "place", "gate"] ["inputs", "gates"] (defScope s_circuit) := ⟨rfl, rfl, rfl, by decide +kernel, rfl, by decide +kernel, by decide +kernel⟩
def m_circuit : MS := (sSeq (sIf (tOrM (mTest (mB (mBin fLt (mBV 0) (mB (mC (.int 1)))))) (mTest (mB (mBin fGt (mBV 0) (mB (mC (.int 4))))))) (sRaise1 2 (mJoin [(mB (mC (.str (Str.ofString "a circuit has 1 to ")))), (mB (mUn fFmt (mB (mC (.int 4))))), (mB (mC (.str (Str.ofString " inputs"))))])) sNop)
    (sSeq (sIf (tOrM (mTest (mB (mBin fLt (mB (mCall fLen (bCons (mBV 1) bNil))) (mB (mC (.int 1)))))) (mTest (mB (mBin fGt (mB (mCall fLen (bCons (mBV 1) bNil))) (mB (mC (.int 6))))))) (sRaise1 2 (mJoin [(mB (mC (.str (Str.ofString "a circuit has 1 to ")))), (mB (mUn fFmt (mB (mC (.int 6))))), (mB (mC (.str (Str.ofString " gates"))))])) sNop)
    (sSeq (sFor (mEnum (mVar 1)) (.tp [2, 3]) (sIf (tNotM (mTest (mB (mCall f_is_gate (mCons (mVar 3) (mCons (mBin fAddL (mBV 0) (mBV 2)) mNil)))))) (sRaise1 2 (mJoin [(mB (mC (.str (Str.ofString "the gate ")))), (mB (mUn fFmt (mBV 2))), (mB (mC (.str (Str.ofString " is not one of this circuit"))))])) sNop))
    (sRet (mCall fTup (mCons (mC (.str (Str.ofString "circuit"))) (mCons (mVar 0) (mCons (mCall fTuple (bCons (mBV 1) bNil)) mNil))))))))
def f_circuit : Fn := runF 2 4 m_circuit

abbrev s_colors : Stmt := topS 17
theorem sc_colors : FnScope ["graph", "count"] ["graph", "count"] (defScope s_colors) := ⟨rfl, rfl, rfl, by decide +kernel, rfl, by decide +kernel, by decide +kernel⟩
def m_colors : MS := (sSeq (sIf (mTest (mB (mBin fEq (mB (mCall fLen (bCons (mB (mBin fIx (mBV 0) (mB (mC (.int 1))))) bNil))) (mB (mC (.int 0)))))) (sRaise 2) sNop)
    (sSeq (sIf (tOrM (mTest (mB (mBin fLt (mBV 1) (mB (mC (.int 2)))))) (mTest (mB (mBin fGt (mBV 1) (mB (mC (.int 4))))))) (sRaise1 2 (mJoin [(mB (mC (.str (Str.ofString "there are ")))), (mB (mUn fFmt (mB (mC (.int 2))))), (mB (mC (.str (Str.ofString " to ")))), (mB (mUn fFmt (mB (mC (.int 4))))), (mB (mC (.str (Str.ofString " colors"))))])) sNop)
    (sRet (mCall fTup (mCons (mC (.str (Str.ofString "colors"))) (mCons (mVar 0) (mCons (mVar 1) mNil)))))))
def f_colors : Fn := runF 2 2 m_colors

abbrev s_require_kind : Stmt := topS 18
theorem sc_require_kind : FnScope ["statement", "kind"] ["statement", "kind"] (defScope s_require_kind) := ⟨rfl, rfl, rfl, by decide +kernel, rfl, by decide +kernel, by decide +kernel⟩
def m_require_kind : MS := (sIf (mTest (mB (mBin fNe (mB (mBin fIx (mBV 0) (mB (mC (.int 0))))) (mBV 1)))) (sRaise1 2 (mJoin [(mB (mC (.str (Str.ofString "this is no statement of the kind ")))), (mB (mUn fFmt (mBV 1)))])) sNop)
def f_require_kind : Fn := runF 2 2 m_require_kind

abbrev s_rows_of : Stmt := topS 20
theorem sc_rows_of : FnScope ["size", "count", "rows", "_", "row", "entry"] ["size", "count"] (defScope s_rows_of) := ⟨rfl, rfl, rfl, by decide +kernel, rfl, by decide +kernel, by decide +kernel⟩
def m_rows_of : MS := (sSeq (sSet 2 (mCall fLst (mCons (mCall fTup mNil) mNil)))
    (sSeq (sFor (mRng1 (mBV 0)) (.nm 3) (sFrz [2] (sSet 2 (mComp2 (mIter (mVar 2)) (.nm 4) tYesM (mRng1 (mBV 1)) (.nm 5) tYesM (mBin fAddL (mBV 4) (mB (mCall fTup (mCons (mVar 5) mNil)))) [4, 5] [5]))))
    (sRetV 2)))
def f_rows_of : Fn := runF 2 6 m_rows_of

abbrev s_are_different_colors : Stmt := topS 22
theorem sc_are_different_colors : FnScope ["first", "second", "count"] ["first", "second", "count"] (defScope s_are_different_colors) := ⟨rfl, rfl, rfl, by decide +kernel, rfl, by decide +kernel, by decide +kernel⟩
def m_are_different_colors : MS := (sRet (mAnd (mB (mBin fNe (mBV 0) (mBV 1))) (mB (mAnd (mB (mChain fLe fLt (mB (mC (.int 0))) (mBV 0) (mBV 2))) (mB (mChain fLe fLt (mB (mC (.int 0))) (mBV 1) (mBV 2)))))))
def f_are_different_colors : Fn := runF 3 3 m_are_different_colors

abbrev s_proper_edges : Stmt := topS 23
theorem sc_proper_edges : FnScope ["statement", "contents", "_", "count", "nodes", "edges", "number", "a", "b"] ["statement", "contents"] (defScope s_proper_edges) := ⟨rfl, rfl, rfl, by decide +kernel, rfl, by decide +kernel, by decide +kernel⟩
def m_proper_edges : MS := (sSeq (sDrop (mCall f_require_kind (mCons (mVar 0) (mCons (mC (.str (Str.ofString "colors"))) mNil))))
    (sSeq (sUnp (.tn [(.n 2), (.t [4, 5]), (.n 3)]) (mVar 0))
    (sSeq (sIf (mTest (mB (mBin fNe (mB (mCall fLen (bCons (mBV 1) bNil))) (mBV 4)))) (sRaise 4) sNop)
    (sRet (mCall fTuple (bCons (mB (mComp (mEnum (mVar 5)) (.tn [(.n 6), (.t [7, 8])]) (mTest (mB (mCall f_are_different_colors (mCons (mBin fIx (mBV 1) (mBV 7)) (mCons (mBin fIx (mBV 1) (mBV 8)) (mCons (mVar 3) mNil)))))) (mVar 6) [6, 7, 8])) bNil))))))
def f_proper_edges : Fn := runF 2 9 m_proper_edges

abbrev s_best_coloring : Stmt := topS 24
theorem sc_best_coloring : FnScope ["statement", "start", "_", "graph", "count", "color", "best", "rest", "coloring", "number"] ["statement", "start"] (defScope s_best_coloring) := ⟨rfl, rfl, rfl, by decide +kernel, rfl, by decide +kernel, by decide +kernel⟩
def m_best_coloring : MS := (sSeq (sDrop (mCall f_require_kind (mCons (mVar 0) (mCons (mC (.str (Str.ofString "colors"))) mNil))))
    (sSeq (sUnp (.tp [2, 3, 4]) (mVar 0))
    (sSeq (sIf (mTest (mB (mBin fGt (mB (mCall fLen (bCons (mBV 1) bNil))) (mB (mBin fIx (mBV 3) (mB (mC (.int 0)))))))) (sRaise 3) sNop)
    (sSeq (sIf (tNotM (mTest (mB (mCall fAll (bCons (mB (mComp (mIter (mVar 1)) (.nm 5) tYesM (mChain fLe fLt (mB (mC (.int 0))) (mBV 5) (mBV 4)) [5])) bNil))))) (sRaise 3) sNop)
    (sSeq (sSet 6 (mCall fTup (mCons (mUn fNeg (mB (mC (.int 1)))) (mCons (mCall fTup mNil) mNil))))
    (sSeq (sFor (mIter (mCall f_rows_of (mCons (mBin fSub (mB (mBin fIx (mBV 3) (mB (mC (.int 0))))) (mB (mCall fLen (bCons (mBV 1) bNil)))) (mCons (mVar 4) mNil)))) (.nm 7) (sSeq (sSet 8 (mBin fAddL (mBV 1) (mBV 7)))
    (sSeq (sSet 9 (mCall fLen (bCons (mB (mCall f_proper_edges (mCons (mVar 0) (mCons (mVar 8) mNil)))) bNil)))
    (sIf (mTest (mB (mBin fGt (mBV 9) (mB (mBin fIx (mBV 6) (mB (mC (.int 0)))))))) (sSet 6 (mCall fTup (mCons (mVar 9) (mCons (mVar 8) mNil)))) sNop))))
    (sRetV 6)))))))
def f_best_coloring : Fn := runF 2 10 m_best_coloring

abbrev s_L_cell : Stmt := topS 26
theorem sc_L_cell : FnScope ["script", "k"] ["script", "k"] (defScope s_L_cell) := ⟨rfl, rfl, rfl, by decide +kernel, rfl, by decide +kernel, by decide +kernel⟩
def m_L_cell : MS := (sSeq (sIf (mTest (mB (mBin fLt (mBV 1) (mB (mCall fLen (bCons (mBV 0) bNil)))))) (sRet (mCall fInt (bCons (mB (mBin fIx (mBV 0) (mBV 1))) bNil))) sNop)
    (sSeq (sIf (mTest (mB (mBin fGt (mB (mCall fLen (bCons (mBV 0) bNil))) (mB (mC (.int 0)))))) (sRet (mBin fAddL (mB (mBin fMul (mB (mCall fInt (bCons (mB (mBin fIx (mBV 0) (mB (mC (.int 0))))) bNil))) (mB (mBin fAddL (mB (mBin fMul (mB (mC (.int 2))) (mBV 1))) (mB (mC (.int 3))))))) (mB (mBin fMul (mB (mC (.int 977))) (mBV 1))))) sNop)
    (sRet (mBin fMul (mB (mC (.int 977))) (mBV 1)))))
def f_L_cell : Fn := runF 2 2 m_L_cell

abbrev s_L_numbers : Stmt := topS 27
theorem sc_L_numbers : FnScope ["cell", "many", "number", "mixed", "row", "k"] ["cell", "many"] (defScope s_L_numbers) := ⟨rfl, rfl, rfl, by decide +kernel, rfl, by decide +kernel, by decide +kernel⟩
def m_L_numbers : MS := (sSeq (sSet 2 (mCall fAbs (bCons (mB (mCall fInt (bCons (mBV 0) bNil))) bNil)))
    (sSeq (sSet 3 (mBin fAddL (mB (mBin fMod (mB (mCall fInt (bCons (mBV 2) bNil))) (mB (mC (.int 2147483629))))) (mB (mC (.int 1)))))
    (sSeq (sSet 4 (mCall fLst mNil))
    (sSeq (sFor (mRng1 (mBV 1)) (.nm 5) (sIf (mTest (mB (mBin fGe (mBV 2) (mB (mC (.int 5040)))))) (sSeq (sApp 4 (mBin fMod (mB (mCall fInt (bCons (mBV 2) bNil))) (mB (mC (.int 5040)))))
    (sSet 2 (mBin fDiv (mBV 2) (mB (mC (.int 5040)))))) (sSeq (sSet 3 (mBin fMod (mB (mCall fInt (bCons (mB (mBin fAddL (mB (mBin fMul (mBV 3) (mB (mC (.int 48271))))) (mB (mBin fMul (mB (mC (.int 69621))) (mB (mBin fAddL (mBV 5) (mB (mC (.int 1))))))))) bNil))) (mB (mC (.int 2147483647)))))
    (sApp 4 (mBin fMod (mB (mBin fDiv (mB (mBin fMod (mB (mCall fInt (bCons (mB (mBin fAddL (mB (mBin fDiv (mB (mBin fMul (mBV 3) (mBV 3))) (mB (mC (.int 7))))) (mB (mBin fMul (mB (mC (.int 3))) (mBV 3))))) bNil))) (mB (mC (.int 2147483629))))) (mB (mC (.int 11))))) (mB (mC (.int 5040))))))))
    (sRetV 4)))))
def f_L_numbers : Fn := runF 2 6 m_L_numbers

abbrev s_L_same : Stmt := topS 28
theorem sc_L_same : FnScope ["value", "due", "k"] ["value", "due"] (defScope s_L_same) := ⟨rfl, rfl, rfl, by decide +kernel, rfl, by decide +kernel, by decide +kernel⟩
def m_L_same (self : Fn) : MS := (sSeq (sIf (tOrM (mTest (mB (mUn (fIs .tuple) (mBV 1)))) (mTest (mB (mUn (fIs .list) (mBV 1))))) (sSeq (sIf (tOrM (mTest (mB (mBin fNe (mB (mUn (fIs .tuple) (mBV 1))) (mB (mUn (fIs .tuple) (mBV 0)))))) (mTest (mB (mBin fNe (mB (mUn (fIs .list) (mBV 1))) (mB (mUn (fIs .list) (mBV 0))))))) (sRet (mC (.bl false))) sNop)
    (sSeq (sIf (mTest (mB (mBin fNe (mB (mCall fLen (bCons (mBV 0) bNil))) (mB (mCall fLen (bCons (mBV 1) bNil)))))) (sRet (mC (.bl false))) sNop)
    (sSeq (sFor (mRng1 (mB (mCall fLen (bCons (mBV 1) bNil)))) (.nm 2) (sIf (tNotM (mTest (mB (mCall self (mCons (mBin fIx (mBV 0) (mBV 2)) (mCons (mBin fIx (mBV 1) (mBV 2)) mNil)))))) (sRet (mC (.bl false))) sNop))
    (sRet (mC (.bl true)))))) sNop)
    (sSeq (sIf (mTest (mB (mBin fIsN (mBV 1) (mB (mC .non))))) (sRet (mBin fIsN (mBV 0) (mB (mC .non)))) sNop)
    (sSeq (sIf (mTest (mB (mUn (fIs .bool) (mBV 1)))) (sRet (mAnd (mB (mUn (fIs .bool) (mBV 0))) (mB (mBin fEq (mBV 0) (mBV 1))))) sNop)
    (sSeq (sIf (mTest (mB (mUn (fIs .str) (mBV 1)))) (sRet (mAnd (mB (mUn (fIs .str) (mBV 0))) (mB (mBin fEq (mBV 0) (mBV 1))))) sNop)
    (sRet (mAnd (mB (mUn (fIs .int) (mBV 0))) (mB (mAnd (mB (mNot (mB (mUn (fIs .bool) (mBV 0))))) (mB (mBin fEq (mBV 0) (mBV 1)))))))))))
def f_L_same : Fn := recF 2 3 m_L_same 8

abbrev s_L_pairs : Stmt := topS 29
theorem sc_L_pairs : FnScope ["nodes", "pairs", "a", "b"] ["nodes"] (defScope s_L_pairs) := ⟨rfl, rfl, rfl, by decide +kernel, rfl, by decide +kernel, by decide +kernel⟩
def m_L_pairs : MS := (sSeq (sSet 1 (mCall fLst mNil))
    (sSeq (sFor (mRng1 (mBV 0)) (.nm 2) (sFor (mRng2 (mB (mBin fAddL (mBV 2) (mB (mC (.int 1))))) (mBV 0)) (.nm 3) (sApp 1 (mCall fTup (mCons (mVar 2) (mCons (mVar 3) mNil))))))
    (sRetV 1)))
def f_L_pairs : Fn := runF 1 4 m_L_pairs

abbrev s_L_edges : Stmt := topS 30
theorem sc_L_edges : FnScope ["size", "row", "pairs", "limit", "edges", "k"] ["size", "row"] (defScope s_L_edges) := ⟨rfl, rfl, rfl, by decide +kernel, rfl, by decide +kernel, by decide +kernel⟩
def m_L_edges : MS := (sSeq (sSet 2 (mCall f_L_pairs (mCons (mVar 0) mNil)))
    (sSeq (sSet 3 (mBin fIx (mB (mCall fLst (mCons (mC (.int 6)) (mCons (mC (.int 5)) (mCons (mC (.int 3)) (mCons (mC (.int 2)) mNil)))))) (mB (mBin fMod (mB (mCall fInt (bCons (mB (mBin fIx (mBV 1) (mB (mC (.int 0))))) bNil))) (mB (mC (.int 4)))))))
    (sSeq (sSet 4 (mComp (mRng1 (mB (mCall fLen (bCons (mBV 2) bNil)))) (.nm 5) (mTest (mB (mBin fLt (mB (mBin fMod (mB (mCall fInt (bCons (mB (mBin fIx (mBV 1) (mB (mBin fAddL (mB (mC (.int 1))) (mBV 5))))) bNil))) (mB (mC (.int 6))))) (mBV 3)))) (mBin fIx (mBV 2) (mBV 5)) [5]))
    (sSeq (sIf (mTest (mB (mBin fEq (mB (mCall fLen (bCons (mBV 4) bNil))) (mB (mC (.int 0)))))) (sSet 4 (mCall fLst (mCons (mBin fIx (mBV 2) (mB (mBin fMod (mB (mCall fInt (bCons (mB (mBin fIx (mBV 1) (mB (mC (.int 16))))) bNil))) (mB (mCall fLen (bCons (mBV 2) bNil)))))) mNil))) sNop)
    (sRetV 4)))))
def f_L_edges : Fn := runF 2 6 m_L_edges

abbrev s_L_statement : Stmt := topS 31
theorem sc_L_statement : FnScope ["size", "edges", "count", "edge"] ["size", "edges", "count"] (defScope s_L_statement) := ⟨rfl, rfl, rfl, by decide +kernel, rfl, by decide +kernel, by decide +kernel⟩
def m_L_statement : MS := (sRet (mCall f_colors (mCons (mCall f_make_graph (mCons (mVar 0) (mCons (mComp (mIter (mVar 1)) (.nm 3) tYesM (mCall fTup (mCons (mBin fIx (mBV 3) (mB (mC (.int 1)))) (mCons (mBin fIx (mBV 3) (mB (mC (.int 0)))) mNil))) [3]) mNil))) (mCons (mVar 2) mNil))))
def f_L_statement : Fn := runF 3 4 m_L_statement

abbrev s_L_number : Stmt := topS 32
theorem sc_L_number : FnScope ["edges", "row", "edge"] ["edges", "row"] (defScope s_L_number) := ⟨rfl, rfl, rfl, by decide +kernel, rfl, by decide +kernel, by decide +kernel⟩
def m_L_number : MS := (sRet (mCall fLen (bCons (mB (mComp (mIter (mVar 0)) (.nm 2) (mTest (mB (mBin fNe (mB (mBin fIx (mBV 1) (mB (mBin fIx (mBV 2) (mB (mC (.int 0))))))) (mB (mBin fIx (mBV 1) (mB (mBin fIx (mBV 2) (mB (mC (.int 1)))))))))) (mVar 2) [2])) bNil)))
def f_L_number : Fn := runF 2 3 m_L_number

abbrev s_L_best : Stmt := topS 33
theorem sc_L_best : FnScope ["size", "edges", "count", "begun", "rows", "color", "k", "grown", "row", "best", "number"] ["size", "edges", "count", "begun"] (defScope s_L_best) := ⟨rfl, rfl, rfl, by decide +kernel, rfl, by decide +kernel, by decide +kernel⟩
def m_L_best : MS := (sSeq (sSet 4 (mCall fLst (mCons (mComp (mIter (mVar 3)) (.nm 5) tYesM (mVar 5) [5]) mNil)))
    (sSeq (sFor (mRng1 (mB (mBin fSub (mBV 0) (mB (mCall fLen (bCons (mBV 3) bNil)))))) (.nm 6) (sSeq (sSet 7 (mCall fLst mNil))
    (sSeq (sFrz [4] (sFor (mIter (mVar 4)) (.nm 8) (sFor (mRng1 (mBV 2)) (.nm 5) (sApp 7 (mBin fAddL (mBV 8) (mB (mCall fLst (mCons (mVar 5) mNil))))))))
    (sFrz [7] (sSet 4 (mComp (mIter (mVar 7)) (.nm 8) tYesM (mVar 8) [8]))))))
    (sSeq (sSet 9 (mCall fTup (mCons (mUn fNeg (mB (mC (.int 1)))) (mCons (mCall fTup mNil) mNil))))
    (sSeq (sFrz [4] (sFor (mIter (mVar 4)) (.nm 8) (sSeq (sSet 10 (mCall f_L_number (mCons (mVar 1) (mCons (mVar 8) mNil))))
    (sIf (mTest (mB (mBin fGt (mBV 10) (mB (mBin fIx (mBV 9) (mB (mC (.int 0)))))))) (sFrz [10] (sSet 9 (mCall fTup (mCons (mVar 10) (mCons (mCall fTuple (bCons (mBV 8) bNil)) mNil))))) sNop))))
    (sRetV 9)))))
def f_L_best : Fn := runF 4 11 m_L_best

abbrev s_L_is_told : Stmt := topS 34
theorem sc_L_is_told : FnScope ["told", "size", "edges", "count", "begun", "k", "color"] ["told", "size", "edges", "count", "begun"] (defScope s_L_is_told) := ⟨rfl, rfl, rfl, by decide +kernel, rfl, by decide +kernel, by decide +kernel⟩
def m_L_is_told : MS := (sSeq (sIf (tOrM (tNotM (mTest (mB (mUn (fIs .tuple) (mBV 0))))) (tOrM (mTest (mB (mBin fNe (mB (mCall fLen (bCons (mBV 0) bNil))) (mB (mC (.int 2)))))) (tOrM (tNotM (mTest (mB (mUn (fIs .tuple) (mB (mBin fIx (mBV 0) (mB (mC (.int 1))))))))) (mTest (mB (mBin fNe (mB (mCall fLen (bCons (mB (mBin fIx (mBV 0) (mB (mC (.int 1))))) bNil))) (mBV 1))))))) (sRet (mC (.bl false))) sNop)
    (sSeq (sFor (mRng1 (mBV 1)) (.nm 5) (sSeq (sSet 6 (mBin fIx (mB (mBin fIx (mBV 0) (mB (mC (.int 1))))) (mBV 5)))
    (sSeq (sIf (tOrM (tNotM (mTest (mB (mUn (fIs .int) (mBV 6))))) (tOrM (mTest (mB (mUn (fIs .bool) (mBV 6)))) (tOrM (mTest (mB (mBin fLt (mBV 6) (mB (mC (.int 0)))))) (mTest (mB (mBin fGe (mBV 6) (mBV 3))))))) (sRet (mC (.bl false))) sNop)
    (sIf (tAndM (mTest (mB (mBin fLt (mBV 5) (mB (mCall fLen (bCons (mBV 4) bNil)))))) (mTest (mB (mBin fNe (mBV 6) (mB (mBin fIx (mBV 4) (mBV 5))))))) (sRet (mC (.bl false))) sNop))))
    (sRet (mCall f_L_same (mCons (mBin fIx (mBV 0) (mB (mC (.int 0)))) (mCons (mCall f_L_number (mCons (mVar 2) (mCons (mBin fIx (mBV 0) (mB (mC (.int 1)))) mNil))) mNil))))))
def f_L_is_told : Fn := runF 5 7 m_L_is_told

abbrev s_L_best_told : Stmt := topS 35
theorem sc_L_best_told : FnScope ["statement", "size", "edges", "count", "begun", "told", "longer", "color", "best", "pair"] ["statement", "size", "edges", "count", "begun"] (defScope s_L_best_told) := ⟨rfl, rfl, rfl, by decide +kernel, rfl, by decide +kernel, by decide +kernel⟩
def m_L_best_told : MS := (sSeq (sSet 5 (mCallK 1 f_best_coloring (mCons (mVar 0) mNil) (mVar 4)))
    (sSeq (sSet 6 (mComp (mRng1 (mBV 3)) (.nm 7) tYesM (mCallK 1 f_best_coloring (mCons (mVar 0) mNil) (mBin fAddL (mBV 4) (mB (mCall fTup (mCons (mVar 7) mNil))))) [7]))
    (sSeq (sIf (tNotM (mTest (mB (mCall (lent f_L_is_told) (bCons (mBV 5) (bCons (mBV 1) (bCons (mBV 2) (bCons (mBV 3) (bCons (mBV 4) bNil))))))))) (sRet (mC (.bl false))) sNop)
    (sSeq (sFor (mRng1 (mBV 3)) (.nm 7) (sIf (tNotM (mTest (mB (mCall f_L_is_told (mCons (mBin fIx (mBV 6) (mBV 7)) (mCons (mVar 1) (mCons (mVar 2) (mCons (mVar 3) (mCons (mBin fAddL (mBV 4) (mB (mCall fTup (mCons (mVar 7) mNil)))) mNil))))))))) (sRet (mC (.bl false))) sNop))
    (sSeq (sSet 8 (mBin fIx (mBV 6) (mB (mC (.int 0)))))
    (sSeq (sFrz [6] (sFor (mIter (mVar 6)) (.nm 9) (sIf (mTest (mB (mBin fGt (mB (mBin fIx (mBV 9) (mB (mC (.int 0))))) (mB (mBin fIx (mBV 8) (mB (mC (.int 0)))))))) (sSet 8 (mVar 9)) sNop)))
    (sRet (mCall (lent f_L_same) (bCons (mBV 5) (bCons (mBV 8) bNil))))))))))
def f_L_best_told : Fn := runF 5 10 m_L_best_told

abbrev s_L_refusal : Stmt := topS 36
theorem sc_L_refusal : FnScope ["statement", "begun", "e"] ["statement", "begun"] (defScope s_L_refusal) := ⟨rfl, rfl, rfl, by decide +kernel, rfl, by decide +kernel, by decide +kernel⟩
def m_L_refusal : MS := (sTryN 2 (sRet (mCall fTup (mCons (mC (.int 0)) (mCons (mCallK 1 f_best_coloring (mCons (mVar 0) mNil) (mVar 1)) mNil)))) [(cat_BadStatement, fun c p => sup p (sRet (mCall fTup (mCons (mC (.int 1)) (mCons (mAnd (mB (mC (.bl (isv_UnseenError c)))) (mB (mAnd (mB (mC (.bl (isv_ValueError c)))) (mB (mNot (mB (mC (.bl (isv_BadWitness c))))))))) mNil))))), (cat_BadWitness, fun c p => sup p (sRet (mCall fTup (mCons (mC (.int 2)) (mCons (mAnd (mB (mC (.bl (isv_UnseenError c)))) (mB (mAnd (mB (mC (.bl (isv_ValueError c)))) (mB (mNot (mB (mC (.bl (isv_BadStatement c))))))))) mNil)))))])
def f_L_refusal : Fn := runF 2 3 m_L_refusal

abbrev s_L_refused : Stmt := topS 37
theorem sc_L_refused : FnScope ["statement", "size", "count", "begun", "row", "place", "odd", "spoilt", "others", "wrong", "other"] ["statement", "size", "count", "begun", "row"] (defScope s_L_refused) := ⟨rfl, rfl, rfl, by decide +kernel, rfl, by decide +kernel, by decide +kernel⟩
def m_L_refused : MS := (sSeq (sSet 5 (mBin fMod (mB (mCall fInt (bCons (mB (mBin fIx (mBV 4) (mB (mC (.int 6))))) bNil))) (mBV 1)))
    (sSeq (sSet 6 (mBin fIx (mB (mCall fLst (mCons (mVar 2) (mCons (mUn fNeg (mB (mC (.int 1)))) (mCons (mC (.int 99)) (mCons (mBin fAddL (mBV 2) (mB (mCall fInt (bCons (mB (mBin fIx (mBV 4) (mB (mC (.int 7))))) bNil)))) mNil)))))) (mB (mBin fMod (mB (mCall fInt (bCons (mB (mBin fIx (mBV 4) (mB (mC (.int 8))))) bNil))) (mB (mC (.int 4)))))))
    (sSeq (sSet 7 (mBin fAddL (mB (mBin fAddL (mB (mSl (mBV 3) oNone (oSome (mBV 5)))) (mB (mCall fTup (mCons (mVar 6) mNil))))) (mB (mSl (mBV 3) (oSome (mB (mBin fAddL (mBV 5) (mB (mC (.int 1)))))) oNone))))
    (sSeq (sSet 8 (mCall fLst (mCons (mCall f_circuit (mCons (mC (.int 1)) (mCons (mCall fLst (mCons (mCall fTup (mCons (mC (.str (Str.ofString "not"))) (mCons (mC (.int 0)) mNil))) mNil)) mNil))) (mCons (mCall f_alike (mCons (mBin fIx (mBV 0) (mB (mC (.int 1)))) (mCons (mBin fIx (mBV 0) (mB (mC (.int 1)))) mNil))) mNil))))
    (sSeq (sFor (mIter (mCall fLst (mCons (mBin fAddL (mBV 3) (mB (mCall fTup (mCons (mC (.int 0)) mNil)))) (mCons (mVar 7) (mCons (mSl (mBV 7) oNone (oSome (mB (mBin fAddL (mBV 5) (mB (mC (.int 1))))))) (mCons (mBin fAddL (mBV 3) (mBV 3)) (mCons (mBin fAddL (mBV 7) (mB (mCall fTup (mCons (mC (.int 0)) mNil)))) mNil))))))) (.nm 9) (sSeq (sIf (tNotM (mTest (mB (mCall f_L_same (mCons (mCall f_L_refusal (mCons (mVar 0) (mCons (mVar 9) mNil))) (mCons (mCall fTup (mCons (mC (.int 2)) (mCons (mC (.bl true)) mNil))) mNil)))))) (sRet (mC (.bl false))) sNop)
    (sFrz [8] (sFor (mIter (mVar 8)) (.nm 10) (sIf (tNotM (mTest (mB (mCall f_L_same (mCons (mCall f_L_refusal (mCons (mVar 10) (mCons (mVar 9) mNil))) (mCons (mCall fTup (mCons (mC (.int 1)) (mCons (mC (.bl true)) mNil))) mNil)))))) (sRet (mC (.bl false))) sNop)))))
    (sSeq (sFrz [8] (sFor (mIter (mVar 8)) (.nm 10) (sIf (tOrM (tNotM (mTest (mB (mCall f_L_same (mCons (mCall f_L_refusal (mCons (mVar 10) (mCons (mVar 3) mNil))) (mCons (mCall fTup (mCons (mC (.int 1)) (mCons (mC (.bl true)) mNil))) mNil)))))) (tNotM (mTest (mB (mCall f_L_same (mCons (mCall f_L_refusal (mCons (mVar 10) (mCons (mCall fTup mNil) mNil))) (mCons (mCall fTup (mCons (mC (.int 1)) (mCons (mC (.bl true)) mNil))) mNil))))))) (sRet (mC (.bl false))) sNop)))
    (sRet (mC (.bl true)))))))))
def f_L_refused : Fn := runF 5 11 m_L_refused

abbrev s_law : Stmt := topS 38
theorem sc_law : FnScope ["script", "row", "size", "count", "graphs", "statements", "edges", "drawn", "begun", "k", "place", "due", "told"] ["script"] (defScope s_law) := ⟨rfl, rfl, rfl, by decide +kernel, rfl, by decide +kernel, by decide +kernel⟩
def m_law : MS := (sSeq (sSet 1 (mCall f_L_numbers (mCons (mCall f_L_cell (mCons (mVar 0) (mCons (mC (.int 0)) mNil))) (mCons (mC (.int 12)) mNil))))
    (sSeq (sSet 2 (mBin fIx (mB (mCall fLst (mCons (mC (.int 6)) (mCons (mC (.int 6)) (mCons (mC (.int 5)) (mCons (mC (.int 4)) (mCons (mC (.int 3)) (mCons (mC (.int 2)) mNil)))))))) (mB (mBin fMod (mB (mCall fInt (bCons (mB (mBin fIx (mBV 1) (mB (mC (.int 0))))) bNil))) (mB (mC (.int 6)))))))
    (sSeq (sSet 3 (mBin fAddL (mB (mC (.int 2))) (mB (mBin fMod (mB (mCall fInt (bCons (mB (mBin fIx (mBV 1) (mB (mC (.int 1))))) bNil))) (mB (mC (.int 3)))))))
    (sSeq (sSet 4 (mCall fLst (mCons (mCall f_L_edges (mCons (mVar 2) (mCons (mCall f_L_numbers (mCons (mCall f_L_cell (mCons (mVar 0) (mCons (mC (.int 1)) mNil))) (mCons (mC (.int 17)) mNil))) mNil))) (mCons (mCall f_L_edges (mCons (mVar 2) (mCons (mCall f_L_numbers (mCons (mCall f_L_cell (mCons (mVar 0) (mCons (mC (.int 2)) mNil))) (mCons (mC (.int 17)) mNil))) mNil))) mNil))))
    (sSeq (sFrz [4] (sSet 5 (mComp (mIter (mVar 4)) (.nm 6) tYesM (mCall f_L_statement (mCons (mVar 2) (mCons (mVar 6) (mCons (mVar 3) mNil)))) [6])))
    (sSeq (sSet 7 (mCall f_L_numbers (mCons (mCall f_L_cell (mCons (mVar 0) (mCons (mC (.int 3)) mNil))) (mCons (mC (.int 6)) mNil))))
    (sSeq (sSet 8 (mCall fTup mNil))
    (sSeq (sFor (mRng1 (mBV 2)) (.nm 9) (sSeq (sIf (tNotM (mTest (mB (mCall f_L_best_told (mCons (mBin fIx (mBV 5) (mB (mC (.int 0)))) (mCons (mVar 2) (mCons (mBin fIx (mBV 4) (mB (mC (.int 0)))) (mCons (mVar 3) (mCons (mVar 8) mNil))))))))) (sRet (mC (.bl false))) sNop)
    (sSeq (sIf (mTest (mB (mBin fLe (mB (mBin fSub (mBV 2) (mBV 9))) (mB (mC (.int 3)))))) (sFor (mIter (mCall fLst (mCons (mC (.int 1)) (mCons (mC (.int 0)) mNil)))) (.nm 10) (sSeq (sSet 11 (mCall f_L_best (mCons (mVar 2) (mCons (mBin fIx (mBV 4) (mBV 10)) (mCons (mVar 3) (mCons (mVar 8) mNil))))))
    (sIf (tNotM (mTest (mB (mCall (lent f_L_same) (bCons (mB (mCallK 1 f_best_coloring (mCons (mBin fIx (mBV 5) (mBV 10)) mNil) (mVar 8))) (bCons (mBV 11) bNil)))))) (sRet (mC (.bl false))) sNop))) sNop)
    (sSet 8 (mBin fAddL (mBV 8) (mB (mCall fTup (mCons (mBin fMod (mB (mCall fInt (bCons (mB (mBin fIx (mBV 7) (mBV 9))) bNil))) (mBV 3)) mNil))))))))
    (sSeq (sFor (mIter (mCall fLst (mCons (mC (.int 0)) (mCons (mC (.int 1)) mNil)))) (.nm 10) (sSeq (sIf (tNotM (mTest (mB (mCall f_L_same (mCons (mCallK 1 f_best_coloring (mCons (mBin fIx (mBV 5) (mBV 10)) mNil) (mVar 8)) (mCons (mCall fTup (mCons (mCall f_L_number (mCons (mBin fIx (mBV 4) (mBV 10)) (mCons (mVar 8) mNil))) (mCons (mVar 8) mNil))) mNil)))))) (sRet (mC (.bl false))) sNop)
    (sSeq (sSet 12 (mCall (fun ds => f_best_coloring (ds ++ [.tup []])) (mCons (mBin fIx (mBV 5) (mBV 10)) mNil)))
    (sIf (tOrM (tNotM (mTest (mB (mCall (lent f_L_is_told) (bCons (mBV 12) (bCons (mBV 2) (bCons (mB (mBin fIx (mBV 4) (mBV 10))) (bCons (mBV 3) (bCons (mB (mCall fTup mNil)) bNil))))))))) (tNotM (mTest (mB (mCall (lent f_L_same) (bCons (mB (mCallK 1 f_best_coloring (mCons (mBin fIx (mBV 5) (mBV 10)) mNil) (mCall fTup mNil))) (bCons (mBV 12) bNil))))))) (sRet (mC (.bl false))) sNop))))
    (sRet (mCall (lent f_L_refused) (bCons (mB (mBin fIx (mBV 5) (mB (mC (.int 0))))) (bCons (mBV 2) (bCons (mBV 3) (bCons (mBV 8) (bCons (mBV 1) bNil))))))))))))))))
def f_law : Fn := runF 1 13 m_law

section
variable {P : Program} {w : World} {K : PySem.W.Frag} {mg : Str → Option Value} {base : Heap} {g : G0}
theorem hu64 {k : Nat} {A : Around} (hr : Room k A) : A.units + 64 < cLine := hr.units
theorem hu65 {k : Nat} {A : Around} (hr : Room k A) : A.units + 65 < cLine := by have := hr.un; omega
theorem hu64m {k : Nat} {A : Around} {m : Option Value} (hr : Room k A) : (A.mark m).units + 64 < cLine := hr.units
theorem hu65m {k : Nat} {A : Around} {m : Option Value} (hr : Room k A) : (A.mark m).units + 65 < cLine := by
  have := hu65 hr
  exact this
theorem hcat_BadStatement (T : Tx K mg g) : ∀ c b, cat_BadStatement c = some b → PySem.W.exmOne K (.ref (g.cl c)) (.ref (g.cl 2)) = some b := T.exm_BadStatement
theorem hcat_BadWitness (T : Tx K mg g) : ∀ c b, cat_BadWitness c = some b → PySem.W.exmOne K (.ref (g.cl c)) (.ref (g.cl 3)) = some b := T.exm_BadWitness
theorem ok_make_graph {a : Addr} {fd : FuncData} (F : Fun K "make_graph" "make_graph" s_make_graph a fd) (hm : mg "make_graph" = some (.ref a)) (hb : Binds K fd ["nodes", "edges"] []) (T : Tx K mg g) : FD P w K mg base g 1 "make_graph" ["nodes", "edges"] f_make_graph :=
  okF F sc_make_graph hm hb m_make_graph fun cdv A outer s H E hr =>
    (dss_cons (ds_if (dt_w (dw_or (dt_lt (de_v 0) (de_b de_int)) (dw_or1 (dt_gt (de_v 0) (de_b (de_globI rfl T.c_MOST_NODES.choose_spec)))))) (dss_one (ds_raise1 rfl (takes_of rfl rfl rfl rfl) T.e_BadGraph rfl (de_joined (.cons (de_b de_str) (.cons (de_b (de_fmt (de_b (de_globI rfl T.c_MOST_NODES.choose_spec)))) (.cons (de_b de_str) .nil)))))) dss_nil)
      (dss_cons (ds_set (i := 2) hT sc_make_graph.nd rfl (.inl rfl) (de_lst da_nil))
      (dss_cons (ds_for (pt := (.tp [3, 4])) hT (passes_of rfl) rfl (di_seq (de_var 1)) (pg_tup rfl (pgs_cons (pg_name (i := 3) sc_make_graph.nd rfl (.inl rfl)) (pgs_cons (pg_name (i := 4) sc_make_graph.nd rfl (.inl rfl)) pgs_nil))) (dss_cons (ds_set (i := 5) hT sc_make_graph.nd rfl (.inl rfl) (de_tup (da_cons (de_min rfl rfl T.n_min (db_cons (de_v 3) (db_cons (de_v 4) db_nil))) (da_cons (de_max rfl rfl T.n_max (db_cons (de_v 3) (db_cons (de_v 4) db_nil))) da_nil))))
      (dss_cons (ds_if (dt_w (dw_or (dt_lt (de_b (de_ix (de_v 5) (de_b de_int) (fun _ _ => rfl))) (de_b de_int)) (dw_or1 (dt_ge (de_b (de_ix (de_v 5) (de_b de_int) (fun _ _ => rfl))) (de_v 0))))) (dss_one (ds_raise rfl (takes_of rfl rfl rfl rfl) T.e_BadGraph rfl)) dss_nil)
      (dss_cons (ds_if (dt_eq (hu64 hr) (de_v 3) (de_v 4)) (dss_one (ds_raise rfl (takes_of rfl rfl rfl rfl) T.e_BadGraph rfl)) dss_nil)
      (dss_cons (ds_if (dt_in (hu65 hr) (de_v 5) (de_v 2)) (dss_one (ds_raise rfl (takes_of rfl rfl rfl rfl) T.e_BadGraph rfl)) dss_nil)
      (dss_one (ds_app 2 (he := (de_var 5)) (hx := hT))))))))
      (dss_one (ds_ret (de_tup (da_cons (de_var 0) (da_cons (de_tuple rfl T.n_tuple (db_cons (de_b (de_sorted (hu65 hr) rfl T.n_sorted (db_cons (de_v 2) db_nil))) db_nil)) da_nil))))))))
theorem ok_alike {a : Addr} {fd : FuncData} (F : Fun K "alike" "alike" s_alike a fd) (hm : mg "alike" = some (.ref a)) (hb : Binds K fd ["first", "second"] []) (T : Tx K mg g) : FD P w K mg base g 1 "alike" ["first", "second"] f_alike :=
  okF F sc_alike hm hb m_alike fun cdv A outer s H E hr =>
    (dss_cons (ds_if (dt_ne (hu64 hr) (de_b (de_ix (de_v 0) (de_b de_int) (fun _ _ => rfl))) (de_b (de_ix (de_v 1) (de_b de_int) (fun _ _ => rfl)))) (dss_one (ds_raise rfl (takes_of rfl rfl rfl rfl) T.e_BadStatement rfl)) dss_nil)
      (dss_one (ds_ret (de_tup (da_cons de_str (da_cons (de_var 0) (da_cons (de_var 1) da_nil)))))))
theorem ok_is_gate {a : Addr} {fd : FuncData} (F : Fun K "is_gate" "is_gate" s_is_gate a fd) (hm : mg "is_gate" = some (.ref a)) (hb : Binds K fd ["gate", "own"] []) (T : Tx K mg g) : FD P w K mg base g 1 "is_gate" ["gate", "own"] f_is_gate :=
  okF F sc_is_gate hm hb m_is_gate fun cdv A outer s H E hr =>
    (dss_cons (ds_if (dt_w (dw_or (dt_not (dt_val (de_b (de_isi .tuple rfl T.n_isinstance rfl T.n_tuple (de_v 0))))) (dw_or1 (dt_eq (hu64 hr) (de_b (de_len rfl T.n_len (db_cons (de_v 0) db_nil))) (de_b de_int))))) (dss_one (ds_ret de_bl)) dss_nil)
      (dss_cons (ds_if (dt_nin (hu65 hr) (de_b (de_ix (de_v 0) (de_b de_int) (fun _ _ => rfl))) (de_b (de_tup (da_cons de_str (da_cons de_str (da_cons de_str (da_cons de_str da_nil))))))) (dss_one (ds_ret de_bl)) dss_nil)
      (dss_cons (ds_set (i := 2) hT sc_is_gate.nd rfl (.inl rfl) (de_sl (de_v 0) (do_some (de_b de_int)) do_none))
      (dss_cons (ds_if (dt_ne (hu64 hr) (de_b (de_len rfl T.n_len (db_cons (de_v 2) db_nil))) (de_b (de_if (dt_eq (hu64 hr) (de_b (de_ix (de_v 0) (de_b de_int) (fun _ _ => rfl))) (de_b de_str)) de_int de_int))) (dss_one (ds_ret de_bl)) dss_nil)
      (dss_one (ds_frz [2] (ds_ret (de_all rfl rfl T.n_all (db_cons (de_b (de_lc (own := [("wire", 3)]) (pt := (.nm 3)) rfl sc_is_gate.nd (di_seq (de_var 2)) (blkOk_by (N := ["gate", "own", "wires", "wire"]) (sc := defScope s_is_gate) (by decide +kernel)) (by decide) (fun _ _ _ _ _ => (pg_name (i := 3) sc_is_gate.nd rfl (.inl rfl))) (fun _ _ _ _ _ => dts_nil) (fun _ _ _ _ _ => (de_and (de_b (de_tyIs .int rfl T.n_type rfl T.n_int (de_v 3))) (de_one (de_b (de_chain op_le of_le op_lt of_lt (de_b de_int) (de_v 3) (de_v 1)))))))) db_nil)))))))))
theorem ok_circuit {a : Addr} {fd : FuncData} (F : Fun K "circuit" "circuit" s_circuit a fd) (hm : mg "circuit" = some (.ref a)) (hb : Binds K fd ["inputs", "gates"] []) (T : Tx K mg g) (G_is_gate : FD P w K mg base g 1 "is_gate" ["gate", "own"] f_is_gate) : FD P w K mg base g 2 "circuit" ["inputs", "gates"] f_circuit :=
  okF F sc_circuit hm hb m_circuit fun cdv A outer s H E hr =>
    (dss_cons (ds_if (dt_w (dw_or (dt_lt (de_v 0) (de_b de_int)) (dw_or1 (dt_gt (de_v 0) (de_b (de_globI rfl T.c_MOST_INPUTS.choose_spec)))))) (dss_one (ds_raise1 rfl (takes_of rfl rfl rfl rfl) T.e_BadStatement rfl (de_joined (.cons (de_b de_str) (.cons (de_b (de_fmt (de_b (de_globI rfl T.c_MOST_INPUTS.choose_spec)))) (.cons (de_b de_str) .nil)))))) dss_nil)
      (dss_cons (ds_if (dt_w (dw_or (dt_lt (de_b (de_len rfl T.n_len (db_cons (de_v 1) db_nil))) (de_b de_int)) (dw_or1 (dt_gt (de_b (de_len rfl T.n_len (db_cons (de_v 1) db_nil))) (de_b (de_globI rfl T.c_MOST_GATES.choose_spec)))))) (dss_one (ds_raise1 rfl (takes_of rfl rfl rfl rfl) T.e_BadStatement rfl (de_joined (.cons (de_b de_str) (.cons (de_b (de_fmt (de_b (de_globI rfl T.c_MOST_GATES.choose_spec)))) (.cons (de_b de_str) .nil)))))) dss_nil)
      (dss_cons (ds_for (pt := (.tp [2, 3])) hT (passes_of rfl) rfl (di_enum rfl T.n_enumerate (de_var 1)) (pg_tup rfl (pgs_cons (pg_name (i := 2) sc_circuit.nd rfl (.inl rfl)) (pgs_cons (pg_name (i := 3) sc_circuit.nd rfl (.inl rfl)) pgs_nil))) (dss_one (ds_if (dt_not (dt_val (de_b (de_fn (G_is_gate.mono (by omega)) hr (takes_of rfl rfl rfl rfl) rfl (da_cons (de_var 3) (da_cons (de_addL (de_v 0) (de_v 2)) da_nil)))))) (dss_one (ds_raise1 rfl (takes_of rfl rfl rfl rfl) T.e_BadStatement rfl (de_joined (.cons (de_b de_str) (.cons (de_b (de_fmt (de_v 2))) (.cons (de_b de_str) .nil)))))) dss_nil)))
      (dss_one (ds_ret (de_tup (da_cons de_str (da_cons (de_var 0) (da_cons (de_tuple rfl T.n_tuple (db_cons (de_v 1) db_nil)) da_nil)))))))))
theorem ok_colors {a : Addr} {fd : FuncData} (F : Fun K "colors" "colors" s_colors a fd) (hm : mg "colors" = some (.ref a)) (hb : Binds K fd ["graph", "count"] []) (T : Tx K mg g) : FD P w K mg base g 1 "colors" ["graph", "count"] f_colors :=
  okF F sc_colors hm hb m_colors fun cdv A outer s H E hr =>
    (dss_cons (ds_if (dt_eq (hu64 hr) (de_b (de_len rfl T.n_len (db_cons (de_b (de_ix (de_v 0) (de_b de_int) (fun _ _ => rfl))) db_nil))) (de_b de_int)) (dss_one (ds_raise rfl (takes_of rfl rfl rfl rfl) T.e_BadStatement rfl)) dss_nil)
      (dss_cons (ds_if (dt_w (dw_or (dt_lt (de_v 1) (de_b (de_globI rfl T.c_LEAST_COLORS.choose_spec))) (dw_or1 (dt_gt (de_v 1) (de_b (de_globI rfl T.c_MOST_COLORS.choose_spec)))))) (dss_one (ds_raise1 rfl (takes_of rfl rfl rfl rfl) T.e_BadStatement rfl (de_joined (.cons (de_b de_str) (.cons (de_b (de_fmt (de_b (de_globI rfl T.c_LEAST_COLORS.choose_spec)))) (.cons (de_b de_str) (.cons (de_b (de_fmt (de_b (de_globI rfl T.c_MOST_COLORS.choose_spec)))) (.cons (de_b de_str) .nil)))))))) dss_nil)
      (dss_one (ds_ret (de_tup (da_cons de_str (da_cons (de_var 0) (da_cons (de_var 1) da_nil))))))))
theorem ok_require_kind {a : Addr} {fd : FuncData} (F : Fun K "require_kind" "require_kind" s_require_kind a fd) (hm : mg "require_kind" = some (.ref a)) (hb : Binds K fd ["statement", "kind"] []) (T : Tx K mg g) : FD P w K mg base g 1 "require_kind" ["statement", "kind"] f_require_kind :=
  okF F sc_require_kind hm hb m_require_kind fun cdv A outer s H E hr =>
    (dss_one (ds_if (dt_ne (hu64 hr) (de_b (de_ix (de_v 0) (de_b de_int) (fun _ _ => rfl))) (de_v 1)) (dss_one (ds_raise1 rfl (takes_of rfl rfl rfl rfl) T.e_BadStatement rfl (de_joined (.cons (de_b de_str) (.cons (de_b (de_fmt (de_v 1))) .nil))))) dss_nil))
theorem ok_rows_of {a : Addr} {fd : FuncData} (F : Fun K "rows_of" "rows_of" s_rows_of a fd) (hm : mg "rows_of" = some (.ref a)) (hb : Binds K fd ["size", "count"] []) (T : Tx K mg g) : FD P w K mg base g 1 "rows_of" ["size", "count"] f_rows_of :=
  okF F sc_rows_of hm hb m_rows_of fun cdv A outer s H E hr =>
    (dss_cons (ds_set (i := 2) hT sc_rows_of.nd rfl (.inl rfl) (de_lst (da_cons (de_tup da_nil) da_nil)))
      (dss_cons (ds_for (pt := (.nm 3)) hT (passes_of rfl) rfl (di_rng1 rfl T.n_range (de_v 0)) (pg_name (i := 3) sc_rows_of.nd rfl (.inl rfl)) (dss_one (ds_frz [2] (ds_setLc2 (i := 2) (own := [("row", 4), ("entry", 5)]) (vs1 := [5]) (pt := (.nm 4)) (pt1 := (.nm 5)) hT rfl sc_rows_of.nd rfl rfl (sw_true rfl rfl rfl (by decide +kernel)) (di_seq (de_var 2)) (blkOk_by (N := ["size", "count", "rows", "_", "row", "entry"]) (sc := defScope s_rows_of) (by decide +kernel)) (by decide) (by decide) (by decide) (fun _ _ _ _ _ => (pg_name (i := 4) sc_rows_of.nd rfl (.inl rfl))) (fun _ _ _ _ _ => dts_nil) (fun _ _ _ _ _ => (di_rng1 rfl T.n_range (de_v 1))) (fun _ _ _ _ _ => (pg_name (i := 5) sc_rows_of.nd rfl (.inl rfl))) (fun _ _ _ _ _ => dts_nil) (fun _ _ _ _ _ => (de_addL (de_v 4) (de_b (de_tup (da_cons (de_var 5) da_nil)))))))))
      (dss_one (ds_retV 2))))
theorem ok_are_different_colors {a : Addr} {fd : FuncData} (F : Fun K "are_different_colors" "are_different_colors" s_are_different_colors a fd) (hm : mg "are_different_colors" = some (.ref a)) (hb : Binds K fd ["first", "second", "count"] []) (T : Tx K mg g) : FD P w K mg base g 1 "are_different_colors" ["first", "second", "count"] f_are_different_colors :=
  okF F sc_are_different_colors hm hb m_are_different_colors fun cdv A outer s H E hr =>
    (dss_one (ds_ret (de_and (de_b (de_ne (hu64 hr) (de_v 0) (de_v 1))) (de_b (de_and (de_b (de_chain op_le of_le op_lt of_lt (de_b de_int) (de_v 0) (de_v 2))) (de_one (de_b (de_chain op_le of_le op_lt of_lt (de_b de_int) (de_v 1) (de_v 2)))))))))
theorem ok_proper_edges {a : Addr} {fd : FuncData} (F : Fun K "proper_edges" "proper_edges" s_proper_edges a fd) (hm : mg "proper_edges" = some (.ref a)) (hb : Binds K fd ["statement", "contents"] []) (T : Tx K mg g) (G_require_kind : FD P w K mg base g 1 "require_kind" ["statement", "kind"] f_require_kind) (G_are_different_colors : FD P w K mg base g 1 "are_different_colors" ["first", "second", "count"] f_are_different_colors) : FD P w K mg base g 2 "proper_edges" ["statement", "contents"] f_proper_edges :=
  okF F sc_proper_edges hm hb m_proper_edges fun cdv A outer s H E hr =>
    (dss_cons (ds_expr (de_fn (G_require_kind.mono (by omega)) hr (takes_of rfl rfl rfl rfl) rfl (da_cons (de_var 0) (da_cons de_str da_nil))))
      (dss_cons (ds_unp (.tn [(.n 2), (.t [4, 5]), (.n 3)]) hT (de_var 0) (pg_tup rfl (pgs_cons (pg_name (i := 2) sc_proper_edges.nd rfl (.inl rfl)) (pgs_cons (pg_tup rfl (pgs_cons (pg_name (i := 4) sc_proper_edges.nd rfl (.inl rfl)) (pgs_cons (pg_name (i := 5) sc_proper_edges.nd rfl (.inl rfl)) pgs_nil))) (pgs_cons (pg_name (i := 3) sc_proper_edges.nd rfl (.inr rfl)) pgs_nil)))))
      (dss_cons (ds_if (dt_ne (hu64 hr) (de_b (de_len rfl T.n_len (db_cons (de_v 1) db_nil))) (de_v 4)) (dss_one (ds_raise rfl (takes_of rfl rfl rfl rfl) T.e_BadContents rfl)) dss_nil)
      (dss_one (ds_ret (de_tuple rfl T.n_tuple (db_cons (de_b (de_lc (own := [("number", 6), ("a", 7), ("b", 8)]) (pt := (.tn [(.n 6), (.t [7, 8])])) rfl sc_proper_edges.nd (di_enum rfl T.n_enumerate (de_var 5)) (blkOk_by (N := ["statement", "contents", "_", "count", "nodes", "edges", "number", "a", "b"]) (sc := defScope s_proper_edges) (by decide +kernel)) (by decide) (fun _ _ _ _ _ => (pg_tup rfl (pgs_cons (pg_name (i := 6) sc_proper_edges.nd rfl (.inl rfl)) (pgs_cons (pg_tup rfl (pgs_cons (pg_name (i := 7) sc_proper_edges.nd rfl (.inl rfl)) (pgs_cons (pg_name (i := 8) sc_proper_edges.nd rfl (.inl rfl)) pgs_nil))) pgs_nil)))) (fun _ _ _ _ _ => (dts_one (dt_val (de_b (de_fn (G_are_different_colors.mono (by omega)) hr takes0 rfl (da_cons (de_ix (de_v 1) (de_v 7) (fun _ _ => rfl)) (da_cons (de_ix (de_v 1) (de_v 8) (fun _ _ => rfl)) (da_cons (de_var 3) da_nil)))))))) (fun _ _ _ _ _ => (de_var 6)))) db_nil)))))))
theorem ok_best_coloring {vK : V} {a : Addr} {fd : FuncData} (F : FunD K "best_coloring" "best_coloring" (defArgs s_best_coloring) (defBody s_best_coloring) (defScope s_best_coloring) [] [("start", vK)] a fd) (hm : mg "best_coloring" = some (.ref a)) (hb : ∃ ds, Vals [vK] ds ∧ Binds K fd ["statement", "start"] ds) (hk : KBn K fd ["statement", "start"] 1 ["start"] (fun us ws => us ++ ws) (fun vs zs => vs ++ zs)) (hv : ∀ (H : Hp) (Z : Av), RepL K g H Z [.tup []] [vK]) (T : Tx K mg g) (G_require_kind : FD P w K mg base g 1 "require_kind" ["statement", "kind"] f_require_kind) (G_rows_of : FD P w K mg base g 1 "rows_of" ["size", "count"] f_rows_of) (G_proper_edges : FD P w K mg base g 2 "proper_edges" ["statement", "contents"] f_proper_edges) : FDd P w K mg base g 3 "best_coloring" ["statement", "start"] [.tup []] f_best_coloring ∧ FDk P w K mg base g 3 "best_coloring" ["statement", "start"] 1 "start" f_best_coloring :=
  okK F sc_best_coloring hm hb hk hv m_best_coloring fun cdv A outer s H E hr =>
    (dss_cons (ds_expr (de_fn (G_require_kind.mono (by omega)) hr (takes_of rfl rfl rfl rfl) rfl (da_cons (de_var 0) (da_cons de_str da_nil))))
      (dss_cons (ds_unp (.tp [2, 3, 4]) hT (de_var 0) (pg_tup rfl (pgs_cons (pg_name (i := 2) sc_best_coloring.nd rfl (.inl rfl)) (pgs_cons (pg_name (i := 3) sc_best_coloring.nd rfl (.inl rfl)) (pgs_cons (pg_name (i := 4) sc_best_coloring.nd rfl (.inr rfl)) pgs_nil)))))
      (dss_cons (ds_if (dt_gt (de_b (de_len rfl T.n_len (db_cons (de_v 1) db_nil))) (de_b (de_ix (de_v 3) (de_b de_int) (fun _ _ => rfl)))) (dss_one (ds_raise rfl (takes_of rfl rfl rfl rfl) T.e_BadWitness rfl)) dss_nil)
      (dss_cons (ds_if (dt_not (dt_val (de_b (de_all rfl rfl T.n_all (db_cons (de_b (de_lc (own := [("color", 5)]) (pt := (.nm 5)) rfl sc_best_coloring.nd (di_seq (de_var 1)) (blkOk_by (N := ["statement", "start", "_", "graph", "count", "color", "best", "rest", "coloring", "number"]) (sc := defScope s_best_coloring) (by decide +kernel)) (by decide) (fun _ _ _ _ _ => (pg_name (i := 5) sc_best_coloring.nd rfl (.inl rfl))) (fun _ _ _ _ _ => dts_nil) (fun _ _ _ _ _ => (de_chain op_le of_le op_lt of_lt (de_b de_int) (de_v 5) (de_v 4))))) db_nil))))) (dss_one (ds_raise rfl (takes_of rfl rfl rfl rfl) T.e_BadWitness rfl)) dss_nil)
      (dss_cons (ds_set (i := 6) hT sc_best_coloring.nd rfl (.inl rfl) (de_tup (da_cons (de_neg (de_b de_int)) (da_cons (de_tup da_nil) da_nil))))
      (dss_cons (ds_for (pt := (.nm 7)) hT (passes_of rfl) rfl (di_seq (de_fn (G_rows_of.mono (by omega)) hr (takes_of rfl rfl rfl rfl) rfl (da_cons (de_sub (de_b (de_ix (de_v 3) (de_b de_int) (fun _ _ => rfl))) (de_b (de_len rfl T.n_len (db_cons (de_v 1) db_nil)))) (da_cons (de_var 4) da_nil)))) (pg_name (i := 7) sc_best_coloring.nd rfl (.inl rfl)) (dss_cons (ds_set (i := 8) hT sc_best_coloring.nd rfl (.inl rfl) (de_addL (de_v 1) (de_v 7)))
      (dss_cons (ds_set (i := 9) hT sc_best_coloring.nd rfl (.inl rfl) (de_len rfl T.n_len (db_cons (de_b (de_fn (G_proper_edges.mono (by omega)) hr (takes_of rfl rfl rfl rfl) rfl (da_cons (de_var 0) (da_cons (de_var 8) da_nil)))) db_nil)))
      (dss_one (ds_if (dt_gt (de_v 9) (de_b (de_ix (de_v 6) (de_b de_int) (fun _ _ => rfl)))) (dss_one (ds_set (i := 6) hT sc_best_coloring.nd rfl (.inl rfl) (de_tup (da_cons (de_var 9) (da_cons (de_var 8) da_nil))))) dss_nil)))))
      (dss_one (ds_retV 6))))))))
theorem ok_L_cell {a : Addr} {fd : FuncData} (F : Fun K "_law_cell" "_law_cell" s_L_cell a fd) (hm : mg "_law_cell" = some (.ref a)) (hb : Binds K fd ["script", "k"] []) (T : Tx K mg g) : FD P w K mg base g 1 "_law_cell" ["script", "k"] f_L_cell :=
  okF F sc_L_cell hm hb m_L_cell fun cdv A outer s H E hr =>
    (dss_cons (ds_if (dt_lt (de_v 1) (de_b (de_len rfl T.n_len (db_cons (de_v 0) db_nil)))) (dss_one (ds_ret (de_int1 rfl T.n_int (db_cons (de_b (de_ix (de_v 0) (de_v 1) (fun _ _ => rfl))) db_nil)))) dss_nil)
      (dss_cons (ds_if (dt_gt (de_b (de_len rfl T.n_len (db_cons (de_v 0) db_nil))) (de_b de_int)) (dss_one (ds_ret (de_addL (de_b (de_mul (de_b (de_int1 rfl T.n_int (db_cons (de_b (de_ix (de_v 0) (de_b de_int) (fun _ _ => rfl))) db_nil))) (de_b (de_addL (de_b (de_mul (de_b de_int) (de_v 1))) (de_b de_int))))) (de_b (de_mul (de_b de_int) (de_v 1)))))) dss_nil)
      (dss_one (ds_ret (de_mul (de_b de_int) (de_v 1))))))
theorem ok_L_numbers {a : Addr} {fd : FuncData} (F : Fun K "_law_numbers" "_law_numbers" s_L_numbers a fd) (hm : mg "_law_numbers" = some (.ref a)) (hb : Binds K fd ["cell", "many"] []) (T : Tx K mg g) : FD P w K mg base g 1 "_law_numbers" ["cell", "many"] f_L_numbers :=
  okF F sc_L_numbers hm hb m_L_numbers fun cdv A outer s H E hr =>
    (dss_cons (ds_set (i := 2) hT sc_L_numbers.nd rfl (.inl rfl) (de_abs rfl T.n_abs (db_cons (de_b (de_int1 rfl T.n_int (db_cons (de_v 0) db_nil))) db_nil)))
      (dss_cons (ds_set (i := 3) hT sc_L_numbers.nd rfl (.inl rfl) (de_addL (de_b (de_mod (de_b (de_int1 rfl T.n_int (db_cons (de_v 2) db_nil))) (de_b de_int))) (de_b de_int)))
      (dss_cons (ds_set (i := 4) hT sc_L_numbers.nd rfl (.inl rfl) (de_lst da_nil))
      (dss_cons (ds_for (pt := (.nm 5)) hT (passes_of rfl) rfl (di_rng1 rfl T.n_range (de_v 1)) (pg_name (i := 5) sc_L_numbers.nd rfl (.inl rfl)) (dss_one (ds_if (dt_ge (de_v 2) (de_b de_int)) (dss_cons (ds_app 4 (he := (de_mod (de_b (de_int1 rfl T.n_int (db_cons (de_v 2) db_nil))) (de_b de_int))) (hx := hT))
      (dss_one (ds_set (i := 2) hT sc_L_numbers.nd rfl (.inl rfl) (de_div (de_v 2) (de_b de_int))))) (dss_cons (ds_set (i := 3) hT sc_L_numbers.nd rfl (.inl rfl) (de_mod (de_b (de_int1 rfl T.n_int (db_cons (de_b (de_addL (de_b (de_mul (de_v 3) (de_b de_int))) (de_b (de_mul (de_b de_int) (de_b (de_addL (de_v 5) (de_b de_int))))))) db_nil))) (de_b de_int)))
      (dss_one (ds_app 4 (he := (de_mod (de_b (de_div (de_b (de_mod (de_b (de_int1 rfl T.n_int (db_cons (de_b (de_addL (de_b (de_div (de_b (de_mul (de_v 3) (de_v 3))) (de_b de_int))) (de_b (de_mul (de_b de_int) (de_v 3))))) db_nil))) (de_b de_int))) (de_b de_int))) (de_b de_int))) (hx := hT)))))))
      (dss_one (ds_retV 4))))))
theorem ok_L_same {a : Addr} {fd : FuncData} (F : Fun K "_law_same" "_law_same" s_L_same a fd) (hm : mg "_law_same" = some (.ref a)) (hb : Binds K fd ["value", "due"] []) (T : Tx K mg g) : FD P w K mg base g 8 "_law_same" ["value", "due"] f_L_same := by
  have all : ∀ n : Nat, FD P w K mg base g (0 + n) "_law_same" ["value", "due"] (recF 2 3 m_L_same n) := fun n => by
    induction n with
    | zero => exact FD.none _ F hm hb
    | succ n ih => exact okF (k := 0 + n) F sc_L_same hm hb (m_L_same (recF 2 3 m_L_same n)) fun cdv A outer s H E hr =>
        (dss_cons (ds_if (dt_w (dw_or (dt_val (de_b (de_isi .tuple rfl T.n_isinstance rfl T.n_tuple (de_v 1)))) (dw_or1 (dt_val (de_b (de_isi .list rfl T.n_isinstance rfl T.n_list (de_v 1))))))) (dss_cons (ds_if (dt_w (dw_or (dt_ne (hu64 hr) (de_b (de_isi .tuple rfl T.n_isinstance rfl T.n_tuple (de_v 1))) (de_b (de_isi .tuple rfl T.n_isinstance rfl T.n_tuple (de_v 0)))) (dw_or1 (dt_ne (hu64 hr) (de_b (de_isi .list rfl T.n_isinstance rfl T.n_list (de_v 1))) (de_b (de_isi .list rfl T.n_isinstance rfl T.n_list (de_v 0))))))) (dss_one (ds_ret de_bl)) dss_nil)
      (dss_cons (ds_if (dt_ne (hu64 hr) (de_b (de_len rfl T.n_len (db_cons (de_v 0) db_nil))) (de_b (de_len rfl T.n_len (db_cons (de_v 1) db_nil)))) (dss_one (ds_ret de_bl)) dss_nil)
      (dss_cons (ds_for (pt := (.nm 2)) hT (passes_of rfl) rfl (di_rng1 rfl T.n_range (de_b (de_len rfl T.n_len (db_cons (de_v 1) db_nil)))) (pg_name (i := 2) sc_L_same.nd rfl (.inl rfl)) (dss_one (ds_if (dt_not (dt_val (de_b (de_fn (ih.mono (by omega)) hr (takes_of rfl rfl rfl rfl) rfl (da_cons (de_ix (de_v 0) (de_v 2) (fun _ _ => rfl)) (da_cons (de_ix (de_v 1) (de_v 2) (fun _ _ => rfl)) da_nil)))))) (dss_one (ds_ret de_bl)) dss_nil)))
      (dss_one (ds_ret de_bl))))) dss_nil)
      (dss_cons (ds_if (dt_isN (de_v 1) (de_b de_non)) (dss_one (ds_ret (de_isN (de_v 0) (de_b de_non)))) dss_nil)
      (dss_cons (ds_if (dt_val (de_b (de_isi .bool rfl T.n_isinstance rfl T.n_bool (de_v 1)))) (dss_one (ds_ret (de_and (de_b (de_isi .bool rfl T.n_isinstance rfl T.n_bool (de_v 0))) (de_one (de_b (de_eq (hu64 hr) (de_v 0) (de_v 1))))))) dss_nil)
      (dss_cons (ds_if (dt_val (de_b (de_isi .str rfl T.n_isinstance rfl T.n_str (de_v 1)))) (dss_one (ds_ret (de_and (de_b (de_isi .str rfl T.n_isinstance rfl T.n_str (de_v 0))) (de_one (de_b (de_eq (hu64 hr) (de_v 0) (de_v 1))))))) dss_nil)
      (dss_one (ds_ret (de_and (de_b (de_isi .int rfl T.n_isinstance rfl T.n_int (de_v 0))) (de_b (de_and (de_b (de_not (de_b (de_isi .bool rfl T.n_isinstance rfl T.n_bool (de_v 0))))) (de_one (de_b (de_eq (hu64 hr) (de_v 0) (de_v 1)))))))))))))
  exact all 8
theorem ok_L_pairs {a : Addr} {fd : FuncData} (F : Fun K "_law_pairs" "_law_pairs" s_L_pairs a fd) (hm : mg "_law_pairs" = some (.ref a)) (hb : Binds K fd ["nodes"] []) (T : Tx K mg g) : FD P w K mg base g 1 "_law_pairs" ["nodes"] f_L_pairs :=
  okF F sc_L_pairs hm hb m_L_pairs fun cdv A outer s H E hr =>
    (dss_cons (ds_set (i := 1) hT sc_L_pairs.nd rfl (.inl rfl) (de_lst da_nil))
      (dss_cons (ds_for (pt := (.nm 2)) hT (passes_of rfl) rfl (di_rng1 rfl T.n_range (de_v 0)) (pg_name (i := 2) sc_L_pairs.nd rfl (.inl rfl)) (dss_one (ds_for (pt := (.nm 3)) hT (passes_of rfl) rfl (di_rng2 rfl T.n_range (de_b (de_addL (de_v 2) (de_b de_int))) (de_v 0)) (pg_name (i := 3) sc_L_pairs.nd rfl (.inl rfl)) (dss_one (ds_app 1 (he := (de_tup (da_cons (de_var 2) (da_cons (de_var 3) da_nil)))) (hx := hT))))))
      (dss_one (ds_retV 1))))
theorem ok_L_edges {a : Addr} {fd : FuncData} (F : Fun K "_law_edges" "_law_edges" s_L_edges a fd) (hm : mg "_law_edges" = some (.ref a)) (hb : Binds K fd ["size", "row"] []) (T : Tx K mg g) (G_L_pairs : FD P w K mg base g 1 "_law_pairs" ["nodes"] f_L_pairs) : FD P w K mg base g 2 "_law_edges" ["size", "row"] f_L_edges :=
  okF F sc_L_edges hm hb m_L_edges fun cdv A outer s H E hr =>
    (dss_cons (ds_set (i := 2) hT sc_L_edges.nd rfl (.inr rfl) (de_fn (G_L_pairs.mono (by omega)) hr (takes_of rfl rfl rfl rfl) rfl (da_cons (de_var 0) da_nil)))
      (dss_cons (ds_set (i := 3) hT sc_L_edges.nd rfl (.inr rfl) (de_ix (de_b (de_lst (da_cons de_int (da_cons de_int (da_cons de_int (da_cons de_int da_nil)))))) (de_b (de_mod (de_b (de_int1 rfl T.n_int (db_cons (de_b (de_ix (de_v 1) (de_b de_int) (fun _ _ => rfl))) db_nil))) (de_b de_int))) (fun _ _ => rfl)))
      (dss_cons (ds_setLc (i := 4) (own := [("k", 5)]) (pt := (.nm 5)) hT rfl sc_L_edges.nd rfl rfl (sw_true rfl rfl rfl (by decide +kernel)) (di_rng1 rfl T.n_range (de_b (de_len rfl T.n_len (db_cons (de_v 2) db_nil)))) (blkOk_by (N := ["size", "row", "pairs", "limit", "edges", "k"]) (sc := defScope s_L_edges) (by decide +kernel)) (by decide) (fun _ _ _ _ _ => (pg_name (i := 5) sc_L_edges.nd rfl (.inl rfl))) (fun _ _ _ _ _ => (dts_one (dt_lt (de_b (de_mod (de_b (de_int1 rfl T.n_int (db_cons (de_b (de_ix (de_v 1) (de_b (de_addL (de_b de_int) (de_v 5))) (fun _ _ => rfl))) db_nil))) (de_b de_int))) (de_v 3)))) (fun _ _ _ _ _ => (de_ix (de_v 2) (de_v 5) (fun _ _ => rfl))))
      (dss_cons (ds_if (dt_eq (hu64 hr) (de_b (de_len rfl T.n_len (db_cons (de_v 4) db_nil))) (de_b de_int)) (dss_one (ds_set (i := 4) hT sc_L_edges.nd rfl (.inl rfl) (de_lst (da_cons (de_ix (de_v 2) (de_b (de_mod (de_b (de_int1 rfl T.n_int (db_cons (de_b (de_ix (de_v 1) (de_b de_int) (fun _ _ => rfl))) db_nil))) (de_b (de_len rfl T.n_len (db_cons (de_v 2) db_nil))))) (fun _ _ => rfl)) da_nil)))) dss_nil)
      (dss_one (ds_retV 4))))))
theorem ok_L_statement {a : Addr} {fd : FuncData} (F : Fun K "_law_statement" "_law_statement" s_L_statement a fd) (hm : mg "_law_statement" = some (.ref a)) (hb : Binds K fd ["size", "edges", "count"] []) (T : Tx K mg g) (G_make_graph : FD P w K mg base g 1 "make_graph" ["nodes", "edges"] f_make_graph) (G_colors : FD P w K mg base g 1 "colors" ["graph", "count"] f_colors) : FD P w K mg base g 2 "_law_statement" ["size", "edges", "count"] f_L_statement :=
  okF F sc_L_statement hm hb m_L_statement fun cdv A outer s H E hr =>
    (dss_one (ds_ret (de_fn (G_colors.mono (by omega)) hr (takes_of rfl rfl rfl rfl) rfl (da_cons (de_fn (G_make_graph.mono (by omega)) hr (takes_of rfl rfl rfl rfl) rfl (da_cons (de_var 0) (da_cons (de_lc (own := [("edge", 3)]) (pt := (.nm 3)) rfl sc_L_statement.nd (di_seq (de_var 1)) (blkOk_by (N := ["size", "edges", "count", "edge"]) (sc := defScope s_L_statement) (by decide +kernel)) (by decide) (fun _ _ _ _ _ => (pg_name (i := 3) sc_L_statement.nd rfl (.inl rfl))) (fun _ _ _ _ _ => dts_nil) (fun _ _ _ _ _ => (de_tup (da_cons (de_ix (de_v 3) (de_b de_int) (fun _ _ => rfl)) (da_cons (de_ix (de_v 3) (de_b de_int) (fun _ _ => rfl)) da_nil))))) da_nil))) (da_cons (de_var 2) da_nil)))))
theorem ok_L_number {a : Addr} {fd : FuncData} (F : Fun K "_law_number" "_law_number" s_L_number a fd) (hm : mg "_law_number" = some (.ref a)) (hb : Binds K fd ["edges", "row"] []) (T : Tx K mg g) : FD P w K mg base g 1 "_law_number" ["edges", "row"] f_L_number :=
  okF F sc_L_number hm hb m_L_number fun cdv A outer s H E hr =>
    (dss_one (ds_ret (de_len rfl T.n_len (db_cons (de_b (de_lc (own := [("edge", 2)]) (pt := (.nm 2)) rfl sc_L_number.nd (di_seq (de_var 0)) (blkOk_by (N := ["edges", "row", "edge"]) (sc := defScope s_L_number) (by decide +kernel)) (by decide) (fun _ _ _ _ _ => (pg_name (i := 2) sc_L_number.nd rfl (.inl rfl))) (fun _ _ _ _ _ => (dts_one (dt_ne (hu64 hr) (de_b (de_ix (de_v 1) (de_b (de_ix (de_v 2) (de_b de_int) (fun _ _ => rfl))) (fun _ _ => rfl))) (de_b (de_ix (de_v 1) (de_b (de_ix (de_v 2) (de_b de_int) (fun _ _ => rfl))) (fun _ _ => rfl)))))) (fun _ _ _ _ _ => (de_var 2)))) db_nil))))
theorem ok_L_best {a : Addr} {fd : FuncData} (F : Fun K "_law_best" "_law_best" s_L_best a fd) (hm : mg "_law_best" = some (.ref a)) (hb : Binds K fd ["size", "edges", "count", "begun"] []) (T : Tx K mg g) (G_L_number : FD P w K mg base g 1 "_law_number" ["edges", "row"] f_L_number) : FD P w K mg base g 2 "_law_best" ["size", "edges", "count", "begun"] f_L_best :=
  okF F sc_L_best hm hb m_L_best fun cdv A outer s H E hr =>
    (dss_cons (ds_set (i := 4) hT sc_L_best.nd rfl (.inl rfl) (de_lst (da_cons (de_lc (own := [("color", 5)]) (pt := (.nm 5)) rfl sc_L_best.nd (di_seq (de_var 3)) (blkOk_by (N := ["size", "edges", "count", "begun", "rows", "color", "k", "grown", "row", "best", "number"]) (sc := defScope s_L_best) (by decide +kernel)) (by decide) (fun _ _ _ _ _ => (pg_name (i := 5) sc_L_best.nd rfl (.inl rfl))) (fun _ _ _ _ _ => dts_nil) (fun _ _ _ _ _ => (de_var 5))) da_nil)))
      (dss_cons (ds_for (pt := (.nm 6)) hT (passes_of rfl) rfl (di_rng1 rfl T.n_range (de_b (de_sub (de_v 0) (de_b (de_len rfl T.n_len (db_cons (de_v 3) db_nil)))))) (pg_name (i := 6) sc_L_best.nd rfl (.inl rfl)) (dss_cons (ds_set (i := 7) hT sc_L_best.nd rfl (.inl rfl) (de_lst da_nil))
      (dss_cons (ds_frz [4] (ds_for (pt := (.nm 8)) hT (passes_of rfl) rfl (di_seq (de_var 4)) (pg_name (i := 8) sc_L_best.nd rfl (.inl rfl)) (dss_one (ds_for (pt := (.nm 5)) hT (passes_of rfl) rfl (di_rng1 rfl T.n_range (de_v 2)) (pg_name (i := 5) sc_L_best.nd rfl (.inl rfl)) (dss_one (ds_app 7 (he := (de_addL (de_v 8) (de_b (de_lst (da_cons (de_var 5) da_nil))))) (hx := hT)))))))
      (dss_one (ds_frz [7] (ds_setLc (i := 4) (own := [("row", 8)]) (pt := (.nm 8)) hT rfl sc_L_best.nd rfl rfl (sw_true rfl rfl rfl (by decide +kernel)) (di_seq (de_var 7)) (blkOk_by (N := ["size", "edges", "count", "begun", "rows", "color", "k", "grown", "row", "best", "number"]) (sc := defScope s_L_best) (by decide +kernel)) (by decide) (fun _ _ _ _ _ => (pg_name (i := 8) sc_L_best.nd rfl (.inl rfl))) (fun _ _ _ _ _ => dts_nil) (fun _ _ _ _ _ => (de_var 8))))))))
      (dss_cons (ds_set (i := 9) hT sc_L_best.nd rfl (.inl rfl) (de_tup (da_cons (de_neg (de_b de_int)) (da_cons (de_tup da_nil) da_nil))))
      (dss_cons (ds_frz [4] (ds_for (pt := (.nm 8)) hT (passes_of rfl) rfl (di_seq (de_var 4)) (pg_name (i := 8) sc_L_best.nd rfl (.inl rfl)) (dss_cons (ds_set (i := 10) hT sc_L_best.nd rfl (.inl rfl) (de_fn (G_L_number.mono (by omega)) hr (takes_of rfl rfl rfl rfl) rfl (da_cons (de_var 1) (da_cons (de_var 8) da_nil))))
      (dss_one (ds_if (dt_gt (de_v 10) (de_b (de_ix (de_v 9) (de_b de_int) (fun _ _ => rfl)))) (dss_one (ds_frz [10] (ds_set (i := 9) hT sc_L_best.nd rfl (.inl rfl) (de_tup (da_cons (de_var 10) (da_cons (de_tuple rfl T.n_tuple (db_cons (de_v 8) db_nil)) da_nil)))))) dss_nil)))))
      (dss_one (ds_retV 9))))))
theorem ok_L_is_told {a : Addr} {fd : FuncData} (F : Fun K "_law_is_told" "_law_is_told" s_L_is_told a fd) (hm : mg "_law_is_told" = some (.ref a)) (hb : Binds K fd ["told", "size", "edges", "count", "begun"] []) (T : Tx K mg g) (G_L_same : FD P w K mg base g 8 "_law_same" ["value", "due"] f_L_same) (G_L_number : FD P w K mg base g 1 "_law_number" ["edges", "row"] f_L_number) : FD P w K mg base g 9 "_law_is_told" ["told", "size", "edges", "count", "begun"] f_L_is_told :=
  okF F sc_L_is_told hm hb m_L_is_told fun cdv A outer s H E hr =>
    (dss_cons (ds_if (dt_w (dw_or (dt_not (dt_val (de_b (de_isi .tuple rfl T.n_isinstance rfl T.n_tuple (de_v 0))))) (dw_or (dt_ne (hu64 hr) (de_b (de_len rfl T.n_len (db_cons (de_v 0) db_nil))) (de_b de_int)) (dw_or (dt_not (dt_val (de_b (de_isi .tuple rfl T.n_isinstance rfl T.n_tuple (de_b (de_ix (de_v 0) (de_b de_int) (fun _ _ => rfl))))))) (dw_or1 (dt_ne (hu64 hr) (de_b (de_len rfl T.n_len (db_cons (de_b (de_ix (de_v 0) (de_b de_int) (fun _ _ => rfl))) db_nil))) (de_v 1))))))) (dss_one (ds_ret de_bl)) dss_nil)
      (dss_cons (ds_for (pt := (.nm 5)) hT (passes_of rfl) rfl (di_rng1 rfl T.n_range (de_v 1)) (pg_name (i := 5) sc_L_is_told.nd rfl (.inl rfl)) (dss_cons (ds_set (i := 6) hT sc_L_is_told.nd rfl (.inl rfl) (de_ix (de_b (de_ix (de_v 0) (de_b de_int) (fun _ _ => rfl))) (de_v 5) (fun _ _ => rfl)))
      (dss_cons (ds_if (dt_w (dw_or (dt_not (dt_val (de_b (de_isi .int rfl T.n_isinstance rfl T.n_int (de_v 6))))) (dw_or (dt_val (de_b (de_isi .bool rfl T.n_isinstance rfl T.n_bool (de_v 6)))) (dw_or (dt_lt (de_v 6) (de_b de_int)) (dw_or1 (dt_ge (de_v 6) (de_v 3))))))) (dss_one (ds_ret de_bl)) dss_nil)
      (dss_one (ds_if (dt_w (dw_and (dt_lt (de_v 5) (de_b (de_len rfl T.n_len (db_cons (de_v 4) db_nil)))) (dw_and1 (dt_ne (hu64 hr) (de_v 6) (de_b (de_ix (de_v 4) (de_v 5) (fun _ _ => rfl))))))) (dss_one (ds_ret de_bl)) dss_nil)))))
      (dss_one (ds_ret (de_fn (G_L_same.mono (by omega)) hr (takes_of rfl rfl rfl rfl) rfl (da_cons (de_ix (de_v 0) (de_b de_int) (fun _ _ => rfl)) (da_cons (de_fn (G_L_number.mono (by omega)) hr (takes_of rfl rfl rfl rfl) rfl (da_cons (de_var 2) (da_cons (de_ix (de_v 0) (de_b de_int) (fun _ _ => rfl)) da_nil))) da_nil)))))))
theorem ok_L_best_told {a : Addr} {fd : FuncData} (F : Fun K "_law_best_told" "_law_best_told" s_L_best_told a fd) (hm : mg "_law_best_told" = some (.ref a)) (hb : Binds K fd ["statement", "size", "edges", "count", "begun"] []) (T : Tx K mg g) (Gk_best_coloring : FDk P w K mg base g 3 "best_coloring" ["statement", "start"] 1 "start" f_best_coloring) (G_L_same : FD P w K mg base g 8 "_law_same" ["value", "due"] f_L_same) (G_L_is_told : FD P w K mg base g 9 "_law_is_told" ["told", "size", "edges", "count", "begun"] f_L_is_told) : FD P w K mg base g 10 "_law_best_told" ["statement", "size", "edges", "count", "begun"] f_L_best_told :=
  okF F sc_L_best_told hm hb m_L_best_told fun cdv A outer s H E hr =>
    (dss_cons (ds_set (i := 5) hT sc_L_best_told.nd rfl (.inl rfl) (de_fnK (Gk_best_coloring.mono (by omega)) hr (takes_of rfl rfl rfl rfl) rfl (da_cons (de_var 0) da_nil) (de_var 4)))
      (dss_cons (ds_setLc (i := 6) (own := [("color", 7)]) (pt := (.nm 7)) hT rfl sc_L_best_told.nd rfl rfl (sw_true rfl rfl rfl (by decide +kernel)) (di_rng1 rfl T.n_range (de_v 3)) (blkOk_by (N := ["statement", "size", "edges", "count", "begun", "told", "longer", "color", "best", "pair"]) (sc := defScope s_L_best_told) (by decide +kernel)) (by decide) (fun _ _ _ _ _ => (pg_name (i := 7) sc_L_best_told.nd rfl (.inl rfl))) (fun _ _ _ _ _ => dts_nil) (fun _ _ _ _ _ => (de_fnK (Gk_best_coloring.mono (by omega)) hr takes0 rfl (da_cons (de_var 0) da_nil) (de_addL (de_v 4) (de_b (de_tup (da_cons (de_var 7) da_nil)))))))
      (dss_cons (ds_if (dt_not (dt_val (de_b (de_fnB (G_L_is_told.mono (by omega)) hr (takes_of rfl rfl rfl rfl) rfl (db_cons (de_v 5) (db_cons (de_v 1) (db_cons (de_v 2) (db_cons (de_v 3) (db_cons (de_v 4) db_nil))))))))) (dss_one (ds_ret de_bl)) dss_nil)
      (dss_cons (ds_for (pt := (.nm 7)) hT (passes_of rfl) rfl (di_rng1 rfl T.n_range (de_v 3)) (pg_name (i := 7) sc_L_best_told.nd rfl (.inl rfl)) (dss_one (ds_if (dt_not (dt_val (de_b (de_fn (G_L_is_told.mono (by omega)) hr (takes_of rfl rfl rfl rfl) rfl (da_cons (de_ix (de_v 6) (de_v 7) (fun _ _ => rfl)) (da_cons (de_var 1) (da_cons (de_var 2) (da_cons (de_var 3) (da_cons (de_addL (de_v 4) (de_b (de_tup (da_cons (de_var 7) da_nil)))) da_nil))))))))) (dss_one (ds_ret de_bl)) dss_nil)))
      (dss_cons (ds_set (i := 8) hT sc_L_best_told.nd rfl (.inl rfl) (de_ix (de_v 6) (de_b de_int) (fun _ _ => rfl)))
      (dss_cons (ds_frz [6] (ds_for (pt := (.nm 9)) hT (passes_of rfl) rfl (di_seq (de_var 6)) (pg_name (i := 9) sc_L_best_told.nd rfl (.inl rfl)) (dss_one (ds_if (dt_gt (de_b (de_ix (de_v 9) (de_b de_int) (fun _ _ => rfl))) (de_b (de_ix (de_v 8) (de_b de_int) (fun _ _ => rfl)))) (dss_one (ds_set (i := 8) hT sc_L_best_told.nd rfl (.inl rfl) (de_var 9))) dss_nil))))
      (dss_one (ds_ret (de_fnB (G_L_same.mono (by omega)) hr (takes_of rfl rfl rfl rfl) rfl (db_cons (de_v 5) (db_cons (de_v 8) db_nil)))))))))))
theorem ok_L_refusal {a : Addr} {fd : FuncData} (F : Fun K "_law_refusal" "_law_refusal" s_L_refusal a fd) (hm : mg "_law_refusal" = some (.ref a)) (hb : Binds K fd ["statement", "begun"] []) (T : Tx K mg g) (Gk_best_coloring : FDk P w K mg base g 3 "best_coloring" ["statement", "start"] 1 "start" f_best_coloring) : FD P w K mg base g 4 "_law_refusal" ["statement", "begun"] f_L_refusal :=
  okF F sc_L_refusal hm hb m_L_refusal fun cdv A outer s H E hr =>
    (dss_one (ds_tryN (i := 2) rfl rfl sc_L_refusal.nd rfl rfl (takes_of rfl rfl rfl rfl) (fun W pn xe tk hp => (dss_one (ds_ret (de_tup (da_cons de_int (da_cons (de_fnK (Gk_best_coloring.mono (by omega)) hr tk rfl (da_cons (de_var 0) da_nil) (de_var 1)) da_nil)))))) (.cons ⟨rfl, by decide, (.inl T.e_BadStatement.mg)⟩ (hcat_BadStatement T) (fun c p a oe d pn hct hpd hz hf => sup_case hpd hz fun hz => have hc3 := cat_BadStatement_lt hct; (dss_one (ds_ret (de_tup (da_cons de_int (da_cons (de_and (de_b (de_isEc (T.xc c hc3) hz hf (T.kit_UnseenError c hc3) rfl T.n_isinstance rfl T.e_UnseenError.mg rfl (.inl rfl) (by decide) (by decide) (by decide) rfl rfl)) (de_b (de_and (de_b (de_isEb (T.xc c hc3) hz hf (T.kit_ValueError c hc3) rfl T.n_isinstance rfl T.n_ValueError (by decide +kernel) rfl (.inl rfl) (by decide) (by decide) (by decide) (by decide) rfl rfl)) (de_one (de_b (de_not (de_b (de_isEc (T.xc c hc3) hz hf (T.kit_BadWitness c hc3) rfl T.n_isinstance rfl T.e_BadWitness.mg rfl (.inl rfl) (by decide) (by decide) (by decide) rfl rfl)))))))) da_nil)))))) (.cons ⟨rfl, by decide, (.inl T.e_BadWitness.mg)⟩ (hcat_BadWitness T) (fun c p a oe d pn hct hpd hz hf => sup_case hpd hz fun hz => have hc3 := cat_BadWitness_lt hct; (dss_one (ds_ret (de_tup (da_cons de_int (da_cons (de_and (de_b (de_isEc (T.xc c hc3) hz hf (T.kit_UnseenError c hc3) rfl T.n_isinstance rfl T.e_UnseenError.mg rfl (.inl rfl) (by decide) (by decide) (by decide) rfl rfl)) (de_b (de_and (de_b (de_isEb (T.xc c hc3) hz hf (T.kit_ValueError c hc3) rfl T.n_isinstance rfl T.n_ValueError (by decide +kernel) rfl (.inl rfl) (by decide) (by decide) (by decide) (by decide) rfl rfl)) (de_one (de_b (de_not (de_b (de_isEc (T.xc c hc3) hz hf (T.kit_BadStatement c hc3) rfl T.n_isinstance rfl T.e_BadStatement.mg rfl (.inl rfl) (by decide) (by decide) (by decide) rfl rfl)))))))) da_nil)))))) .nil))))
theorem ok_L_refused {a : Addr} {fd : FuncData} (F : Fun K "_law_refused" "_law_refused" s_L_refused a fd) (hm : mg "_law_refused" = some (.ref a)) (hb : Binds K fd ["statement", "size", "count", "begun", "row"] []) (T : Tx K mg g) (G_alike : FD P w K mg base g 1 "alike" ["first", "second"] f_alike) (G_circuit : FD P w K mg base g 2 "circuit" ["inputs", "gates"] f_circuit) (G_L_same : FD P w K mg base g 8 "_law_same" ["value", "due"] f_L_same) (G_L_refusal : FD P w K mg base g 4 "_law_refusal" ["statement", "begun"] f_L_refusal) : FD P w K mg base g 9 "_law_refused" ["statement", "size", "count", "begun", "row"] f_L_refused :=
  okF F sc_L_refused hm hb m_L_refused fun cdv A outer s H E hr =>
    (dss_cons (ds_set (i := 5) hT sc_L_refused.nd rfl (.inl rfl) (de_mod (de_b (de_int1 rfl T.n_int (db_cons (de_b (de_ix (de_v 4) (de_b de_int) (fun _ _ => rfl))) db_nil))) (de_v 1)))
      (dss_cons (ds_set (i := 6) hT sc_L_refused.nd rfl (.inl rfl) (de_ix (de_b (de_lst (da_cons (de_var 2) (da_cons (de_neg (de_b de_int)) (da_cons de_int (da_cons (de_addL (de_v 2) (de_b (de_int1 rfl T.n_int (db_cons (de_b (de_ix (de_v 4) (de_b de_int) (fun _ _ => rfl))) db_nil)))) da_nil)))))) (de_b (de_mod (de_b (de_int1 rfl T.n_int (db_cons (de_b (de_ix (de_v 4) (de_b de_int) (fun _ _ => rfl))) db_nil))) (de_b de_int))) (fun _ _ => rfl)))
      (dss_cons (ds_set (i := 7) hT sc_L_refused.nd rfl (.inl rfl) (de_addL (de_b (de_addL (de_b (de_sl (de_v 3) do_none (do_some (de_v 5)))) (de_b (de_tup (da_cons (de_var 6) da_nil))))) (de_b (de_sl (de_v 3) (do_some (de_b (de_addL (de_v 5) (de_b de_int)))) do_none))))
      (dss_cons (ds_set (i := 8) hT sc_L_refused.nd rfl (.inl rfl) (de_lst (da_cons (de_fn (G_circuit.mono (by omega)) hr (takes_of rfl rfl rfl rfl) rfl (da_cons de_int (da_cons (de_lst (da_cons (de_tup (da_cons de_str (da_cons de_int da_nil))) da_nil)) da_nil))) (da_cons (de_fn (G_alike.mono (by omega)) hr (takes_of rfl rfl rfl rfl) rfl (da_cons (de_ix (de_v 0) (de_b de_int) (fun _ _ => rfl)) (da_cons (de_ix (de_v 0) (de_b de_int) (fun _ _ => rfl)) da_nil))) da_nil))))
      (dss_cons (ds_for (pt := (.nm 9)) hT (passes_of rfl) rfl (di_seq (de_lst (da_cons (de_addL (de_v 3) (de_b (de_tup (da_cons de_int da_nil)))) (da_cons (de_var 7) (da_cons (de_sl (de_v 7) do_none (do_some (de_b (de_addL (de_v 5) (de_b de_int))))) (da_cons (de_addL (de_v 3) (de_v 3)) (da_cons (de_addL (de_v 7) (de_b (de_tup (da_cons de_int da_nil)))) da_nil))))))) (pg_name (i := 9) sc_L_refused.nd rfl (.inl rfl)) (dss_cons (ds_if (dt_not (dt_val (de_b (de_fn (G_L_same.mono (by omega)) hr (takes_of rfl rfl rfl rfl) rfl (da_cons (de_fn (G_L_refusal.mono (by omega)) hr (takes_of rfl rfl rfl rfl) rfl (da_cons (de_var 0) (da_cons (de_var 9) da_nil))) (da_cons (de_tup (da_cons de_int (da_cons de_bl da_nil))) da_nil)))))) (dss_one (ds_ret de_bl)) dss_nil)
      (dss_one (ds_frz [8] (ds_for (pt := (.nm 10)) hT (passes_of rfl) rfl (di_seq (de_var 8)) (pg_name (i := 10) sc_L_refused.nd rfl (.inl rfl)) (dss_one (ds_if (dt_not (dt_val (de_b (de_fn (G_L_same.mono (by omega)) hr (takes_of rfl rfl rfl rfl) rfl (da_cons (de_fn (G_L_refusal.mono (by omega)) hr (takes_of rfl rfl rfl rfl) rfl (da_cons (de_var 10) (da_cons (de_var 9) da_nil))) (da_cons (de_tup (da_cons de_int (da_cons de_bl da_nil))) da_nil)))))) (dss_one (ds_ret de_bl)) dss_nil)))))))
      (dss_cons (ds_frz [8] (ds_for (pt := (.nm 10)) hT (passes_of rfl) rfl (di_seq (de_var 8)) (pg_name (i := 10) sc_L_refused.nd rfl (.inl rfl)) (dss_one (ds_if (dt_w (dw_or (dt_not (dt_val (de_b (de_fn (G_L_same.mono (by omega)) hr (takes_of rfl rfl rfl rfl) rfl (da_cons (de_fn (G_L_refusal.mono (by omega)) hr (takes_of rfl rfl rfl rfl) rfl (da_cons (de_var 10) (da_cons (de_var 3) da_nil))) (da_cons (de_tup (da_cons de_int (da_cons de_bl da_nil))) da_nil)))))) (dw_or1 (dt_not (dt_val (de_b (de_fn (G_L_same.mono (by omega)) hr (takes_of rfl rfl rfl rfl) rfl (da_cons (de_fn (G_L_refusal.mono (by omega)) hr (takes_of rfl rfl rfl rfl) rfl (da_cons (de_var 10) (da_cons (de_tup da_nil) da_nil))) (da_cons (de_tup (da_cons de_int (da_cons de_bl da_nil))) da_nil))))))))) (dss_one (ds_ret de_bl)) dss_nil))))
      (dss_one (ds_ret de_bl))))))))
theorem ok_law {a : Addr} {fd : FuncData} (F : Fun K "law" "law" s_law a fd) (T : Tx K mg g) (Gd_best_coloring : FDd P w K mg base g 3 "best_coloring" ["statement", "start"] [.tup []] f_best_coloring) (Gk_best_coloring : FDk P w K mg base g 3 "best_coloring" ["statement", "start"] 1 "start" f_best_coloring) (G_L_cell : FD P w K mg base g 1 "_law_cell" ["script", "k"] f_L_cell) (G_L_numbers : FD P w K mg base g 1 "_law_numbers" ["cell", "many"] f_L_numbers) (G_L_same : FD P w K mg base g 8 "_law_same" ["value", "due"] f_L_same) (G_L_edges : FD P w K mg base g 2 "_law_edges" ["size", "row"] f_L_edges) (G_L_statement : FD P w K mg base g 2 "_law_statement" ["size", "edges", "count"] f_L_statement) (G_L_number : FD P w K mg base g 1 "_law_number" ["edges", "row"] f_L_number) (G_L_best : FD P w K mg base g 2 "_law_best" ["size", "edges", "count", "begun"] f_L_best) (G_L_is_told : FD P w K mg base g 9 "_law_is_told" ["told", "size", "edges", "count", "begun"] f_L_is_told) (G_L_best_told : FD P w K mg base g 10 "_law_best_told" ["statement", "size", "edges", "count", "begun"] f_L_best_told) (G_L_refused : FD P w K mg base g 9 "_law_refused" ["statement", "size", "count", "begun", "row"] f_L_refused) : FnOk P w K mg base (L2.CX P w) 11 a fd ["script"] (Prom K g f_law) :=
  okF0 F sc_law m_law fun cdv A outer s H E hr =>
    (dss_cons (ds_set (i := 1) hT sc_law.nd rfl (.inl rfl) (de_fn (G_L_numbers.mono (by omega)) hr (takes_of rfl rfl rfl rfl) rfl (da_cons (de_fn (G_L_cell.mono (by omega)) hr (takes_of rfl rfl rfl rfl) rfl (da_cons (de_var 0) (da_cons de_int da_nil))) (da_cons de_int da_nil))))
      (dss_cons (ds_set (i := 2) hT sc_law.nd rfl (.inr rfl) (de_ix (de_b (de_lst (da_cons de_int (da_cons de_int (da_cons de_int (da_cons de_int (da_cons de_int (da_cons de_int da_nil)))))))) (de_b (de_mod (de_b (de_int1 rfl T.n_int (db_cons (de_b (de_ix (de_v 1) (de_b de_int) (fun _ _ => rfl))) db_nil))) (de_b de_int))) (fun _ _ => rfl)))
      (dss_cons (ds_set (i := 3) hT sc_law.nd rfl (.inr rfl) (de_addL (de_b de_int) (de_b (de_mod (de_b (de_int1 rfl T.n_int (db_cons (de_b (de_ix (de_v 1) (de_b de_int) (fun _ _ => rfl))) db_nil))) (de_b de_int)))))
      (dss_cons (ds_set (i := 4) hT sc_law.nd rfl (.inl rfl) (de_lst (da_cons (de_fn (G_L_edges.mono (by omega)) hr (takes_of rfl rfl rfl rfl) rfl (da_cons (de_var 2) (da_cons (de_fn (G_L_numbers.mono (by omega)) hr (takes_of rfl rfl rfl rfl) rfl (da_cons (de_fn (G_L_cell.mono (by omega)) hr (takes_of rfl rfl rfl rfl) rfl (da_cons (de_var 0) (da_cons de_int da_nil))) (da_cons de_int da_nil))) da_nil))) (da_cons (de_fn (G_L_edges.mono (by omega)) hr (takes_of rfl rfl rfl rfl) rfl (da_cons (de_var 2) (da_cons (de_fn (G_L_numbers.mono (by omega)) hr (takes_of rfl rfl rfl rfl) rfl (da_cons (de_fn (G_L_cell.mono (by omega)) hr (takes_of rfl rfl rfl rfl) rfl (da_cons (de_var 0) (da_cons de_int da_nil))) (da_cons de_int da_nil))) da_nil))) da_nil))))
      (dss_cons (ds_frz [4] (ds_setLc (i := 5) (own := [("edges", 6)]) (pt := (.nm 6)) hT rfl sc_law.nd rfl rfl (sw_true rfl rfl rfl (by decide +kernel)) (di_seq (de_var 4)) (blkOk_by (N := ["script", "row", "size", "count", "graphs", "statements", "edges", "drawn", "begun", "k", "place", "due", "told"]) (sc := defScope s_law) (by decide +kernel)) (by decide) (fun _ _ _ _ _ => (pg_name (i := 6) sc_law.nd rfl (.inl rfl))) (fun _ _ _ _ _ => dts_nil) (fun _ _ _ _ _ => (de_fn (G_L_statement.mono (by omega)) hr takes0 rfl (da_cons (de_var 2) (da_cons (de_var 6) (da_cons (de_var 3) da_nil)))))))
      (dss_cons (ds_set (i := 7) hT sc_law.nd rfl (.inl rfl) (de_fn (G_L_numbers.mono (by omega)) hr (takes_of rfl rfl rfl rfl) rfl (da_cons (de_fn (G_L_cell.mono (by omega)) hr (takes_of rfl rfl rfl rfl) rfl (da_cons (de_var 0) (da_cons de_int da_nil))) (da_cons de_int da_nil))))
      (dss_cons (ds_set (i := 8) hT sc_law.nd rfl (.inl rfl) (de_tup da_nil))
      (dss_cons (ds_for (pt := (.nm 9)) hT (passes_of rfl) rfl (di_rng1 rfl T.n_range (de_v 2)) (pg_name (i := 9) sc_law.nd rfl (.inl rfl)) (dss_cons (ds_if (dt_not (dt_val (de_b (de_fn (G_L_best_told.mono (by omega)) hr (takes_of rfl rfl rfl rfl) rfl (da_cons (de_ix (de_v 5) (de_b de_int) (fun _ _ => rfl)) (da_cons (de_var 2) (da_cons (de_ix (de_v 4) (de_b de_int) (fun _ _ => rfl)) (da_cons (de_var 3) (da_cons (de_var 8) da_nil))))))))) (dss_one (ds_ret de_bl)) dss_nil)
      (dss_cons (ds_if (dt_le (de_b (de_sub (de_v 2) (de_v 9))) (de_b de_int)) (dss_one (ds_for (pt := (.nm 10)) hT (passes_of rfl) rfl (di_seq (de_lst (da_cons de_int (da_cons de_int da_nil)))) (pg_name (i := 10) sc_law.nd rfl (.inl rfl)) (dss_cons (ds_set (i := 11) hT sc_law.nd rfl (.inl rfl) (de_fn (G_L_best.mono (by omega)) hr (takes_of rfl rfl rfl rfl) rfl (da_cons (de_var 2) (da_cons (de_ix (de_v 4) (de_v 10) (fun _ _ => rfl)) (da_cons (de_var 3) (da_cons (de_var 8) da_nil))))))
      (dss_one (ds_if (dt_not (dt_val (de_b (de_fnB (G_L_same.mono (by omega)) hr (takes_of rfl rfl rfl rfl) rfl (db_cons (de_b (de_fnK (Gk_best_coloring.mono (by omega)) hr (takes_of rfl rfl rfl rfl) rfl (da_cons (de_ix (de_v 5) (de_v 10) (fun _ _ => rfl)) da_nil) (de_var 8))) (db_cons (de_v 11) db_nil)))))) (dss_one (ds_ret de_bl)) dss_nil))))) dss_nil)
      (dss_one (ds_set (i := 8) hT sc_law.nd rfl (.inl rfl) (de_addL (de_v 8) (de_b (de_tup (da_cons (de_mod (de_b (de_int1 rfl T.n_int (db_cons (de_b (de_ix (de_v 7) (de_v 9) (fun _ _ => rfl))) db_nil))) (de_v 3)) da_nil)))))))))
      (dss_cons (ds_for (pt := (.nm 10)) hT (passes_of rfl) rfl (di_seq (de_lst (da_cons de_int (da_cons de_int da_nil)))) (pg_name (i := 10) sc_law.nd rfl (.inl rfl)) (dss_cons (ds_if (dt_not (dt_val (de_b (de_fn (G_L_same.mono (by omega)) hr (takes_of rfl rfl rfl rfl) rfl (da_cons (de_fnK (Gk_best_coloring.mono (by omega)) hr (takes_of rfl rfl rfl rfl) rfl (da_cons (de_ix (de_v 5) (de_v 10) (fun _ _ => rfl)) da_nil) (de_var 8)) (da_cons (de_tup (da_cons (de_fn (G_L_number.mono (by omega)) hr (takes_of rfl rfl rfl rfl) rfl (da_cons (de_ix (de_v 4) (de_v 10) (fun _ _ => rfl)) (da_cons (de_var 8) da_nil))) (da_cons (de_var 8) da_nil))) da_nil)))))) (dss_one (ds_ret de_bl)) dss_nil)
      (dss_cons (ds_set (i := 12) hT sc_law.nd rfl (.inl rfl) (de_fnD (Gd_best_coloring.mono (by omega)) hr (takes_of rfl rfl rfl rfl) rfl (da_cons (de_ix (de_v 5) (de_v 10) (fun _ _ => rfl)) da_nil)))
      (dss_one (ds_if (dt_w (dw_or (dt_not (dt_val (de_b (de_fnB (G_L_is_told.mono (by omega)) hr (takes_of rfl rfl rfl rfl) rfl (db_cons (de_v 12) (db_cons (de_v 2) (db_cons (de_b (de_ix (de_v 4) (de_v 10) (fun _ _ => rfl))) (db_cons (de_v 3) (db_cons (de_b (de_tup da_nil)) db_nil))))))))) (dw_or1 (dt_not (dt_val (de_b (de_fnB (G_L_same.mono (by omega)) hr (takes_of rfl rfl rfl rfl) rfl (db_cons (de_b (de_fnK (Gk_best_coloring.mono (by omega)) hr (takes_of rfl rfl rfl rfl) rfl (da_cons (de_ix (de_v 5) (de_v 10) (fun _ _ => rfl)) da_nil) (de_tup da_nil))) (db_cons (de_v 12) db_nil))))))))) (dss_one (ds_ret de_bl)) dss_nil)))))
      (dss_one (ds_ret (de_fnB (G_L_refused.mono (by omega)) hr (takes_of rfl rfl rfl rfl) rfl (db_cons (de_b (de_ix (de_v 5) (de_b de_int) (fun _ _ => rfl))) (db_cons (de_v 2) (db_cons (de_v 3) (db_cons (de_v 8) (db_cons (de_v 1) db_nil)))))))))))))))))
end
end K44
set_option Elab.async false
set_option linter.all false
set_option maxRecDepth 100000
set_option maxHeartbeats 4000000
namespace K44
open PySem PySem.Spec L2 DL DM
open PyProof.Rows hiding St
theorem pix0 (p : Int × Int) : fIx (pr p) (.int 0) = .ok (.fr (.int p.1)) := rfl
theorem pix1 (p : Int × Int) : fIx (pr p) (.int 1) = .ok (.fr (.int p.2)) := rfl
abbrev mbody : MS := (sSeq (sSet 5 (mCall fTup (mCons (mCall fMin (bCons (mBV 3) (bCons (mBV 4) bNil))) (mCons (mCall fMax (bCons (mBV 3) (bCons (mBV 4) bNil))) mNil))))
    (sSeq (sIf (tOrM (mTest (mB (mBin fLt (mB (mBin fIx (mBV 5) (mB (mC (.int 0))))) (mB (mC (.int 0)))))) (mTest (mB (mBin fGe (mB (mBin fIx (mBV 5) (mB (mC (.int 1))))) (mBV 0))))) (sRaise 1) sNop)
    (sSeq (sIf (mTest (mB (mBin fEq (mBV 3) (mBV 4)))) (sRaise 1) sNop)
    (sSeq (sIf (mTest (mB (mBin fIn (mBV 5) (mBV 2)))) (sRaise 1) sNop)
    (sApp 2 (mVar 5))))))
theorem ped_ne (p : Int × Int) : (ped p).1 = (ped p).2 ↔ p.1 = p.2 := by
  rcases ped_cases p with c | c <;> rw [c]
  exact ⟨fun h => h.symm, fun h => h.symm⟩
theorem mstep {n : Nat} {L : Option Sl} {o5 : Option Sl} (p : Int × Int) {found : List (Int × Int)} (hf : found.length < 1000) :
    mbody [some (.fr (.int n)), L, some (.ow (found.map pr)), some (.fr (.int p.1)), some (.fr (.int p.2)), o5] =
      if okEdge n (ped p) found = true then .nx [some (.fr (.int n)), L, some (.ow ((found ++ [ped p]).map pr)), some (.fr (.int p.1)), some (.fr (.int p.2)), some (.fr (pr (ped p)))]
      else .ex 1 none [some (.fr (.int n)), L, some (.ow (found.map pr)), some (.fr (.int p.1)), some (.fr (.int p.2)), some (.fr (pr (ped p)))] := by
  have e1 : fMin [.int p.1, .int p.2] = .ok (.fr (.int (ped p).1)) := rfl
  have e2 : fMax [.int p.1, .int p.2] = .ok (.fr (.int (ped p).2)) := rfl
  have e3 : fTup [.int (ped p).1, .int (ped p).2] = .ok (.fr (pr (ped p))) := rfl
  have i0 := pix0 (ped p)
  have i1 := pix1 (ped p)
  have ei := fIn_lst (ped p) found
  have hn := ped_ne p
  have hl : (found.map pr).length < lim := by rw [List.length_map]; unfold lim; omega
  unfold okEdge
  obtain ⟨q, hq⟩ : ∃ q, ped p = q := ⟨_, rfl⟩
  rw [hq] at e1 e2 e3 i0 i1 ei hn ⊢
  obtain ⟨P, hP⟩ : ∃ P, pr q = P := ⟨_, rfl⟩
  have hP2 : (found ++ [q]).map pr = found.map pr ++ [P] := by simp [hP]
  rw [hP] at e3 i0 i1 ei
  rw [hP2, hP]
  generalize found.map pr = F at ei hl ⊢
  have ee := fEq_int p.1 p.2
  unfold mbody
  by_cases c1 : q.1 < 0
  · have c1' : ¬ 0 ≤ q.1 := by omega
    simp [runF, env0, fin, sSeq, sSet, sIf, sRet, sRetN, sRetV, sDrop, sFrz, frz, frz1, sNop, sTry, sTryAs, mAnd, mOr, mNot, mB, mBin, mUn, mCall, mCons, mNil, bCons, bNil, mBV, mVar, mC, mTest, tNotM, tAndM, tOrM, tYesM, DL.R.bind, DL.R.quiet, Sl.d, asB, mIf, e1, e2, e3, i0, i1, fLt, c1, c1', sRaise]
  · have c1' : 0 ≤ q.1 := by omega
    by_cases c2 : (n : Int) ≤ q.2
    · have c2' : ¬ q.2 < (n : Int) := by omega
      simp [runF, env0, fin, sSeq, sSet, sIf, sRet, sRetN, sRetV, sDrop, sFrz, frz, frz1, sNop, sTry, sTryAs, mAnd, mOr, mNot, mB, mBin, mUn, mCall, mCons, mNil, bCons, bNil, mBV, mVar, mC, mTest, tNotM, tAndM, tOrM, tYesM, DL.R.bind, DL.R.quiet, Sl.d, asB, mIf, e1, e2, e3, i0, i1, fLt, fGe, c1, c1', c2, c2', sRaise]
    · have c2' : q.2 < (n : Int) := by omega
      by_cases c3 : p.1 = p.2
      · have c3' := hn.mpr c3
        have ee : fEq (.int p.1) (.int p.2) = .ok (.fr (.bl true)) := by rw [ee, decide_eq_true c3]
        rw [if_neg (by simp [c3'])]
        simp [runF, env0, fin, sSeq, sSet, sIf, sRet, sRetN, sRetV, sDrop, sFrz, frz, frz1, sNop, sTry, sTryAs, mAnd, mOr, mNot, mB, mBin, mUn, mCall, mCons, mNil, bCons, bNil, mBV, mVar, mC, mTest, tNotM, tAndM, tOrM, tYesM, DL.R.bind, DL.R.quiet, Sl.d, asB, mIf, e1, e2, e3, i0, i1, fLt, fGe, c1, c2, sRaise, ee]
      · have c3' : ¬ q.1 = q.2 := fun h => c3 (hn.mp h)
        by_cases c4 : q ∈ found
        · simp [runF, env0, fin, sSeq, sSet, sIf, sRet, sRetN, sRetV, sDrop, sFrz, frz, frz1, sNop, sTry, sTryAs, mAnd, mOr, mNot, mB, mBin, mUn, mCall, mCons, mNil, bCons, bNil, mBV, mVar, mC, mTest, tNotM, tAndM, tOrM, tYesM, DL.R.bind, DL.R.quiet, Sl.d, asB, mIf, e1, e2, e3, i0, i1, fLt, fGe, c1, c1', c2, c2', sRaise, ee, c3, c3', ei, c4]
        · simp [runF, env0, fin, sSeq, sSet, sIf, sRet, sRetN, sRetV, sDrop, sFrz, frz, frz1, sNop, sTry, sTryAs, mAnd, mOr, mNot, mB, mBin, mUn, mCall, mCons, mNil, bCons, bNil, mBV, mVar, mC, mTest, tNotM, tAndM, tOrM, tYesM, DL.R.bind, DL.R.quiet, Sl.d, asB, mIf, e1, e2, e3, i0, i1, fLt, fGe, c1, c1', c2, c2', sRaise, ee, c3, c3', ei, c4, sApp, hl]
theorem mloop {n : Nat} {L : Option Sl} : ∀ (ps found : List (Int × Int)) (o3 o4 o5 : Option Sl), found.length + ps.length < 1000 →
    match pfound n ps found with
    | some g => ∃ q3 q4 q5, DL.forM (Pt.tp [3, 4]).go mbody (ps.map pr) [some (.fr (.int n)), L, some (.ow (found.map pr)), o3, o4, o5] = .nx [some (.fr (.int n)), L, some (.ow (g.map pr)), q3, q4, q5]
    | none => ∃ env, DL.forM (Pt.tp [3, 4]).go mbody (ps.map pr) [some (.fr (.int n)), L, some (.ow (found.map pr)), o3, o4, o5] = .ex 1 none env
  | [], found, o3, o4, o5, _ => ⟨o3, o4, o5, rfl⟩
  | p :: ps, found, o3, o4, o5, h => by
    have hl : found.length + (ps.length + 1) < 1000 := by simpa using h
    have st := mstep (n := n) (L := L) (o5 := o5) p (found := found) (by omega)
    have un : DL.forM (Pt.tp [3, 4]).go mbody ((p :: ps).map pr) [some (.fr (.int n)), L, some (.ow (found.map pr)), o3, o4, o5] = match mbody [some (.fr (.int n)), L, some (.ow (found.map pr)), some (.fr (.int p.1)), some (.fr (.int p.2)), o5] with
      | .nx e => DL.forM (Pt.tp [3, 4]).go mbody (ps.map pr) e
      | .ct e => DL.forM (Pt.tp [3, 4]).go mbody (ps.map pr) e
      | .bk e => .nx e
      | .rt s => .rt s
      | .ex c p e => .ex c p e
      | .st => .st := rfl
    rw [un, st]
    unfold pfound
    by_cases c : okEdge n (ped p) found = true
    · rw [if_pos c, if_pos c]
      exact mloop ps (found ++ [ped p]) _ _ _ (by simp; omega)
    · rw [if_neg c, if_neg c]
      exact ⟨_, rfl⟩
theorem join_mg (env : En) : ∃ s, mJoin [(mB (mC (.str (Str.ofString "a graph has 1 to ")))), (mB (mUn fFmt (mB (mC (.int 6))))), (mB (mC (.str (Str.ofString " nodes"))))] env = .ok s := ⟨_, rfl⟩
abbrev grD (n : Nat) (g : List (Int × Int)) : D := .tup [.int n, .tup (g.map pr)]
theorem make_out {n : Int} {d : D} (h : n < 1 ∨ 6 < n) : f_make_graph [.int n, d] = .ex 1 none := by
  unfold f_make_graph m_make_graph
  generalize hj : mJoin _ = J
  have hs : ∃ s, J [some (.fr (.int n)), some (.fr d), none, none, none, none] = .ok s := hj ▸ join_mg _
  obtain ⟨s, hs⟩ := hs
  by_cases c : n < 1
  · simp [runF, env0, fin, sSeq, sSet, sIf, sRet, sRetN, sRetV, sDrop, sFrz, frz, frz1, sNop, sTry, sTryAs, mAnd, mOr, mNot, mB, mBin, mUn, mCall, mCons, mNil, bCons, bNil, mBV, mVar, mC, mTest, tNotM, tAndM, tOrM, tYesM, DL.R.bind, DL.R.quiet, Sl.d, asB, mIf, fLt, fGt, c, sRaise1, hs]
  · have c2 : 6 < n := by omega
    simp [runF, env0, fin, sSeq, sSet, sIf, sRet, sRetN, sRetV, sDrop, sFrz, frz, frz1, sNop, sTry, sTryAs, mAnd, mOr, mNot, mB, mBin, mUn, mCall, mCons, mNil, bCons, bNil, mBV, mVar, mC, mTest, tNotM, tAndM, tOrM, tYesM, DL.R.bind, DL.R.quiet, Sl.d, asB, mIf, fLt, fGt, c, c2, sRaise1, hs]
theorem make_is {n : Nat} (h : 1 ≤ n ∧ n ≤ 6) {ps : List (Int × Int)} (hl : ps.length < 1000) : f_make_graph [.int n, .lst (ps.map pr)] = match pgraph n ps with
    | some g => .ok (.fr (grD n g))
    | none => .ex 1 none := by
  have lp := mloop (n := n) (L := some (.fr (.lst (ps.map pr)))) ps [] none none none (by simpa using hl)
  have c1 : ¬ ((n : Int) < 1) := by omega
  have c2 : ¬ (6 < (n : Int)) := by omega
  have e1 : fLt (.int n) (.int 1) = .ok (.fr (.bl false)) := by show R.ok (Sl.fr (.bl (decide ((n : Int) < 1)))) = _; rw [decide_eq_false c1]
  have e2 : fGt (.int n) (.int 6) = .ok (.fr (.bl false)) := by show R.ok (Sl.fr (.bl (decide (6 < (n : Int))))) = _; rw [decide_eq_false c2]
  unfold pgraph
  unfold f_make_graph m_make_graph
  obtain ⟨B, hB⟩ : ∃ m, mbody = m := ⟨_, rfl⟩
  have hB' := hB
  unfold mbody at hB'
  rw [hB']
  rw [hB] at lp
  generalize ps.map pr = PS at lp ⊢
  cases hp : pfound n ps [] with
  | none =>
    rw [hp] at lp
    obtain ⟨env, lp⟩ := lp
    have lp : DL.forM (Pt.tp [3, 4]).go B PS [some (.fr (.int n)), some (.fr (.lst PS)), some (.ow []), none, none, none] = .ex 1 none env := lp
    simp [runF, env0, fin, sSeq, sSet, sIf, sRet, sRetN, sRetV, sDrop, sFrz, frz, frz1, sNop, sTry, sTryAs, mAnd, mOr, mNot, mB, mBin, mUn, mCall, mCons, mNil, bCons, bNil, mBV, mVar, mC, mTest, tNotM, tAndM, tOrM, tYesM, DL.R.bind, DL.R.quiet, Sl.d, asB, mIf, e1, e2, fLst, sFor, mIter, asSeq, lp]
  | some f =>
    rw [hp] at lp
    obtain ⟨q3, q4, q5, lp⟩ := lp
    have lp : DL.forM (Pt.tp [3, 4]).go B PS [some (.fr (.int n)), some (.fr (.lst PS)), some (.ow []), none, none, none] = .nx [some (.fr (.int n)), some (.fr (.lst PS)), some (.ow (f.map pr)), q3, q4, q5] := lp
    have fl : f.length ≤ lim := by
      have := (pfound_ge (n := n) ⟨by simp, by simp⟩ hp).2
      rw [this]
      unfold lim
      simp
      omega
    have s1 := fSorted_prs f fl
    generalize f.map pr = F at lp s1
    simp [runF, env0, fin, sSeq, sSet, sIf, sRet, sRetN, sRetV, sDrop, sFrz, frz, frz1, sNop, sTry, sTryAs, mAnd, mOr, mNot, mB, mBin, mUn, mCall, mCons, mNil, bCons, bNil, mBV, mVar, mC, mTest, tNotM, tAndM, tOrM, tYesM, DL.R.bind, DL.R.quiet, Sl.d, asB, mIf, e1, e2, fLst, sFor, mIter, asSeq, lp, s1, fTuple, fTup, lim]
def pairsL (n : Nat) : List (Int × Int) := (List.range n).flatMap fun (a : Nat) => ((List.range n).filter fun (b : Nat) => a < b).map fun (b : Nat) => ((a : Int), (b : Int))
def isPrs (ps : List (Int × Int)) : List D → Bool
  | [] => ps.isEmpty
  | d :: ds => match ps with
    | [] => false
    | p :: ps => (match d with
      | .tup [.int a, .int b] => decide (a = p.1) && decide (b = p.2)
      | _ => false) && isPrs ps ds
theorem isPrs_eq : ∀ {ds : List D} {ps : List (Int × Int)}, isPrs ps ds = true → ds = ps.map pr
  | [], ps, h => by
    unfold isPrs at h
    rw [List.isEmpty_iff.mp h]; rfl
  | d :: ds, [], h => by simp [isPrs] at h
  | d :: ds, p :: ps, h => by
    unfold isPrs at h
    rw [Bool.and_eq_true] at h
    obtain ⟨h1, h2⟩ := h
    rw [isPrs_eq h2]
    split at h1
    · rw [Bool.and_eq_true, decide_eq_true_iff, decide_eq_true_iff] at h1
      rw [h1.1, h1.2]; rfl
    · cases h1
def isOw (ps : List (Int × Int)) : R Sl → Bool
  | .ok (.ow ds) => isPrs ps ds
  | _ => false
theorem isOw_eq {ps : List (Int × Int)} {r : R Sl} (h : isOw ps r = true) : r = .ok (.ow (ps.map pr)) := by
  unfold isOw at h
  split at h
  · rw [isPrs_eq h]
  · cases h
theorem np_tab : (List.range 7).all (fun n => isOw (pairsL n) (f_L_pairs [.int n])) = true := by decide +kernel
theorem np_is {n : Nat} (h : n ≤ 6) : f_L_pairs [.int n] = .ok (.ow ((pairsL n).map pr)) := isOw_eq (List.all_eq_true.mp np_tab n (List.mem_range.mpr (by omega)))
theorem pl_tab : (List.range 7).all (fun n => decide ((pairsL n).length ≤ 15) && (pairsL n).all fun p => decide (0 ≤ p.1) && decide (p.1 < p.2) && decide (p.2 < (n : Int))) = true := by decide +kernel
theorem pl_len {n : Nat} (h : n ≤ 6) : (pairsL n).length ≤ 15 := by
  have t := List.all_eq_true.mp pl_tab n (List.mem_range.mpr (by omega))
  rw [Bool.and_eq_true] at t
  exact of_decide_eq_true t.1
theorem pl_nd : (List.range 7).all (fun n => decide ((pairsL n).Nodup)) = true := by decide +kernel
theorem pl_ge {n : Nat} (h : n ≤ 6) : GE n (pairsL n) := by
  have t := List.all_eq_true.mp pl_tab n (List.mem_range.mpr (by omega))
  rw [Bool.and_eq_true] at t
  refine ⟨fun e m => ?_, of_decide_eq_true (List.all_eq_true.mp pl_nd n (List.mem_range.mpr (by omega)))⟩
  have := List.all_eq_true.mp t.2 e m
  simp only [Bool.and_eq_true, decide_eq_true_iff] at this
  omega
theorem pgraph_len {n : Nat} {ps g : List (Int × Int)} (h : pgraph n ps = some g) : g.length = ps.length := by
  rw [(pgraph_ge h).2, (isort_permI _ _).length_eq, List.length_map]
end K44
set_option Elab.async false
set_option linter.all false
set_option maxRecDepth 100000
set_option maxHeartbeats 4000000
namespace K44
open PySem PySem.Spec L2 DL DM
open PyProof.Rows hiding St
def isBl (b : Bool) : R Sl → Bool
  | .ok (.fr (.bl c)) => decide (c = b)
  | _ => false
theorem isBl_eq {b : Bool} {r : R Sl} (h : isBl b r = true) : r = .ok (.fr (.bl b)) := by
  unfold isBl at h
  split at h
  · rw [of_decide_eq_true h]
  · cases h
theorem forM_nx {as : D → En → Option En} {b : MS} {d : D} {ds : List D} {env e e' : En} (h1 : as d env = some e) (h2 : b e = .nx e') : DL.forM as b (d :: ds) env = DL.forM as b ds e' := by
  conv => lhs; unfold DL.forM
  rw [h1]
  show (match b e with | .nx e => DL.forM as b ds e | .ct e => DL.forM as b ds e | .bk e => .nx e | .rt s => .rt s | .ex c p e => .ex c p e | .st => .st) = _
  rw [h2]
section
variable {n : Nat} {g h : List (Int × Int)} {cs : List Int}
theorem forM_rt {as : D → En → Option En} {b : MS} {d : D} {ds : List D} {env e : En} {s : Sl} (h1 : as d env = some e) (h2 : b e = .rt s) : DL.forM as b (d :: ds) env = .rt s := by
  conv => lhs; unfold DL.forM
  rw [h1]
  show (match b e with | .nx e => DL.forM as b ds e | .ct e => DL.forM as b ds e | .bk e => .nx e | .rt s => .rt s | .ex c p e => .ex c p e | .st => .st) = _
  rw [h2]
theorem forM_one {as : D → En → Option En} {b : MS} {d : D} {env e e' : En} (h1 : as d env = some e) (h2 : b e = .nx e') : DL.forM as b [d] env = .nx e' := (forM_nx h1 h2).trans rfl
end
theorem x_env {m : MS} {e e' : En} {r : DL.RS} (h : e = e') (h2 : m e' = r) : m e = r := h ▸ h2
section
variable {n : Nat} {g h : List (Int × Int)} {T A S : List Int}
theorem forM_ex {as : D → En → Option En} {b : MS} {d : D} {ds : List D} {env e e' : En} {c : Nat} {p : Pl} (h1 : as d env = some e) (h2 : b e = .ex c p e') : DL.forM as b (d :: ds) env = .ex c p e' := by
  conv => lhs; unfold DL.forM
  rw [h1]
  show (match b e with | .nx e => DL.forM as b ds e | .ct e => DL.forM as b ds e | .bk e => .nx e | .rt s => .rt s | .ex c p e => .ex c p e | .st => .st) = _
  rw [h2]
end
theorem x_callE {h : Fn} {mr : En → R (List D)} {env : En} {n : Nat} {p : Pl} (h1 : mr env = .ex n p) : mCall h mr env = .ex n p := by unfold mCall; rw [h1]; rfl
theorem x_consE {m : M} {mr : En → R (List D)} {env : En} {n : Nat} {p : Pl} (h1 : m env = .ex n p) : mCons m mr env = .ex n p := by unfold mCons; rw [h1]; rfl
theorem x_consE2 {m : M} {mr : En → R (List D)} {env : En} {s : Sl} {n : Nat} {p : Pl} (h0 : m env = .ok s) (h1 : mr env = .ex n p) : mCons m mr env = .ex n p := by unfold mCons; rw [h0]; show (mr env).bind _ = _; rw [h1]; rfl
theorem x_tryNR {i : Nat} {mb : MS} {ks : List Cl1} {env : En} {s : Sl} (h1 : mb env = .rt s) : sTryN i mb ks env = .rt s := by unfold sTryN; rw [h1]
theorem x_tryN1 {i : Nat} {mb : MS} {cat : Nat → Option Bool} {su : Nat → Pl → MS} {ks : List Cl1} {env e : En} {c : Nat} {p : Pl} {s : Sl} (h1 : mb env = .ex c p e) (h2 : cat c = some true) (hi : i < e.length) (h3 : su c p (e.set i none) = .rt s) : sTryN i mb ((cat, su) :: ks) env = .rt s := by
  unfold sTryN
  rw [h1]
  show (match cat c with | some true => (if i < e.length then (su c p (e.set i none)).clr i else .st) | some false => clsN i ks c p e | none => .st) = _
  rw [h2]
  show (if i < e.length then (su c p (e.set i none)).clr i else .st) = _
  rw [if_pos hi, h3]
  rfl
theorem x_tryN2 {i : Nat} {mb : MS} {cat cat2 : Nat → Option Bool} {su su2 : Nat → Pl → MS} {ks : List Cl1} {env e : En} {c : Nat} {p : Pl} {s : Sl} (h1 : mb env = .ex c p e) (h2 : cat c = some false) (h3 : cat2 c = some true) (hi : i < e.length) (h4 : su2 c p (e.set i none) = .rt s) : sTryN i mb ((cat, su) :: (cat2, su2) :: ks) env = .rt s := by
  unfold sTryN
  rw [h1]
  show (match cat c with | some true => (if i < e.length then (su c p (e.set i none)).clr i else .st) | some false => clsN i ((cat2, su2) :: ks) c p e | none => .st) = _
  rw [h2]
  show (match cat2 c with | some true => (if i < e.length then (su2 c p (e.set i none)).clr i else .st) | some false => clsN i ks c p e | none => .st) = _
  rw [h3]
  show (if i < e.length then (su2 c p (e.set i none)).clr i else .st) = _
  rw [if_pos hi, h4]
  rfl
section
variable {n : Nat} {g h : List (Int × Int)} {cs : List Int} {p : List Int}
end
theorem cell_is : f_L_cell = f_cell := rfl
theorem numbers_is : f_L_numbers = f_numbers := rfl
@[irreducible] def g_same : Fn := f_L_same
theorem g_eq : f_L_same = g_same := by unfold g_same; rfl
theorem same_is {d : D} (h : goodD 7 d = true) : g_same [d, d] = .ok (.fr (.bl true)) := by
  rw [← g_eq]
  exact same_ok 7 d h
theorem same_t {xs : List Int} (h : xs.length ≤ 1000) : g_same [tupI xs, tupI xs] = .ok (.fr (.bl true)) := same_is (gd_tints (by omega))
theorem same_b (b : Bool) : g_same [.bl b, .bl b] = .ok (.fr (.bl true)) := same_is rfl
theorem same_i (b : Int) : g_same [.int b, .int b] = .ok (.fr (.bl true)) := same_is rfl
theorem x_dropX {m : M} {env : En} {n : Nat} {p : Pl} (h : m env = .ex n p) : sDrop m env = .ex n p env := by unfold sDrop; rw [h]
end K44
set_option Elab.async false
set_option linter.all false
set_option maxRecDepth 100000
set_option maxHeartbeats 4000000
namespace K44
open PySem PySem.Spec L2 DL DM
open PyProof.Rows hiding St
theorem l_kx {zs : List Int} {j : Nat} (h : j < zs.length) : fIx (.lst (zs.map .int)) (.int j) = .ok (.fr (.int (at0 zs j))) := l_row (by omega)
theorem l_kt {zs : List Int} {j : Nat} (h : j < zs.length) : fIx (tupI zs) (.int j) = .ok (.fr (.int (at0 zs j))) := l_rowT (by omega)
end K44
set_option Elab.async false
set_option linter.all false
set_option maxRecDepth 100000
set_option maxHeartbeats 4000000
namespace K44
open PySem PySem.Spec L2 DL DM
open PyProof.Rows hiding St
section
variable {n : Nat} {zs : List Int} {g h : List (Int × Int)} {made : D}
theorem ped_self {g : List (Int × Int)} (hg : GE n g) : g.map ped = g := by
  conv => rhs; rw [← List.map_id g]
  exact List.map_congr_left fun e m => ped_of (by have := hg.1 e m; omega)
theorem ped_turn {g : List (Int × Int)} (hg : GE n g) : (g.map fun e : Int × Int => (e.2, e.1)).map ped = g := by
  rw [List.map_map]
  conv => rhs; rw [← List.map_id g]
  refine List.map_congr_left fun e m => ?_
  show ped (e.2, e.1) = e
  rw [ped_swap]
  exact ped_of (by have := hg.1 e m; show e.1 ≤ e.2; omega)
end
end K44
set_option Elab.async false
set_option linter.all false
set_option maxRecDepth 100000
set_option maxHeartbeats 4000000
namespace K44
open PySem PySem.Spec L2 DL DM
open PyProof.Rows hiding St
theorem pl_sorted : (List.range 7).all (fun n => decide (isort leP (pairsL n) = pairsL n)) = true := by decide +kernel
theorem sub_ok {n : Nat} (hn : n ≤ 6) {g : List (Int × Int)} (s : g.Sublist (pairsL n)) : GE n g ∧ isort leP g = g ∧ g.length ≤ 15 := by
  have k := pl_ge hn
  have so : isort leP (pairsL n) = pairsL n := of_decide_eq_true (List.all_eq_true.mp pl_sorted n (List.mem_range.mpr (by omega)))
  have od := isortP_ordered (pairsL n)
  rw [so] at od
  refine ⟨⟨fun e m => k.1 e (s.subset m), s.nodup k.2⟩, eqP_of_ordered (isortP_ordered g) (od.sublist s) (isort_permI _ _), Nat.le_trans s.length_le (pl_len hn)⟩
end K44
set_option Elab.async false
set_option linter.all false
set_option maxRecDepth 100000
set_option maxHeartbeats 4000000
namespace K44
open PySem PySem.Spec L2 DL DM
open PyProof.Rows hiding St
theorem compL2_map {α : Type} {as as1 : D → En → Option En} {t t1 : En → R Bool} {mi1 : En → R (List D)} {me : M} {vs1 : List Nat} {env : En} {f : α → D} {gs : α → List D} : ∀ {xs : List α},
    (∀ a ∈ xs, ∃ e1 ys, as (f a) env = some e1 ∧ t e1 = .ok true ∧ mi1 e1 = .ok ys ∧ compL as1 t1 me (wipeE e1 vs1) ys = .ok (gs a)) → compL2 as t mi1 as1 t1 me vs1 env (xs.map f) = .ok (xs.flatMap gs)
  | [], _ => rfl
  | a :: xs, h => by
    obtain ⟨e1, ys, h1, h2, h3, h4⟩ := h a List.mem_cons_self
    have ih := compL2_map fun b m => h b (List.mem_cons_of_mem _ m)
    show compL2 as t mi1 as1 t1 me vs1 env (f a :: xs.map f) = _
    unfold compL2
    rw [h1]
    show ((t e1).quiet.bind fun b => if b = true then (mi1 e1).quiet.bind fun xs1 => (compL as1 t1 me (wipeE e1 vs1) xs1).bind fun r1 => (compL2 as t mi1 as1 t1 me vs1 env (xs.map f)).bind fun r2 => .ok (r1 ++ r2) else compL2 as t mi1 as1 t1 me vs1 env (xs.map f)) = _
    rw [h2, ih]
    show ((mi1 e1).quiet.bind fun xs1 => (compL as1 t1 me (wipeE e1 vs1) xs1).bind fun r1 => R.ok (r1 ++ xs.flatMap gs)) = _
    rw [h3]
    show ((compL as1 t1 me (wipeE e1 vs1) ys).bind fun r1 => R.ok (r1 ++ xs.flatMap gs)) = _
    rw [h4]
    rfl
end K44
set_option Elab.async false
set_option linter.all false
set_option maxRecDepth 100000
set_option maxHeartbeats 4000000
namespace K44
open PySem PySem.Spec L2 DL DM
open PyProof.Rows hiding St
local macro_rules | `(tactic| decreasing_with $ts:tacticSeq) => `(tactic| (repeat (first | (with_reducible first | exact x_C | exact x_bnil | exact x_nil | exact d_fr | exact d_ow | exact x_nop | exact x_ofalse | exact x_retN | apply x_B | apply x_BV | apply x_var | apply x_bin | apply x_un | apply x_bcons | apply x_cons | apply x_call | apply x_test | apply x_tnot | apply x_not | apply x_osome | apply x_sl | apply x_meth | apply x_iter | apply x_chain | apply x_and | apply x_or | apply x_tand | apply x_tor | intro _ | apply x_star | apply x_seqSet | apply x_seqUnp | apply x_seqApp | apply x_seqPut | apply x_set | apply x_ifset | apply x_ret | apply x_retV | apply x_drop | apply x_app | apply x_ext | apply x_unp | apply x_put | apply x_frz) | ($ts) | exact (rfl : (_ : Option (Option Sl)) = _) | exact (rfl : (_ : En) = _) | exact (rfl : (_ : Option Fn) = _) | exact l_add | exact l_sub | exact l_int | exact l_intB | exact l_mod (by first | decide | omega) | exact l_div (by first | decide | omega) (by first | decide | omega) | exact l_mulR (by omega) | exact l_mulL (by omega) | exact l_neg | exact l_abs | exact l_lt | exact l_le | exact l_gt | exact l_ge | exact l_eqI | exact l_neI | exact l_min | exact l_max | exact l_lenL | exact l_lenT | exact l_tuple | exact l_tupleT | exact l_list | exact l_listT | exact l_T0 | exact l_T1 | exact l_T2 | exact l_T3 | exact l_L0 | exact l_L1 | exact l_L2 | exact l_L3 | exact l_tup (by simp only [lim, List.length_cons, List.length_nil, List.length_map, List.length_append]; omega) | exact l_lst (by simp only [lim, List.length_cons, List.length_nil, List.length_map, List.length_append]; omega) | exact l_seqL | exact l_seqT | exact l_fld rfl rfl | exact (rfl : (_ : D) = D.tup _) | exact (rfl : (_ : Nat) = _))))
/-! ### all rows -/
def RL (c : Nat) : Nat → List (List Int)
  | 0 => [[]]
  | k + 1 => (RL c k).flatMap fun r => (List.range c).map fun i : Nat => r ++ [(i : Int)]
theorem flat_len {α β : Type} {f : α → List β} {m : Nat} : ∀ {xs : List α}, (∀ a ∈ xs, (f a).length = m) → (xs.flatMap f).length = xs.length * m
  | [], _ => by simp
  | a :: xs, h => by
    rw [List.flatMap_cons, List.length_append, h a List.mem_cons_self, flat_len fun b q => h b (List.mem_cons_of_mem _ q), List.length_cons, Nat.succ_mul]
    omega
theorem RL_len (c : Nat) : ∀ k, (RL c k).length = c ^ k
  | 0 => rfl
  | k + 1 => by
    show ((RL c k).flatMap fun r => (List.range c).map fun i : Nat => r ++ [(i : Int)]).length = _
    rw [flat_len (m := c) (fun a _ => by simp), RL_len c k, Nat.pow_succ]
theorem RL_mem {c : Nat} : ∀ {k : Nat} {r : List Int}, r ∈ RL c k → r.length = k ∧ ∀ z ∈ r, 0 ≤ z ∧ z < c
  | 0, r, h => by
    rw [List.mem_singleton.mp h]
    exact ⟨rfl, fun z m => by cases m⟩
  | k + 1, r, h => by
    obtain ⟨q, m, h⟩ := List.mem_flatMap.mp h
    obtain ⟨i, hi, rfl⟩ := List.mem_map.mp h
    obtain ⟨l, b⟩ := RL_mem m
    refine ⟨by rw [List.length_append, l]; rfl, fun z hz => ?_⟩
    rcases List.mem_append.mp hz with hz | hz
    · exact b z hz
    · rw [List.mem_singleton.mp hz]
      have := List.mem_range.mp hi
      omega
theorem RL_front (c : Nat) : ∀ k, RL c (k + 1) = (List.range c).flatMap fun i : Nat => (RL c k).map fun r => (i : Int) :: r
  | 0 => by
    show ([[]] : List (List Int)).flatMap (fun r => (List.range c).map fun i : Nat => r ++ [(i : Int)]) = (List.range c).flatMap fun i : Nat => ([[]] : List (List Int)).map fun r => (i : Int) :: r
    rw [List.flatMap_singleton]
    induction List.range c with
    | nil => rfl
    | cons a l ih => rw [List.map_cons, List.flatMap_cons, ih]; rfl
  | k + 1 => by
    show (RL c (k + 1)).flatMap (fun r => (List.range c).map fun i : Nat => r ++ [(i : Int)]) = _
    conv => lhs; rw [RL_front c k]
    rw [List.flatMap_assoc]
    congr 1
    funext i
    rw [List.flatMap_map]
    show (RL c k).flatMap (fun r => (List.range c).map fun j : Nat => (i : Int) :: r ++ [(j : Int)]) = ((RL c k).flatMap fun r => (List.range c).map fun j : Nat => r ++ [(j : Int)]).map fun r => (i : Int) :: r
    rw [List.map_flatMap]
    congr 1
    funext r
    rw [List.map_map]
    rfl
theorem RL_small {c k : Nat} (hc : c ≤ 4) (hk : k ≤ 6) : (RL c k).length ≤ 4096 := by
  rw [RL_len]
  have h1 : c ^ k ≤ 4 ^ k := Nat.pow_le_pow_left hc k
  have h2 : 4 ^ k ≤ 4 ^ 6 := Nat.pow_le_pow_right (by decide) hk
  have h3 : (4 : Nat) ^ 6 = 4096 := rfl
  omega
abbrev robody : MS := (sFrz [2] (sSet 2 (mComp2 (mIter (mVar 2)) (.nm 4) tYesM (mRng1 (mBV 1)) (.nm 5) tYesM (mBin fAddL (mBV 4) (mB (mCall fTup (mCons (mVar 5) mNil)))) [4, 5] [5])))
abbrev roE (k c : Nat) (A : List (List Int)) (o3 : Option Sl) : En := [some (.fr (.int k)), some (.fr (.int c)), some (.ow (A.map tupI)), o3, none, none]
theorem ro_step {c k : Nat} (hc : c ≤ 4) (hk : k < 6) (n : Nat) (o3 : Option Sl) : robody (roE n c (RL c k) o3) = .nx (roE n c (RL c (k + 1)) o3) := by
  have ce : compL2 (Pt.nm 4).go tYesM (mRng1 (mBV 1)) (Pt.nm 5).go tYesM (mBin fAddL (mBV 4) (mB (mCall fTup (mCons (mVar 5) mNil)))) [5] [some (.fr (.int n)), some (.fr (.int c)), some (.fr (.lst ((RL c k).map tupI))), o3, none, none] ((RL c k).map tupI) = .ok ((RL c (k + 1)).map tupI) := by
    show _ = R.ok (((RL c k).flatMap fun r => (List.range c).map fun i : Nat => r ++ [(i : Int)]).map tupI)
    rw [List.map_flatMap]
    refine compL2_map fun r m => ⟨[some (.fr (.int n)), some (.fr (.int c)), some (.fr (.lst ((RL c k).map tupI))), o3, some (.fr (tupI r)), none], (List.range c).map fun i : Nat => .int i, rfl, rfl, x_rng1 (n := c) rfl (by omega), ?_⟩
    obtain ⟨l, b⟩ := RL_mem m
    rw [List.map_map]
    refine compL_map (xs := List.range c) (f := fun i : Nat => D.int i) fun i hi => ⟨[some (.fr (.int n)), some (.fr (.int c)), some (.fr (.lst ((RL c k).map tupI))), o3, some (.fr (tupI r)), some (.fr (.int i))], .fr (tupI (r ++ [(i : Int)])), rfl, rfl, ?_, rfl⟩
    have t0 : fTup [.int i] = .ok (.fr (.tup [.int i])) := rfl
    have ad : fAddL (tupI r) (.tup [.int i]) = .ok (.fr (tupI (r ++ [(i : Int)]))) := fAddL_tup (xs := r) (ys := [(i : Int)]) (by simp; omega)
    decreasing_with first | exact t0 | exact ad
  have ll : ((RL c (k + 1)).map tupI).length ≤ lim := by
    rw [List.length_map]
    have := RL_small (c := c) (k := k + 1) hc (by omega)
    unfold lim
    omega
  apply x_frz (e := [some (.fr (.int n)), some (.fr (.int c)), some (.fr (.lst ((RL c k).map tupI))), o3, none, none])
  · exact rfl
  apply x_set (s := .ow ((RL c (k + 1)).map tupI))
  · unfold mComp2
    rw [show mIter (mVar 2) [some (.fr (.int n)), some (.fr (.int c)), some (.fr (.lst ((RL c k).map tupI))), o3, none, none] = .ok ((RL c k).map tupI) from rfl]
    show ((compL2 (Pt.nm 4).go tYesM (mRng1 (mBV 1)) (Pt.nm 5).go tYesM (mBin fAddL (mBV 4) (mB (mCall fTup (mCons (mVar 5) mNil)))) [5] [some (.fr (.int n)), some (.fr (.int c)), some (.fr (.lst ((RL c k).map tupI))), o3, none, none] ((RL c k).map tupI)).quiet.bind fun r => if r.length ≤ lim then R.ok (Sl.ow r) else .st) = _
    rw [ce]
    show (if ((RL c (k + 1)).map tupI).length ≤ lim then R.ok (Sl.ow ((RL c (k + 1)).map tupI)) else .st) = _
    rw [if_pos ll]
  · exact rfl
theorem ro_loop {c n : Nat} (hc : c ≤ 4) : ∀ (ks : List D) (k : Nat) (o3 : Option Sl), k + ks.length ≤ 6 → ∃ q3, DL.forM (Pt.nm 3).go robody ks (roE n c (RL c k) o3) = .nx (roE n c (RL c (k + ks.length)) q3)
  | [], k, o3, _ => ⟨o3, rfl⟩
  | d :: ks, k, o3, h => by
    rw [List.length_cons] at h
    obtain ⟨q3, ih⟩ := ro_loop hc ks (k + 1) (some (.fr d)) (by omega)
    refine ⟨q3, ?_⟩
    rw [List.length_cons, show k + (ks.length + 1) = k + 1 + ks.length by omega, ← ih]
    exact forM_nx rfl (ro_step hc (by omega) n (some (.fr d)))
theorem rows_is {c n : Nat} (hc : c ≤ 4) (hn : n ≤ 6) : f_rows_of [.int n, .int c] = .ok (.ow ((RL c n).map tupI)) := by
  obtain ⟨q3, lp⟩ := ro_loop (n := n) hc ((List.range n).map fun i : Nat => D.int i) 0 none (by simp; omega)
  rw [List.length_map, List.length_range, Nat.zero_add] at lp
  have t0 : fTup [] = .ok (.fr (.tup [])) := rfl
  have l0 : fLst [.tup []] = .ok (.ow [.tup []]) := rfl
  unfold f_rows_of m_rows_of
  apply x_runR rfl
  apply x_seqSet
  · decreasing_with first | exact t0 | exact l0
  · exact rfl
  apply x_env (e' := roE n c (RL c 0) none) rfl
  apply x_seq
  · apply x_for (xs := (List.range n).map fun i : Nat => .int i)
    · exact x_rng1 (n := n) rfl (by omega)
    · exact lp
  decreasing_with fail
end K44
set_option Elab.async false
set_option linter.all false
set_option maxRecDepth 100000
set_option maxHeartbeats 4000000
namespace K44
open PySem PySem.Spec L2 DL DM
open PyProof.Rows hiding St
local macro_rules | `(tactic| decreasing_with $ts:tacticSeq) => `(tactic| (repeat (first | (with_reducible first | exact x_C | exact x_bnil | exact x_nil | exact d_fr | exact d_ow | exact x_nop | exact x_ofalse | exact x_retN | apply x_B | apply x_BV | apply x_var | apply x_bin | apply x_un | apply x_bcons | apply x_cons | apply x_call | apply x_test | apply x_tnot | apply x_not | apply x_osome | apply x_sl | apply x_meth | apply x_iter | apply x_chain | apply x_and | apply x_or | apply x_tand | apply x_tor | intro _ | apply x_star | apply x_seqSet | apply x_seqUnp | apply x_seqApp | apply x_seqPut | apply x_set | apply x_ifset | apply x_ret | apply x_retV | apply x_drop | apply x_app | apply x_ext | apply x_unp | apply x_put | apply x_frz) | ($ts) | exact (rfl : (_ : Option (Option Sl)) = _) | exact (rfl : (_ : En) = _) | exact (rfl : (_ : Option Fn) = _) | exact l_add | exact l_sub | exact l_int | exact l_intB | exact l_mod (by first | decide | omega) | exact l_div (by first | decide | omega) (by first | decide | omega) | exact l_mulR (by omega) | exact l_mulL (by omega) | exact l_neg | exact l_abs | exact l_lt | exact l_le | exact l_gt | exact l_ge | exact l_eqI | exact l_neI | exact l_min | exact l_max | exact l_lenL | exact l_lenT | exact l_tuple | exact l_tupleT | exact l_list | exact l_listT | exact l_T0 | exact l_T1 | exact l_T2 | exact l_T3 | exact l_L0 | exact l_L1 | exact l_L2 | exact l_L3 | exact l_tup (by simp only [lim, List.length_cons, List.length_nil, List.length_map, List.length_append]; omega) | exact l_lst (by simp only [lim, List.length_cons, List.length_nil, List.length_map, List.length_append]; omega) | exact l_seqL | exact l_seqT | exact l_fld rfl rfl | exact (rfl : (_ : D) = D.tup _) | exact (rfl : (_ : Nat) = _))))
/-! ### edges of two colors -/
theorem asBL_mapB {α : Type} (f : α → Bool) : ∀ xs : List α, asBL (xs.map fun a => D.bl (f a)) = some (xs.map f)
  | [] => rfl
  | x :: xs => by show (asBL (xs.map fun a => D.bl (f a))).map (f x :: ·) = _; rw [asBL_mapB f xs]; rfl
theorem all_map (f : Int → Bool) (xs : List Int) : fAll [.lst (xs.map fun z => D.bl (f z))] = .ok (.fr (.bl (xs.all f))) := by
  show (match asBL (xs.map fun z => D.bl (f z)) with | some bs => R.ok (Sl.fr (.bl (bs.all id))) | none => .st) = _
  rw [asBL_mapB]
  show R.ok (Sl.fr (.bl ((xs.map f).all id))) = _
  rw [List.all_map]
  rfl
def diffB (r : List Int) (e : Int × Int) : Bool := !decide (at0 r e.1 = at0 r e.2)
def nb (g : List (Int × Int)) (r : List Int) : Int := ((g.filter (diffB r)).length : Int)
def inC (c : Nat) (r : List Int) : Prop := ∀ z ∈ r, 0 ≤ z ∧ z < c
abbrev stC (n : Nat) (g : List (Int × Int)) (c : Nat) : D := .tup [.str (Str.ofString "colors"), grD n g, .int c]
theorem inC_at {c : Nat} {r : List Int} (h : inC c r) {i : Int} (h0 : 0 ≤ i) (h1 : i < r.length) : 0 ≤ at0 r i ∧ at0 r i < c := by
  obtain ⟨j, rfl⟩ : ∃ j : Nat, i = j := ⟨i.toNat, by omega⟩
  have hj : j < r.length := by omega
  have e : at0 r (j : Int) = r[j] := by rw [at0_nat, List.getD, List.getElem?_eq_getElem hj]; rfl
  rw [e]
  exact h _ (List.getElem_mem hj)
theorem ad_is {x y : Int} {c : Nat} (hx : 0 ≤ x ∧ x < c) (hy : 0 ≤ y ∧ y < c) : f_are_different_colors [.int x, .int y, .int c] = .ok (.fr (.bl (!decide (x = y)))) := by
  unfold f_are_different_colors m_are_different_colors
  apply x_runR rfl
  apply x_ret
  apply x_fin
  · decreasing_with fail
  · simp [hx.1, hx.2, hy.1, hy.2]
def enL : Nat → List (Int × Int) → List (Nat × (Int × Int))
  | _, [] => []
  | k, e :: g => (k, e) :: enL (k + 1) g
theorem enL_D : ∀ (g : List (Int × Int)) (k : Nat), enumD k (g.map pr) = (enL k g).map fun p => D.tup [.int p.1, pr p.2]
  | [], _ => rfl
  | e :: g, k => by
    show D.tup [.int k, pr e] :: enumD (k + 1) (g.map pr) = _
    rw [enL_D g (k + 1)]
    rfl
theorem enL_len : ∀ (g : List (Int × Int)) (k : Nat), (enL k g).length = g.length
  | [], _ => rfl
  | e :: g, k => by show (enL (k + 1) g).length + 1 = _; rw [enL_len g (k + 1)]; rfl
theorem enL_mem : ∀ {g : List (Int × Int)} {k : Nat} {p : Nat × (Int × Int)}, p ∈ enL k g → p.2 ∈ g
  | e :: g, k, p, h => by
    rcases List.mem_cons.mp h with h | h
    · rw [h]; exact List.mem_cons_self
    · exact List.mem_cons_of_mem _ (enL_mem h)
theorem enL_fil (f : Int × Int → Bool) : ∀ (g : List (Int × Int)) (k : Nat), ((enL k g).filter fun p => f p.2).length = (g.filter f).length
  | [], _ => rfl
  | e :: g, k => by
    show (((k, e) :: enL (k + 1) g).filter fun p => f p.2).length = _
    have ih := enL_fil f g (k + 1)
    cases c : f e with
    | true => rw [List.filter_cons_of_pos (by exact c), List.filter_cons_of_pos (by exact c), List.length_cons, List.length_cons, ih]
    | false => rw [List.filter_cons_of_neg (by simp [c]), List.filter_cons_of_neg (by simp [c]), ih]
theorem k_tab : isBl false (fNe (.str (Str.ofString "colors")) (.str (Str.ofString "colors"))) = true := by decide +kernel
section
variable {n c : Nat} {g : List (Int × Int)}
theorem kind_is : f_require_kind [stC n g c, .str (Str.ofString "colors")] = .ok (.fr .non) := by
  have e0 : fIx (stC n g c) (.int 0) = .ok (.fr (.str (Str.ofString "colors"))) := rfl
  have e1 := isBl_eq k_tab
  have hm : m_require_kind [some (.fr (stC n g c)), some (.fr (.str (Str.ofString "colors")))] = .nx [some (.fr (stC n g c)), some (.fr (.str (Str.ofString "colors")))] := by
    unfold m_require_kind
    apply x_sifF
    · decreasing_with first | exact e0 | exact e1
    · rfl
    · exact rfl
  exact (x_run rfl hm).trans rfl
theorem proper_is (hg : GE n g) (hl : g.length ≤ 15) {r : List Int} (hr : r.length = n) (hn : n ≤ 6) (hc : inC c r) : ∃ P : List Int, (P.length : Int) = nb g r ∧ f_proper_edges [stC n g c, tupI r] = .ok (.fr (tupI P)) := by
  have kd := kind_is (n := n) (c := c) (g := g)
  have ln := fLen_tupI r
  have ne := fNe_int (r.length : Int) (n : Int)
  rw [decide_eq_true (by rw [hr]), Bool.not_true] at ne
  have cp : mComp (mEnum (mVar 5)) (.tn [(.n 6), (.t [7, 8])]) (mTest (mB (mCall f_are_different_colors (mCons (mBin fIx (mBV 1) (mBV 7)) (mCons (mBin fIx (mBV 1) (mBV 8)) (mCons (mVar 3) mNil)))))) (mVar 6) [6, 7, 8] [some (.fr (stC n g c)), some (.fr (tupI r)), some (.fr (.str (Str.ofString "colors"))), some (.fr (.int c)), some (.fr (.int n)), some (.fr (.tup (g.map pr))), none, none, none] = .ok (.ow (((enL 0 g).filter fun p => diffB r p.2).map fun p => .int p.1)) := by
    refine comp_if (as := enL 0 g) (f := fun p => D.tup [.int p.1, pr p.2]) (p := fun p => diffB r p.2) ?_ (by rw [enL_len]; omega) fun p m => ⟨[some (.fr (stC n g c)), some (.fr (tupI r)), some (.fr (.str (Str.ofString "colors"))), some (.fr (.int c)), some (.fr (.int n)), some (.fr (.tup (g.map pr))), some (.fr (.int p.1)), some (.fr (.int p.2.1)), some (.fr (.int p.2.2))], .fr (.int p.1), rfl, ?_, fun _ => ⟨rfl, rfl⟩⟩
    · rw [← enL_D]
      rfl
    · obtain ⟨b1, b2, b3⟩ := hg.1 p.2 (enL_mem m)
      have i1 : fIx (tupI r) (.int p.2.1) = .ok (.fr (.int (at0 r p.2.1))) := l_rowT (by omega)
      have i2 : fIx (tupI r) (.int p.2.2) = .ok (.fr (.int (at0 r p.2.2))) := l_rowT (by omega)
      have ad := ad_is (inC_at hc (i := p.2.1) (by omega) (by omega)) (inC_at hc (i := p.2.2) (by omega) (by omega))
      show _ = R.ok (!decide (at0 r p.2.1 = at0 r p.2.2))
      decreasing_with first | exact i1 | exact i2 | exact ad
  refine ⟨((enL 0 g).filter fun p => diffB r p.2).map fun p => (p.1 : Int), by rw [List.length_map, enL_fil (diffB r)]; rfl, ?_⟩
  have tu : fTuple [.lst (((enL 0 g).filter fun p => diffB r p.2).map fun p => D.int p.1)] = .ok (.fr (tupI (((enL 0 g).filter fun p => diffB r p.2).map fun p => (p.1 : Int)))) := by
    show R.ok (Sl.fr (.tup (((enL 0 g).filter fun p => diffB r p.2).map fun p => D.int p.1))) = R.ok (Sl.fr (.tup ((((enL 0 g).filter fun p => diffB r p.2).map fun p => (p.1 : Int)).map .int)))
    rw [List.map_map]
    rfl
  unfold f_proper_edges m_proper_edges
  apply x_runR rfl
  apply x_seq
  · decreasing_with first | exact kd
  apply x_seq (e := [some (.fr (stC n g c)), some (.fr (tupI r)), some (.fr (.str (Str.ofString "colors"))), some (.fr (.int c)), some (.fr (.int n)), some (.fr (.tup (g.map pr))), none, none, none])
  · exact rfl
  apply x_guardF
  · decreasing_with first | exact ln | exact ne
  · rfl
  decreasing_with first | exact cp | exact tu
end
end K44
set_option Elab.async false
set_option linter.all false
set_option maxRecDepth 100000
set_option maxHeartbeats 4000000
namespace K44
open PySem PySem.Spec L2 DL DM
open PyProof.Rows hiding St
local macro_rules | `(tactic| decreasing_with $ts:tacticSeq) => `(tactic| (repeat (first | (with_reducible first | exact x_C | exact x_bnil | exact x_nil | exact d_fr | exact d_ow | exact x_nop | exact x_ofalse | exact x_retN | apply x_B | apply x_BV | apply x_var | apply x_bin | apply x_un | apply x_bcons | apply x_cons | apply x_call | apply x_test | apply x_tnot | apply x_not | apply x_osome | apply x_sl | apply x_meth | apply x_iter | apply x_chain | apply x_and | apply x_or | apply x_tand | apply x_tor | intro _ | apply x_star | apply x_seqSet | apply x_seqUnp | apply x_seqApp | apply x_seqPut | apply x_set | apply x_ifset | apply x_ret | apply x_retV | apply x_drop | apply x_app | apply x_ext | apply x_unp | apply x_put | apply x_frz) | ($ts) | exact (rfl : (_ : Option (Option Sl)) = _) | exact (rfl : (_ : En) = _) | exact (rfl : (_ : Option Fn) = _) | exact l_add | exact l_sub | exact l_int | exact l_intB | exact l_mod (by first | decide | omega) | exact l_div (by first | decide | omega) (by first | decide | omega) | exact l_mulR (by omega) | exact l_mulL (by omega) | exact l_neg | exact l_abs | exact l_lt | exact l_le | exact l_gt | exact l_ge | exact l_eqI | exact l_neI | exact l_min | exact l_max | exact l_lenL | exact l_lenT | exact l_tuple | exact l_tupleT | exact l_list | exact l_listT | exact l_T0 | exact l_T1 | exact l_T2 | exact l_T3 | exact l_L0 | exact l_L1 | exact l_L2 | exact l_L3 | exact l_tup (by simp only [lim, List.length_cons, List.length_nil, List.length_map, List.length_append]; omega) | exact l_lst (by simp only [lim, List.length_cons, List.length_nil, List.length_map, List.length_append]; omega) | exact l_seqL | exact l_seqT | exact l_fld rfl rfl | exact (rfl : (_ : D) = D.tup _) | exact (rfl : (_ : Nat) = _))))
/-! ### the best coloring -/
abbrev bD (p : Int × List Int) : D := .tup [.int p.1, tupI p.2]
def bst (g : List (Int × Int)) (s : List Int) (b : Int × List Int) (r : List Int) : Int × List Int := if b.1 < nb g (s ++ r) then (nb g (s ++ r), s ++ r) else b
def BM (g : List (Int × Int)) (s : List Int) (b : Int × List Int) (rs : List (List Int)) : Int × List Int := rs.foldl (bst g s) b
theorem inC_app {c : Nat} {a b : List Int} (ha : inC c a) (hb : inC c b) : inC c (a ++ b) := fun z m => by
  rcases List.mem_append.mp m with m | m
  · exact ha z m
  · exact hb z m
def colB (c : Nat) (z : Int) : Bool := decide (0 ≤ z) && decide (z < c)
theorem colB_all {c : Nat} {s : List Int} : s.all (colB c) = true ↔ inC c s := by
  rw [List.all_eq_true]
  constructor
  · intro h z m
    have q := h z m
    unfold colB at q
    rw [Bool.and_eq_true] at q
    exact ⟨of_decide_eq_true q.1, of_decide_eq_true q.2⟩
  · intro h z m
    unfold colB
    rw [decide_eq_true (h z m).1, decide_eq_true (h z m).2]
    rfl
abbrev bcB : MS := (sSeq (sSet 8 (mBin fAddL (mBV 1) (mBV 7)))
    (sSeq (sSet 9 (mCall fLen (bCons (mB (mCall f_proper_edges (mCons (mVar 0) (mCons (mVar 8) mNil)))) bNil)))
    (sIf (mTest (mB (mBin fGt (mBV 9) (mB (mBin fIx (mBV 6) (mB (mC (.int 0)))))))) (sSet 6 (mCall fTup (mCons (mVar 9) (mCons (mVar 8) mNil)))) sNop)))
section
variable {n c : Nat} {g : List (Int × Int)} {s : List Int}
abbrev bcE (n c : Nat) (g : List (Int × Int)) (s : List Int) (o6 o7 o8 o9 : Option Sl) : En := [some (.fr (stC n g c)), some (.fr (tupI s)), some (.fr (.str (Str.ofString "colors"))), some (.fr (grD n g)), some (.fr (.int c)), none, o6, o7, o8, o9]
theorem bc_step (hg : GE n g) (hl : g.length ≤ 15) (hn : n ≤ 6) (hs : inC c s) {r : List Int} (hr : inC c r) (lr : s.length + r.length = n) (b : Int × List Int) (o8 o9 : Option Sl) :
    bcB (bcE n c g s (some (.fr (bD b))) (some (.fr (tupI r))) o8 o9) = .nx (bcE n c g s (some (.fr (bD (bst g s b r)))) (some (.fr (tupI r))) (some (.fr (tupI (s ++ r)))) (some (.fr (.int (nb g (s ++ r)))))) := by
  have ad : fAddL (tupI s) (tupI r) = .ok (.fr (tupI (s ++ r))) := fAddL_tup (by omega)
  obtain ⟨P, lP, pe⟩ := proper_is hg hl (r := s ++ r) (by rw [List.length_append]; exact lr) hn (inC_app hs hr)
  have ln := fLen_tupI P
  rw [lP] at ln
  have b0 : fIx (bD b) (.int 0) = .ok (.fr (.int b.1)) := rfl
  obtain ⟨N, hN⟩ : ∃ N, nb g (s ++ r) = N := ⟨_, rfl⟩
  rw [hN] at ln
  have t2 : fTup [.int N, tupI (s ++ r)] = .ok (.fr (bD (N, s ++ r))) := rfl
  have e : bst g s b r = if b.1 < N then (N, s ++ r) else b := by unfold bst; rw [hN]
  rw [e, hN]
  apply x_seqSet
  · decreasing_with first | exact ad
  · exact rfl
  apply x_seqSet
  · decreasing_with first | exact pe | exact ln
  · exact rfl
  apply x_env (e' := bcE n c g s (some (.fr (bD b))) (some (.fr (tupI r))) (some (.fr (tupI (s ++ r)))) (some (.fr (.int N)))) rfl
  by_cases h : b.1 < N
  · rw [if_pos h]
    apply x_sifT
    · decreasing_with first | exact b0
    · exact decide_eq_true h
    apply x_set
    · decreasing_with first | exact t2
    · exact rfl
  · rw [if_neg h]
    apply x_sifF
    · decreasing_with first | exact b0
    · exact decide_eq_false h
    · exact rfl
theorem bc_loop (hg : GE n g) (hl : g.length ≤ 15) (hn : n ≤ 6) (hs : inC c s) : ∀ (rs : List (List Int)) (b : Int × List Int) (o7 o8 o9 : Option Sl), (∀ r ∈ rs, s.length + r.length = n ∧ inC c r) →
    ∃ q7 q8 q9, DL.forM (Pt.nm 7).go bcB (rs.map tupI) (bcE n c g s (some (.fr (bD b))) o7 o8 o9) = .nx (bcE n c g s (some (.fr (bD (BM g s b rs)))) q7 q8 q9)
  | [], b, o7, o8, o9, _ => ⟨o7, o8, o9, rfl⟩
  | r :: rs, b, o7, o8, o9, h => by
    obtain ⟨l, i⟩ := h r List.mem_cons_self
    obtain ⟨q7, q8, q9, ih⟩ := bc_loop hg hl hn hs rs (bst g s b r) _ _ _ fun x m => h x (List.mem_cons_of_mem _ m)
    exact ⟨q7, q8, q9, (forM_nx rfl (bc_step hg hl hn hs i l b o8 o9)).trans ih⟩
theorem cols_is (s : List Int) (c : Nat) (o0 o2 o3 o6 o7 o8 o9 : Option Sl) : mComp (mIter (mVar 1)) (.nm 5) tYesM (mChain fLe fLt (mB (mC (.int 0))) (mBV 5) (mBV 4)) [5] [o0, some (.fr (tupI s)), o2, o3, some (.fr (.int c)), none, o6, o7, o8, o9] = if s.length ≤ 1000000 then .ok (.ow (s.map fun z => .bl (colB c z))) else mComp (mIter (mVar 1)) (.nm 5) tYesM (mChain fLe fLt (mB (mC (.int 0))) (mBV 5) (mBV 4)) [5] [o0, some (.fr (tupI s)), o2, o3, some (.fr (.int c)), none, o6, o7, o8, o9] := by
  by_cases h : s.length ≤ 1000000
  · rw [if_pos h]
    refine comp_nm (as := s) (f := .int) (g := fun z => .bl (colB c z)) (x_iter (x_var rfl) rfl) h fun y _ => ⟨.fr (.bl (colB c y)), ?_, rfl⟩
    show _ = R.ok (Sl.fr (.bl (decide (0 ≤ y) && decide (y < c))))
    decreasing_with fail
  · rw [if_neg h]
theorem best_is (hg : GE n g) (hl : g.length ≤ 15) (hn : n ≤ 6) (hc : c ≤ 4) (hs : inC c s) (ls : s.length ≤ n) : f_best_coloring [stC n g c, tupI s] = .ok (.fr (bD (BM g s (-1, []) (RL c (n - s.length))))) := by
  have kd := kind_is (n := n) (c := c) (g := g)
  have ln := fLen_tupI s
  have g0 : fIx (grD n g) (.int 0) = .ok (.fr (.int n)) := rfl
  have co := cols_is s c (some (.fr (stC n g c))) (some (.fr (.str (Str.ofString "colors")))) (some (.fr (grD n g))) none none none none
  rw [if_pos (by omega)] at co
  have al := all_map (colB c) s
  rw [colB_all.mpr hs] at al
  have ro := rows_is (c := c) (n := n - s.length) hc (by omega)
  have sb : fSub (.int n) (.int s.length) = .ok (.fr (.int ((n - s.length : Nat) : Int))) := by rw [l_sub]; congr 3; omega
  have t0 : fTup [] = .ok (.fr (.tup [])) := rfl
  have t2 : fTup [.int (-1), .tup []] = .ok (.fr (bD (-1, []))) := rfl
  obtain ⟨q7, q8, q9, lp⟩ := bc_loop hg hl hn hs (RL c (n - s.length)) (-1, []) none none none fun r m => by
    obtain ⟨l, i⟩ := RL_mem m
    exact ⟨by omega, i⟩
  unfold f_best_coloring m_best_coloring
  apply x_runR rfl
  apply x_seq
  · decreasing_with first | exact kd
  apply x_seq (e := bcE n c g s none none none none)
  · exact rfl
  apply x_guardF
  · decreasing_with first | exact ln | exact g0
  · exact decide_eq_false (by omega)
  apply x_guardF
  · decreasing_with first | exact co | exact al
  · rfl
  apply x_seqSet
  · decreasing_with first | exact t0 | exact t2
  · exact rfl
  apply x_env (e' := bcE n c g s (some (.fr (bD (-1, [])))) none none none) rfl
  apply x_seq
  · apply x_for (xs := (RL c (n - s.length)).map tupI)
    · apply x_iter
      · decreasing_with first | exact ln | exact g0 | exact sb | exact ro
      · exact rfl
    · exact lp
  decreasing_with fail
theorem best_bad (hl : s.length ≤ 1000) (h : n < s.length ∨ ¬ inC c s) : f_best_coloring [stC n g c, tupI s] = .ex 3 none := by
  have kd := kind_is (n := n) (c := c) (g := g)
  have ln := fLen_tupI s
  have g0 : fIx (grD n g) (.int 0) = .ok (.fr (.int n)) := rfl
  have co := cols_is s c (some (.fr (stC n g c))) (some (.fr (.str (Str.ofString "colors")))) (some (.fr (grD n g))) none none none none
  rw [if_pos (by omega)] at co
  have al := all_map (colB c) s
  unfold f_best_coloring m_best_coloring
  apply x_runX rfl
  apply x_seq
  · decreasing_with first | exact kd
  apply x_seq (e := bcE n c g s none none none none)
  · exact rfl
  by_cases k : n < s.length
  · apply x_seqX
    apply x_sifT
    · decreasing_with first | exact ln | exact g0
    · exact decide_eq_true (by omega)
    exact rfl
  · have i : ¬ inC c s := by
      rcases h with h | h
      · exact absurd h k
      · exact h
    have af : s.all (colB c) = false := by
      cases q : s.all (colB c) with
      | false => rfl
      | true => exact absurd (colB_all.mp q) i
    rw [af] at al
    apply x_guardF
    · decreasing_with first | exact ln | exact g0
    · exact decide_eq_false (by omega)
    apply x_seqX
    apply x_sifT
    · decreasing_with first | exact co | exact al
    · rfl
    exact rfl
end
theorem x_callX {h : Fn} {mr : En → R (List D)} {env : En} {xs : List D} {n : Nat} {p : Pl} (h1 : mr env = .ok xs) (h2 : h xs = .ex n p) : mCall h mr env = .ex n p := by unfold mCall; rw [h1]; exact h2
theorem x_raise1 {c : Nat} {m : M} {env : En} {s : Sl} (h : m env = .ok s) : sRaise1 c m env = .ex c none env := by unfold sRaise1; rw [h]
theorem join_k (d : D) : ∃ s, mJoin [(mB (mC (.str (Str.ofString "this is no statement of the kind ")))), (mB (mUn fFmt (mBV 1)))] [some (.fr d), some (.fr (.str (Str.ofString "colors")))] = .ok s := ⟨_, rfl⟩
/-- another statement -/
theorem best_other {S : D} {k : Str} {d : D} (e0 : fIx S (.int 0) = .ok (.fr (.str k))) (e1 : isBl true (fNe (.str k) (.str (Str.ofString "colors"))) = true) : f_best_coloring [S, d] = .ex 2 none := by
  have e1 := isBl_eq e1
  have kb : f_require_kind [S, .str (Str.ofString "colors")] = .ex 2 none := by
    unfold f_require_kind m_require_kind
    apply x_runX rfl
    apply x_sifT
    · decreasing_with first | exact e0 | exact e1
    · rfl
    obtain ⟨s, hs⟩ := join_k S
    exact x_raise1 hs
  unfold f_best_coloring m_best_coloring
  apply x_runX rfl
  apply x_seqX
  apply x_dropX
  apply x_callX
  · decreasing_with fail
  · exact kb
end K44
set_option Elab.async false
set_option linter.all false
set_option maxRecDepth 100000
set_option maxHeartbeats 4000000
namespace K44
open PySem PySem.Spec L2 DL DM
open PyProof.Rows hiding St
local macro_rules | `(tactic| decreasing_with $ts:tacticSeq) => `(tactic| (repeat (first | (with_reducible first | exact x_C | exact x_bnil | exact x_nil | exact d_fr | exact d_ow | exact x_nop | exact x_ofalse | exact x_retN | apply x_B | apply x_BV | apply x_var | apply x_bin | apply x_un | apply x_bcons | apply x_cons | apply x_call | apply x_test | apply x_tnot | apply x_not | apply x_osome | apply x_sl | apply x_meth | apply x_iter | apply x_chain | apply x_and | apply x_or | apply x_tand | apply x_tor | intro _ | apply x_star | apply x_seqSet | apply x_seqUnp | apply x_seqApp | apply x_seqPut | apply x_set | apply x_ifset | apply x_ret | apply x_retV | apply x_drop | apply x_app | apply x_ext | apply x_unp | apply x_put | apply x_frz) | ($ts) | exact (rfl : (_ : Option (Option Sl)) = _) | exact (rfl : (_ : En) = _) | exact (rfl : (_ : Option Fn) = _) | exact l_add | exact l_sub | exact l_int | exact l_intB | exact l_mod (by first | decide | omega) | exact l_div (by first | decide | omega) (by first | decide | omega) | exact l_mulR (by omega) | exact l_mulL (by omega) | exact l_neg | exact l_abs | exact l_lt | exact l_le | exact l_gt | exact l_ge | exact l_eqI | exact l_neI | exact l_min | exact l_max | exact l_lenL | exact l_lenT | exact l_tuple | exact l_tupleT | exact l_list | exact l_listT | exact l_T0 | exact l_T1 | exact l_T2 | exact l_T3 | exact l_L0 | exact l_L1 | exact l_L2 | exact l_L3 | exact l_tup (by simp only [lim, List.length_cons, List.length_nil, List.length_map, List.length_append]; omega) | exact l_lst (by simp only [lim, List.length_cons, List.length_nil, List.length_map, List.length_append]; omega) | exact l_seqL | exact l_seqT | exact l_fld rfl rfl | exact (rfl : (_ : D) = D.tup _) | exact (rfl : (_ : Nat) = _))))
/-! ### the law's edges, its number, its statement -/
def isR (d : D) (r : List Int) : Prop := d = tupI r ∨ d = .lst (r.map .int)
theorem isR.ix {d : D} {r : List Int} (h : isR d r) {i : Int} (h0 : 0 ≤ i ∧ i < r.length) : fIx d (.int i) = .ok (.fr (.int (at0 r i))) := by
  rcases h with rfl | rfl
  · exact l_rowT h0
  · exact l_row h0
/-- the law's edges -/
def GO (n : Nat) (g : List (Int × Int)) : Prop := GE n g ∧ isort leP g = g ∧ g.length ≤ 15 ∧ 1 ≤ g.length
section
variable {n c : Nat} {g : List (Int × Int)}
theorem number_is (hg : GE n g) (hl : g.length ≤ 15) {d : D} {r : List Int} (hd : isR d r) (hr : r.length = n) : f_L_number [.lst (g.map pr), d] = .ok (.fr (.int (nb g r))) := by
  have cp : mComp (mIter (mVar 0)) (.nm 2) (mTest (mB (mBin fNe (mB (mBin fIx (mBV 1) (mB (mBin fIx (mBV 2) (mB (mC (.int 0))))))) (mB (mBin fIx (mBV 1) (mB (mBin fIx (mBV 2) (mB (mC (.int 1)))))))))) (mVar 2) [2] [some (.fr (.lst (g.map pr))), some (.fr d), none] = .ok (.ow ((g.filter (diffB r)).map pr)) := by
    refine comp_if (as := g) (f := pr) (p := diffB r) (x_iter (x_var rfl) rfl) (by omega) fun e m => ⟨[some (.fr (.lst (g.map pr))), some (.fr d), some (.fr (pr e))], .fr (pr e), rfl, ?_, fun _ => ⟨rfl, rfl⟩⟩
    obtain ⟨b1, b2, b3⟩ := hg.1 e m
    have j0 := pix0 e
    have j1 := pix1 e
    have i1 := hd.ix (i := e.1) (by omega)
    have i2 := hd.ix (i := e.2) (by omega)
    have ne := fNe_int (at0 r e.1) (at0 r e.2)
    show _ = R.ok (!decide (at0 r e.1 = at0 r e.2))
    decreasing_with first | exact j0 | exact j1 | exact i1 | exact i2 | exact ne
  have ln : fLen [.lst ((g.filter (diffB r)).map pr)] = .ok (.fr (.int (nb g r))) := by rw [l_lenL, List.length_map]; rfl
  unfold f_L_number m_L_number
  apply x_runR rfl
  decreasing_with first | exact cp | exact ln
theorem pl_pos : (List.range 7).all (fun n => decide (n < 2) || decide (1 ≤ (pairsL n).length)) = true := by decide +kernel
theorem edges_is {zs : List Int} (hz : zs.length = 17) (hn : 2 ≤ n ∧ n ≤ 6) : ∃ g : List (Int × Int), GO n g ∧ f_L_edges [.int n, .lst (zs.map .int)] = .ok (.ow (g.map pr)) := by
  have np := np_is (n := n) hn.2
  have pl := pl_len hn.2
  have pp : 1 ≤ (pairsL n).length := by
    have t := List.all_eq_true.mp pl_pos n (List.mem_range.mpr (by omega))
    rw [decide_eq_false (by omega), Bool.false_or] at t
    exact of_decide_eq_true t
  obtain ⟨L, hL⟩ : ∃ L, (pairsL n).length = L := ⟨_, rfl⟩
  have lp : fLen [.lst ((pairsL n).map pr)] = .ok (.fr (.int L)) := by rw [l_lenL, List.length_map, hL]
  have z0 : fIx (.lst (zs.map .int)) (.int 0) = .ok (.fr (.int (at0 zs 0))) := l_row (by omega)
  have z16 : fIx (.lst (zs.map .int)) (.int 16) = .ok (.fr (.int (at0 zs 16))) := l_row (by omega)
  obtain ⟨b, hb, mb⟩ := mod_nat (at0 zs 0) (n := 4) (by decide)
  have mb : fMod (.int (at0 zs 0)) (.int 4) = .ok (.fr (.int b)) := mb
  have iv : fIx (.lst [.int 6, .int 5, .int 3, .int 2]) (.int b) = .ok (.fr (.int (at0 [6, 5, 3, 2] b))) := l_row (zs := [6, 5, 3, 2]) ⟨by omega, by show (b : Int) < 4; omega⟩
  have ll : fLst [.int 6, .int 5, .int 3, .int 2] = .ok (.ow [.int 6, .int 5, .int 3, .int 2]) := rfl
  obtain ⟨w, hw⟩ : ∃ w, at0 [6, 5, 3, 2] b = w := ⟨_, rfl⟩
  rw [hw] at iv
  obtain ⟨e, he, me⟩ := mod_nat (at0 zs 16) (n := L) (by omega)
  have xe : fIx (.lst ((pairsL n).map pr)) (.int e) = .ok (.fr (pr ((pairsL n).getD e (0, 0)))) := x_getL (by rw [List.getElem?_eq_getElem (by omega)]; simp [List.getD, show e < (pairsL n).length by omega])
  have se : [(pairsL n).getD e (0, 0)].Sublist (pairsL n) := by
    rw [List.singleton_sublist, List.getD, List.getElem?_eq_getElem (by omega)]
    exact List.getElem_mem _
  have le : fLst [pr ((pairsL n).getD e (0, 0))] = .ok (.ow [pr ((pairsL n).getD e (0, 0))]) := rfl
  obtain ⟨G, hG⟩ : ∃ G, ((List.range L).filter fun k : Nat => decide (at0 zs (1 + (k : Int)) % 6 < w)).map (fun k => (pairsL n).getD k (0, 0)) = G := ⟨_, rfl⟩
  have sG : G.Sublist (pairsL n) := by
    have e : (List.range L).map (fun k => (pairsL n).getD k (0, 0)) = pairsL n := by
      apply List.ext_getElem
      · simp [hL]
      · intro i h1 h2
        simp [List.getD, h2]
    rw [← hG]
    conv => rhs; rw [← e]
    exact (List.filter_sublist).map _
  have cp : mComp (mRng1 (mB (mCall fLen (bCons (mBV 2) bNil)))) (.nm 5) (mTest (mB (mBin fLt (mB (mBin fMod (mB (mCall fInt (bCons (mB (mBin fIx (mBV 1) (mB (mBin fAddL (mB (mC (.int 1))) (mBV 5))))) bNil))) (mB (mC (.int 6))))) (mBV 3)))) (mBin fIx (mBV 2) (mBV 5)) [5] [some (.fr (.int n)), some (.fr (.lst (zs.map .int))), some (.ow ((pairsL n).map pr)), some (.fr (.int w)), none, none] = .ok (.ow (G.map pr)) := by
    rw [← hG, List.map_map]
    refine comp_if (as := List.range L) (f := fun k : Nat => D.int k) (g := fun k : Nat => pr ((pairsL n).getD k (0, 0))) (x_rng1 (n := L) (by decreasing_with first | exact lp) (by omega)) (by rw [List.length_range]; omega) fun k m => ⟨_, .fr (pr ((pairsL n).getD k (0, 0))), rfl, ?_, fun _ => ⟨?_, rfl⟩⟩
    · have kl := List.mem_range.mp m
      have z : fIx (.lst (zs.map .int)) (.int (1 + (k : Int))) = .ok (.fr (.int (at0 zs (1 + (k : Int))))) := l_row (by omega)
      decreasing_with first | exact z
    · have kl := List.mem_range.mp m
      have kl2 : k < (pairsL n).length := by omega
      have z : fIx (.lst ((pairsL n).map pr)) (.int k) = .ok (.fr (pr ((pairsL n).getD k (0, 0)))) := x_getL (by rw [List.getElem?_eq_getElem kl2]; simp [List.getD, kl2])
      decreasing_with first | exact z
  have lG : fLen [.lst (G.map pr)] = .ok (.fr (.int G.length)) := by rw [l_lenL, List.length_map]
  have go : (∃ g : List (Int × Int), g.Sublist (pairsL n) ∧ 1 ≤ g.length ∧ ((sIf (mTest (mB (mBin fEq (mB (mCall fLen (bCons (mBV 4) bNil))) (mB (mC (.int 0)))))) (sSet 4 (mCall fLst (mCons (mBin fIx (mBV 2) (mB (mBin fMod (mB (mCall fInt (bCons (mB (mBin fIx (mBV 1) (mB (mC (.int 16))))) bNil))) (mB (mCall fLen (bCons (mBV 2) bNil)))))) mNil))) sNop)) [some (.fr (.int n)), some (.fr (.lst (zs.map .int))), some (.ow ((pairsL n).map pr)), some (.fr (.int w)), some (.ow (G.map pr)), none] = .nx [some (.fr (.int n)), some (.fr (.lst (zs.map .int))), some (.ow ((pairsL n).map pr)), some (.fr (.int w)), some (.ow (g.map pr)), none]) → ∃ g : List (Int × Int), GO n g ∧ f_L_edges [.int n, .lst (zs.map .int)] = .ok (.ow (g.map pr)) := fun ⟨g, s, l, r⟩ => by
    obtain ⟨k1, k2, k3⟩ := sub_ok hn.2 s
    refine ⟨g, ⟨k1, k2, k3, l⟩, ?_⟩
    unfold f_L_edges m_L_edges
    apply x_runR rfl
    apply x_seqSet
    · decreasing_with first | exact np
    · exact rfl
    apply x_seqSet
    · decreasing_with first | exact z0 | exact mb | exact ll | exact iv
    · exact rfl
    apply x_seqSet
    · exact cp
    · exact rfl
    apply x_seq
    · exact r
    decreasing_with fail
  refine go ?_
  by_cases h : G.length = 0
  · refine ⟨[(pairsL n).getD e (0, 0)], se, Nat.le_refl _, ?_⟩
    apply x_sifT
    · decreasing_with first | exact lG
    · exact decide_eq_true (by omega)
    apply x_set
    · decreasing_with first | exact z16 | exact lp | exact me | exact xe | exact le
    · exact rfl
  · refine ⟨G, sG, by omega, ?_⟩
    apply x_sifF
    · decreasing_with first | exact lG
    · exact decide_eq_false (by omega)
    · exact rfl
theorem colors_is (h : 1 ≤ g.length) (hc : 2 ≤ c ∧ c ≤ 4) : f_colors [grD n g, .int c] = .ok (.fr (stC n g c)) := by
  have g1 : fIx (grD n g) (.int 1) = .ok (.fr (.tup (g.map pr))) := rfl
  have lg : fLen [.tup (g.map pr)] = .ok (.fr (.int g.length)) := by rw [l_lenT, List.length_map]
  have t3 : fTup [.str (Str.ofString "colors"), grD n g, .int c] = .ok (.fr (stC n g c)) := rfl
  unfold f_colors m_colors
  apply x_runR rfl
  apply x_guardF
  · decreasing_with first | exact g1 | exact lg
  · exact decide_eq_false (by omega)
  apply x_guardF
  · decreasing_with fail
  · rw [decide_eq_false (by omega), decide_eq_false (by omega)]; rfl
  decreasing_with first | exact t3
theorem statement_is (hn : 2 ≤ n ∧ n ≤ 6) (hg : GO n g) (hc : 2 ≤ c ∧ c ≤ 4) : f_L_statement [.int n, .lst (g.map pr), .int c] = .ok (.fr (stC n g c)) := by
  have lg := hg.2.2.1
  have m1 := make_is (n := n) ⟨by omega, hn.2⟩ (ps := g.map fun e : Int × Int => (e.2, e.1)) (by rw [List.length_map]; omega)
  rw [pgraph_of (by rw [ped_turn hg.1]; exact hg.1), ped_turn hg.1, hg.2.1] at m1
  have m1 : f_make_graph [.int n, .lst ((g.map fun e : Int × Int => (e.2, e.1)).map pr)] = .ok (.fr (grD n g)) := m1
  have co := colors_is (n := n) hg.2.2.2 hc
  have c1 : mComp (mIter (mVar 1)) (.nm 3) tYesM (mCall fTup (mCons (mBin fIx (mBV 3) (mB (mC (.int 1)))) (mCons (mBin fIx (mBV 3) (mB (mC (.int 0)))) mNil))) [3] [some (.fr (.int n)), some (.fr (.lst (g.map pr))), some (.fr (.int c)), none] = .ok (.ow ((g.map fun e : Int × Int => (e.2, e.1)).map pr)) := by
    rw [List.map_map]
    refine comp_nm (as := g) (f := pr) (x_iter (x_var rfl) rfl) (by omega) fun y _ => ⟨.fr (pr (y.2, y.1)), ?_, rfl⟩
    have j0 := pix0 y
    have j1 := pix1 y
    have t2 : fTup [.int y.2, .int y.1] = .ok (.fr (pr (y.2, y.1))) := rfl
    decreasing_with first | exact j0 | exact j1 | exact t2
  unfold f_L_statement m_L_statement
  apply x_runR rfl
  decreasing_with first | exact c1 | exact m1 | exact co
end
end K44
set_option Elab.async false
set_option linter.all false
set_option maxRecDepth 100000
set_option maxHeartbeats 4000000
namespace K44
open PySem PySem.Spec L2 DL DM
open PyProof.Rows hiding St
local macro_rules | `(tactic| decreasing_with $ts:tacticSeq) => `(tactic| (repeat (first | (with_reducible first | exact x_C | exact x_bnil | exact x_nil | exact d_fr | exact d_ow | exact x_nop | exact x_ofalse | exact x_retN | apply x_B | apply x_BV | apply x_var | apply x_bin | apply x_un | apply x_bcons | apply x_cons | apply x_call | apply x_test | apply x_tnot | apply x_not | apply x_osome | apply x_sl | apply x_meth | apply x_iter | apply x_chain | apply x_and | apply x_or | apply x_tand | apply x_tor | intro _ | apply x_star | apply x_seqSet | apply x_seqUnp | apply x_seqApp | apply x_seqPut | apply x_set | apply x_ifset | apply x_ret | apply x_retV | apply x_drop | apply x_app | apply x_ext | apply x_unp | apply x_put | apply x_frz) | ($ts) | exact (rfl : (_ : Option (Option Sl)) = _) | exact (rfl : (_ : En) = _) | exact (rfl : (_ : Option Fn) = _) | exact l_add | exact l_sub | exact l_int | exact l_intB | exact l_mod (by first | decide | omega) | exact l_div (by first | decide | omega) (by first | decide | omega) | exact l_mulR (by omega) | exact l_mulL (by omega) | exact l_neg | exact l_abs | exact l_lt | exact l_le | exact l_gt | exact l_ge | exact l_eqI | exact l_neI | exact l_min | exact l_max | exact l_lenL | exact l_lenT | exact l_tuple | exact l_tupleT | exact l_list | exact l_listT | exact l_T0 | exact l_T1 | exact l_T2 | exact l_T3 | exact l_L0 | exact l_L1 | exact l_L2 | exact l_L3 | exact l_tup (by simp only [lim, List.length_cons, List.length_nil, List.length_map, List.length_append]; omega) | exact l_lst (by simp only [lim, List.length_cons, List.length_nil, List.length_map, List.length_append]; omega) | exact l_seqL | exact l_seqT | exact l_fld rfl rfl | exact (rfl : (_ : D) = D.tup _) | exact (rfl : (_ : Nat) = _))))
/-! ### the law's best -/
abbrev lD (r : List Int) : D := .lst (r.map .int)
abbrev lbO : MS := (sSeq (sSet 7 (mCall fLst mNil))
    (sSeq (sFrz [4] (sFor (mIter (mVar 4)) (.nm 8) (sFor (mRng1 (mBV 2)) (.nm 5) (sApp 7 (mBin fAddL (mBV 8) (mB (mCall fLst (mCons (mVar 5) mNil))))))))
    (sFrz [7] (sSet 4 (mComp (mIter (mVar 7)) (.nm 8) tYesM (mVar 8) [8])))))
abbrev lbR : MS := (sFor (mRng1 (mBV 2)) (.nm 5) (sApp 7 (mBin fAddL (mBV 8) (mB (mCall fLst (mCons (mVar 5) mNil))))))
abbrev lbC : MS := (sApp 7 (mBin fAddL (mBV 8) (mB (mCall fLst (mCons (mVar 5) mNil)))))
abbrev lbF : MS := (sSeq (sSet 10 (mCall f_L_number (mCons (mVar 1) (mCons (mVar 8) mNil))))
    (sIf (mTest (mB (mBin fGt (mBV 10) (mB (mBin fIx (mBV 9) (mB (mC (.int 0)))))))) (sFrz [10] (sSet 9 (mCall fTup (mCons (mVar 10) (mCons (mCall fTuple (bCons (mBV 8) bNil)) mNil))))) sNop))
section
variable {n c : Nat} {g : List (Int × Int)} {s : List Int}
abbrev lbE (n c : Nat) (g : List (Int × Int)) (s : List Int) (s4 : Sl) (o5 o6 o7 o8 o9 o10 : Option Sl) : En := [some (.fr (.int n)), some (.fr (.lst (g.map pr))), some (.fr (.int c)), some (.fr (tupI s)), some s4, o5, o6, o7, o8, o9, o10]
theorem lb_c {r : List Int} (hr : r.length ≤ 1000) (s4 : Sl) (o6 : Option Sl) : ∀ (ks : List Nat) (B : List (List Int)) (o5 : Option Sl), B.length + ks.length ≤ 100000 →
    ∃ q5, DL.forM (Pt.nm 5).go lbC (ks.map fun i : Nat => .int i) (lbE n c g s s4 o5 o6 (some (.ow (B.map lD))) (some (.fr (lD r))) none none) = .nx (lbE n c g s s4 q5 o6 (some (.ow ((B ++ ks.map fun i : Nat => r ++ [(i : Int)]).map lD))) (some (.fr (lD r))) none none)
  | [], B, o5, _ => ⟨o5, by
    rw [List.map_nil, List.map_nil, List.append_nil]
    rfl⟩
  | k :: ks, B, o5, h => by
    rw [List.length_cons] at h
    obtain ⟨q5, ih⟩ := lb_c hr s4 o6 ks (B ++ [r ++ [(k : Int)]]) (some (.fr (.int k))) (by rw [List.length_append]; simp; omega)
    refine ⟨q5, ?_⟩
    have l1 : fLst [.int k] = .ok (.ow [.int k]) := rfl
    have ad : fAddL (lD r) (.lst [.int k]) = .ok (.ow ((r ++ [(k : Int)]).map .int)) := by
      rw [l_addL (by simp; omega), List.map_append]
      rfl
    have em : (B ++ [r ++ [(k : Int)]]).map lD = B.map lD ++ [lD (r ++ [(k : Int)])] := by rw [List.map_append]; rfl
    have ea : B ++ (k :: ks).map (fun i : Nat => r ++ [(i : Int)]) = B ++ [r ++ [(k : Int)]] ++ ks.map fun i : Nat => r ++ [(i : Int)] := by rw [List.append_assoc]; rfl
    rw [ea]
    refine (forM_nx (e := lbE n c g s s4 (some (.fr (.int k))) o6 (some (.ow (B.map lD))) (some (.fr (lD r))) none none) rfl ?_).trans ih
    apply x_app
    · exact rfl
    · decreasing_with first | exact l1 | exact ad
    · exact rfl
    · rw [List.length_map]; unfold lim; omega
    · rw [em]
      exact rfl
def grow (c : Nat) (A : List (List Int)) : List (List Int) := A.flatMap fun r => (List.range c).map fun i : Nat => r ++ [(i : Int)]
theorem lb_r (hc : c ≤ 4) (s4 : Sl) (o6 : Option Sl) : ∀ (A B : List (List Int)) (o5 o8 : Option Sl), (∀ r ∈ A, r.length ≤ 1000) → B.length + 4 * A.length ≤ 100000 →
    ∃ q5 q8, DL.forM (Pt.nm 8).go lbR (A.map lD) (lbE n c g s s4 o5 o6 (some (.ow (B.map lD))) o8 none none) = .nx (lbE n c g s s4 q5 o6 (some (.ow ((B ++ grow c A).map lD))) q8 none none)
  | [], B, o5, o8, _, _ => ⟨o5, o8, by
    have e : B ++ grow c [] = B := by unfold grow; simp
    rw [e]
    rfl⟩
  | r :: A, B, o5, o8, hr, h => by
    rw [List.length_cons] at h
    obtain ⟨a5, st⟩ := lb_c (n := n) (c := c) (g := g) (s := s) (hr r List.mem_cons_self) s4 o6 (List.range c) B o5 (by rw [List.length_range]; omega)
    obtain ⟨q5, q8, ih⟩ := lb_r hc s4 o6 A (B ++ (List.range c).map fun i : Nat => r ++ [(i : Int)]) a5 (some (.fr (lD r))) (fun x m => hr x (List.mem_cons_of_mem _ m)) (by rw [List.length_append]; simp; omega)
    have e : B ++ grow c (r :: A) = B ++ ((List.range c).map fun i : Nat => r ++ [(i : Int)]) ++ grow c A := by
      rw [List.append_assoc]
      rfl
    refine ⟨q5, q8, ?_⟩
    rw [e]
    refine (forM_nx (e := lbE n c g s s4 o5 o6 (some (.ow (B.map lD))) (some (.fr (lD r))) none none) rfl ?_).trans ih
    apply x_for (xs := (List.range c).map fun i : Nat => .int i)
    · exact x_rng1 (n := c) rfl (by omega)
    · exact st
theorem grow_RL (s : List Int) (c k : Nat) : grow c ((RL c k).map fun r => s ++ r) = (RL c (k + 1)).map fun r => s ++ r := by
  unfold grow
  rw [List.flatMap_map]
  show _ = ((RL c k).flatMap fun r => (List.range c).map fun i : Nat => r ++ [(i : Int)]).map fun r => s ++ r
  rw [List.map_flatMap]
  congr 1
  funext r
  rw [List.map_map]
  refine List.map_congr_left fun i _ => ?_
  show s ++ r ++ [(i : Int)] = s ++ (r ++ [(i : Int)])
  rw [List.append_assoc]
theorem lb_o (hc : c ≤ 4) {k : Nat} (hk : k < 6) (ls : s.length ≤ 6) (o5 o6 o7 o8 : Option Sl) : ∃ q5 q7 q8, lbO (lbE n c g s (.ow (((RL c k).map fun r => s ++ r).map lD)) o5 o6 o7 o8 none none) = .nx (lbE n c g s (.ow (((RL c (k + 1)).map fun r => s ++ r).map lD)) q5 o6 q7 q8 none none) := by
  have sm := RL_small hc (show k ≤ 6 by omega)
  have sm2 := RL_small hc (show k + 1 ≤ 6 by omega)
  obtain ⟨q5, q8, lp⟩ := lb_r (n := n) (g := g) (s := s) hc (.fr (.lst (((RL c k).map fun r => s ++ r).map lD))) o6 ((RL c k).map fun r => s ++ r) [] o5 o8 (fun r m => by
    obtain ⟨q, hq, rfl⟩ := List.mem_map.mp m
    rw [List.length_append, (RL_mem hq).1]
    omega) (by rw [List.length_map]; simp; omega)
  rw [List.nil_append, grow_RL] at lp
  have l0 : fLst [] = .ok (.ow []) := rfl
  refine ⟨q5, some (.fr (.lst (((RL c (k + 1)).map fun r => s ++ r).map lD))), q8, ?_⟩
  apply x_seqSet
  · decreasing_with first | exact l0
  · exact rfl
  apply x_env (e' := lbE n c g s (.ow (((RL c k).map fun r => s ++ r).map lD)) o5 o6 (some (.ow (([] : List (List Int)).map lD))) o8 none none) rfl
  apply x_seq
  · apply x_frz (e := lbE n c g s (.fr (.lst (((RL c k).map fun r => s ++ r).map lD))) o5 o6 (some (.ow (([] : List (List Int)).map lD))) o8 none none)
    · exact rfl
    apply x_for (xs := ((RL c k).map fun r => s ++ r).map lD)
    · exact x_iter (x_var rfl) rfl
    · exact lp
  apply x_frz (e := lbE n c g s (.fr (.lst (((RL c k).map fun r => s ++ r).map lD))) q5 o6 (some (.fr (.lst (((RL c (k + 1)).map fun r => s ++ r).map lD)))) q8 none none)
  · exact rfl
  apply x_set
  · exact comp_nm (as := (RL c (k + 1)).map fun r => s ++ r) (f := lD) (g := lD) (x_iter (x_var rfl) rfl) (by rw [List.length_map]; omega) fun y _ => ⟨.fr (lD y), rfl, rfl⟩
  · exact rfl
theorem lb_loop (hc : c ≤ 4) (ls : s.length ≤ 6) : ∀ (m k : Nat) (o5 o6 o7 o8 : Option Sl), k + m ≤ 6 → ∃ q5 q6 q7 q8, DL.forM (Pt.nm 6).go lbO ((List.range' k m).map fun i : Nat => .int i) (lbE n c g s (.ow (((RL c k).map fun r => s ++ r).map lD)) o5 o6 o7 o8 none none) = .nx (lbE n c g s (.ow (((RL c (k + m)).map fun r => s ++ r).map lD)) q5 q6 q7 q8 none none)
  | 0, k, o5, o6, o7, o8, _ => ⟨o5, o6, o7, o8, rfl⟩
  | m + 1, k, o5, o6, o7, o8, h => by
    obtain ⟨a5, a7, a8, st⟩ := lb_o (n := n) (g := g) hc (k := k) (by omega) ls o5 (some (.fr (.int k))) o7 o8
    obtain ⟨q5, q6, q7, q8, ih⟩ := lb_loop hc ls m (k + 1) a5 (some (.fr (.int k))) a7 a8 (by omega)
    refine ⟨q5, q6, q7, q8, ?_⟩
    rw [List.range'_succ, List.map_cons, show k + (m + 1) = k + 1 + m by omega]
    exact (forM_nx rfl st).trans ih
theorem lb_f (hg : GE n g) (hl : g.length ≤ 15) (s4 : Sl) (o5 o6 o7 : Option Sl) : ∀ (rs : List (List Int)) (b : Int × List Int) (o8 o10 : Option Sl), (∀ r ∈ rs, s.length + r.length = n) →
    ∃ q8 q10, DL.forM (Pt.nm 8).go lbF ((rs.map fun r => s ++ r).map lD) (lbE n c g s s4 o5 o6 o7 o8 (some (.fr (bD b))) o10) = .nx (lbE n c g s s4 o5 o6 o7 q8 (some (.fr (bD (BM g s b rs)))) q10)
  | [], b, o8, o10, _ => ⟨o8, o10, rfl⟩
  | r :: rs, b, o8, o10, h => by
    obtain ⟨q8, q10, ih⟩ := lb_f hg hl s4 o5 o6 o7 rs (bst g s b r) (some (.fr (lD (s ++ r)))) (some (.fr (.int (nb g (s ++ r))))) fun x m => h x (List.mem_cons_of_mem _ m)
    refine ⟨q8, q10, ?_⟩
    have nu := number_is hg hl (d := lD (s ++ r)) (r := s ++ r) (.inr rfl) (by rw [List.length_append]; exact h r List.mem_cons_self)
    have b0 : fIx (bD b) (.int 0) = .ok (.fr (.int b.1)) := rfl
    obtain ⟨N, hN⟩ : ∃ N, nb g (s ++ r) = N := ⟨_, rfl⟩
    have tu : fTuple [lD (s ++ r)] = .ok (.fr (tupI (s ++ r))) := rfl
    have t2 : fTup [.int N, tupI (s ++ r)] = .ok (.fr (bD (N, s ++ r))) := rfl
    have e : bst g s b r = if b.1 < N then (N, s ++ r) else b := by unfold bst; rw [hN]
    refine (forM_nx (e := lbE n c g s s4 o5 o6 o7 (some (.fr (lD (s ++ r)))) (some (.fr (bD b))) o10) (e' := lbE n c g s s4 o5 o6 o7 (some (.fr (lD (s ++ r)))) (some (.fr (bD (bst g s b r)))) (some (.fr (.int (nb g (s ++ r)))))) rfl ?_).trans ih
    rw [e, hN]
    rw [hN] at nu
    apply x_seqSet
    · decreasing_with first | exact nu
    · exact rfl
    apply x_env (e' := lbE n c g s s4 o5 o6 o7 (some (.fr (lD (s ++ r)))) (some (.fr (bD b))) (some (.fr (.int N)))) rfl
    by_cases k : b.1 < N
    · rw [if_pos k]
      apply x_sifT
      · decreasing_with first | exact b0
      · exact decide_eq_true k
      apply x_frz
      · exact rfl
      apply x_set
      · decreasing_with first | exact tu | exact t2
      · exact rfl
    · rw [if_neg k]
      apply x_sifF
      · decreasing_with first | exact b0
      · exact decide_eq_false k
      · exact rfl
theorem lbest_is (hg : GE n g) (hl : g.length ≤ 15) (hn : n ≤ 6) (hc : c ≤ 4) (ls : s.length ≤ n) : f_L_best [.int n, .lst (g.map pr), .int c, tupI s] = .ok (.fr (bD (BM g s (-1, []) (RL c (n - s.length))))) := by
  have ln := fLen_tupI s
  have sb : fSub (.int n) (.int s.length) = .ok (.fr (.int ((n - s.length : Nat) : Int))) := by rw [l_sub]; congr 3; omega
  have cp : mComp (mIter (mVar 3)) (.nm 5) tYesM (mVar 5) [5] [some (.fr (.int n)), some (.fr (.lst (g.map pr))), some (.fr (.int c)), some (.fr (tupI s)), none, none, none, none, none, none, none] = .ok (.ow (s.map .int)) := comp_nm (as := s) (f := .int) (g := .int) (x_iter (x_var rfl) rfl) (by omega) fun y _ => ⟨.fr (.int y), rfl, rfl⟩
  have l1 : fLst [lD s] = .ok (.ow [lD s]) := rfl
  have t0 : fTup [] = .ok (.fr (.tup [])) := rfl
  have t2 : fTup [.int (-1), .tup []] = .ok (.fr (bD (-1, []))) := rfl
  obtain ⟨q5, q6, q7, q8, lp⟩ := lb_loop (n := n) (g := g) (s := s) hc (by omega) (n - s.length) 0 none none none none (by omega)
  rw [← List.range_eq_range', Nat.zero_add] at lp
  have r0 : ((RL c 0).map fun r => s ++ r).map lD = [lD s] := by
    show [lD (s ++ [])] = _
    rw [List.append_nil]
  rw [r0] at lp
  obtain ⟨p8, p10, lf⟩ := lb_f (c := c) (s := s) hg hl (.fr (.lst (((RL c (n - s.length)).map fun r => s ++ r).map lD))) q5 q6 q7 (RL c (n - s.length)) (-1, []) q8 none fun r m => by
    rw [(RL_mem m).1]
    omega
  unfold f_L_best m_L_best
  apply x_runR rfl
  apply x_seqSet
  · decreasing_with first | exact cp | exact l1
  · exact rfl
  apply x_env (e' := lbE n c g s (.ow [lD s]) none none none none none none) rfl
  apply x_seq
  · apply x_for (xs := (List.range (n - s.length)).map fun i : Nat => .int i)
    · refine x_rng1 (n := n - s.length) ?_ (by omega)
      decreasing_with first | exact ln | exact sb
    · exact lp
  apply x_seqSet
  · decreasing_with first | exact t0 | exact t2
  · exact rfl
  apply x_seq
  · apply x_frz (e := lbE n c g s (.fr (.lst (((RL c (n - s.length)).map fun r => s ++ r).map lD))) q5 q6 q7 q8 (some (.fr (bD (-1, [])))) none)
    · exact rfl
    apply x_for (xs := ((RL c (n - s.length)).map fun r => s ++ r).map lD)
    · exact x_iter (x_var rfl) rfl
    · exact lf
  decreasing_with fail
end
end K44
set_option Elab.async false
set_option linter.all false
set_option maxRecDepth 100000
set_option maxHeartbeats 4000000
namespace K44
open PySem PySem.Spec L2 DL DM
open PyProof.Rows hiding St
local macro_rules | `(tactic| decreasing_with $ts:tacticSeq) => `(tactic| (repeat (first | (with_reducible first | exact x_C | exact x_bnil | exact x_nil | exact d_fr | exact d_ow | exact x_nop | exact x_ofalse | exact x_retN | apply x_B | apply x_BV | apply x_var | apply x_bin | apply x_un | apply x_bcons | apply x_cons | apply x_call | apply x_test | apply x_tnot | apply x_not | apply x_osome | apply x_sl | apply x_meth | apply x_iter | apply x_chain | apply x_and | apply x_or | apply x_tand | apply x_tor | intro _ | apply x_star | apply x_seqSet | apply x_seqUnp | apply x_seqApp | apply x_seqPut | apply x_set | apply x_ifset | apply x_ret | apply x_retV | apply x_drop | apply x_app | apply x_ext | apply x_unp | apply x_put | apply x_frz) | ($ts) | exact (rfl : (_ : Option (Option Sl)) = _) | exact (rfl : (_ : En) = _) | exact (rfl : (_ : Option Fn) = _) | exact l_add | exact l_sub | exact l_int | exact l_intB | exact l_mod (by first | decide | omega) | exact l_div (by first | decide | omega) (by first | decide | omega) | exact l_mulR (by omega) | exact l_mulL (by omega) | exact l_neg | exact l_abs | exact l_lt | exact l_le | exact l_gt | exact l_ge | exact l_eqI | exact l_neI | exact l_min | exact l_max | exact l_lenL | exact l_lenT | exact l_tuple | exact l_tupleT | exact l_list | exact l_listT | exact l_T0 | exact l_T1 | exact l_T2 | exact l_T3 | exact l_L0 | exact l_L1 | exact l_L2 | exact l_L3 | exact l_tup (by simp only [lim, List.length_cons, List.length_nil, List.length_map, List.length_append]; omega) | exact l_lst (by simp only [lim, List.length_cons, List.length_nil, List.length_map, List.length_append]; omega) | exact l_seqL | exact l_seqT | exact l_fld rfl rfl | exact (rfl : (_ : D) = D.tup _) | exact (rfl : (_ : Nat) = _))))
/-! ### the first best of many -/
def Good (n c : Nat) (g : List (Int × Int)) (s : List Int) (p : Int × List Int) : Prop := p.2.length = n ∧ inC c p.2 ∧ p.2.take s.length = s ∧ p.1 = nb g p.2
theorem nb_nn (g : List (Int × Int)) (r : List Int) : 0 ≤ nb g r := by unfold nb; omega
section
variable {n c : Nat} {g : List (Int × Int)} {s : List Int}
theorem bst_good {b : Int × List Int} {r : List Int} (hs : inC c s) (l : s.length + r.length = n) (i : inC c r) (h : Good n c g s b ∨ b.1 < 0) : Good n c g s (bst g s b r) := by
  unfold bst
  by_cases k : b.1 < nb g (s ++ r)
  · rw [if_pos k]
    exact ⟨by rw [List.length_append]; exact l, inC_app hs i, by show (s ++ r).take s.length = s; rw [List.take_append_of_le_length (Nat.le_refl _), List.take_of_length_le (Nat.le_refl _)], rfl⟩
  · rw [if_neg k]
    have := nb_nn g (s ++ r)
    rcases h with h | h
    · exact h
    · omega
theorem BM_good (hs : inC c s) : ∀ (rs : List (List Int)) (b : Int × List Int), (∀ r ∈ rs, s.length + r.length = n ∧ inC c r) → (Good n c g s b ∨ (b.1 < 0 ∧ rs ≠ [])) → Good n c g s (BM g s b rs)
  | [], b, _, h => by
    rcases h with h | h
    · exact h
    · exact absurd rfl h.2
  | r :: rs, b, hr, h => by
    obtain ⟨l, i⟩ := hr r List.mem_cons_self
    show Good n c g s (BM g s (bst g s b r) rs)
    exact BM_good hs rs _ (fun x m => hr x (List.mem_cons_of_mem _ m)) (.inl (bst_good hs l i (by
      rcases h with h | h
      · exact .inl h
      · exact .inr h.1)))
theorem bst_le (b : Int × List Int) (r : List Int) : b.1 ≤ (bst g s b r).1 := by
  unfold bst
  split
  · show b.1 ≤ nb g (s ++ r)
    omega
  · exact Int.le_refl _
theorem BM_le : ∀ (rs : List (List Int)) (b : Int × List Int), b.1 ≤ (BM g s b rs).1
  | [], b => Int.le_refl _
  | r :: rs, b => Int.le_trans (bst_le b r) (BM_le rs (bst g s b r))
def pick (a p : Int × List Int) : Int × List Int := if a.1 < p.1 then p else a
theorem BM_split : ∀ (rs : List (List Int)) (i a : Int × List Int), i.1 ≤ a.1 → BM g s a rs = pick a (BM g s i rs)
  | [], i, a, h => by
    show a = pick a i
    unfold pick
    rw [if_neg (by omega)]
  | r :: rs, i, a, h => by
    show BM g s (bst g s a r) rs = pick a (BM g s (bst g s i r) rs)
    obtain ⟨N, hN⟩ : ∃ N, nb g (s ++ r) = N := ⟨_, rfl⟩
    have ea : bst g s a r = if a.1 < N then (N, s ++ r) else a := by unfold bst; rw [hN]
    have ei : bst g s i r = if i.1 < N then (N, s ++ r) else i := by unfold bst; rw [hN]
    rw [ea, ei]
    by_cases k : a.1 < N
    · rw [if_pos k, if_pos (by omega)]
      unfold pick
      have := BM_le (g := g) (s := s) rs (N, s ++ r)
      rw [if_pos (by have : N ≤ (BM g s (N, s ++ r) rs).1 := this; omega)]
    · rw [if_neg k]
      by_cases k2 : i.1 < N
      · rw [if_pos k2]
        exact BM_split rs _ a (by show N ≤ a.1; omega)
      · rw [if_neg k2]
        exact BM_split rs i a h
theorem BM_front (b : Int × List Int) (i : Int) (rs : List (List Int)) : BM g s b (rs.map fun r => i :: r) = BM g (s ++ [i]) b rs := by
  unfold BM
  rw [List.foldl_map]
  congr 1
  funext b r
  unfold bst
  rw [List.append_assoc]
  rfl
/-- the best with one more color -/
def P1 (g : List (Int × Int)) (s : List Int) (c k : Nat) (i : Nat) : Int × List Int := BM g (s ++ [(i : Int)]) (-1, []) (RL c k)
theorem BM_blocks (k : Nat) : ∀ (is : List Nat) (b : Int × List Int), -1 ≤ b.1 → BM g s b (is.flatMap fun i : Nat => (RL c k).map fun r => (i : Int) :: r) = is.foldl (fun b i => pick b (P1 g s c k i)) b
  | [], b, _ => rfl
  | i :: is, b, h => by
    have e : BM g s b ((i :: is).flatMap fun i : Nat => (RL c k).map fun r => (i : Int) :: r) = BM g s (BM g s b ((RL c k).map fun r => (i : Int) :: r)) (is.flatMap fun i : Nat => (RL c k).map fun r => (i : Int) :: r) := by
      unfold BM
      rw [List.flatMap_cons, List.foldl_append]
    rw [e, BM_front, BM_split (RL c k) (-1, []) b h]
    show BM g s (pick b (P1 g s c k i)) _ = _
    refine BM_blocks k is _ ?_
    unfold pick
    split
    · omega
    · exact h
theorem RL_ne (hc : 1 ≤ c) (k : Nat) : RL c k ≠ [] := by
  intro q
  have := RL_len c k
  rw [q] at this
  have := Nat.pow_pos (n := k) hc
  simp at *
  omega
theorem best_good (hs : inC c s) (hc : 1 ≤ c) (ls : s.length ≤ n) : Good n c g s (BM g s (-1, []) (RL c (n - s.length))) :=
  BM_good hs _ _ (fun r m => by
    obtain ⟨l, i⟩ := RL_mem m
    exact ⟨by omega, i⟩) (.inr ⟨by show (-1 : Int) < 0; decide, RL_ne hc _⟩)
theorem best_next (hs : inC c s) (hc : 1 ≤ c) (ls : s.length < n) : BM g s (-1, []) (RL c (n - s.length)) = (List.range c).foldl (fun b i => pick b (P1 g s c (n - (s.length + 1)) i)) (P1 g s c (n - (s.length + 1)) 0) := by
  obtain ⟨k, hk⟩ : ∃ k, n - (s.length + 1) = k := ⟨_, rfl⟩
  rw [hk, show n - s.length = k + 1 by omega, RL_front, BM_blocks k (List.range c) (-1, []) (by show (-1 : Int) ≤ -1; decide)]
  obtain ⟨d, rfl⟩ : ∃ d, c = d + 1 := ⟨c - 1, by omega⟩
  have s0 : inC (d + 1) (s ++ [((0 : Nat) : Int)]) := inC_app hs fun z m => by rw [List.mem_singleton.mp m]; omega
  have gd : Good n (d + 1) g (s ++ [((0 : Nat) : Int)]) (P1 g s (d + 1) k 0) := BM_good s0 _ _ (fun r m => by
    obtain ⟨l, i⟩ := RL_mem m
    exact ⟨by rw [List.length_append, l]; simp; omega, i⟩) (.inr ⟨by show (-1 : Int) < 0; decide, RL_ne (by omega) _⟩)
  have p0 : 0 ≤ (P1 g s (d + 1) k 0).1 := by rw [gd.2.2.2]; exact nb_nn _ _
  rw [List.range_succ_eq_map, List.foldl_cons, List.foldl_cons]
  congr 1
  unfold pick
  rw [if_pos (by show (-1 : Int) < _; omega), if_neg (by omega)]
end
/-! ### what is told -/
abbrev itB : MS := (sSeq (sSet 6 (mBin fIx (mB (mBin fIx (mBV 0) (mB (mC (.int 1))))) (mBV 5)))
    (sSeq (sIf (tOrM (tNotM (mTest (mB (mUn (fIs .int) (mBV 6))))) (tOrM (mTest (mB (mUn (fIs .bool) (mBV 6)))) (tOrM (mTest (mB (mBin fLt (mBV 6) (mB (mC (.int 0)))))) (mTest (mB (mBin fGe (mBV 6) (mBV 3))))))) (sRet (mC (.bl false))) sNop)
    (sIf (tAndM (mTest (mB (mBin fLt (mBV 5) (mB (mCall fLen (bCons (mBV 4) bNil)))))) (mTest (mB (mBin fNe (mBV 6) (mB (mBin fIx (mBV 4) (mBV 5))))))) (sRet (mC (.bl false))) sNop)))
section
variable {n c : Nat} {g : List (Int × Int)} {s : List Int} {p : Int × List Int}
abbrev itE (n c : Nat) (g : List (Int × Int)) (s : List Int) (p : Int × List Int) (o5 o6 : Option Sl) : En := [some (.fr (bD p)), some (.fr (.int n)), some (.fr (.lst (g.map pr))), some (.fr (.int c)), some (.fr (tupI s)), o5, o6]
theorem it_step (h : Good n c g s p) (ls : s.length ≤ n) {k : Nat} (hk : k < n) (o6 : Option Sl) : itB (itE n c g s p (some (.fr (.int k))) o6) = .nx (itE n c g s p (some (.fr (.int k))) (some (.fr (.int (at0 p.2 k))))) := by
  obtain ⟨l, i, t, -⟩ := h
  have i1 : fIx (bD p) (.int 1) = .ok (.fr (tupI p.2)) := rfl
  have ik : fIx (tupI p.2) (.int k) = .ok (.fr (.int (at0 p.2 k))) := l_kt (by omega)
  obtain ⟨c1, c2⟩ := inC_at i (i := (k : Int)) (by omega) (by omega)
  obtain ⟨v, hv⟩ : ∃ v, at0 p.2 (k : Int) = v := ⟨_, rfl⟩
  rw [hv] at ik c1 c2
  have f1 : fIs .int (.int v) = .ok (.fr (.bl true)) := rfl
  have f2 : fIs .bool (.int v) = .ok (.fr (.bl false)) := rfl
  have ln := fLen_tupI s
  rw [hv]
  apply x_seqSet
  · decreasing_with first | exact i1 | exact ik
  · exact rfl
  apply x_env (e' := itE n c g s p (some (.fr (.int k))) (some (.fr (.int v)))) rfl
  apply x_guardF
  · decreasing_with first | exact f1 | exact f2
  · rw [decide_eq_false (by omega), decide_eq_false (by omega)]; rfl
  by_cases q : k < s.length
  · have is : fIx (tupI s) (.int k) = .ok (.fr (.int (at0 s k))) := l_kt q
    have e : at0 s (k : Int) = v := by
      rw [← hv]
      conv => lhs; rw [← t]
      rw [at0_nat, at0_nat]
      show ((p.2.take s.length)[k]?).getD 0 = (p.2[k]?).getD 0
      rw [List.getElem?_take, if_pos q]
    rw [e] at is
    have ne := fNe_int v v
    rw [decide_eq_true rfl] at ne
    apply x_sifF
    · decreasing_with first | exact ln | exact is | exact ne
    · exact Bool.and_false _
    · exact rfl
  · apply x_sifF
    · apply x_tandF
      · decreasing_with first | exact ln
      · exact decide_eq_false (by omega)
    · rfl
    · exact rfl
theorem it_loop (h : Good n c g s p) (ls : s.length ≤ n) : ∀ (m k : Nat) (o5 o6 : Option Sl), k + m = n → ∃ q5 q6, DL.forM (Pt.nm 5).go itB ((List.range' k m).map fun i : Nat => .int i) (itE n c g s p o5 o6) = .nx (itE n c g s p q5 q6)
  | 0, k, o5, o6, _ => ⟨o5, o6, rfl⟩
  | m + 1, k, o5, o6, hk => by
    have st := it_step h ls (k := k) (by omega) o6
    obtain ⟨q5, q6, ih⟩ := it_loop h ls m (k + 1) (some (.fr (.int k))) _ (by omega)
    refine ⟨q5, q6, ?_⟩
    rw [List.range'_succ, List.map_cons]
    exact (forM_nx rfl st).trans ih
theorem is_told (h : Good n c g s p) (hg : GE n g) (hl : g.length ≤ 15) (hn : n ≤ 6) (ls : s.length ≤ n) : f_L_is_told [bD p, .int n, .lst (g.map pr), .int c, tupI s] = .ok (.fr (.bl true)) := by
  have l := h.1
  have t0 : fIs .tuple (bD p) = .ok (.fr (.bl true)) := rfl
  have l2 : fLen [bD p] = .ok (.fr (.int 2)) := rfl
  have n2 := fNe_int 2 2
  have i0 : fIx (bD p) (.int 0) = .ok (.fr (.int p.1)) := rfl
  have i1 : fIx (bD p) (.int 1) = .ok (.fr (tupI p.2)) := rfl
  have t1 : fIs .tuple (tupI p.2) = .ok (.fr (.bl true)) := rfl
  have lp := fLen_tupI p.2
  have np := fNe_int (p.2.length : Int) (n : Int)
  have nu := number_is hg hl (d := tupI p.2) (r := p.2) (.inl rfl) l
  rw [← h.2.2.2] at nu
  have sm := same_i p.1
  obtain ⟨q5, q6, lp2⟩ := it_loop h ls n 0 none none (by omega)
  rw [← List.range_eq_range'] at lp2
  unfold f_L_is_told m_L_is_told
  rw [g_eq]
  apply x_runR rfl
  apply x_guardF
  · decreasing_with first | exact t0 | exact l2 | exact n2 | exact i1 | exact t1 | exact lp | exact np
  · rw [show decide ((p.2.length : Int) = (n : Int)) = true from decide_eq_true (by rw [l])]; rfl
  apply x_env (e' := itE n c g s p none none) rfl
  apply x_seq
  · apply x_for (xs := (List.range n).map fun i : Nat => .int i)
    · exact x_rng1 (n := n) rfl (by omega)
    · exact lp2
  decreasing_with first | exact i0 | exact i1 | exact nu | exact sm
end
end K44
set_option Elab.async false
set_option linter.all false
set_option maxRecDepth 100000
set_option maxHeartbeats 4000000
namespace K44
open PySem PySem.Spec L2 DL DM
open PyProof.Rows hiding St
local macro_rules | `(tactic| decreasing_with $ts:tacticSeq) => `(tactic| (repeat (first | (with_reducible first | exact x_C | exact x_bnil | exact x_nil | exact d_fr | exact d_ow | exact x_nop | exact x_ofalse | exact x_retN | apply x_B | apply x_BV | apply x_var | apply x_bin | apply x_un | apply x_bcons | apply x_cons | apply x_call | apply x_test | apply x_tnot | apply x_not | apply x_osome | apply x_sl | apply x_meth | apply x_iter | apply x_chain | apply x_and | apply x_or | apply x_tand | apply x_tor | intro _ | apply x_star | apply x_seqSet | apply x_seqUnp | apply x_seqApp | apply x_seqPut | apply x_set | apply x_ifset | apply x_ret | apply x_retV | apply x_drop | apply x_app | apply x_ext | apply x_unp | apply x_put | apply x_frz) | ($ts) | exact (rfl : (_ : Option (Option Sl)) = _) | exact (rfl : (_ : En) = _) | exact (rfl : (_ : Option Fn) = _) | exact l_add | exact l_sub | exact l_int | exact l_intB | exact l_mod (by first | decide | omega) | exact l_div (by first | decide | omega) (by first | decide | omega) | exact l_mulR (by omega) | exact l_mulL (by omega) | exact l_neg | exact l_abs | exact l_lt | exact l_le | exact l_gt | exact l_ge | exact l_eqI | exact l_neI | exact l_min | exact l_max | exact l_lenL | exact l_lenT | exact l_tuple | exact l_tupleT | exact l_list | exact l_listT | exact l_T0 | exact l_T1 | exact l_T2 | exact l_T3 | exact l_L0 | exact l_L1 | exact l_L2 | exact l_L3 | exact l_tup (by simp only [lim, List.length_cons, List.length_nil, List.length_map, List.length_append]; omega) | exact l_lst (by simp only [lim, List.length_cons, List.length_nil, List.length_map, List.length_append]; omega) | exact l_seqL | exact l_seqT | exact l_fld rfl rfl | exact (rfl : (_ : D) = D.tup _) | exact (rfl : (_ : Nat) = _))))
theorem x_callK {n : Nat} {f : Fn} {mr : En → R (List D)} {mv : M} {env : En} {ds : List D} {s s' : Sl} {d : D} (h1 : mr env = .ok ds) (hl : ds.length = n) (h2 : mv env = .ok s) (h3 : s.d = d) (h4 : f (ds ++ [d]) = .ok s') : mCallK n f mr mv env = .ok s' := by
  unfold mCallK
  rw [h1]
  show (if ds.length = n then (mv env).bind fun s => f (ds ++ [s.d]) else .st) = _
  rw [if_pos hl, h2]
  show f (ds ++ [s.d]) = _
  rw [h3]
  exact h4
theorem x_callKX {n c : Nat} {p : Pl} {f : Fn} {mr : En → R (List D)} {mv : M} {env : En} {ds : List D} {s : Sl} {d : D} (h1 : mr env = .ok ds) (hl : ds.length = n) (h2 : mv env = .ok s) (h3 : s.d = d) (h4 : f (ds ++ [d]) = .ex c p) : mCallK n f mr mv env = .ex c p := by
  unfold mCallK
  rw [h1]
  show (if ds.length = n then (mv env).bind fun s => f (ds ++ [s.d]) else .st) = _
  rw [if_pos hl, h2]
  show f (ds ++ [s.d]) = _
  rw [h3]
  exact h4
theorem lent_bl {f : List D → R Sl} {ds : List D} {b : Bool} (h : f ds = .ok (.fr (.bl b))) : lent f ds = .ok (.fr (.bl b)) := by
  unfold lent
  rw [h]
  rfl
theorem same_p {p : Int × List Int} (h : p.2.length ≤ 1000) : g_same [bD p, bD p] = .ok (.fr (.bl true)) :=
  same_is (gd_tup (by simp) (gL_cons (gd_int _ _) (gL_cons (gd_tints (by omega)) (gL_nil _))))
/-! ### best and best with one more color -/
abbrev btB : MS := (sIf (tNotM (mTest (mB (mCall f_L_is_told (mCons (mBin fIx (mBV 6) (mBV 7)) (mCons (mVar 1) (mCons (mVar 2) (mCons (mVar 3) (mCons (mBin fAddL (mBV 4) (mB (mCall fTup (mCons (mVar 7) mNil)))) mNil))))))))) (sRet (mC (.bl false))) sNop)
abbrev btC : MS := (sIf (mTest (mB (mBin fGt (mB (mBin fIx (mBV 9) (mB (mC (.int 0))))) (mB (mBin fIx (mBV 8) (mB (mC (.int 0)))))))) (sSet 8 (mVar 9)) sNop)
section
variable {n c : Nat} {g : List (Int × Int)} {s : List Int}
abbrev btE (n c : Nat) (g : List (Int × Int)) (s : List Int) (p : Int × List Int) (s6 : Sl) (o7 o8 o9 : Option Sl) : En := [some (.fr (stC n g c)), some (.fr (.int n)), some (.fr (.lst (g.map pr))), some (.fr (.int c)), some (.fr (tupI s)), some (.fr (bD p)), some s6, o7, o8, o9]
abbrev PL1 (g : List (Int × Int)) (s : List Int) (c k : Nat) : List D := (List.range c).map fun i : Nat => bD (P1 g s c k i)
theorem bt_b (hg : GE n g) (hl : g.length ≤ 15) (hn : n ≤ 6) (hc : 1 ≤ c) (hs : inC c s) (ls : s.length < n) (p : Int × List Int) : ∀ (is : List Nat) (o7 : Option Sl), (∀ i ∈ is, i < c) → ∃ q7, DL.forM (Pt.nm 7).go btB (is.map fun i : Nat => .int i) (btE n c g s p (.ow (PL1 g s c (n - (s.length + 1)))) o7 none none) = .nx (btE n c g s p (.ow (PL1 g s c (n - (s.length + 1)))) q7 none none)
  | [], o7, _ => ⟨o7, rfl⟩
  | i :: is, o7, hi => by
    obtain ⟨q7, ih⟩ := bt_b hg hl hn hc hs ls p is (some (.fr (.int i))) fun x m => hi x (List.mem_cons_of_mem _ m)
    have ic := hi i List.mem_cons_self
    have l1 : (s ++ [(i : Int)]).length = s.length + 1 := by rw [List.length_append]; rfl
    have s1 : inC c (s ++ [(i : Int)]) := inC_app hs fun z m => by rw [List.mem_singleton.mp m]; omega
    have gd := best_good (n := n) (g := g) s1 hc (by omega)
    rw [l1] at gd
    have it := is_told gd hg hl hn (by omega)
    have it : f_L_is_told [bD (P1 g s c (n - (s.length + 1)) i), .int n, .lst (g.map pr), .int c, tupI (s ++ [(i : Int)])] = .ok (.fr (.bl true)) := it
    have t1 : fTup [.int i] = .ok (.fr (.tup [.int i])) := rfl
    have ad : fAddL (tupI s) (.tup [.int i]) = .ok (.fr (tupI (s ++ [(i : Int)]))) := fAddL_tup (xs := s) (ys := [(i : Int)]) (by simp; omega)
    have ix : fIx (.lst (PL1 g s c (n - (s.length + 1)))) (.int i) = .ok (.fr (bD (P1 g s c (n - (s.length + 1)) i))) := x_getL (f := fun i : Nat => bD (P1 g s c (n - (s.length + 1)) i)) (by rw [List.getElem?_range ic])
    refine ⟨q7, (forM_nx (e := btE n c g s p (.ow (PL1 g s c (n - (s.length + 1)))) (some (.fr (.int i))) none none) rfl ?_).trans ih⟩
    apply x_sifF
    · decreasing_with first | exact t1 | exact ad | exact ix | exact it
    · rfl
    · exact rfl
theorem bt_c (p : Int × List Int) (d6 : D) (o7 : Option Sl) (f : Nat → Int × List Int) : ∀ (is : List Nat) (b : Int × List Int) (o9 : Option Sl), ∃ q9, DL.forM (Pt.nm 9).go btC (is.map fun i : Nat => bD (f i)) (btE n c g s p (.fr d6) o7 (some (.fr (bD b))) o9) = .nx (btE n c g s p (.fr d6) o7 (some (.fr (bD (is.foldl (fun b i => pick b (f i)) b)))) q9)
  | [], b, o9 => ⟨o9, rfl⟩
  | i :: is, b, o9 => by
    obtain ⟨q9, ih⟩ := bt_c p d6 o7 f is (pick b (f i)) (some (.fr (bD (f i))))
    obtain ⟨q, hq⟩ : ∃ q, f i = q := ⟨_, rfl⟩
    have b0 : fIx (bD b) (.int 0) = .ok (.fr (.int b.1)) := rfl
    have q0 : fIx (bD q) (.int 0) = .ok (.fr (.int q.1)) := rfl
    refine ⟨q9, (forM_nx (e := btE n c g s p (.fr d6) o7 (some (.fr (bD b))) (some (.fr (bD (f i))))) rfl ?_).trans ih⟩
    rw [hq]
    unfold pick
    by_cases k : b.1 < q.1
    · rw [if_pos k]
      apply x_sifT
      · decreasing_with first | exact b0 | exact q0
      · exact decide_eq_true k
      apply x_set
      · decreasing_with fail
      · exact rfl
    · rw [if_neg k]
      apply x_sifF
      · decreasing_with first | exact b0 | exact q0
      · exact decide_eq_false k
      · exact rfl
theorem best_told_true (hg : GE n g) (hl : g.length ≤ 15) (hn : n ≤ 6) (hc : 1 ≤ c ∧ c ≤ 4) (hs : inC c s) (ls : s.length < n) : f_L_best_told [stC n g c, .int n, .lst (g.map pr), .int c, tupI s] = .ok (.fr (.bl true)) := by
  have be := best_is hg hl hn hc.2 hs (by omega)
  have gd := best_good (n := n) (g := g) hs hc.1 (by omega)
  have nx := best_next (n := n) (g := g) hs hc.1 ls
  obtain ⟨B, hB⟩ : ∃ B, BM g s (-1, []) (RL c (n - s.length)) = B := ⟨_, rfl⟩
  rw [hB] at be gd nx
  have it := lent_bl (is_told gd hg hl hn (by omega))
  have c1 : mCallK 1 f_best_coloring (mCons (mVar 0) mNil) (mVar 4) [some (.fr (stC n g c)), some (.fr (.int n)), some (.fr (.lst (g.map pr))), some (.fr (.int c)), some (.fr (tupI s)), none, none, none, none, none] = .ok (.fr (bD B)) := x_callK (d := tupI s) (ds := [stC n g c]) rfl rfl rfl rfl be
  have cp : mComp (mRng1 (mBV 3)) (.nm 7) tYesM (mCallK 1 f_best_coloring (mCons (mVar 0) mNil) (mBin fAddL (mBV 4) (mB (mCall fTup (mCons (mVar 7) mNil))))) [7] [some (.fr (stC n g c)), some (.fr (.int n)), some (.fr (.lst (g.map pr))), some (.fr (.int c)), some (.fr (tupI s)), some (.fr (bD B)), none, none, none, none] = .ok (.ow (PL1 g s c (n - (s.length + 1)))) := by
    refine comp_rng (j := (c : Int)) (g := fun i : Nat => bD (P1 g s c (n - (s.length + 1)) i)) rfl (by omega) fun i hi => ⟨.fr (bD (P1 g s c (n - (s.length + 1)) i)), ?_, rfl⟩
    have l1 : (s ++ [(i : Int)]).length = s.length + 1 := by rw [List.length_append]; rfl
    have s1 : inC c (s ++ [(i : Int)]) := inC_app hs fun z m => by rw [List.mem_singleton.mp m]; omega
    have b1 := best_is hg hl hn hc.2 s1 (by omega)
    rw [l1] at b1
    have t1 : fTup [.int i] = .ok (.fr (.tup [.int i])) := rfl
    have ad : fAddL (tupI s) (.tup [.int i]) = .ok (.fr (tupI (s ++ [(i : Int)]))) := fAddL_tup (xs := s) (ys := [(i : Int)]) (by simp; omega)
    refine x_callK (d := tupI (s ++ [(i : Int)])) (s := .fr (tupI (s ++ [(i : Int)]))) (ds := [stC n g c]) rfl rfl ?_ rfl b1
    decreasing_with first | exact t1 | exact ad
  obtain ⟨q7, lb⟩ := bt_b hg hl hn hc.1 hs ls B (List.range c) none fun i m => List.mem_range.mp m
  have x0 : fIx (.lst (PL1 g s c (n - (s.length + 1)))) (.int 0) = .ok (.fr (bD (P1 g s c (n - (s.length + 1)) 0))) := x_getL (k := 0) (f := fun i : Nat => bD (P1 g s c (n - (s.length + 1)) i)) (by rw [List.getElem?_range (by omega)])
  obtain ⟨q9, lc⟩ := bt_c (n := n) (c := c) (g := g) (s := s) B (.lst (PL1 g s c (n - (s.length + 1)))) q7 (P1 g s c (n - (s.length + 1))) (List.range c) (P1 g s c (n - (s.length + 1)) 0) none
  rw [← nx] at lc
  have sm := lent_bl (same_p (p := B) (by rw [gd.1]; omega))
  show fin (m_L_best_told [some (.fr (stC n g c)), some (.fr (.int n)), some (.fr (.lst (g.map pr))), some (.fr (.int c)), some (.fr (tupI s)), none, none, none, none, none]) = _
  have hm : m_L_best_told [some (.fr (stC n g c)), some (.fr (.int n)), some (.fr (.lst (g.map pr))), some (.fr (.int c)), some (.fr (tupI s)), none, none, none, none, none] = .rt (.fr (.bl true)) := by
    unfold m_L_best_told
    rw [g_eq]
    apply x_seqSet
    · exact c1
    · exact rfl
    apply x_seqSet
    · exact cp
    · exact rfl
    apply x_env (e' := btE n c g s B (.ow (PL1 g s c (n - (s.length + 1)))) none none none) rfl
    apply x_guardF
    · decreasing_with first | exact it
    · rfl
    apply x_seq
    · apply x_for (xs := (List.range c).map fun i : Nat => .int i)
      · exact x_rng1 (n := c) rfl (by omega)
      · exact lb
    apply x_seqSet
    · decreasing_with first | exact x0
    · exact rfl
    apply x_seq
    · apply x_frz (e := btE n c g s B (.fr (.lst (PL1 g s c (n - (s.length + 1))))) q7 (some (.fr (bD (P1 g s c (n - (s.length + 1)) 0)))) none)
      · exact rfl
      apply x_for (xs := PL1 g s c (n - (s.length + 1)))
      · exact x_iter (x_var rfl) rfl
      · exact lc
    decreasing_with first | exact sm
  rw [hm]
  rfl
end
end K44
set_option Elab.async false
set_option linter.all false
set_option maxRecDepth 100000
set_option maxHeartbeats 4000000
namespace K44
open PySem PySem.Spec L2 DL DM
open PyProof.Rows hiding St
local macro_rules | `(tactic| decreasing_with $ts:tacticSeq) => `(tactic| (repeat (first | (with_reducible first | exact x_C | exact x_bnil | exact x_nil | exact d_fr | exact d_ow | exact x_nop | exact x_ofalse | exact x_retN | apply x_B | apply x_BV | apply x_var | apply x_bin | apply x_un | apply x_bcons | apply x_cons | apply x_call | apply x_test | apply x_tnot | apply x_not | apply x_osome | apply x_sl | apply x_meth | apply x_iter | apply x_chain | apply x_and | apply x_or | apply x_tand | apply x_tor | intro _ | apply x_star | apply x_seqSet | apply x_seqUnp | apply x_seqApp | apply x_seqPut | apply x_set | apply x_ifset | apply x_ret | apply x_retV | apply x_drop | apply x_app | apply x_ext | apply x_unp | apply x_put | apply x_frz) | ($ts) | exact (rfl : (_ : Option (Option Sl)) = _) | exact (rfl : (_ : En) = _) | exact (rfl : (_ : Option Fn) = _) | exact l_add | exact l_sub | exact l_int | exact l_intB | exact l_mod (by first | decide | omega) | exact l_div (by first | decide | omega) (by first | decide | omega) | exact l_mulR (by omega) | exact l_mulL (by omega) | exact l_neg | exact l_abs | exact l_lt | exact l_le | exact l_gt | exact l_ge | exact l_eqI | exact l_neI | exact l_min | exact l_max | exact l_lenL | exact l_lenT | exact l_tuple | exact l_tupleT | exact l_list | exact l_listT | exact l_T0 | exact l_T1 | exact l_T2 | exact l_T3 | exact l_L0 | exact l_L1 | exact l_L2 | exact l_L3 | exact l_tup (by simp only [lim, List.length_cons, List.length_nil, List.length_map, List.length_append]; omega) | exact l_lst (by simp only [lim, List.length_cons, List.length_nil, List.length_map, List.length_append]; omega) | exact l_seqL | exact l_seqT | exact l_fld rfl rfl | exact (rfl : (_ : D) = D.tup _) | exact (rfl : (_ : Nat) = _))))
/-! ### refused -/
abbrev vd (k : Int) : D := .tup [.int k, .bl true]
theorem sv (k : Int) : g_same [vd k, vd k] = .ok (.fr (.bl true)) := same_is rfl
theorem tv (k : Int) : fTup [.int k, .bl true] = .ok (.fr (vd k)) := rfl
theorem x_tryX {i : Nat} {mb : MS} {ks : List Cl1} {env e : En} {c : Nat} {p : Pl} {r : DL.RS} (h1 : mb env = .ex c p e) (h2 : clsN i ks c p e = r) : sTryN i mb ks env = r := by
  unfold sTryN
  rw [h1]
  exact h2
theorem ref_2 {S d : D} (h : f_best_coloring [S, d] = .ex 3 none) : f_L_refusal [S, d] = .ok (.fr (vd 2)) := by
  have b : ((sRet (mCall fTup (mCons (mC (.int 0)) (mCons (mCallK 1 f_best_coloring (mCons (mVar 0) mNil) (mVar 1)) mNil))))) [some (.fr S), some (.fr d), none] = .ex 3 none [some (.fr S), some (.fr d), none] := by
    refine x_retX (x_callE (x_consE2 rfl (x_consE ?_)))
    exact x_callKX (d := d) (ds := [S]) rfl rfl rfl rfl h
  unfold f_L_refusal m_L_refusal
  apply x_runR rfl
  exact x_tryX b rfl
theorem ref_1 {S d : D} (h : f_best_coloring [S, d] = .ex 2 none) : f_L_refusal [S, d] = .ok (.fr (vd 1)) := by
  have b : ((sRet (mCall fTup (mCons (mC (.int 0)) (mCons (mCallK 1 f_best_coloring (mCons (mVar 0) mNil) (mVar 1)) mNil))))) [some (.fr S), some (.fr d), none] = .ex 2 none [some (.fr S), some (.fr d), none] := by
    refine x_retX (x_callE (x_consE2 rfl (x_consE ?_)))
    exact x_callKX (d := d) (ds := [S]) rfl rfl rfl rfl h
  unfold f_L_refusal m_L_refusal
  apply x_runR rfl
  exact x_tryX b rfl
def isCi : R Sl → Bool
  | .ok (.fr (.tup (.str x :: _))) => isBl true (fNe (.str x) (.str (Str.ofString "colors")))
  | _ => false
theorem isCi_eq {r : R Sl} (h : isCi r = true) : ∃ (x : Str) (ds : List D), r = .ok (.fr (.tup (.str x :: ds))) ∧ isBl true (fNe (.str x) (.str (Str.ofString "colors"))) = true := by
  unfold isCi at h
  split at h
  · exact ⟨_, _, rfl, h⟩
  · cases h
/-- a statement of another kind -/
def Oth (S : D) : Prop := ∃ (x : Str) (ds : List D), S = .tup (.str x :: ds) ∧ isBl true (fNe (.str x) (.str (Str.ofString "colors"))) = true
theorem Oth.bad {S : D} (h : Oth S) (d : D) : f_L_refusal [S, d] = .ok (.fr (vd 1)) := by
  obtain ⟨x, ds, rfl, e⟩ := h
  exact ref_1 (best_other (k := x) l_T0 e)
theorem ci_tab : isCi (f_circuit [.int 1, .lst [.tup [.str (Str.ofString "not"), .int 0]]]) = true := by decide +kernel
theorem ci_is : ∃ S : D, Oth S ∧ f_circuit [.int 1, .lst [.tup [.str (Str.ofString "not"), .int 0]]] = .ok (.fr S) := by
  obtain ⟨x, ds, e, h⟩ := isCi_eq ci_tab
  exact ⟨_, ⟨x, ds, rfl, h⟩, e⟩
theorem al_tab : isBl true (fNe (.str (Str.ofString "alike")) (.str (Str.ofString "colors"))) = true := by decide +kernel
theorem al_is (n : Nat) (g : List (Int × Int)) : ∃ S : D, Oth S ∧ f_alike [grD n g, grD n g] = .ok (.fr S) := by
  refine ⟨.tup [.str (Str.ofString "alike"), grD n g, grD n g], ⟨_, _, rfl, al_tab⟩, ?_⟩
  have g0 : fIx (grD n g) (.int 0) = .ok (.fr (.int n)) := rfl
  have ne := fNe_int (n : Int) (n : Int)
  rw [decide_eq_true rfl] at ne
  have t3 : fTup [.str (Str.ofString "alike"), grD n g, grD n g] = .ok (.fr (.tup [.str (Str.ofString "alike"), grD n g, grD n g])) := rfl
  unfold f_alike m_alike
  apply x_runR rfl
  apply x_guardF
  · decreasing_with first | exact g0 | exact ne
  · rfl
  decreasing_with first | exact t3
abbrev rdB : MS := (sSeq (sIf (tNotM (mTest (mB (mCall g_same (mCons (mCall f_L_refusal (mCons (mVar 0) (mCons (mVar 9) mNil))) (mCons (mCall fTup (mCons (mC (.int 2)) (mCons (mC (.bl true)) mNil))) mNil)))))) (sRet (mC (.bl false))) sNop)
    (sFrz [8] (sFor (mIter (mVar 8)) (.nm 10) (sIf (tNotM (mTest (mB (mCall g_same (mCons (mCall f_L_refusal (mCons (mVar 10) (mCons (mVar 9) mNil))) (mCons (mCall fTup (mCons (mC (.int 1)) (mCons (mC (.bl true)) mNil))) mNil)))))) (sRet (mC (.bl false))) sNop))))
abbrev rdI : MS := (sIf (tNotM (mTest (mB (mCall g_same (mCons (mCall f_L_refusal (mCons (mVar 10) (mCons (mVar 9) mNil))) (mCons (mCall fTup (mCons (mC (.int 1)) (mCons (mC (.bl true)) mNil))) mNil)))))) (sRet (mC (.bl false))) sNop)
abbrev rdC : MS := (sIf (tOrM (tNotM (mTest (mB (mCall g_same (mCons (mCall f_L_refusal (mCons (mVar 10) (mCons (mVar 3) mNil))) (mCons (mCall fTup (mCons (mC (.int 1)) (mCons (mC (.bl true)) mNil))) mNil)))))) (tNotM (mTest (mB (mCall g_same (mCons (mCall f_L_refusal (mCons (mVar 10) (mCons (mCall fTup mNil) mNil))) (mCons (mCall fTup (mCons (mC (.int 1)) (mCons (mC (.bl true)) mNil))) mNil))))))) (sRet (mC (.bl false))) sNop)
section
variable {n c : Nat} {g : List (Int × Int)} {s zs : List Int} {a : Nat} {y : Int} {sp : List Int} {S1 S2 : D}
abbrev rdE (n c : Nat) (g : List (Int × Int)) (s zs : List Int) (a : Nat) (y : Int) (sp : List Int) (s8 : Sl) (o9 o10 : Option Sl) : En := [some (.fr (stC n g c)), some (.fr (.int n)), some (.fr (.int c)), some (.fr (tupI s)), some (.fr (.lst (zs.map .int))), some (.fr (.int a)), some (.fr (.int y)), some (.fr (tupI sp)), some s8, o9, o10]
theorem rd_i (h : Oth S1) (w : List Int) (s8 : Sl) : rdI (rdE n c g s zs a y sp s8 (some (.fr (tupI w))) (some (.fr S1))) = .nx (rdE n c g s zs a y sp s8 (some (.fr (tupI w))) (some (.fr S1))) := by
  have r := h.bad (tupI w)
  have s1 := sv 1
  have t1 := tv 1
  apply x_sifF
  · decreasing_with first | exact r | exact s1 | exact t1
  · rfl
  · exact rfl
def badW (n c : Nat) (w : List Int) : Prop := w.length ≤ 1000 ∧ (n < w.length ∨ ¬ inC c w)
theorem rd_b (h1 : Oth S1) (h2 : Oth S2) {w : List Int} (hw : badW n c w) (s8 : Sl) (h8 : s8 = .ow [S1, S2] ∨ s8 = .fr (.lst [S1, S2])) (o10 : Option Sl) : ∃ q10, rdB (rdE n c g s zs a y sp s8 (some (.fr (tupI w))) o10) = .nx (rdE n c g s zs a y sp (.fr (.lst [S1, S2])) (some (.fr (tupI w))) q10) := by
  have r := ref_2 (best_bad (g := g) hw.1 hw.2)
  have s2 := sv 2
  have t2 := tv 2
  refine ⟨some (.fr S2), ?_⟩
  apply x_seq
  · apply x_sifF
    · decreasing_with first | exact r | exact s2 | exact t2
    · rfl
    · exact rfl
  apply x_frz (e := rdE n c g s zs a y sp (.fr (.lst [S1, S2])) (some (.fr (tupI w))) o10)
  · rcases h8 with rfl | rfl <;> rfl
  apply x_for (xs := [S1, S2])
  · exact x_iter (x_var rfl) rfl
  · exact (forM_nx rfl (rd_i h1 w _)).trans (forM_one rfl (rd_i h2 w _))
theorem rd_c (h : Oth S1) (s8 : Sl) (o9 : Option Sl) : rdC (rdE n c g s zs a y sp s8 o9 (some (.fr S1))) = .nx (rdE n c g s zs a y sp s8 o9 (some (.fr S1))) := by
  have r := h.bad (tupI s)
  have r0 := h.bad (.tup [])
  have t0 : fTup [] = .ok (.fr (.tup [])) := rfl
  have s1 := sv 1
  have t1 := tv 1
  apply x_sifF
  · decreasing_with first | exact r | exact r0 | exact t0 | exact s1 | exact t1
  · rfl
  · exact rfl
theorem not_inC {y : Int} {w : List Int} (m : y ∈ w) (hy : y < 0 ∨ (c : Int) ≤ y) : ¬ inC c w := fun h => by
  have := h y m
  omega
theorem refused_true (hn : 1 ≤ n ∧ n ≤ 6) (hc : c ≤ 4) (ls : s.length = n) (hz : zs.length = 12) (zb : ∀ z ∈ zs, 0 ≤ z ∧ z < 5040) : f_L_refused [stC n g c, .int n, .int c, tupI s, .lst (zs.map .int)] = .ok (.fr (.bl true)) := by
  have z6 : fIx (.lst (zs.map .int)) (.int 6) = .ok (.fr (.int (at0 zs 6))) := l_row (by omega)
  have z7 : fIx (.lst (zs.map .int)) (.int 7) = .ok (.fr (.int (at0 zs 7))) := l_row (by omega)
  have z8 : fIx (.lst (zs.map .int)) (.int 8) = .ok (.fr (.int (at0 zs 8))) := l_row (by omega)
  obtain ⟨a, ha, ma⟩ := mod_nat (at0 zs 6) (n := n) (by omega)
  obtain ⟨b, hb, mb⟩ := mod_nat (at0 zs 8) (n := 4) (by decide)
  have mb : fMod (.int (at0 zs 8)) (.int 4) = .ok (.fr (.int b)) := mb
  have p7 : 0 ≤ at0 zs 7 := by
    have e : at0 zs ((7 : Nat) : Int) = zs[7] := by rw [at0_nat, List.getD, List.getElem?_eq_getElem (by omega)]; rfl
    have e : at0 zs 7 = zs[7] := e
    rw [e]
    exact (zb _ (List.getElem_mem _)).1
  obtain ⟨Q, hQ⟩ : ∃ Q, at0 zs 7 = Q := ⟨_, rfl⟩
  rw [hQ] at z7 p7
  have ll : fLst [.int c, .int (-1), .int 99, .int ((c : Int) + Q)] = .ok (.ow [.int c, .int (-1), .int 99, .int ((c : Int) + Q)]) := rfl
  obtain ⟨y, hy, iy⟩ : ∃ y : Int, (y < 0 ∨ (c : Int) ≤ y) ∧ fIx (.lst [.int c, .int (-1), .int 99, .int ((c : Int) + Q)]) (.int b) = .ok (.fr (.int y)) := by
    match b, hb with
    | 0, _ => exact ⟨c, .inr (Int.le_refl _), rfl⟩
    | 1, _ => exact ⟨-1, .inl (by decide), rfl⟩
    | 2, _ => exact ⟨99, .inr (by omega), rfl⟩
    | 3, _ => exact ⟨(c : Int) + Q, .inr (by omega), rfl⟩
  have s1 : fSl (tupI s) none (some ((a : Nat) : Int)) = .ok (.fr (tupI (s.take a))) := fSl_to (by omega)
  have s2 : fSl (tupI s) (some ((a : Int) + 1)) none = .ok (.fr (tupI (s.drop (a + 1)))) := by
    rw [show (a : Int) + 1 = ((a + 1 : Nat) : Int) by omega]
    exact fSl_from (by omega)
  have ty : fTup [.int y] = .ok (.fr (.tup [.int y])) := rfl
  have d1 : fAddL (tupI (s.take a)) (.tup [.int y]) = .ok (.fr (tupI (s.take a ++ [y]))) := fAddL_tup (xs := s.take a) (ys := [y]) (by rw [List.length_take]; simp; omega)
  have d2 : fAddL (tupI (s.take a ++ [y])) (tupI (s.drop (a + 1))) = .ok (.fr (tupI (s.take a ++ [y] ++ s.drop (a + 1)))) := fAddL_tup (by rw [List.length_append, List.length_take, List.length_drop]; simp; omega)
  obtain ⟨sp, hsp⟩ : ∃ sp, s.take a ++ [y] ++ s.drop (a + 1) = sp := ⟨_, rfl⟩
  have lsp : sp.length = n := by rw [← hsp, List.length_append, List.length_append, List.length_take, List.length_drop]; simp; omega
  have msp : y ∈ sp := by rw [← hsp]; simp
  have mtk : y ∈ sp.take (a + 1) := by
    rw [← hsp, List.take_append_of_le_length (by rw [List.length_append, List.length_take]; simp; omega), List.take_of_length_le (by rw [List.length_append, List.length_take]; simp; omega)]
    simp
  rw [hsp] at d2
  obtain ⟨S1, h1, c1⟩ := ci_is
  obtain ⟨S2, h2, c2⟩ := al_is n g
  have tn : fTup [.str (Str.ofString "not"), .int 0] = .ok (.fr (.tup [.str (Str.ofString "not"), .int 0])) := rfl
  have ln1 : fLst [.tup [.str (Str.ofString "not"), .int 0]] = .ok (.ow [.tup [.str (Str.ofString "not"), .int 0]]) := rfl
  have ig : fIx (stC n g c) (.int 1) = .ok (.fr (grD n g)) := rfl
  have lo : fLst [S1, S2] = .ok (.ow [S1, S2]) := rfl
  have t0 : fTup [.int 0] = .ok (.fr (.tup [.int 0])) := rfl
  have w1 : fAddL (tupI s) (.tup [.int 0]) = .ok (.fr (tupI (s ++ [0]))) := fAddL_tup (xs := s) (ys := [0]) (by simp; omega)
  have w3 : fSl (tupI sp) none (some ((a : Int) + 1)) = .ok (.fr (tupI (sp.take (a + 1)))) := by
    rw [show (a : Int) + 1 = ((a + 1 : Nat) : Int) by omega]
    exact fSl_to (by omega)
  have w4 : fAddL (tupI s) (tupI s) = .ok (.fr (tupI (s ++ s))) := fAddL_tup (by omega)
  have w5 : fAddL (tupI sp) (.tup [.int 0]) = .ok (.fr (tupI (sp ++ [0]))) := fAddL_tup (xs := sp) (ys := [0]) (by simp; omega)
  have lw : fLst [tupI (s ++ [0]), tupI sp, tupI (sp.take (a + 1)), tupI (s ++ s), tupI (sp ++ [0])] = .ok (.ow [tupI (s ++ [0]), tupI sp, tupI (sp.take (a + 1)), tupI (s ++ s), tupI (sp ++ [0])]) := rfl
  have b1 : badW n c (s ++ [0]) := ⟨by rw [List.length_append]; simp; omega, .inl (by rw [List.length_append]; simp; omega)⟩
  have b2 : badW n c sp := ⟨by omega, .inr (not_inC msp hy)⟩
  have b3 : badW n c (sp.take (a + 1)) := ⟨by rw [List.length_take]; omega, .inr (not_inC mtk hy)⟩
  have b4 : badW n c (s ++ s) := ⟨by rw [List.length_append]; omega, .inl (by rw [List.length_append]; omega)⟩
  have b5 : badW n c (sp ++ [0]) := ⟨by rw [List.length_append]; simp; omega, .inl (by rw [List.length_append]; simp; omega)⟩
  obtain ⟨p1, x1⟩ := rd_b (g := g) (s := s) (zs := zs) (a := a) (y := y) (sp := sp) h1 h2 b1 (.ow [S1, S2]) (.inl rfl) none
  obtain ⟨p2, x2⟩ := rd_b (g := g) (s := s) (zs := zs) (a := a) (y := y) (sp := sp) h1 h2 b2 (.fr (.lst [S1, S2])) (.inr rfl) p1
  obtain ⟨p3, x3⟩ := rd_b (g := g) (s := s) (zs := zs) (a := a) (y := y) (sp := sp) h1 h2 b3 (.fr (.lst [S1, S2])) (.inr rfl) p2
  obtain ⟨p4, x4⟩ := rd_b (g := g) (s := s) (zs := zs) (a := a) (y := y) (sp := sp) h1 h2 b4 (.fr (.lst [S1, S2])) (.inr rfl) p3
  obtain ⟨p5, x5⟩ := rd_b (g := g) (s := s) (zs := zs) (a := a) (y := y) (sp := sp) h1 h2 b5 (.fr (.lst [S1, S2])) (.inr rfl) p4
  unfold f_L_refused m_L_refused
  rw [g_eq]
  apply x_runR rfl
  apply x_seqSet
  · decreasing_with first | exact z6 | exact ma
  · exact rfl
  apply x_seqSet
  · decreasing_with first | exact z7 | exact z8 | exact mb | exact ll | exact iy
  · exact rfl
  apply x_seqSet
  · decreasing_with first | exact s1 | exact s2 | exact ty | exact d1 | exact d2
  · exact rfl
  apply x_seqSet
  · decreasing_with first | exact tn | exact ln1 | exact ig | exact c1 | exact c2 | exact lo
  · exact rfl
  apply x_env (e' := rdE n c g s zs a y sp (.ow [S1, S2]) none none) rfl
  apply x_seq
  · apply x_for (xs := [tupI (s ++ [0]), tupI sp, tupI (sp.take (a + 1)), tupI (s ++ s), tupI (sp ++ [0])])
    · apply x_iter
      · decreasing_with first | exact t0 | exact w1 | exact w3 | exact w4 | exact w5 | exact lw
      · exact rfl
    · exact (forM_nx rfl x1).trans ((forM_nx rfl x2).trans ((forM_nx rfl x3).trans ((forM_nx rfl x4).trans (forM_one rfl x5))))
  apply x_seq
  · apply x_frz (e := rdE n c g s zs a y sp (.fr (.lst [S1, S2])) (some (.fr (tupI (sp ++ [0])))) p5)
    · exact rfl
    apply x_for (xs := [S1, S2])
    · exact x_iter (x_var rfl) rfl
    · exact (forM_nx rfl (rd_c h1 _ _)).trans (forM_one rfl (rd_c h2 _ _))
  decreasing_with fail
end
end K44
set_option Elab.async false
set_option linter.all false
set_option maxRecDepth 100000
set_option maxHeartbeats 4000000
namespace K44
open PySem PySem.Spec L2 DL DM
open PyProof.Rows hiding St
local macro_rules | `(tactic| decreasing_with $ts:tacticSeq) => `(tactic| (repeat (first | (with_reducible first | exact x_C | exact x_bnil | exact x_nil | exact d_fr | exact d_ow | exact x_nop | exact x_ofalse | exact x_retN | apply x_B | apply x_BV | apply x_var | apply x_bin | apply x_un | apply x_bcons | apply x_cons | apply x_call | apply x_test | apply x_tnot | apply x_not | apply x_osome | apply x_sl | apply x_meth | apply x_iter | apply x_chain | apply x_and | apply x_or | apply x_tand | apply x_tor | intro _ | apply x_star | apply x_seqSet | apply x_seqUnp | apply x_seqApp | apply x_seqPut | apply x_set | apply x_ifset | apply x_ret | apply x_retV | apply x_drop | apply x_app | apply x_ext | apply x_unp | apply x_put | apply x_frz) | ($ts) | exact (rfl : (_ : Option (Option Sl)) = _) | exact (rfl : (_ : En) = _) | exact (rfl : (_ : Option Fn) = _) | exact l_add | exact l_sub | exact l_int | exact l_intB | exact l_mod (by first | decide | omega) | exact l_div (by first | decide | omega) (by first | decide | omega) | exact l_mulR (by omega) | exact l_mulL (by omega) | exact l_neg | exact l_abs | exact l_lt | exact l_le | exact l_gt | exact l_ge | exact l_eqI | exact l_neI | exact l_min | exact l_max | exact l_lenL | exact l_lenT | exact l_tuple | exact l_tupleT | exact l_list | exact l_listT | exact l_T0 | exact l_T1 | exact l_T2 | exact l_T3 | exact l_L0 | exact l_L1 | exact l_L2 | exact l_L3 | exact l_tup (by simp only [lim, List.length_cons, List.length_nil, List.length_map, List.length_append]; omega) | exact l_lst (by simp only [lim, List.length_cons, List.length_nil, List.length_map, List.length_append]; omega) | exact l_seqL | exact l_seqT | exact l_fld rfl rfl | exact (rfl : (_ : D) = D.tup _) | exact (rfl : (_ : Nat) = _))))
/-! ### the law -/
abbrev wK : MS := (sSeq (sIf (tNotM (mTest (mB (mCall f_L_best_told (mCons (mBin fIx (mBV 5) (mB (mC (.int 0)))) (mCons (mVar 2) (mCons (mBin fIx (mBV 4) (mB (mC (.int 0)))) (mCons (mVar 3) (mCons (mVar 8) mNil))))))))) (sRet (mC (.bl false))) sNop)
    (sSeq (sIf (mTest (mB (mBin fLe (mB (mBin fSub (mBV 2) (mBV 9))) (mB (mC (.int 3)))))) (sFor (mIter (mCall fLst (mCons (mC (.int 1)) (mCons (mC (.int 0)) mNil)))) (.nm 10) (sSeq (sSet 11 (mCall f_L_best (mCons (mVar 2) (mCons (mBin fIx (mBV 4) (mBV 10)) (mCons (mVar 3) (mCons (mVar 8) mNil))))))
    (sIf (tNotM (mTest (mB (mCall (lent g_same) (bCons (mB (mCallK 1 f_best_coloring (mCons (mBin fIx (mBV 5) (mBV 10)) mNil) (mVar 8))) (bCons (mBV 11) bNil)))))) (sRet (mC (.bl false))) sNop))) sNop)
    (sSet 8 (mBin fAddL (mBV 8) (mB (mCall fTup (mCons (mBin fMod (mB (mCall fInt (bCons (mB (mBin fIx (mBV 7) (mBV 9))) bNil))) (mBV 3)) mNil)))))))
abbrev wP : MS := (sSeq (sSet 11 (mCall f_L_best (mCons (mVar 2) (mCons (mBin fIx (mBV 4) (mBV 10)) (mCons (mVar 3) (mCons (mVar 8) mNil))))))
    (sIf (tNotM (mTest (mB (mCall (lent g_same) (bCons (mB (mCallK 1 f_best_coloring (mCons (mBin fIx (mBV 5) (mBV 10)) mNil) (mVar 8))) (bCons (mBV 11) bNil)))))) (sRet (mC (.bl false))) sNop))
abbrev wQ : MS := (sSeq (sIf (tNotM (mTest (mB (mCall g_same (mCons (mCallK 1 f_best_coloring (mCons (mBin fIx (mBV 5) (mBV 10)) mNil) (mVar 8)) (mCons (mCall fTup (mCons (mCall f_L_number (mCons (mBin fIx (mBV 4) (mBV 10)) (mCons (mVar 8) mNil))) (mCons (mVar 8) mNil))) mNil)))))) (sRet (mC (.bl false))) sNop)
    (sSeq (sSet 12 (mCall (fun ds => f_best_coloring (ds ++ [.tup []])) (mCons (mBin fIx (mBV 5) (mBV 10)) mNil)))
    (sIf (tOrM (tNotM (mTest (mB (mCall (lent f_L_is_told) (bCons (mBV 12) (bCons (mBV 2) (bCons (mB (mBin fIx (mBV 4) (mBV 10))) (bCons (mBV 3) (bCons (mB (mCall fTup mNil)) bNil))))))))) (tNotM (mTest (mB (mCall (lent g_same) (bCons (mB (mCallK 1 f_best_coloring (mCons (mBin fIx (mBV 5) (mBV 10)) mNil) (mCall fTup mNil))) (bCons (mBV 12) bNil))))))) (sRet (mC (.bl false))) sNop)))
section
variable {ns zs ds s : List Int} {n c : Nat} {g0 g1 : List (Int × Int)}
abbrev gL (g : List (Int × Int)) : D := .lst (g.map pr)
abbrev wE (ns zs ds : List Int) (n c : Nat) (g0 g1 : List (Int × Int)) (s : List Int) (o9 o10 o11 o12 : Option Sl) : En := [some (.fr (.lst (ns.map .int))), some (.ow (zs.map .int)), some (.fr (.int n)), some (.fr (.int c)), some (.fr (.lst [gL g0, gL g1])), some (.ow [stC n g0 c, stC n g1 c]), none, some (.ow (ds.map .int)), some (.fr (tupI s)), o9, o10, o11, o12]
theorem w_p (hn : n ≤ 6) (hc : 1 ≤ c ∧ c ≤ 4) (hs : inC c s) (ls : s.length ≤ n) {i : Int} {g : List (Int × Int)} (hg : GO n g) (x4 : fIx (.lst [gL g0, gL g1]) (.int i) = .ok (.fr (gL g))) (x5 : fIx (.lst [stC n g0 c, stC n g1 c]) (.int i) = .ok (.fr (stC n g c))) (o9 o11 o12 : Option Sl) :
    ∃ q11, wP (wE ns zs ds n c g0 g1 s o9 (some (.fr (.int i))) o11 o12) = .nx (wE ns zs ds n c g0 g1 s o9 (some (.fr (.int i))) q11 o12) := by
  have lb := lbest_is (s := s) hg.1 hg.2.2.1 hn hc.2 ls
  have be := best_is hg.1 hg.2.2.1 hn hc.2 hs ls
  have gd := best_good (n := n) (g := g) hs hc.1 ls
  obtain ⟨B, hB⟩ : ∃ B, BM g s (-1, []) (RL c (n - s.length)) = B := ⟨_, rfl⟩
  rw [hB] at lb be gd
  have sm := lent_bl (same_p (p := B) (by rw [gd.1]; omega))
  have ck : mCallK 1 f_best_coloring (mCons (mBin fIx (mBV 5) (mBV 10)) mNil) (mVar 8) (wE ns zs ds n c g0 g1 s o9 (some (.fr (.int i))) (some (.fr (bD B))) o12) = .ok (.fr (bD B)) := by
    refine x_callK (d := tupI s) (ds := [stC n g c]) ?_ rfl rfl rfl be
    decreasing_with first | exact x5
  refine ⟨some (.fr (bD B)), ?_⟩
  apply x_seqSet
  · decreasing_with first | exact x4 | exact lb
  · exact rfl
  apply x_env (e' := wE ns zs ds n c g0 g1 s o9 (some (.fr (.int i))) (some (.fr (bD B))) o12) rfl
  apply x_sifF
  · decreasing_with first | exact ck | exact sm
  · rfl
  · exact rfl
theorem w_k (hn : n ≤ 6) (hc : 1 ≤ c ∧ c ≤ 4) (hs : inC c s) (hg0 : GO n g0) (hg1 : GO n g1) (ld : ds.length = 6) {k : Nat} (ls : s.length = k) (hk : k < n) (o10 o11 o12 : Option Sl) :
    ∃ (v : Nat) (q10 q11 : Option Sl), v < c ∧ wK (wE ns zs ds n c g0 g1 s (some (.fr (.int k))) o10 o11 o12) = .nx (wE ns zs ds n c g0 g1 (s ++ [(v : Int)]) (some (.fr (.int k))) q10 q11 o12) := by
  have bt := best_told_true hg0.1 hg0.2.2.1 hn hc hs (by omega)
  have x50 : fIx (.lst [stC n g0 c, stC n g1 c]) (.int 0) = .ok (.fr (stC n g0 c)) := rfl
  have x40 : fIx (.lst [gL g0, gL g1]) (.int 0) = .ok (.fr (gL g0)) := rfl
  have x51 : fIx (.lst [stC n g0 c, stC n g1 c]) (.int 1) = .ok (.fr (stC n g1 c)) := rfl
  have x41 : fIx (.lst [gL g0, gL g1]) (.int 1) = .ok (.fr (gL g1)) := rfl
  have dk : fIx (.lst (ds.map .int)) (.int k) = .ok (.fr (.int (at0 ds k))) := l_kx (by omega)
  obtain ⟨v, hv, mv⟩ := mod_nat (at0 ds k) (n := c) (by omega)
  have t1 : fTup [.int v] = .ok (.fr (.tup [.int v])) := rfl
  have ad : fAddL (tupI s) (.tup [.int v]) = .ok (.fr (tupI (s ++ [(v : Int)]))) := fAddL_tup (xs := s) (ys := [(v : Int)]) (by simp; omega)
  have l2 : fLst [.int 1, .int 0] = .ok (.ow [.int 1, .int 0]) := rfl
  have mid : ∃ q10 q11 : Option Sl, ((sIf (mTest (mB (mBin fLe (mB (mBin fSub (mBV 2) (mBV 9))) (mB (mC (.int 3)))))) (sFor (mIter (mCall fLst (mCons (mC (.int 1)) (mCons (mC (.int 0)) mNil)))) (.nm 10) (sSeq (sSet 11 (mCall f_L_best (mCons (mVar 2) (mCons (mBin fIx (mBV 4) (mBV 10)) (mCons (mVar 3) (mCons (mVar 8) mNil))))))
    (sIf (tNotM (mTest (mB (mCall (lent g_same) (bCons (mB (mCallK 1 f_best_coloring (mCons (mBin fIx (mBV 5) (mBV 10)) mNil) (mVar 8))) (bCons (mBV 11) bNil)))))) (sRet (mC (.bl false))) sNop))) sNop)) (wE ns zs ds n c g0 g1 s (some (.fr (.int k))) o10 o11 o12) = .nx (wE ns zs ds n c g0 g1 s (some (.fr (.int k))) q10 q11 o12) := by
    by_cases h : (n : Int) - k ≤ 3
    · obtain ⟨a11, s1⟩ := w_p (ns := ns) (zs := zs) (ds := ds) (g0 := g0) (g1 := g1) hn hc hs (by omega) hg1 x41 x51 (some (.fr (.int k))) o11 o12
      obtain ⟨b11, s2⟩ := w_p (ns := ns) (zs := zs) (ds := ds) (g0 := g0) (g1 := g1) hn hc hs (by omega) hg0 x40 x50 (some (.fr (.int k))) a11 o12
      refine ⟨some (.fr (.int 0)), b11, ?_⟩
      apply x_sifT
      · decreasing_with fail
      · exact decide_eq_true h
      apply x_for (xs := [.int 1, .int 0])
      · apply x_iter
        · decreasing_with first | exact l2
        · exact rfl
      · exact (forM_nx rfl s1).trans (forM_one rfl s2)
    · refine ⟨o10, o11, ?_⟩
      apply x_sifF
      · decreasing_with fail
      · exact decide_eq_false h
      · exact rfl
  obtain ⟨q10, q11, mid⟩ := mid
  refine ⟨v, q10, q11, hv, ?_⟩
  apply x_guardF
  · decreasing_with first | exact x50 | exact x40 | exact bt
  · rfl
  apply x_seq
  · exact mid
  apply x_set
  · decreasing_with first | exact dk | exact mv | exact t1 | exact ad
  · exact rfl
theorem w_loop (hn : n ≤ 6) (hc : 1 ≤ c ∧ c ≤ 4) (hg0 : GO n g0) (hg1 : GO n g1) (ld : ds.length = 6) : ∀ (m k : Nat) (s : List Int) (o9 o10 o11 o12 : Option Sl), inC c s → s.length = k → k + m = n →
    ∃ (s' : List Int) (q9 q10 q11 : Option Sl), inC c s' ∧ s'.length = n ∧ DL.forM (Pt.nm 9).go wK ((List.range' k m).map fun i : Nat => .int i) (wE ns zs ds n c g0 g1 s o9 o10 o11 o12) = .nx (wE ns zs ds n c g0 g1 s' q9 q10 q11 o12)
  | 0, k, s, o9, o10, o11, o12, hs, ls, hk => ⟨s, o9, o10, o11, hs, by omega, rfl⟩
  | m + 1, k, s, o9, o10, o11, o12, hs, ls, hk => by
    obtain ⟨v, a10, a11, hv, st⟩ := w_k (ns := ns) (zs := zs) (ds := ds) hn hc hs hg0 hg1 ld ls (by omega) o10 o11 o12
    obtain ⟨s', q9, q10, q11, h1, h2, ih⟩ := w_loop hn hc hg0 hg1 ld m (k + 1) (s ++ [(v : Int)]) (some (.fr (.int k))) a10 a11 o12 (inC_app hs fun z q => by rw [List.mem_singleton.mp q]; omega) (by rw [List.length_append, ls]; rfl) (by omega)
    refine ⟨s', q9, q10, q11, h1, h2, ?_⟩
    rw [List.range'_succ, List.map_cons]
    exact (forM_nx rfl st).trans ih
theorem w_q (hn : n ≤ 6) (hc : 1 ≤ c ∧ c ≤ 4) (hs : inC c s) (ls : s.length = n) {i : Int} {g : List (Int × Int)} (hg : GO n g) (x4 : fIx (.lst [gL g0, gL g1]) (.int i) = .ok (.fr (gL g))) (x5 : fIx (.lst [stC n g0 c, stC n g1 c]) (.int i) = .ok (.fr (stC n g c))) (o9 o11 o12 : Option Sl) :
    ∃ q12, wQ (wE ns zs ds n c g0 g1 s o9 (some (.fr (.int i))) o11 o12) = .nx (wE ns zs ds n c g0 g1 s o9 (some (.fr (.int i))) o11 q12) := by
  have be := best_is hg.1 hg.2.2.1 hn hc.2 hs (by omega)
  have e : BM g s (-1, []) (RL c (n - s.length)) = (nb g s, s) := by
    rw [ls, Nat.sub_self]
    show bst g s (-1, []) [] = _
    unfold bst
    rw [List.append_nil]
    have := nb_nn g s
    rw [if_pos (by show (-1 : Int) < _; omega)]
  rw [e] at be
  have ck : mCallK 1 f_best_coloring (mCons (mBin fIx (mBV 5) (mBV 10)) mNil) (mVar 8) (wE ns zs ds n c g0 g1 s o9 (some (.fr (.int i))) o11 o12) = .ok (.fr (bD (nb g s, s))) := by
    refine x_callK (d := tupI s) (ds := [stC n g c]) ?_ rfl rfl rfl be
    decreasing_with first | exact x5
  have nu := number_is hg.1 hg.2.2.1 (d := tupI s) (r := s) (.inl rfl) ls
  have t2 : fTup [.int (nb g s), tupI s] = .ok (.fr (bD (nb g s, s))) := rfl
  have sm := same_p (p := (nb g s, s)) (by show s.length ≤ 1000; omega)
  have i0 : inC c [] := fun z m => by cases m
  have b0 := best_is hg.1 hg.2.2.1 hn hc.2 (s := []) i0 (Nat.zero_le _)
  have gd := best_good (n := n) (g := g) (s := []) i0 hc.1 (Nat.zero_le _)
  obtain ⟨B, hB⟩ : ∃ B, BM g [] (-1, []) (RL c (n - ([] : List Int).length)) = B := ⟨_, rfl⟩
  rw [hB] at b0 gd
  have b0 : f_best_coloring [stC n g c, .tup []] = .ok (.fr (bD B)) := b0
  have cd : mCall (fun ds => f_best_coloring (ds ++ [.tup []])) (mCons (mBin fIx (mBV 5) (mBV 10)) mNil) (wE ns zs ds n c g0 g1 s o9 (some (.fr (.int i))) o11 o12) = .ok (.fr (bD B)) := by
    refine x_call (xs := [stC n g c]) ?_ b0
    decreasing_with first | exact x5
  have t0 : fTup [] = .ok (.fr (.tup [])) := rfl
  have it : f_L_is_told [bD B, .int n, gL g, .int c, .tup []] = .ok (.fr (.bl true)) := is_told gd hg.1 hg.2.2.1 hn (Nat.zero_le _)
  have it := lent_bl it
  have sb := lent_bl (same_p (p := B) (by rw [gd.1]; omega))
  have ce : mCallK 1 f_best_coloring (mCons (mBin fIx (mBV 5) (mBV 10)) mNil) (mCall fTup mNil) (wE ns zs ds n c g0 g1 s o9 (some (.fr (.int i))) o11 (some (.fr (bD B)))) = .ok (.fr (bD B)) := by
    refine x_callK (d := .tup []) (s := .fr (.tup [])) (ds := [stC n g c]) ?_ rfl ?_ rfl b0
    · decreasing_with first | exact x5
    · decreasing_with first | exact t0
  refine ⟨some (.fr (bD B)), ?_⟩
  apply x_guardF
  · decreasing_with first | exact ck | exact x4 | exact nu | exact t2 | exact sm
  · rfl
  apply x_seqSet
  · exact cd
  · exact rfl
  apply x_env (e' := wE ns zs ds n c g0 g1 s o9 (some (.fr (.int i))) o11 (some (.fr (bD B)))) rfl
  apply x_sifF
  · decreasing_with first | exact x4 | exact t0 | exact it | exact ce | exact sb
  · rfl
  · exact rfl
end
theorem size_is {b : Nat} (h : b < 6) : ∃ n : Nat, (2 ≤ n ∧ n ≤ 6) ∧ fIx (.lst [.int 6, .int 6, .int 5, .int 4, .int 3, .int 2]) (.int b) = .ok (.fr (.int n)) := by
  match b, h with
  | 0, _ => exact ⟨6, by decide, rfl⟩
  | 1, _ => exact ⟨6, by decide, rfl⟩
  | 2, _ => exact ⟨5, by decide, rfl⟩
  | 3, _ => exact ⟨4, by decide, rfl⟩
  | 4, _ => exact ⟨3, by decide, rfl⟩
  | 5, _ => exact ⟨2, by decide, rfl⟩
theorem law_all (ns : List Int) : f_law [.lst (ns.map .int)] = .ok (.fr (.bl true)) := by
  obtain ⟨v0, cv0⟩ := cell_ok ns (k := 0) (by omega)
  have cv0 : f_L_cell [.lst (ns.map .int), .int 0] = .ok (.fr (.int v0)) := cv0
  obtain ⟨zs, zl, zb, nu0⟩ := numbers_ok v0 (m := 12) (by decide)
  have nu0 : f_L_numbers [.int v0, .int 12] = .ok (.ow (zs.map .int)) := nu0
  obtain ⟨v1, cv1⟩ := cell_ok ns (k := 1) (by omega)
  have cv1 : f_L_cell [.lst (ns.map .int), .int 1] = .ok (.fr (.int v1)) := cv1
  obtain ⟨z1, l1, -, nu1⟩ := numbers_ok v1 (m := 17) (by decide)
  have nu1 : f_L_numbers [.int v1, .int 17] = .ok (.ow (z1.map .int)) := nu1
  obtain ⟨v2, cv2⟩ := cell_ok ns (k := 2) (by omega)
  have cv2 : f_L_cell [.lst (ns.map .int), .int 2] = .ok (.fr (.int v2)) := cv2
  obtain ⟨z2, l2, -, nu2⟩ := numbers_ok v2 (m := 17) (by decide)
  have nu2 : f_L_numbers [.int v2, .int 17] = .ok (.ow (z2.map .int)) := nu2
  obtain ⟨v3, cv3⟩ := cell_ok ns (k := 3) (by omega)
  have cv3 : f_L_cell [.lst (ns.map .int), .int 3] = .ok (.fr (.int v3)) := cv3
  obtain ⟨ds, ld, -, nu3⟩ := numbers_ok v3 (m := 6) (by decide)
  have nu3 : f_L_numbers [.int v3, .int 6] = .ok (.ow (ds.map .int)) := nu3
  have i0 : fIx (.lst (zs.map .int)) (.int 0) = .ok (.fr (.int (at0 zs 0))) := l_row (by omega)
  have i1 : fIx (.lst (zs.map .int)) (.int 1) = .ok (.fr (.int (at0 zs 1))) := l_row (by omega)
  obtain ⟨b, hb, mb⟩ := mod_nat (at0 zs 0) (n := 6) (by decide)
  have mb : fMod (.int (at0 zs 0)) (.int 6) = .ok (.fr (.int b)) := mb
  obtain ⟨n, hn, sz⟩ := size_is hb
  have ls : fLst [.int 6, .int 6, .int 5, .int 4, .int 3, .int 2] = .ok (.ow [.int 6, .int 6, .int 5, .int 4, .int 3, .int 2]) := rfl
  obtain ⟨d, hd, md⟩ := mod_nat (at0 zs 1) (n := 3) (by decide)
  have md : fMod (.int (at0 zs 1)) (.int 3) = .ok (.fr (.int d)) := md
  obtain ⟨c, ec⟩ : ∃ c, 2 + d = c := ⟨_, rfl⟩
  have hc : 2 ≤ c ∧ c ≤ 4 := by omega
  have ad : fAddL (.int 2) (.int d) = .ok (.fr (.int c)) := by rw [← ec, l_add, Int.natCast_add]; rfl
  obtain ⟨g0, hg0, e0⟩ := edges_is l1 hn
  obtain ⟨g1, hg1, e1⟩ := edges_is l2 hn
  have lg : fLst [gL g0, gL g1] = .ok (.ow [gL g0, gL g1]) := rfl
  have t0 : fTup [] = .ok (.fr (.tup [])) := rfl
  have cp : mComp (mIter (mVar 4)) (.nm 6) tYesM (mCall f_L_statement (mCons (mVar 2) (mCons (mVar 6) (mCons (mVar 3) mNil)))) [6] [some (.fr (.lst (ns.map .int))), some (.ow (zs.map .int)), some (.fr (.int n)), some (.fr (.int c)), some (.fr (.lst [gL g0, gL g1])), none, none, none, none, none, none, none, none] = .ok (.ow [stC n g0 c, stC n g1 c]) := by
    refine comp_nm (as := [g0, g1]) (f := gL) (g := fun g => stC n g c) (x_iter (x_var rfl) rfl) (by simp) fun y m => ⟨.fr (stC n y c), ?_, rfl⟩
    have gy : GO n y := by
      rcases List.mem_cons.mp m with rfl | m
      · exact hg0
      · rw [List.mem_singleton.mp m]; exact hg1
    have st := statement_is hn gy hc
    decreasing_with first | exact st
  obtain ⟨s, q9, q10, q11, hs, lns, lp⟩ := w_loop (ns := ns) (zs := zs) (ds := ds) hn.2 ⟨by omega, hc.2⟩ hg0 hg1 ld n 0 [] none none none none (fun z m => by cases m) rfl (by omega)
  rw [← List.range_eq_range'] at lp
  have x50 : fIx (.lst [stC n g0 c, stC n g1 c]) (.int 0) = .ok (.fr (stC n g0 c)) := rfl
  have x40 : fIx (.lst [gL g0, gL g1]) (.int 0) = .ok (.fr (gL g0)) := rfl
  have x51 : fIx (.lst [stC n g0 c, stC n g1 c]) (.int 1) = .ok (.fr (stC n g1 c)) := rfl
  have x41 : fIx (.lst [gL g0, gL g1]) (.int 1) = .ok (.fr (gL g1)) := rfl
  obtain ⟨a12, s1⟩ := w_q (ns := ns) (zs := zs) (ds := ds) (g0 := g0) (g1 := g1) hn.2 ⟨by omega, hc.2⟩ hs lns hg0 x40 x50 q9 q11 none
  obtain ⟨b12, s2⟩ := w_q (ns := ns) (zs := zs) (ds := ds) (g0 := g0) (g1 := g1) hn.2 ⟨by omega, hc.2⟩ hs lns hg1 x41 x51 q9 q11 a12
  have lq : fLst [.int 0, .int 1] = .ok (.ow [.int 0, .int 1]) := rfl
  have rf := lent_bl (refused_true (g := g0) (c := c) ⟨by omega, hn.2⟩ hc.2 lns zl zb)
  unfold f_law m_law
  rw [g_eq]
  apply x_runR rfl
  apply x_seqSet
  · decreasing_with first | exact cv0 | exact nu0
  · exact rfl
  apply x_seqSet
  · decreasing_with first | exact i0 | exact mb | exact ls | exact sz
  · exact rfl
  apply x_seqSet
  · decreasing_with first | exact i1 | exact md | exact ad
  · exact rfl
  apply x_seqSet
  · decreasing_with first | exact cv1 | exact nu1 | exact cv2 | exact nu2 | exact e0 | exact e1 | exact lg
  · exact rfl
  apply x_seq
  · apply x_frz (e := [some (.fr (.lst (ns.map .int))), some (.ow (zs.map .int)), some (.fr (.int n)), some (.fr (.int c)), some (.fr (.lst [gL g0, gL g1])), none, none, none, none, none, none, none, none])
    · exact rfl
    apply x_set
    · exact cp
    · exact rfl
  apply x_seqSet
  · decreasing_with first | exact cv3 | exact nu3
  · exact rfl
  apply x_seqSet
  · decreasing_with first | exact t0
  · exact rfl
  apply x_env (e' := wE ns zs ds n c g0 g1 [] none none none none) rfl
  apply x_seq
  · apply x_for (xs := (List.range n).map fun i : Nat => .int i)
    · exact x_rng1 (n := n) rfl (by omega)
    · exact lp
  apply x_seq
  · apply x_for (xs := [.int 0, .int 1])
    · apply x_iter
      · decreasing_with first | exact lq
      · exact rfl
    · exact (forM_nx rfl s1).trans (forM_one rfl s2)
  decreasing_with first | exact x50 | exact rf
theorem f_law_true : ∀ ns : List Int, ns.length ≤ 63 → f_law [.lst (ns.map .int)] = .ok (.fr (.bl true)) := fun ns _ => law_all ns
end K44
set_option Elab.async false
set_option linter.all false
set_option maxRecDepth 100000
set_option maxHeartbeats 4000000
namespace K44
open K44H
open PySem PySem.Spec L2 DL
open PyProof.Rows hiding St

def gOf (C : List Addr) : G0 := ⟨fun i => C.getD i 0, fun _ => []⟩
def spL (K : PySem.W.Frag) : Sp := fun vs H Q _ => ∃ (a : Addr) (ns : List Int), vs = [.ref a] ∧ SqL K H a (ns.map V.int) ∧ ns.length ≤ 63 ∧ ∀ H', Q (.bl true) H'
theorem prom_law (hf : ∀ ns : List Int, ns.length ≤ 63 → f_law [.lst (ns.map .int)] = .ok (.fr (.bl true))) {K : PySem.W.Frag} {g : G0} : ∀ vs H Q E, spL K vs H Q E → Prom K g f_law vs H Q E := fun vs H Q E ⟨a, ns, e, hs, hl, k⟩ => prom_of e hs (hf ns hl) k
theorem all_mk (hf : ∀ ns : List Int, ns.length ≤ 63 → f_law [.lst (ns.map .int)] = .ok (.fr (.bl true))) {P : Program} {w : World} {K : PySem.W.Frag} {h : Heap} {mg : Str → Option Value} {fa C0 C1 C2 C3 C4 f0 f1 f2 f3 f4 f5 f6 f7 f8 f9 f10 f11 f12 f13 f14 f15 f16 f17 f18 f19 f20 f21 f22 : Addr} (X : K.In h) (G : h.Ns mainGlobals mg) (hfa : mg "law" = some (.ref fa))
    {od0 an0 od1 an1 od2 an2 od3 an3 od4 an4 od5 an5 od6 an6 od7 an7 od8 an8 od10 an10 od11 an11 od12 an12 od13 an13 od14 an14 od15 an15 od16 an16 od17 an17 od18 an18 od19 an19 od20 an20 od21 an21 od22 an22 : Option Addr} {sl0 sl1 sl2 sl3 sl4 sl5 sl6 sl7 sl8 sl10 sl11 sl12 sl13 sl14 sl15 sl16 sl17 sl18 sl19 sl20 sl21 sl22 : Array (Option Value)} {oc0 kV0 dc0 pm0 cd0 ct0 oc1 kV1 dc1 pm1 cd1 ct1 oc2 kV2 dc2 pm2 cd2 ct2 oc3 kV3 dc3 pm3 cd3 ct3 oc4 kV4 dc4 pm4 cd4 ct4 oc5 kV5 dc5 pm5 cd5 ct5 oc6 kV6 dc6 pm6 cd6 ct6 oc7 kV7 dc7 pm7 cd7 ct7 oc8 kV8 dc8 pm8 cd8 ct8 oc10 kV10 dc10 pm10 cd10 ct10 oc11 kV11 dc11 pm11 cd11 ct11 oc12 kV12 dc12 pm12 cd12 ct12 oc13 kV13 dc13 pm13 cd13 ct13 oc14 kV14 dc14 pm14 cd14 ct14 oc15 kV15 dc15 pm15 cd15 ct15 oc16 kV16 dc16 pm16 cd16 ct16 oc17 kV17 dc17 pm17 cd17 ct17 oc18 kV18 dc18 pm18 cd18 ct18 oc19 kV19 dc19 pm19 cd19 ct19 oc20 kV20 dc20 pm20 cd20 ct20 oc21 kV21 dc21 pm21 cd21 ct21 oc22 kV22 dc22 pm22 cd22 ct22 : Value} {t_LEAST_COLORS : _} {t_MOST_COLORS : _} {t_MOST_GATES : _} {t_MOST_INPUTS : _} {t_MOST_NODES : _} {fdx9 : FuncData} {aK9 : Addr}
    (nC0 : PySem.W.nsIn K mainGlobals "UnseenError" = some (some (.ref C0)))
    (xC0 : PySem.W.excIn K C0 [.type "ValueError", .type "Exception", .type "BaseException", .type "object"] "ValueError.__new__" = true)
    (kC0 : PySem.W.keepIn K (.ref C0) = true)
    (sC0 : PySem.W.subIn K (.ref C0) (.type "BaseException") = some true)
    (tC0 : PySem.W.typeIn K (.ref C0) = some (.type "type"))
    (dC0 : PySem.W.hasDictIn K C0 = true)
    (gC0 : PySem.W.findIn K (.ref C0) "__getattribute__" = some (some (.builtin "BaseException.__getattribute__")))
    (aC0 : PySem.W.findIn K (.ref C0) "__getattr__" = some none)
    (cC0 : PySem.W.findIn K (.ref C0) "__class__" = some (some (.builtin "object.__class__")))
    (mC0 : PySem.W.mroIn K C0 (.type "object") = some true)
    (nC1 : PySem.W.nsIn K mainGlobals "BadGraph" = some (some (.ref C1)))
    (xC1 : PySem.W.excIn K C1 [.type "ValueError", .type "Exception", .type "BaseException", .type "object"] "ValueError.__new__" = true)
    (kC1 : PySem.W.keepIn K (.ref C1) = true)
    (sC1 : PySem.W.subIn K (.ref C1) (.type "BaseException") = some true)
    (tC1 : PySem.W.typeIn K (.ref C1) = some (.type "type"))
    (dC1 : PySem.W.hasDictIn K C1 = true)
    (gC1 : PySem.W.findIn K (.ref C1) "__getattribute__" = some (some (.builtin "BaseException.__getattribute__")))
    (aC1 : PySem.W.findIn K (.ref C1) "__getattr__" = some none)
    (cC1 : PySem.W.findIn K (.ref C1) "__class__" = some (some (.builtin "object.__class__")))
    (mC1 : PySem.W.mroIn K C1 (.type "object") = some true)
    (nC2 : PySem.W.nsIn K mainGlobals "BadStatement" = some (some (.ref C2)))
    (xC2 : PySem.W.excIn K C2 [.type "ValueError", .type "Exception", .type "BaseException", .type "object"] "ValueError.__new__" = true)
    (kC2 : PySem.W.keepIn K (.ref C2) = true)
    (sC2 : PySem.W.subIn K (.ref C2) (.type "BaseException") = some true)
    (tC2 : PySem.W.typeIn K (.ref C2) = some (.type "type"))
    (dC2 : PySem.W.hasDictIn K C2 = true)
    (gC2 : PySem.W.findIn K (.ref C2) "__getattribute__" = some (some (.builtin "BaseException.__getattribute__")))
    (aC2 : PySem.W.findIn K (.ref C2) "__getattr__" = some none)
    (cC2 : PySem.W.findIn K (.ref C2) "__class__" = some (some (.builtin "object.__class__")))
    (mC2 : PySem.W.mroIn K C2 (.type "object") = some true)
    (nC3 : PySem.W.nsIn K mainGlobals "BadWitness" = some (some (.ref C3)))
    (xC3 : PySem.W.excIn K C3 [.type "ValueError", .type "Exception", .type "BaseException", .type "object"] "ValueError.__new__" = true)
    (kC3 : PySem.W.keepIn K (.ref C3) = true)
    (sC3 : PySem.W.subIn K (.ref C3) (.type "BaseException") = some true)
    (tC3 : PySem.W.typeIn K (.ref C3) = some (.type "type"))
    (dC3 : PySem.W.hasDictIn K C3 = true)
    (gC3 : PySem.W.findIn K (.ref C3) "__getattribute__" = some (some (.builtin "BaseException.__getattribute__")))
    (aC3 : PySem.W.findIn K (.ref C3) "__getattr__" = some none)
    (cC3 : PySem.W.findIn K (.ref C3) "__class__" = some (some (.builtin "object.__class__")))
    (mC3 : PySem.W.mroIn K C3 (.type "object") = some true)
    (nC4 : PySem.W.nsIn K mainGlobals "BadContents" = some (some (.ref C4)))
    (xC4 : PySem.W.excIn K C4 [.type "ValueError", .type "Exception", .type "BaseException", .type "object"] "ValueError.__new__" = true)
    (kC4 : PySem.W.keepIn K (.ref C4) = true)
    (sC4 : PySem.W.subIn K (.ref C4) (.type "BaseException") = some true)
    (tC4 : PySem.W.typeIn K (.ref C4) = some (.type "type"))
    (dC4 : PySem.W.hasDictIn K C4 = true)
    (gC4 : PySem.W.findIn K (.ref C4) "__getattribute__" = some (some (.builtin "BaseException.__getattribute__")))
    (aC4 : PySem.W.findIn K (.ref C4) "__getattr__" = some none)
    (cC4 : PySem.W.findIn K (.ref C4) "__class__" = some (some (.builtin "object.__class__")))
    (mC4 : PySem.W.mroIn K C4 (.type "object") = some true)
    (og : PySem.W.specialIn K (.builtin "object.__class__") "__get__" = some (some (.builtin "getset_descriptor.__get__")))
    (ot : PySem.W.takesIn K (.builtin "object.__class__") = some true)
    (e0_0 : PySem.W.subIn K (.ref C0) (.ref C0) = some true)
    (e1_0 : PySem.W.subIn K (.ref C1) (.ref C0) = some true)
    (e2_0 : PySem.W.subIn K (.ref C2) (.ref C0) = some true)
    (e3_0 : PySem.W.subIn K (.ref C3) (.ref C0) = some true)
    (e4_0 : PySem.W.subIn K (.ref C4) (.ref C0) = some true)
    (e0_2 : PySem.W.subIn K (.ref C0) (.ref C2) = some false)
    (e1_2 : PySem.W.subIn K (.ref C1) (.ref C2) = some false)
    (e2_2 : PySem.W.subIn K (.ref C2) (.ref C2) = some true)
    (e3_2 : PySem.W.subIn K (.ref C3) (.ref C2) = some false)
    (e4_2 : PySem.W.subIn K (.ref C4) (.ref C2) = some false)
    (e0_3 : PySem.W.subIn K (.ref C0) (.ref C3) = some false)
    (e1_3 : PySem.W.subIn K (.ref C1) (.ref C3) = some false)
    (e2_3 : PySem.W.subIn K (.ref C2) (.ref C3) = some false)
    (e3_3 : PySem.W.subIn K (.ref C3) (.ref C3) = some true)
    (e4_3 : PySem.W.subIn K (.ref C4) (.ref C3) = some false)
    (m_ValueError : PySem.W.kitMeta "ValueError" = true)
    (e0_ValueError : PySem.W.subIn K (.ref C0) (.type "ValueError") = some true)
    (e1_ValueError : PySem.W.subIn K (.ref C1) (.type "ValueError") = some true)
    (e2_ValueError : PySem.W.subIn K (.ref C2) (.type "ValueError") = some true)
    (e3_ValueError : PySem.W.subIn K (.ref C3) (.type "ValueError") = some true)
    (e4_ValueError : PySem.W.subIn K (.ref C4) (.type "ValueError") = some true)
    (n_ValueError : PySem.W.nsIn K mainGlobals "ValueError" = some none)
    (n_abs : PySem.W.nsIn K mainGlobals "abs" = some none)
    (n_all : PySem.W.nsIn K mainGlobals "all" = some none)
    (n_bool : PySem.W.nsIn K mainGlobals "bool" = some none)
    (n_enumerate : PySem.W.nsIn K mainGlobals "enumerate" = some none)
    (n_int : PySem.W.nsIn K mainGlobals "int" = some none)
    (n_isinstance : PySem.W.nsIn K mainGlobals "isinstance" = some none)
    (n_len : PySem.W.nsIn K mainGlobals "len" = some none)
    (n_list : PySem.W.nsIn K mainGlobals "list" = some none)
    (n_max : PySem.W.nsIn K mainGlobals "max" = some none)
    (n_min : PySem.W.nsIn K mainGlobals "min" = some none)
    (n_range : PySem.W.nsIn K mainGlobals "range" = some none)
    (n_sorted : PySem.W.nsIn K mainGlobals "sorted" = some none)
    (n_str : PySem.W.nsIn K mainGlobals "str" = some none)
    (n_tuple : PySem.W.nsIn K mainGlobals "tuple" = some none)
    (n_type : PySem.W.nsIn K mainGlobals "type" = some none)
    (c_LEAST_COLORS : PySem.W.nsIn K mainGlobals "LEAST_COLORS" = some (some (.int 2 t_LEAST_COLORS)))
    (c_MOST_COLORS : PySem.W.nsIn K mainGlobals "MOST_COLORS" = some (some (.int 4 t_MOST_COLORS)))
    (c_MOST_GATES : PySem.W.nsIn K mainGlobals "MOST_GATES" = some (some (.int 6 t_MOST_GATES)))
    (c_MOST_INPUTS : PySem.W.nsIn K mainGlobals "MOST_INPUTS" = some (some (.int 4 t_MOST_INPUTS)))
    (c_MOST_NODES : PySem.W.nsIn K mainGlobals "MOST_NODES" = some (some (.int 6 t_MOST_NODES)))
    (a0 : PySem.W.nsIn K mainGlobals "make_graph" = some (some (.ref f0)))
    (l0 : K.lookup f0 = some ⟨oc0, od0, .func (PySem.W.fnOf "make_graph" "make_graph" (defArgs s_make_graph) (defBody s_make_graph) (defScope s_make_graph) .none kV0 dc0 pm0 an0 cd0 ct0), sl0⟩)
    (c0 : PySem.W.codeIn K cd0 "make_graph" = true)
    (k0 : PySem.W.keepIn K (.ref f0) = true)
    (a1 : PySem.W.nsIn K mainGlobals "alike" = some (some (.ref f1)))
    (l1 : K.lookup f1 = some ⟨oc1, od1, .func (PySem.W.fnOf "alike" "alike" (defArgs s_alike) (defBody s_alike) (defScope s_alike) .none kV1 dc1 pm1 an1 cd1 ct1), sl1⟩)
    (c1 : PySem.W.codeIn K cd1 "alike" = true)
    (k1 : PySem.W.keepIn K (.ref f1) = true)
    (a2 : PySem.W.nsIn K mainGlobals "is_gate" = some (some (.ref f2)))
    (l2 : K.lookup f2 = some ⟨oc2, od2, .func (PySem.W.fnOf "is_gate" "is_gate" (defArgs s_is_gate) (defBody s_is_gate) (defScope s_is_gate) .none kV2 dc2 pm2 an2 cd2 ct2), sl2⟩)
    (c2 : PySem.W.codeIn K cd2 "is_gate" = true)
    (k2 : PySem.W.keepIn K (.ref f2) = true)
    (a3 : PySem.W.nsIn K mainGlobals "circuit" = some (some (.ref f3)))
    (l3 : K.lookup f3 = some ⟨oc3, od3, .func (PySem.W.fnOf "circuit" "circuit" (defArgs s_circuit) (defBody s_circuit) (defScope s_circuit) .none kV3 dc3 pm3 an3 cd3 ct3), sl3⟩)
    (c3 : PySem.W.codeIn K cd3 "circuit" = true)
    (k3 : PySem.W.keepIn K (.ref f3) = true)
    (a4 : PySem.W.nsIn K mainGlobals "colors" = some (some (.ref f4)))
    (l4 : K.lookup f4 = some ⟨oc4, od4, .func (PySem.W.fnOf "colors" "colors" (defArgs s_colors) (defBody s_colors) (defScope s_colors) .none kV4 dc4 pm4 an4 cd4 ct4), sl4⟩)
    (c4 : PySem.W.codeIn K cd4 "colors" = true)
    (k4 : PySem.W.keepIn K (.ref f4) = true)
    (a5 : PySem.W.nsIn K mainGlobals "require_kind" = some (some (.ref f5)))
    (l5 : K.lookup f5 = some ⟨oc5, od5, .func (PySem.W.fnOf "require_kind" "require_kind" (defArgs s_require_kind) (defBody s_require_kind) (defScope s_require_kind) .none kV5 dc5 pm5 an5 cd5 ct5), sl5⟩)
    (c5 : PySem.W.codeIn K cd5 "require_kind" = true)
    (k5 : PySem.W.keepIn K (.ref f5) = true)
    (a6 : PySem.W.nsIn K mainGlobals "rows_of" = some (some (.ref f6)))
    (l6 : K.lookup f6 = some ⟨oc6, od6, .func (PySem.W.fnOf "rows_of" "rows_of" (defArgs s_rows_of) (defBody s_rows_of) (defScope s_rows_of) .none kV6 dc6 pm6 an6 cd6 ct6), sl6⟩)
    (c6 : PySem.W.codeIn K cd6 "rows_of" = true)
    (k6 : PySem.W.keepIn K (.ref f6) = true)
    (a7 : PySem.W.nsIn K mainGlobals "are_different_colors" = some (some (.ref f7)))
    (l7 : K.lookup f7 = some ⟨oc7, od7, .func (PySem.W.fnOf "are_different_colors" "are_different_colors" (defArgs s_are_different_colors) (defBody s_are_different_colors) (defScope s_are_different_colors) .none kV7 dc7 pm7 an7 cd7 ct7), sl7⟩)
    (c7 : PySem.W.codeIn K cd7 "are_different_colors" = true)
    (k7 : PySem.W.keepIn K (.ref f7) = true)
    (a8 : PySem.W.nsIn K mainGlobals "proper_edges" = some (some (.ref f8)))
    (l8 : K.lookup f8 = some ⟨oc8, od8, .func (PySem.W.fnOf "proper_edges" "proper_edges" (defArgs s_proper_edges) (defBody s_proper_edges) (defScope s_proper_edges) .none kV8 dc8 pm8 an8 cd8 ct8), sl8⟩)
    (c8 : PySem.W.codeIn K cd8 "proper_edges" = true)
    (k8 : PySem.W.keepIn K (.ref f8) = true)
    (a9 : PySem.W.nsIn K mainGlobals "best_coloring" = some (some (.ref f9)))
    (F9 : FunD K "best_coloring" "best_coloring" (defArgs s_best_coloring) (defBody s_best_coloring) (defScope s_best_coloring) [] [("start", V.ref aK9)] f9 fdx9)
    (rK9 : RepL0 K aK9)
    (a10 : PySem.W.nsIn K mainGlobals "_law_cell" = some (some (.ref f10)))
    (l10 : K.lookup f10 = some ⟨oc10, od10, .func (PySem.W.fnOf "_law_cell" "_law_cell" (defArgs s_L_cell) (defBody s_L_cell) (defScope s_L_cell) .none kV10 dc10 pm10 an10 cd10 ct10), sl10⟩)
    (c10 : PySem.W.codeIn K cd10 "_law_cell" = true)
    (k10 : PySem.W.keepIn K (.ref f10) = true)
    (a11 : PySem.W.nsIn K mainGlobals "_law_numbers" = some (some (.ref f11)))
    (l11 : K.lookup f11 = some ⟨oc11, od11, .func (PySem.W.fnOf "_law_numbers" "_law_numbers" (defArgs s_L_numbers) (defBody s_L_numbers) (defScope s_L_numbers) .none kV11 dc11 pm11 an11 cd11 ct11), sl11⟩)
    (c11 : PySem.W.codeIn K cd11 "_law_numbers" = true)
    (k11 : PySem.W.keepIn K (.ref f11) = true)
    (a12 : PySem.W.nsIn K mainGlobals "_law_same" = some (some (.ref f12)))
    (l12 : K.lookup f12 = some ⟨oc12, od12, .func (PySem.W.fnOf "_law_same" "_law_same" (defArgs s_L_same) (defBody s_L_same) (defScope s_L_same) .none kV12 dc12 pm12 an12 cd12 ct12), sl12⟩)
    (c12 : PySem.W.codeIn K cd12 "_law_same" = true)
    (k12 : PySem.W.keepIn K (.ref f12) = true)
    (a13 : PySem.W.nsIn K mainGlobals "_law_pairs" = some (some (.ref f13)))
    (l13 : K.lookup f13 = some ⟨oc13, od13, .func (PySem.W.fnOf "_law_pairs" "_law_pairs" (defArgs s_L_pairs) (defBody s_L_pairs) (defScope s_L_pairs) .none kV13 dc13 pm13 an13 cd13 ct13), sl13⟩)
    (c13 : PySem.W.codeIn K cd13 "_law_pairs" = true)
    (k13 : PySem.W.keepIn K (.ref f13) = true)
    (a14 : PySem.W.nsIn K mainGlobals "_law_edges" = some (some (.ref f14)))
    (l14 : K.lookup f14 = some ⟨oc14, od14, .func (PySem.W.fnOf "_law_edges" "_law_edges" (defArgs s_L_edges) (defBody s_L_edges) (defScope s_L_edges) .none kV14 dc14 pm14 an14 cd14 ct14), sl14⟩)
    (c14 : PySem.W.codeIn K cd14 "_law_edges" = true)
    (k14 : PySem.W.keepIn K (.ref f14) = true)
    (a15 : PySem.W.nsIn K mainGlobals "_law_statement" = some (some (.ref f15)))
    (l15 : K.lookup f15 = some ⟨oc15, od15, .func (PySem.W.fnOf "_law_statement" "_law_statement" (defArgs s_L_statement) (defBody s_L_statement) (defScope s_L_statement) .none kV15 dc15 pm15 an15 cd15 ct15), sl15⟩)
    (c15 : PySem.W.codeIn K cd15 "_law_statement" = true)
    (k15 : PySem.W.keepIn K (.ref f15) = true)
    (a16 : PySem.W.nsIn K mainGlobals "_law_number" = some (some (.ref f16)))
    (l16 : K.lookup f16 = some ⟨oc16, od16, .func (PySem.W.fnOf "_law_number" "_law_number" (defArgs s_L_number) (defBody s_L_number) (defScope s_L_number) .none kV16 dc16 pm16 an16 cd16 ct16), sl16⟩)
    (c16 : PySem.W.codeIn K cd16 "_law_number" = true)
    (k16 : PySem.W.keepIn K (.ref f16) = true)
    (a17 : PySem.W.nsIn K mainGlobals "_law_best" = some (some (.ref f17)))
    (l17 : K.lookup f17 = some ⟨oc17, od17, .func (PySem.W.fnOf "_law_best" "_law_best" (defArgs s_L_best) (defBody s_L_best) (defScope s_L_best) .none kV17 dc17 pm17 an17 cd17 ct17), sl17⟩)
    (c17 : PySem.W.codeIn K cd17 "_law_best" = true)
    (k17 : PySem.W.keepIn K (.ref f17) = true)
    (a18 : PySem.W.nsIn K mainGlobals "_law_is_told" = some (some (.ref f18)))
    (l18 : K.lookup f18 = some ⟨oc18, od18, .func (PySem.W.fnOf "_law_is_told" "_law_is_told" (defArgs s_L_is_told) (defBody s_L_is_told) (defScope s_L_is_told) .none kV18 dc18 pm18 an18 cd18 ct18), sl18⟩)
    (c18 : PySem.W.codeIn K cd18 "_law_is_told" = true)
    (k18 : PySem.W.keepIn K (.ref f18) = true)
    (a19 : PySem.W.nsIn K mainGlobals "_law_best_told" = some (some (.ref f19)))
    (l19 : K.lookup f19 = some ⟨oc19, od19, .func (PySem.W.fnOf "_law_best_told" "_law_best_told" (defArgs s_L_best_told) (defBody s_L_best_told) (defScope s_L_best_told) .none kV19 dc19 pm19 an19 cd19 ct19), sl19⟩)
    (c19 : PySem.W.codeIn K cd19 "_law_best_told" = true)
    (k19 : PySem.W.keepIn K (.ref f19) = true)
    (a20 : PySem.W.nsIn K mainGlobals "_law_refusal" = some (some (.ref f20)))
    (l20 : K.lookup f20 = some ⟨oc20, od20, .func (PySem.W.fnOf "_law_refusal" "_law_refusal" (defArgs s_L_refusal) (defBody s_L_refusal) (defScope s_L_refusal) .none kV20 dc20 pm20 an20 cd20 ct20), sl20⟩)
    (c20 : PySem.W.codeIn K cd20 "_law_refusal" = true)
    (k20 : PySem.W.keepIn K (.ref f20) = true)
    (a21 : PySem.W.nsIn K mainGlobals "_law_refused" = some (some (.ref f21)))
    (l21 : K.lookup f21 = some ⟨oc21, od21, .func (PySem.W.fnOf "_law_refused" "_law_refused" (defArgs s_L_refused) (defBody s_L_refused) (defScope s_L_refused) .none kV21 dc21 pm21 an21 cd21 ct21), sl21⟩)
    (c21 : PySem.W.codeIn K cd21 "_law_refused" = true)
    (k21 : PySem.W.keepIn K (.ref f21) = true)
    (a22 : PySem.W.nsIn K mainGlobals "law" = some (some (.ref f22)))
    (l22 : K.lookup f22 = some ⟨oc22, od22, .func (PySem.W.fnOf "law" "law" (defArgs s_law) (defBody s_law) (defScope s_law) .none kV22 dc22 pm22 an22 cd22 ct22), sl22⟩)
    (c22 : PySem.W.codeIn K cd22 "law" = true)
    (k22 : PySem.W.keepIn K (.ref f22) = true)
    : ∃ fd : FuncData, (∀ (s : Shared) (v : Value), BindsTo s fd ⟨[v], []⟩ [("script", v)]) ∧ ∀ base : Heap, K.In base → base.Ns mainGlobals mg → FnOk P w K mg base (L2.CX P w) 11 fa fd ["script"] (spL K) := by
  have e := hfa.symm.trans (PySem.W.mg_of X G a22)
  cases e
  let g : G0 := gOf [C0, C1, C2, C3, C4]
  have T : Tx K mg g := {
    n_ValueError := PySem.W.mg_none_of X G n_ValueError,
    n_abs := PySem.W.mg_none_of X G n_abs,
    n_all := PySem.W.mg_none_of X G n_all,
    n_bool := PySem.W.mg_none_of X G n_bool,
    n_enumerate := PySem.W.mg_none_of X G n_enumerate,
    n_int := PySem.W.mg_none_of X G n_int,
    n_isinstance := PySem.W.mg_none_of X G n_isinstance,
    n_len := PySem.W.mg_none_of X G n_len,
    n_list := PySem.W.mg_none_of X G n_list,
    n_max := PySem.W.mg_none_of X G n_max,
    n_min := PySem.W.mg_none_of X G n_min,
    n_range := PySem.W.mg_none_of X G n_range,
    n_sorted := PySem.W.mg_none_of X G n_sorted,
    n_str := PySem.W.mg_none_of X G n_str,
    n_tuple := PySem.W.mg_none_of X G n_tuple,
    n_type := PySem.W.mg_none_of X G n_type,
    c_LEAST_COLORS := ⟨_, PySem.W.mg_of X G c_LEAST_COLORS⟩,
    c_MOST_COLORS := ⟨_, PySem.W.mg_of X G c_MOST_COLORS⟩,
    c_MOST_GATES := ⟨_, PySem.W.mg_of X G c_MOST_GATES⟩,
    c_MOST_INPUTS := ⟨_, PySem.W.mg_of X G c_MOST_INPUTS⟩,
    c_MOST_NODES := ⟨_, PySem.W.mg_of X G c_MOST_NODES⟩,
    e_UnseenError := ⟨PySem.W.mg_of X G nC0, xC0, kC0, sC0, tC0⟩,
    e_BadGraph := ⟨PySem.W.mg_of X G nC1, xC1, kC1, sC1, tC1⟩,
    e_BadStatement := ⟨PySem.W.mg_of X G nC2, xC2, kC2, sC2, tC2⟩,
    e_BadWitness := ⟨PySem.W.mg_of X G nC3, xC3, kC3, sC3, tC3⟩,
    e_BadContents := ⟨PySem.W.mg_of X G nC4, xC4, kC4, sC4, tC4⟩,
    xc := fun c hc => match c, hc with | 0, _ => ⟨gC0, aC0, sC0, dC0, cC0, og, ot, mC0⟩ | 1, _ => ⟨gC1, aC1, sC1, dC1, cC1, og, ot, mC1⟩ | 2, _ => ⟨gC2, aC2, sC2, dC2, cC2, og, ot, mC2⟩ | 3, _ => ⟨gC3, aC3, sC3, dC3, cC3, og, ot, mC3⟩ | 4, _ => ⟨gC4, aC4, sC4, dC4, cC4, og, ot, mC4⟩ | n + 5, h => absurd h (by omega),
    exm_BadStatement := fun c b e => match c, e with | 0, e => (by cases e; exact PySem.W.exm_ref sC2 dC2 tC2 e0_2) | 1, e => (by cases e; exact PySem.W.exm_ref sC2 dC2 tC2 e1_2) | 2, e => (by cases e; exact PySem.W.exm_ref sC2 dC2 tC2 e2_2) | 3, e => (by cases e; exact PySem.W.exm_ref sC2 dC2 tC2 e3_2) | 4, e => (by cases e; exact PySem.W.exm_ref sC2 dC2 tC2 e4_2) | n + 5, e => (by cases e),
    exm_BadWitness := fun c b e => match c, e with | 0, e => (by cases e; exact PySem.W.exm_ref sC3 dC3 tC3 e0_3) | 1, e => (by cases e; exact PySem.W.exm_ref sC3 dC3 tC3 e1_3) | 2, e => (by cases e; exact PySem.W.exm_ref sC3 dC3 tC3 e2_3) | 3, e => (by cases e; exact PySem.W.exm_ref sC3 dC3 tC3 e3_3) | 4, e => (by cases e; exact PySem.W.exm_ref sC3 dC3 tC3 e4_3) | n + 5, e => (by cases e),
    kit_BadStatement := fun c hc => match c, hc with | 0, _ => kit_own dC2 tC2 e0_2 e2_2 | 1, _ => kit_own dC2 tC2 e1_2 e2_2 | 2, _ => kit_own dC2 tC2 e2_2 e2_2 | 3, _ => kit_own dC2 tC2 e3_2 e2_2 | 4, _ => kit_own dC2 tC2 e4_2 e2_2 | n + 5, h => absurd h (by omega),
    kit_BadWitness := fun c hc => match c, hc with | 0, _ => kit_own dC3 tC3 e0_3 e3_3 | 1, _ => kit_own dC3 tC3 e1_3 e3_3 | 2, _ => kit_own dC3 tC3 e2_3 e3_3 | 3, _ => kit_own dC3 tC3 e3_3 e3_3 | 4, _ => kit_own dC3 tC3 e4_3 e3_3 | n + 5, h => absurd h (by omega),
    kit_UnseenError := fun c hc => match c, hc with | 0, _ => kit_own dC0 tC0 e0_0 e0_0 | 1, _ => kit_own dC0 tC0 e1_0 e0_0 | 2, _ => kit_own dC0 tC0 e2_0 e0_0 | 3, _ => kit_own dC0 tC0 e3_0 e0_0 | 4, _ => kit_own dC0 tC0 e4_0 e0_0 | n + 5, h => absurd h (by omega),
    kit_ValueError := fun c hc => match c, hc with | 0, _ => kit_blt m_ValueError e0_ValueError | 1, _ => kit_blt m_ValueError e1_ValueError | 2, _ => kit_blt m_ValueError e2_ValueError | 3, _ => kit_blt m_ValueError e3_ValueError | 4, _ => kit_blt m_ValueError e4_ValueError | n + 5, h => absurd h (by omega) }
  have F0 := fun_mk (st := s_make_graph) l0 c0 k0
  have b0 := F0.binds (ps := ["nodes", "edges"]) fun _ _ _ _ _ _ us hl => match us, hl with | [_, _], _ => rfl
  have F1 := fun_mk (st := s_alike) l1 c1 k1
  have b1 := F1.binds (ps := ["first", "second"]) fun _ _ _ _ _ _ us hl => match us, hl with | [_, _], _ => rfl
  have F2 := fun_mk (st := s_is_gate) l2 c2 k2
  have b2 := F2.binds (ps := ["gate", "own"]) fun _ _ _ _ _ _ us hl => match us, hl with | [_, _], _ => rfl
  have F3 := fun_mk (st := s_circuit) l3 c3 k3
  have b3 := F3.binds (ps := ["inputs", "gates"]) fun _ _ _ _ _ _ us hl => match us, hl with | [_, _], _ => rfl
  have F4 := fun_mk (st := s_colors) l4 c4 k4
  have b4 := F4.binds (ps := ["graph", "count"]) fun _ _ _ _ _ _ us hl => match us, hl with | [_, _], _ => rfl
  have F5 := fun_mk (st := s_require_kind) l5 c5 k5
  have b5 := F5.binds (ps := ["statement", "kind"]) fun _ _ _ _ _ _ us hl => match us, hl with | [_, _], _ => rfl
  have F6 := fun_mk (st := s_rows_of) l6 c6 k6
  have b6 := F6.binds (ps := ["size", "count"]) fun _ _ _ _ _ _ us hl => match us, hl with | [_, _], _ => rfl
  have F7 := fun_mk (st := s_are_different_colors) l7 c7 k7
  have b7 := F7.binds (ps := ["first", "second", "count"]) fun _ _ _ _ _ _ us hl => match us, hl with | [_, _, _], _ => rfl
  have F8 := fun_mk (st := s_proper_edges) l8 c8 k8
  have b8 := F8.binds (ps := ["statement", "contents"]) fun _ _ _ _ _ _ us hl => match us, hl with | [_, _], _ => rfl
  have e9 := kw1_binds (q := "statement") F9 (fun _ _ _ _ _ _ _ _ => ⟨_, _, _, _, _, _, rfl, rfl, rfl⟩) (fun _ _ _ _ _ _ _ _ => rfl)
  have F10 := fun_mk (st := s_L_cell) l10 c10 k10
  have b10 := F10.binds (ps := ["script", "k"]) fun _ _ _ _ _ _ us hl => match us, hl with | [_, _], _ => rfl
  have F11 := fun_mk (st := s_L_numbers) l11 c11 k11
  have b11 := F11.binds (ps := ["cell", "many"]) fun _ _ _ _ _ _ us hl => match us, hl with | [_, _], _ => rfl
  have F12 := fun_mk (st := s_L_same) l12 c12 k12
  have b12 := F12.binds (ps := ["value", "due"]) fun _ _ _ _ _ _ us hl => match us, hl with | [_, _], _ => rfl
  have F13 := fun_mk (st := s_L_pairs) l13 c13 k13
  have b13 := F13.binds (ps := ["nodes"]) fun _ _ _ _ _ _ us hl => match us, hl with | [_], _ => rfl
  have F14 := fun_mk (st := s_L_edges) l14 c14 k14
  have b14 := F14.binds (ps := ["size", "row"]) fun _ _ _ _ _ _ us hl => match us, hl with | [_, _], _ => rfl
  have F15 := fun_mk (st := s_L_statement) l15 c15 k15
  have b15 := F15.binds (ps := ["size", "edges", "count"]) fun _ _ _ _ _ _ us hl => match us, hl with | [_, _, _], _ => rfl
  have F16 := fun_mk (st := s_L_number) l16 c16 k16
  have b16 := F16.binds (ps := ["edges", "row"]) fun _ _ _ _ _ _ us hl => match us, hl with | [_, _], _ => rfl
  have F17 := fun_mk (st := s_L_best) l17 c17 k17
  have b17 := F17.binds (ps := ["size", "edges", "count", "begun"]) fun _ _ _ _ _ _ us hl => match us, hl with | [_, _, _, _], _ => rfl
  have F18 := fun_mk (st := s_L_is_told) l18 c18 k18
  have b18 := F18.binds (ps := ["told", "size", "edges", "count", "begun"]) fun _ _ _ _ _ _ us hl => match us, hl with | [_, _, _, _, _], _ => rfl
  have F19 := fun_mk (st := s_L_best_told) l19 c19 k19
  have b19 := F19.binds (ps := ["statement", "size", "edges", "count", "begun"]) fun _ _ _ _ _ _ us hl => match us, hl with | [_, _, _, _, _], _ => rfl
  have F20 := fun_mk (st := s_L_refusal) l20 c20 k20
  have b20 := F20.binds (ps := ["statement", "begun"]) fun _ _ _ _ _ _ us hl => match us, hl with | [_, _], _ => rfl
  have F21 := fun_mk (st := s_L_refused) l21 c21 k21
  have b21 := F21.binds (ps := ["statement", "size", "count", "begun", "row"]) fun _ _ _ _ _ _ us hl => match us, hl with | [_, _, _, _, _], _ => rfl
  have F22 := fun_mk (st := s_law) l22 c22 k22
  refine ⟨PySem.W.fnOf "law" "law" (defArgs s_law) (defBody s_law) (defScope s_law) .none kV22 dc22 pm22 an22 cd22 ct22, fun s v => .of_eq rfl, fun base _ _ => ?_⟩
  have D0 := ok_make_graph (P := P) (w := w) (base := base) F0 (PySem.W.mg_of X G a0) b0 T
  have D1 := ok_alike (P := P) (w := w) (base := base) F1 (PySem.W.mg_of X G a1) b1 T
  have D2 := ok_is_gate (P := P) (w := w) (base := base) F2 (PySem.W.mg_of X G a2) b2 T
  have D3 := ok_circuit (P := P) (w := w) (base := base) F3 (PySem.W.mg_of X G a3) b3 T D2
  have D4 := ok_colors (P := P) (w := w) (base := base) F4 (PySem.W.mg_of X G a4) b4 T
  have D5 := ok_require_kind (P := P) (w := w) (base := base) F5 (PySem.W.mg_of X G a5) b5 T
  have D6 := ok_rows_of (P := P) (w := w) (base := base) F6 (PySem.W.mg_of X G a6) b6 T
  have D7 := ok_are_different_colors (P := P) (w := w) (base := base) F7 (PySem.W.mg_of X G a7) b7 T
  have D8 := ok_proper_edges (P := P) (w := w) (base := base) F8 (PySem.W.mg_of X G a8) b8 T D5 D7
  have D9 := ok_best_coloring (P := P) (w := w) (base := base) F9 (PySem.W.mg_of X G a9) e9.1 e9.2 (fun H Z => rK9.rep g H Z) T D5 D6 D8
  have D10 := ok_L_cell (P := P) (w := w) (base := base) F10 (PySem.W.mg_of X G a10) b10 T
  have D11 := ok_L_numbers (P := P) (w := w) (base := base) F11 (PySem.W.mg_of X G a11) b11 T
  have D12 := ok_L_same (P := P) (w := w) (base := base) F12 (PySem.W.mg_of X G a12) b12 T
  have D13 := ok_L_pairs (P := P) (w := w) (base := base) F13 (PySem.W.mg_of X G a13) b13 T
  have D14 := ok_L_edges (P := P) (w := w) (base := base) F14 (PySem.W.mg_of X G a14) b14 T D13
  have D15 := ok_L_statement (P := P) (w := w) (base := base) F15 (PySem.W.mg_of X G a15) b15 T D0 D4
  have D16 := ok_L_number (P := P) (w := w) (base := base) F16 (PySem.W.mg_of X G a16) b16 T
  have D17 := ok_L_best (P := P) (w := w) (base := base) F17 (PySem.W.mg_of X G a17) b17 T D16
  have D18 := ok_L_is_told (P := P) (w := w) (base := base) F18 (PySem.W.mg_of X G a18) b18 T D12 D16
  have D19 := ok_L_best_told (P := P) (w := w) (base := base) F19 (PySem.W.mg_of X G a19) b19 T D9.2 D12 D18
  have D20 := ok_L_refusal (P := P) (w := w) (base := base) F20 (PySem.W.mg_of X G a20) b20 T D9.2
  have D21 := ok_L_refused (P := P) (w := w) (base := base) F21 (PySem.W.mg_of X G a21) b21 T D1 D3 D12 D20
  exact (ok_law F22 T D9.1 D9.2 D10 D11 D12 D14 D15 D16 D17 D18 D19 D21).imp (prom_law hf)
theorem facts (hf : ∀ ns : List Int, ns.length ≤ 63 → f_law [.lst (ns.map .int)] = .ok (.fr (.bl true))) {P : Program} {w : World} {K : PySem.W.Frag} {h : Heap} {mg : Str → Option Value} {fa : Addr} (X : K.In h) (G : h.Ns mainGlobals mg) (hfa : mg "law" = some (.ref fa)) (c : HK.SaysH exB fsL K) :
    ∃ fd : FuncData, (∀ (s : Shared) (v : Value), BindsTo s fd ⟨[v], []⟩ [("script", v)]) ∧ ∀ base : Heap, K.In base → base.Ns mainGlobals mg → FnOk P w K mg base (L2.CX P w) 11 fa fd ["script"] (spL K) := by
  have ce := c.all.1
  obtain ⟨q0, ce⟩ := He.ba ce
  obtain ⟨q1, ce⟩ := He.ba ce
  obtain ⟨q2, ce⟩ := He.ba ce
  obtain ⟨q3, ce⟩ := He.ba ce
  have nC0 : PySem.W.nsIn K mainGlobals "UnseenError" = some (some (.ref 24)) := of_decide_eq_true (HK.exAt q0 0 rfl)
  have xC0 : PySem.W.excIn K 24 [.type "ValueError", .type "Exception", .type "BaseException", .type "object"] "ValueError.__new__" = true := of_decide_eq_true (HK.exAt q0 1 rfl)
  have kC0 : PySem.W.keepIn K (.ref 24) = true := of_decide_eq_true (HK.exAt q0 2 rfl)
  have sC0 : PySem.W.subIn K (.ref 24) (.type "BaseException") = some true := of_decide_eq_true (HK.exAt q0 3 rfl)
  have tC0 : PySem.W.typeIn K (.ref 24) = some (.type "type") := of_decide_eq_true (HK.exAt q0 4 rfl)
  have dC0 : PySem.W.hasDictIn K 24 = true := of_decide_eq_true (HK.exAt q0 5 rfl)
  have gC0 : PySem.W.findIn K (.ref 24) "__getattribute__" = some (some (.builtin "BaseException.__getattribute__")) := of_decide_eq_true (HK.exAt q0 6 rfl)
  have aC0 : PySem.W.findIn K (.ref 24) "__getattr__" = some none := of_decide_eq_true (HK.exAt q0 7 rfl)
  have cC0 : PySem.W.findIn K (.ref 24) "__class__" = some (some (.builtin "object.__class__")) := of_decide_eq_true (HK.exAt q0 8 rfl)
  have mC0 : PySem.W.mroIn K 24 (.type "object") = some true := of_decide_eq_true (HK.exAt q0 9 rfl)
  have nC1 : PySem.W.nsIn K mainGlobals "BadGraph" = some (some (.ref 37)) := of_decide_eq_true (HK.exAt q0 10 rfl)
  have xC1 : PySem.W.excIn K 37 [.type "ValueError", .type "Exception", .type "BaseException", .type "object"] "ValueError.__new__" = true := of_decide_eq_true (HK.exAt q0 11 rfl)
  have kC1 : PySem.W.keepIn K (.ref 37) = true := of_decide_eq_true (HK.exAt q0 12 rfl)
  have sC1 : PySem.W.subIn K (.ref 37) (.type "BaseException") = some true := of_decide_eq_true (HK.exAt q0 13 rfl)
  have tC1 : PySem.W.typeIn K (.ref 37) = some (.type "type") := of_decide_eq_true (HK.exAt q0 14 rfl)
  have dC1 : PySem.W.hasDictIn K 37 = true := of_decide_eq_true (HK.exAt q0 15 rfl)
  have gC1 : PySem.W.findIn K (.ref 37) "__getattribute__" = some (some (.builtin "BaseException.__getattribute__")) := of_decide_eq_true (HK.exAt q0 16 rfl)
  have aC1 : PySem.W.findIn K (.ref 37) "__getattr__" = some none := of_decide_eq_true (HK.exAt q0 17 rfl)
  have cC1 : PySem.W.findIn K (.ref 37) "__class__" = some (some (.builtin "object.__class__")) := of_decide_eq_true (HK.exAt q0 18 rfl)
  have mC1 : PySem.W.mroIn K 37 (.type "object") = some true := of_decide_eq_true (HK.exAt q0 19 rfl)
  have nC2 : PySem.W.nsIn K mainGlobals "BadStatement" = some (some (.ref 49)) := of_decide_eq_true (HK.exAt q0 20 rfl)
  have xC2 : PySem.W.excIn K 49 [.type "ValueError", .type "Exception", .type "BaseException", .type "object"] "ValueError.__new__" = true := of_decide_eq_true (HK.exAt q0 21 rfl)
  have kC2 : PySem.W.keepIn K (.ref 49) = true := of_decide_eq_true (HK.exAt q0 22 rfl)
  have sC2 : PySem.W.subIn K (.ref 49) (.type "BaseException") = some true := of_decide_eq_true (HK.exAt q0 23 rfl)
  have tC2 : PySem.W.typeIn K (.ref 49) = some (.type "type") := of_decide_eq_true (HK.exAt q0 24 rfl)
  have dC2 : PySem.W.hasDictIn K 49 = true := of_decide_eq_true (HK.exAt q0 25 rfl)
  have gC2 : PySem.W.findIn K (.ref 49) "__getattribute__" = some (some (.builtin "BaseException.__getattribute__")) := of_decide_eq_true (HK.exAt q0 26 rfl)
  have aC2 : PySem.W.findIn K (.ref 49) "__getattr__" = some none := of_decide_eq_true (HK.exAt q0 27 rfl)
  have cC2 : PySem.W.findIn K (.ref 49) "__class__" = some (some (.builtin "object.__class__")) := of_decide_eq_true (HK.exAt q0 28 rfl)
  have mC2 : PySem.W.mroIn K 49 (.type "object") = some true := of_decide_eq_true (HK.exAt q0 29 rfl)
  have nC3 : PySem.W.nsIn K mainGlobals "BadWitness" = some (some (.ref 61)) := of_decide_eq_true (HK.exAt q1 0 rfl)
  have xC3 : PySem.W.excIn K 61 [.type "ValueError", .type "Exception", .type "BaseException", .type "object"] "ValueError.__new__" = true := of_decide_eq_true (HK.exAt q1 1 rfl)
  have kC3 : PySem.W.keepIn K (.ref 61) = true := of_decide_eq_true (HK.exAt q1 2 rfl)
  have sC3 : PySem.W.subIn K (.ref 61) (.type "BaseException") = some true := of_decide_eq_true (HK.exAt q1 3 rfl)
  have tC3 : PySem.W.typeIn K (.ref 61) = some (.type "type") := of_decide_eq_true (HK.exAt q1 4 rfl)
  have dC3 : PySem.W.hasDictIn K 61 = true := of_decide_eq_true (HK.exAt q1 5 rfl)
  have gC3 : PySem.W.findIn K (.ref 61) "__getattribute__" = some (some (.builtin "BaseException.__getattribute__")) := of_decide_eq_true (HK.exAt q1 6 rfl)
  have aC3 : PySem.W.findIn K (.ref 61) "__getattr__" = some none := of_decide_eq_true (HK.exAt q1 7 rfl)
  have cC3 : PySem.W.findIn K (.ref 61) "__class__" = some (some (.builtin "object.__class__")) := of_decide_eq_true (HK.exAt q1 8 rfl)
  have mC3 : PySem.W.mroIn K 61 (.type "object") = some true := of_decide_eq_true (HK.exAt q1 9 rfl)
  have nC4 : PySem.W.nsIn K mainGlobals "BadContents" = some (some (.ref 73)) := of_decide_eq_true (HK.exAt q1 10 rfl)
  have xC4 : PySem.W.excIn K 73 [.type "ValueError", .type "Exception", .type "BaseException", .type "object"] "ValueError.__new__" = true := of_decide_eq_true (HK.exAt q1 11 rfl)
  have kC4 : PySem.W.keepIn K (.ref 73) = true := of_decide_eq_true (HK.exAt q1 12 rfl)
  have sC4 : PySem.W.subIn K (.ref 73) (.type "BaseException") = some true := of_decide_eq_true (HK.exAt q1 13 rfl)
  have tC4 : PySem.W.typeIn K (.ref 73) = some (.type "type") := of_decide_eq_true (HK.exAt q1 14 rfl)
  have dC4 : PySem.W.hasDictIn K 73 = true := of_decide_eq_true (HK.exAt q1 15 rfl)
  have gC4 : PySem.W.findIn K (.ref 73) "__getattribute__" = some (some (.builtin "BaseException.__getattribute__")) := of_decide_eq_true (HK.exAt q1 16 rfl)
  have aC4 : PySem.W.findIn K (.ref 73) "__getattr__" = some none := of_decide_eq_true (HK.exAt q1 17 rfl)
  have cC4 : PySem.W.findIn K (.ref 73) "__class__" = some (some (.builtin "object.__class__")) := of_decide_eq_true (HK.exAt q1 18 rfl)
  have mC4 : PySem.W.mroIn K 73 (.type "object") = some true := of_decide_eq_true (HK.exAt q1 19 rfl)
  have og : PySem.W.specialIn K (.builtin "object.__class__") "__get__" = some (some (.builtin "getset_descriptor.__get__")) := of_decide_eq_true (HK.exAt q1 20 rfl)
  have ot : PySem.W.takesIn K (.builtin "object.__class__") = some true := of_decide_eq_true (HK.exAt q1 21 rfl)
  have e0_0 : PySem.W.subIn K (.ref 24) (.ref 24) = some true := of_decide_eq_true (HK.exAt q1 22 rfl)
  have e1_0 : PySem.W.subIn K (.ref 37) (.ref 24) = some true := of_decide_eq_true (HK.exAt q1 23 rfl)
  have e2_0 : PySem.W.subIn K (.ref 49) (.ref 24) = some true := of_decide_eq_true (HK.exAt q1 24 rfl)
  have e3_0 : PySem.W.subIn K (.ref 61) (.ref 24) = some true := of_decide_eq_true (HK.exAt q1 25 rfl)
  have e4_0 : PySem.W.subIn K (.ref 73) (.ref 24) = some true := of_decide_eq_true (HK.exAt q1 26 rfl)
  have e0_2 : PySem.W.subIn K (.ref 24) (.ref 49) = some false := of_decide_eq_true (HK.exAt q1 27 rfl)
  have e1_2 : PySem.W.subIn K (.ref 37) (.ref 49) = some false := of_decide_eq_true (HK.exAt q1 28 rfl)
  have e2_2 : PySem.W.subIn K (.ref 49) (.ref 49) = some true := of_decide_eq_true (HK.exAt q1 29 rfl)
  have e3_2 : PySem.W.subIn K (.ref 61) (.ref 49) = some false := of_decide_eq_true (HK.exAt q2 0 rfl)
  have e4_2 : PySem.W.subIn K (.ref 73) (.ref 49) = some false := of_decide_eq_true (HK.exAt q2 1 rfl)
  have e0_3 : PySem.W.subIn K (.ref 24) (.ref 61) = some false := of_decide_eq_true (HK.exAt q2 2 rfl)
  have e1_3 : PySem.W.subIn K (.ref 37) (.ref 61) = some false := of_decide_eq_true (HK.exAt q2 3 rfl)
  have e2_3 : PySem.W.subIn K (.ref 49) (.ref 61) = some false := of_decide_eq_true (HK.exAt q2 4 rfl)
  have e3_3 : PySem.W.subIn K (.ref 61) (.ref 61) = some true := of_decide_eq_true (HK.exAt q2 5 rfl)
  have e4_3 : PySem.W.subIn K (.ref 73) (.ref 61) = some false := of_decide_eq_true (HK.exAt q2 6 rfl)
  have m_ValueError : PySem.W.kitMeta "ValueError" = true := of_decide_eq_true (HK.exAt q2 7 rfl)
  have e0_ValueError : PySem.W.subIn K (.ref 24) (.type "ValueError") = some true := of_decide_eq_true (HK.exAt q2 8 rfl)
  have e1_ValueError : PySem.W.subIn K (.ref 37) (.type "ValueError") = some true := of_decide_eq_true (HK.exAt q2 9 rfl)
  have e2_ValueError : PySem.W.subIn K (.ref 49) (.type "ValueError") = some true := of_decide_eq_true (HK.exAt q2 10 rfl)
  have e3_ValueError : PySem.W.subIn K (.ref 61) (.type "ValueError") = some true := of_decide_eq_true (HK.exAt q2 11 rfl)
  have e4_ValueError : PySem.W.subIn K (.ref 73) (.type "ValueError") = some true := of_decide_eq_true (HK.exAt q2 12 rfl)
  have n_ValueError : PySem.W.nsIn K mainGlobals "ValueError" = some none := of_decide_eq_true (HK.exAt q2 13 rfl)
  have n_abs : PySem.W.nsIn K mainGlobals "abs" = some none := of_decide_eq_true (HK.exAt q2 14 rfl)
  have n_all : PySem.W.nsIn K mainGlobals "all" = some none := of_decide_eq_true (HK.exAt q2 15 rfl)
  have n_bool : PySem.W.nsIn K mainGlobals "bool" = some none := of_decide_eq_true (HK.exAt q2 16 rfl)
  have n_enumerate : PySem.W.nsIn K mainGlobals "enumerate" = some none := of_decide_eq_true (HK.exAt q2 17 rfl)
  have n_int : PySem.W.nsIn K mainGlobals "int" = some none := of_decide_eq_true (HK.exAt q2 18 rfl)
  have n_isinstance : PySem.W.nsIn K mainGlobals "isinstance" = some none := of_decide_eq_true (HK.exAt q2 19 rfl)
  have n_len : PySem.W.nsIn K mainGlobals "len" = some none := of_decide_eq_true (HK.exAt q2 20 rfl)
  have n_list : PySem.W.nsIn K mainGlobals "list" = some none := of_decide_eq_true (HK.exAt q2 21 rfl)
  have n_max : PySem.W.nsIn K mainGlobals "max" = some none := of_decide_eq_true (HK.exAt q2 22 rfl)
  have n_min : PySem.W.nsIn K mainGlobals "min" = some none := of_decide_eq_true (HK.exAt q2 23 rfl)
  have n_range : PySem.W.nsIn K mainGlobals "range" = some none := of_decide_eq_true (HK.exAt q2 24 rfl)
  have n_sorted : PySem.W.nsIn K mainGlobals "sorted" = some none := of_decide_eq_true (HK.exAt q2 25 rfl)
  have n_str : PySem.W.nsIn K mainGlobals "str" = some none := of_decide_eq_true (HK.exAt q2 26 rfl)
  have n_tuple : PySem.W.nsIn K mainGlobals "tuple" = some none := of_decide_eq_true (HK.exAt q2 27 rfl)
  have n_type : PySem.W.nsIn K mainGlobals "type" = some none := of_decide_eq_true (HK.exAt q2 28 rfl)
  obtain ⟨t_LEAST_COLORS, c_LEAST_COLORS⟩ := HK.intB_ok (HK.exAt q2 29 rfl)
  obtain ⟨t_MOST_COLORS, c_MOST_COLORS⟩ := HK.intB_ok (HK.exAt q3 0 rfl)
  obtain ⟨t_MOST_GATES, c_MOST_GATES⟩ := HK.intB_ok (HK.exAt q3 1 rfl)
  obtain ⟨t_MOST_INPUTS, c_MOST_INPUTS⟩ := HK.intB_ok (HK.exAt q3 2 rfl)
  obtain ⟨t_MOST_NODES, c_MOST_NODES⟩ := HK.intB_ok (HK.exAt q3 3 rfl)
  have a0 : PySem.W.nsIn K mainGlobals "make_graph" = some (some (.ref 82)) := of_decide_eq_true (HK.exAt q3 4 rfl)
  have a1 : PySem.W.nsIn K mainGlobals "alike" = some (some (.ref 89)) := of_decide_eq_true (HK.exAt q3 5 rfl)
  have a2 : PySem.W.nsIn K mainGlobals "is_gate" = some (some (.ref 101)) := of_decide_eq_true (HK.exAt q3 6 rfl)
  have a3 : PySem.W.nsIn K mainGlobals "circuit" = some (some (.ref 96)) := of_decide_eq_true (HK.exAt q3 7 rfl)
  have a4 : PySem.W.nsIn K mainGlobals "colors" = some (some (.ref 108)) := of_decide_eq_true (HK.exAt q3 8 rfl)
  have a5 : PySem.W.nsIn K mainGlobals "require_kind" = some (some (.ref 115)) := of_decide_eq_true (HK.exAt q3 9 rfl)
  have a6 : PySem.W.nsIn K mainGlobals "rows_of" = some (some (.ref 120)) := of_decide_eq_true (HK.exAt q3 10 rfl)
  have a7 : PySem.W.nsIn K mainGlobals "are_different_colors" = some (some (.ref 127)) := of_decide_eq_true (HK.exAt q3 11 rfl)
  have a8 : PySem.W.nsIn K mainGlobals "proper_edges" = some (some (.ref 132)) := of_decide_eq_true (HK.exAt q3 12 rfl)
  have a9 : PySem.W.nsIn K mainGlobals "best_coloring" = some (some (.ref 139)) := of_decide_eq_true (HK.exAt q3 13 rfl)
  have dd9 := (HK.exAt q3 14 rfl)
  have a10 : PySem.W.nsIn K mainGlobals "_law_cell" = some (some (.ref 146)) := of_decide_eq_true (HK.exAt q3 15 rfl)
  have a11 : PySem.W.nsIn K mainGlobals "_law_numbers" = some (some (.ref 153)) := of_decide_eq_true (HK.exAt q3 16 rfl)
  have a12 : PySem.W.nsIn K mainGlobals "_law_same" = some (some (.ref 160)) := of_decide_eq_true (HK.exAt q3 17 rfl)
  have a13 : PySem.W.nsIn K mainGlobals "_law_pairs" = some (some (.ref 167)) := of_decide_eq_true (HK.exAt q3 18 rfl)
  have a14 : PySem.W.nsIn K mainGlobals "_law_edges" = some (some (.ref 172)) := of_decide_eq_true (HK.exAt q3 19 rfl)
  have a15 : PySem.W.nsIn K mainGlobals "_law_statement" = some (some (.ref 177)) := of_decide_eq_true (HK.exAt q3 20 rfl)
  have a16 : PySem.W.nsIn K mainGlobals "_law_number" = some (some (.ref 182)) := of_decide_eq_true (HK.exAt q3 21 rfl)
  have a17 : PySem.W.nsIn K mainGlobals "_law_best" = some (some (.ref 187)) := of_decide_eq_true (HK.exAt q3 22 rfl)
  have a18 : PySem.W.nsIn K mainGlobals "_law_is_told" = some (some (.ref 194)) := of_decide_eq_true (HK.exAt q3 23 rfl)
  have a19 : PySem.W.nsIn K mainGlobals "_law_best_told" = some (some (.ref 199)) := of_decide_eq_true (HK.exAt q3 24 rfl)
  have a20 : PySem.W.nsIn K mainGlobals "_law_refusal" = some (some (.ref 206)) := of_decide_eq_true (HK.exAt q3 25 rfl)
  have a21 : PySem.W.nsIn K mainGlobals "_law_refused" = some (some (.ref 213)) := of_decide_eq_true (HK.exAt q3 26 rfl)
  have a22 : PySem.W.nsIn K mainGlobals "law" = some (some (.ref 218)) := of_decide_eq_true (HK.exAt q3 27 rfl)
  obtain ⟨_, _, _, _, _, _, _, _, _, l0, c0, k0⟩ := c.fn 0 (d := dn_0)
  obtain ⟨_, _, _, _, _, _, _, _, _, l1, c1, k1⟩ := c.fn 1 (d := dn_1)
  obtain ⟨_, _, _, _, _, _, _, _, _, l2, c2, k2⟩ := c.fn 2 (d := dn_2)
  obtain ⟨_, _, _, _, _, _, _, _, _, l3, c3, k3⟩ := c.fn 3 (d := dn_3)
  obtain ⟨_, _, _, _, _, _, _, _, _, l4, c4, k4⟩ := c.fn 4 (d := dn_4)
  obtain ⟨_, _, _, _, _, _, _, _, _, l5, c5, k5⟩ := c.fn 5 (d := dn_5)
  obtain ⟨_, _, _, _, _, _, _, _, _, l6, c6, k6⟩ := c.fn 6 (d := dn_6)
  obtain ⟨_, _, _, _, _, _, _, _, _, l7, c7, k7⟩ := c.fn 7 (d := dn_7)
  obtain ⟨_, _, _, _, _, _, _, _, _, l8, c8, k8⟩ := c.fn 8 (d := dn_8)
  obtain ⟨_, _, _, _, _, _, _, _, _, l9, c9, k9⟩ := c.fn 9 (d := dn_9)
  obtain ⟨_, _, _, _, _, _, _, _, _, l10, c10, k10⟩ := c.fn 10 (d := dn_10)
  obtain ⟨_, _, _, _, _, _, _, _, _, l11, c11, k11⟩ := c.fn 11 (d := dn_11)
  obtain ⟨_, _, _, _, _, _, _, _, _, l12, c12, k12⟩ := c.fn 12 (d := dn_12)
  obtain ⟨_, _, _, _, _, _, _, _, _, l13, c13, k13⟩ := c.fn 13 (d := dn_13)
  obtain ⟨_, _, _, _, _, _, _, _, _, l14, c14, k14⟩ := c.fn 14 (d := dn_14)
  obtain ⟨_, _, _, _, _, _, _, _, _, l15, c15, k15⟩ := c.fn 15 (d := dn_15)
  obtain ⟨_, _, _, _, _, _, _, _, _, l16, c16, k16⟩ := c.fn 16 (d := dn_16)
  obtain ⟨_, _, _, _, _, _, _, _, _, l17, c17, k17⟩ := c.fn 17 (d := dn_17)
  obtain ⟨_, _, _, _, _, _, _, _, _, l18, c18, k18⟩ := c.fn 18 (d := dn_18)
  obtain ⟨_, _, _, _, _, _, _, _, _, l19, c19, k19⟩ := c.fn 19 (d := dn_19)
  obtain ⟨_, _, _, _, _, _, _, _, _, l20, c20, k20⟩ := c.fn 20 (d := dn_20)
  obtain ⟨_, _, _, _, _, _, _, _, _, l21, c21, k21⟩ := c.fn 21 (d := dn_21)
  obtain ⟨_, _, _, _, _, _, _, _, _, l22, c22, k22⟩ := c.fn 22 (d := dn_22)
  obtain ⟨aK9, y9, rK9⟩ := HK.kwB_ok dd9 l9
  have F9 : FunD K "best_coloring" "best_coloring" (defArgs s_best_coloring) (defBody s_best_coloring) (defScope s_best_coloring) [] [("start", V.ref aK9)] 139 _ := ⟨⟨_, _, _, _, _, _, _, _, _, _, rfl, l9, c9, .inl ⟨rfl, rfl⟩, y9⟩, k9⟩
  exact all_mk hf X G hfa nC0 xC0 kC0 sC0 tC0 dC0 gC0 aC0 cC0 mC0 nC1 xC1 kC1 sC1 tC1 dC1 gC1 aC1 cC1 mC1 nC2 xC2 kC2 sC2 tC2 dC2 gC2 aC2 cC2 mC2 nC3 xC3 kC3 sC3 tC3 dC3 gC3 aC3 cC3 mC3 nC4 xC4 kC4 sC4 tC4 dC4 gC4 aC4 cC4 mC4 og ot e0_0 e1_0 e2_0 e3_0 e4_0 e0_2 e1_2 e2_2 e3_2 e4_2 e0_3 e1_3 e2_3 e3_3 e4_3 m_ValueError e0_ValueError e1_ValueError e2_ValueError e3_ValueError e4_ValueError n_ValueError n_abs n_all n_bool n_enumerate n_int n_isinstance n_len n_list n_max n_min n_range n_sorted n_str n_tuple n_type c_LEAST_COLORS c_MOST_COLORS c_MOST_GATES c_MOST_INPUTS c_MOST_NODES a0 l0 c0 k0 a1 l1 c1 k1 a2 l2 c2 k2 a3 l3 c3 k3 a4 l4 c4 k4 a5 l5 c5 k5 a6 l6 c6 k6 a7 l7 c7 k7 a8 l8 c8 k8 a9 F9 rK9 a10 l10 c10 k10 a11 l11 c11 k11 a12 l12 c12 k12 a13 l13 c13 k13 a14 l14 c14 k14 a15 l15 c15 k15 a16 l16 c16 k16 a17 l17 c17 k17 a18 l18 c18 k18 a19 l19 c19 k19 a20 l20 c20 k20 a21 l21 c21 k21 a22 l22 c22 k22
end K44

open PySem PySem.W PySem.Calls PyProof.Rows in
set_option maxRecDepth 100000 in
set_option maxHeartbeats 0 in
theorem PySem.Challenge.cw_provedunseen_k44_best_by_one_more_color_holds : PySem.Challenge.rw_provedunseen_k44_best_by_one_more_color.Holds := by
  w_on; o_law
  refine HandSHeadRun.head_any (r := OpenLaw.row PySem.Challenge.rw_provedunseen_k44_best_by_one_more_color) (q := K44H.qv) (H := K44H.hk) (ob := K44H.ob) (M := 20000) (loose := K44H.names) (d := HandSHeadRun.topDef (OpenLaw.row PySem.Challenge.rw_provedunseen_k44_best_by_one_more_color).prog 38) (kwd := []) K44H.ob_eq (by kernel_rfl) (fun s => by kernel_rfl) K44H.run (by kernel_rfl) (by kernel_rfl) (by kernel_rfl) (by rfl) (by first | assumption | decide +kernel) (by decide +kernel) ⟨rfl, rfl, rfl, rfl, rfl, by decide +kernel⟩ ?hw ?hc
  case hw => w_witness2
  case hc =>
    refine HK.walk_h (l := PySem.Challenge.rw_provedunseen_k44_best_by_one_more_color) (n := 63) (k := 11) (x := "script") (CX := fun w => L2.CX (PySem.Challenge.rw_provedunseen_k44_best_by_one_more_color).prog w) rfl (by decide) (by kernel_rfl) ⟨by decide, by decide, by decide⟩ ?F ?C
    case C => exact fun _ _ _ _ _ ⟨_, _, _, _, _, z⟩ => z.2.2.2.2.2.2.2
    case F =>
      intro w mg fa h Y G hm
      obtain ⟨K, KX, c⟩ := Y
      have hmg : mg ("law" : PySem.Str) = some (.ref fa) := by
        have e : (HandSHeadRun.topDef (OpenLaw.row PySem.Challenge.rw_provedunseen_k44_best_by_one_more_color).prog 38).name = ("law" : PySem.Str) := by kernel_rfl
        rw [← e]
        exact hm
      obtain ⟨fd, hb, hF⟩ := K44.facts K44.f_law_true (P := (PySem.Challenge.rw_provedunseen_k44_best_by_one_more_color).prog) (w := w) KX G hmg c
      exact ⟨K, fd, K44.spL K, KX, hb, fun H a ns hl hS => ⟨a, ns, rfl, hS, hl, fun _ => rfl⟩, hF⟩
#print axioms PySem.Challenge.cw_provedunseen_k44_best_by_one_more_color_holds
