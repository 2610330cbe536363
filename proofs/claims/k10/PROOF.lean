import PyProof.Rows.All
import Wide.All
import OpenK.AllK
import Wide.FinOn
import HandS.ForMost
import HandS.IsInst
import HandS.Style
import HandS.Walk
import HandS.Exc
import HandS.ExcOwn
import HandS.ExcInit
import HandS.ExcSuper
import KE.KExcInit
import KE.KExcIs
import PySem.Challenge.RW_samebytes_k10_classes_of_errors
import KE.KSuper
import KE.KExcSuper
import KE.DataFind
set_option Elab.async false
set_option linter.all false
set_option maxRecDepth 100000
set_option maxHeartbeats 4000000
namespace XL
open PySem PySem.W PySem.Calls PyProof.Rows Builtin Builtin.ObjectAttr
/-! ### classes of errors over Exception, one of the program's own classes perhaps between -/
abbrev tailX : List Value := [.type "Exception", .type "BaseException", .type "object"]
/-- what the written part says of the class at C -/
structure XC (K : Frag) (C : Addr) : Prop where
  q : excInitIn K C tailX "Exception.__new__" = true
  ov : excOver K C tailX = true
  hd : hasDictIn K C = true
  sa : findIn K (.ref C) "__setattr__" = some (some (.builtin "object.__setattr__"))
  ga : findIn K (.ref C) "__getattribute__" = some (some (.builtin "BaseException.__getattribute__"))
  gg : findIn K (.ref C) "__getattr__" = some none
  ex : subIn K (.ref C) (.type "BaseException") = some true
  kp : keepIn K (.ref C) = true
  cc : findIn K (.ref C) "__class__" = some (some (.builtin "object.__class__"))
  mo : mroIn K C (.type "object") = some true
  gd : specialIn K (.builtin "object.__class__") "__get__" = some (some (.builtin "getset_descriptor.__get__"))
  tk : takesIn K (.builtin "object.__class__") = some true
def xcB (K : Frag) (C : Addr) : Bool :=
  excInitIn K C tailX "Exception.__new__" && (excOver K C tailX && (hasDictIn K C && (decide (findIn K (.ref C) "__setattr__" = some (some (.builtin "object.__setattr__"))) &&
  (decide (findIn K (.ref C) "__getattribute__" = some (some (.builtin "BaseException.__getattribute__"))) && (decide (findIn K (.ref C) "__getattr__" = some none) && (decide (subIn K (.ref C) (.type "BaseException") = some true) && (keepIn K (.ref C) &&
  (decide (findIn K (.ref C) "__class__" = some (some (.builtin "object.__class__"))) && (decide (mroIn K C (.type "object") = some true) && (decide (specialIn K (.builtin "object.__class__") "__get__" = some (some (.builtin "getset_descriptor.__get__"))) &&
  decide (takesIn K (.builtin "object.__class__") = some true)))))))))))
theorem xc_of {K : Frag} {C : Addr} (h : xcB K C = true) : XC K C := by
  unfold xcB at h
  simp only [Bool.and_eq_true, decide_eq_true_eq] at h
  obtain ⟨h1, h2, h3, h4, h5, h6, h7, h8, h9, h10, h11, h12⟩ := h
  exact ⟨h1, h2, h3, h4, h5, h6, h7, h8, h9, h10, h11, h12⟩
/-- the object of a new error, its args at t -/
abbrev newX (C t : Addr) (d : Option Addr) : Obj := { cls := .ref C, dict := d, data := .fields #[.ref t, .none, .none, .none, .bool false, .none] }
section
variable {prog : Program} {w : World} {A : Around} {E : Value → Shared → Prop} {K : Frag} {hp : Heap} {g : Array GenState} {d : Drawn} {t : Nat} {os : OsState}
/-- self.f = v, the first field -/
theorem store_first {x C t0 : Addr} {f : Str} {v : Value} {Q : Unit → Shared → Prop} (T : XC K C) (X : K.In hp) (hx : hp.get? x = some (newX C t0 none)) (no : takerIn K C f = some none)
    (h : ∀ h' tk dx, (∀ b o, b ≠ x → hp.get? b = some o → h'.get? b = some o) → hp.objs.size ≤ dx → dx ≠ x → h'.get? x = some (newX C t0 (some dx)) → h'.Ns1 dx (fun y => if y = f then some v else none) → Q () ⟨h', g, d, tk, os⟩) :
    wpAny (model prog w) A (setAttr (.ref x) f v) Q E ⟨hp, g, d, t, os⟩ := by
  have I : InstAt hp x (newX C t0 none) C none := ⟨hx, rfl, rfl, trivial⟩
  have ne : x ≠ hp.objs.size := Nat.ne_of_lt (Heap.lt_size hx)
  obtain ⟨cd, hc, hd⟩ := any_some T.hd
  refine set_plain X I T.sa (osa_openX (r := none) PySem.F.store_Exception X I T.ov no fun b => ?_)
  have look : Looks (model prog w) hp (classData C) cd := looks_clsIn X hc
  obtain ⟨c1, c2, c3, c4, c5, c6, c7, c8, c9, c10, c11⟩ := cd
  have hd' : c6 = true := hd
  subst hd'
  show wpAny _ _ (storeInOwnDict _ _ _ _ _ _) _ _ _
  unfold storeInOwnDict
  unfold ownDictForStores
  repeat (first | with_reducible refine HandSPX.store_in_new ?_ ?_ | with_reducible refine wpAny_loadPart_at hx ?_ | with_reducible refine look.at ?_ | wp_step)
  · exact ⟨_, #[], _, Eq.trans (Heap.get?_update_ne _ _ _ _ ne.symm) (Heap.get?_push_at rfl rfl), rfl, fun e z => absurd z (by simp), fun _ => rfl⟩
  · intro h' tk' hn' hs
    have hx1 : (hp.push { cls := .type "dict", data := .dict #[] }).get? x = some (newX C t0 none) := Heap.get?_push_of_some _ hx
    refine h h' tk' hp.objs.size (fun b o nb ho => ?_) (Nat.le_refl _) ne.symm ?_ hn'
    · exact Eq.trans (hs.2 b (Nat.ne_of_lt (Heap.lt_size ho))) (Eq.trans (Heap.get?_update_ne _ _ _ _ nb) (Heap.get?_push_of_some _ ho))
    · exact Eq.trans (hs.2 x ne) (Heap.get?_update_self _ hx1 rfl)
end
end XL

set_option Elab.async false
set_option linter.all false
set_option maxRecDepth 100000
set_option maxHeartbeats 4000000
namespace XL
open PySem PySem.W PySem.Calls PyProof.Rows
/-! ### __init__(self, f): self.f = f -/
def xA (f : Str) (p1 p2 : Pos) : Arguments := { posonlyargs := [], args := [{ arg := "self", annotation := none, pos := p1 }, { arg := f, annotation := none, pos := p2 }], vararg := none, kwonlyargs := [], kw_defaults := [], kwarg := none, defaults := [] }
def xB (f : Str) (q1 q2 q3 q4 : Pos) : List Stmt := [.Assign [.Attribute (.Name "self" q1) f q2] (.Name f q3) q4]
def xS (f : Str) : Scope := { kind := .function, names := [(PySem.Str.ofString "self", .local), (f, .local)], isGenerator := false, isCoroutine := false, more := [] }
/-- the names of fields that the program has -/
def Fld (f : Str) : Prop := f = "value" ∨ f = "mark" ∨ f = "number" ∨ f = "name" ∨ f = "line" ∨ f = "index" ∨ f = "clashes"
/-- what the written part says of the class's __init__, at fI -/
structure XI (K : Frag) (C fI : Addr) (f : Str) : Prop where
  fld : Fld f
  no : takerIn K C f = some none
  iC : findIn K (.ref C) "__init__" = some (some (.ref fI))
  tC : typeIn K (.ref fI) = some (.type "function")
  fn : ∃ (oc : Value) (od : Option Addr) (doc pm : Value) (an : Option Addr) (cdv ct : Value) (osl : Array (Option Value)) (qual : Str) (p1 p2 q1 q2 q3 q4 : Pos),
    K.lookup fI = some ⟨oc, od, .func (fnOf "__init__" qual (xA f p1 p2) (xB f q1 q2 q3 q4) (xS f) .none .none doc pm an cdv ct), osl⟩ ∧ codeIn K cdv qual = true
/-- what is left of a fresh error at x -/
structure XEnd (h h' : Heap) (x C dx t1 : Addr) (f : Str) (v : Value) : Prop where
  keep : ∀ b o, b ≠ x → h.get? b = some o → h'.get? b = some o
  obj : h'.get? x = some (newX C t1 (some dx))
  dbig : h.objs.size ≤ dx
  dne : dx ≠ x
  ns : h'.Ns1 dx (fun y => if y = f then some v else none)
theorem loadL {M : Model} {s : Shared} {name : Str} {scope : Scope} {L a : Addr} {cd : Value} {m : Str → Option Value} {x : Str} {pos : Pos} {v : Value} {Q : Value → Shared → Prop} {A : Around} {E : Value → Shared → Prop} (hn : s.heap.Ns L m) (hv : m x = some v) (h : Q v s)
    (hk : scope.kind = .function) (hl : (envOfC name scope L a cd).kindOf x = some .local) (hd : (x == ("__debug__" : Str)) = false) :
    wpAny M A (eval (.Name x pos) (envOfC name scope L a cd)) Q E s := wpAny_Name (wpAny_loadName_local hk hl hn hv h) hd
section
variable {prog : Program} {w : World} {A : Around} {R : Result → Shared → Prop} {K : Frag} {s : Shared} {C fI : Addr} {f : Str}
/-- how its arguments come: by place, by name -/
def Comes (args : Args) (x : Addr) (f : Str) (v : Value) : Prop := args = ⟨[.ref x, v], []⟩ ∨ args = ⟨[.ref x], [(f, v)]⟩
theorem binds_x {f : Str} (hf : Fld f) {args : Args} {x : Addr} {v : Value} (ha : Comes args x f v) {qual : Str} {p1 p2 q1 q2 q3 q4 : Pos} {doc pm cdv ct : Value} {an : Option Addr} {s : Shared} :
    BindsTo s (fnOf "__init__" qual (xA f p1 p2) (xB f q1 q2 q3 q4) (xS f) .none .none doc pm an cdv ct) args [("self", .ref x), (f, v)] := by
  rcases ha with rfl | rfl
  · rcases hf with rfl | rfl | rfl | rfl | rfl | rfl | rfl <;> exact BindsTo.of_eq rfl
  · rcases hf with rfl | rfl | rfl | rfl | rfl | rfl | rfl <;> exact BindsTo.of_eq rfl
theorem init_x (T : XC K C) (I : XI K C fI f) {args : Args} {x t0 : Addr} {v : Value} (X : K.In s.heap) (hlim : s.heap.NoLimit) (hx : s.heap.get? x = some (newX C t0 none)) (hroom : A.depth < recursionLimit) (ha : Comes args x f v)
    (hq : ∀ h' tk dx, XEnd s.heap h' x C dx t0 f v → R (.ok (.ret .none)) { s with heap := h', toks := tk }) :
    codeAny (model prog w) A (.call (.ref fI) args) R s := by
  obtain ⟨oc, od, doc, pm, an, cdv, ct, osl, qual, p1, p2, q1, q2, q3, q4, ho, hcd⟩ := I.fn
  refine Att.call_fn (binds := [("self", .ref x), (f, v)]) X hlim ho hcd hroom (binds_x I.fld ha) ?_ (fun s₁ IC => ?_) rfl rfl rfl
  · rcases I.fld with rfl | rfl | rfl | rfl | rfl | rfl | rfl <;> rfl
  · obtain ⟨h₁, tk₁, rfl⟩ := IC.toInCall.same
    have k : ∀ b o, s.heap.get? b = some o → h₁.get? b = some o := IC.toInCall.keep
    have hn := IC.toInCall.ns
    have X₁ : K.In h₁ := X.keeps k
    have hx₁ := k _ _ hx
    have hself : bindL (envOfC qual (xS f) s.heap.objs.size fI cdv).kindOf [("self", .ref x), (f, v)] (fun _ => none) "self" = some (.ref x) := by
      rcases I.fld with rfl | rfl | rfl | rfl | rfl | rfl | rfl <;> rfl
    have hval : bindL (envOfC qual (xS f) s.heap.objs.size fI cdv).kindOf [("self", .ref x), (f, v)] (fun _ => none) f = some v := by
      rcases I.fld with rfl | rfl | rfl | rfl | rfl | rfl | rfl <;> rfl
    have kself : (envOfC qual (xS f) s.heap.objs.size fI cdv).kindOf "self" = some .local := by
      rcases I.fld with rfl | rfl | rfl | rfl | rfl | rfl | rfl <;> rfl
    have kval : (envOfC qual (xS f) s.heap.objs.size fI cdv).kindOf f = some .local := by
      rcases I.fld with rfl | rfl | rfl | rfl | rfl | rfl | rfl <;> rfl
    have dval : (f == ("__debug__" : Str)) = false := by
      rcases I.fld with rfl | rfl | rfl | rfl | rfl | rfl | rfl <;> decide +kernel
    show wpAny _ _ (execs _ _) _ _ _
    refine wpAny_execs_cons (plainObj_wpAny_Assign_Attribute ?_)
    refine loadL hn hval (loadL hn hself ?_ rfl kself (by decide)) rfl kval dval
    refine store_first T X₁ hx₁ I.no fun h₃ tk₃ dx k₃ dn dne hx₃ hn₃ => ?_
    show wpAny _ _ (execs _ _) _ _ _
    have z : s.heap.objs.size < h₁.objs.size := hn.lt
    exact wpAny_execs_nil (hq h₃ tk₃ dx ⟨fun b o hb e => k₃ b o hb (k b o e), hx₃, Nat.le_of_lt (Nat.lt_of_lt_of_le z dn), dne, hn₃⟩)
/-- a made error: the object at e, its dict at d -/
structure XMade (h h' : Heap) (e C d : Addr) (f : Str) (v : Value) : Prop where
  keep : ∀ b o, h.get? b = some o → h'.get? b = some o
  ebig : h.objs.size ≤ e
  obj : ∃ t1, h'.get? e = some (newX C t1 (some d))
  dbig : h.objs.size ≤ d
  dne : d ≠ e
  ns : h'.Ns1 d (fun y => if y = f then some v else none)
theorem lim_push {h : Heap} {o1 o2 : Obj} (l : h.NoLimit) : ((h.push o1).push o2).NoLimit := l.keeps fun b o e => Heap.get?_push_of_some _ (Heap.get?_push_of_some _ e)
theorem one_fits (v : Value) : [v].length ≤ sizeLine := by
  show 1 ≤ sizeLine
  decide
/-- C(v) -/
theorem made_x (T : XC K C) (I : XI K C fI f) {v : Value} (X : K.In s.heap) (hlim : s.heap.NoLimit) (hroom : A.depth + 1 < recursionLimit)
    (hq : ∀ h' tk e d, XMade s.heap h' e C d f v → R (.ok (.ret (.ref e))) { s with heap := h', toks := tk }) :
    codeAny (model prog w) A (.call (.ref C) ⟨[v], []⟩) R s := by
  obtain ⟨nm, N, qn, bs, bm, hdct, sn, sub, ab, col, dd, k0, k1, k2, k3, k5, hC, hT⟩ := excInit_of X T.q
  obtain ⟨hp, g, dr, tk, os⟩ := s
  have k : ∀ b o, hp.get? b = some o → ((hp.push (kdv_tup [v])).push (newX C hp.objs.size none)).get? b = some o := fun b o e => Heap.get?_push_of_some _ (Heap.get?_push_of_some _ e)
  have hget : ((hp.push (kdv_tup [v])).push (newX C hp.objs.size none)).get? (hp.objs.size + 1) = some (newX C hp.objs.size none) := by heap_get
  refine HandSPX.call_own PySem.F.excBase_Exception hT hC (looks_findIn X I.iC) (fun self => bind_fn X self I.tC) (one_fits v) ?_
  refine init_x (s := ⟨(hp.push (kdv_tup [v])).push (newX C hp.objs.size none), g, dr, tk, os⟩) T I (X.keeps k) (lim_push hlim) hget hroom (.inl rfl) fun h' tk' dx ⟨k', hx, dn, dne, hns⟩ => ?_
  have old : ∀ b o, hp.get? b = some o → h'.get? b = some o := fun b o e => k' b o (Nat.ne_of_lt (Nat.lt_succ_of_lt (Heap.lt_size e))) (k b o e)
  have z : hp.objs.size ≤ dx := by
    have y := dn
    rw [show ((hp.push (kdv_tup [v])).push (newX C hp.objs.size none)).objs.size = hp.objs.size + 1 + 1 by rw [Heap.size_push, Heap.size_push]] at y
    omega
  exact ⟨rfl, hq h' tk' (hp.objs.size + 1) dx ⟨old, Nat.le_succ _, ⟨_, hx⟩, z, dne, hns⟩⟩
end
end XL

set_option Elab.async false
set_option linter.all false
set_option maxRecDepth 100000
set_option maxHeartbeats 4000000
namespace XL
open PySem PySem.W PySem.Calls PyProof.Rows
/-! ### C(f = v): an error made by its field's name -/
section
variable {prog : Program} {w : World} {A : Around} {E : Value → Shared → Prop} {R : Result → Shared → Prop} {h : Heap} {g : Array GenState} {d : Drawn} {t : Nat} {os : OsState}
variable {nm q : Str} {C N : Addr} {bs bm : List Value} {hdct : Bool} {sn : List Str} {sub : List Value} {ab : Bool} {col : Option Bool} {dd : Option Addr} {k0 k1 k2 k3 k5 : Option Value}
theorem kw_check {M : Model} (hT : ∀ X : String, bm.contains (.type X) = tailX.contains (.type X)) {kws : List (Str × Value)} {Q : Unit → Shared → Prop}
    (hC : h.get? C = some (excClassObj nm q C N bs bm hdct sn sub ab col dd k0 k1 k2 k3 k5 "Exception.__new__")) (hq : Q () ⟨h, g, d, t, os⟩) :
    wpAny M A (checkBuiltinCall "Exception.__new__" ⟨[.ref C], kws⟩) Q E ⟨h, g, d, t, os⟩ := by
  have hB : (Value.ref C :: bm).contains (.type "Exception") = true := by rw [List.contains_cons, hT]; rfl
  have no := PySem.F.excBase_Exception.noStar
  simp only [checkBuiltinCall, PySem.F.excBase_Exception.newKind, PySem.F.excBase_Exception.newSplit, PySem.F.excBase_Exception.newRow]
  repeat (first
    | refine wpAny_loadPart_at hC ?_
    | (refine wpAny_isSubtype_exc hC ?_; rw [hB])
    | refine wpAny_staticBase_exc hC ?_
    | refine wpAny_madeBy_exc hC ?_
    | simp only [bne_self_eq_false, Bool.false_eq_true, if_false]
    | wp_step)
  exact hq
theorem kw_new (hT : ∀ X : String, bm.contains (.type X) = tailX.contains (.type X)) {kws : List (Str × Value)}
    (hC : h.get? C = some (excClassObj nm q C N bs bm hdct sn sub ab col dd k0 k1 k2 k3 k5 "Exception.__new__"))
    (hq : R (.ok (.ret (.ref (h.objs.size + 1)))) ⟨(h.push (kdv_tup [])).push (newX C h.objs.size none), g, d, t, os⟩) :
    codeAny (model prog w) A (.builtin "Exception.__new__" ⟨[.ref C], kws⟩) R ⟨h, g, d, t, os⟩ := by
  have hends := PySem.F.excBase_Exception.ends
  have hB : (Value.ref C :: bm).contains (.type "Exception") = true := by rw [List.contains_cons, hT]; rfl
  have hA : (Value.ref C :: bm).contains (.type "AttributeError") = false := by rw [List.contains_cons, hT]; rfl
  have hN : (Value.ref C :: bm).contains (.type "NameError") = false := by rw [List.contains_cons, hT]; rfl
  refine codeAny_builtinAt PySem.F.excBase_Exception.entry ?_
  unfold Builtin.«BaseException.__new__»
  refine PySem.wpAt_bind ?_
  show PySem.wpAt _ _ _ (stack >>= _) _ _ _
  refine PySem.wpAt_bind (PySem.wpAt_stack fun p below => PySem.wpAt_of_wpAny ?_)
  wp_walk
  refine PySem.wpAt_of_wpAny ?_
  rw [PySem.F.excBase_Exception.owner]
  repeat (first
    | with_reducible refine wpAny_madeHere_exc PySem.F.excBase_Exception.canon hC ?_
    | with_reducible refine wpAny_loadPart_at hC ?_
    | (with_reducible refine wpAny_isSubtype_exc hC ?_; first | rw [hB] | rw [hA] | rw [hN])
    | wp_step)
  show R _ _
  rw [Heap.size_push]
  exact hq
theorem kw_type (hT : ∀ X : String, bm.contains (.type X) = tailX.contains (.type X)) {kws : List (Str × Value)} {fI : Addr} {Q : Fin → Shared → Prop}
    (hC : h.get? C = some (excClassObj nm q C N bs bm hdct sn sub ab col dd k0 k1 k2 k3 k5 "Exception.__new__"))
    (hi : Looks (model prog w) h (typeLookup (.ref C) "__init__") (some (.ref fI))) (hb : ∀ self, Looks (model prog w) h (bindSpecial (.ref fI) self) (.ref fI, [self]))
    (hq : codeAny (model prog w) A (.call (.ref fI) ⟨[.ref (h.objs.size + 1)], kws⟩)
      (fun r s' => match r with | .ok (.ret v) => v = .none ∧ Q (.done (.ret (.ref (h.objs.size + 1)))) s' | .ok _ => False | .error e => E e s')
      ⟨(h.push (kdv_tup [])).push (newX C h.objs.size none), g, d, t, os⟩) :
    wpAny (model prog w) A (Builtin.«type.__call__» ⟨[.ref C], kws⟩) Q E ⟨h, g, d, t, os⟩ := by
  repeat (first
    | with_reducible refine wpAny_loadPart_at hC ?_
    | with_reducible refine wpAny_madeBy_exc hC ?_
    | wp_step)
  refine codeAny_call_builtin_code (Code.quiet_builtin _ PySem.F.excBase_Exception.quiet) (kw_check hT hC ?_)
  refine kw_new hT hC ?_
  show wpAny _ _ _ _ _ _
  have k : ∀ b o, h.get? b = some o → ((h.push (kdv_tup [])).push (newX C h.objs.size none)).get? b = some o := fun b o e => Heap.get?_push_of_some _ (Heap.get?_push_of_some _ e)
  have hC1 := k _ _ hC
  have hget : ((h.push (kdv_tup [])).push (newX C h.objs.size none)).get? (h.objs.size + 1) = some (newX C h.objs.size none) := by heap_get
  have hcC : (Value.ref C :: bm).contains (.ref C) = true := by simp
  have i1 := hi.keeps k
  have b1 := (hb (.ref (h.objs.size + 1))).keeps k
  unfold isInstance
  repeat (first
    | with_reducible refine wpAny_loadPart_at hget ?_
    | (with_reducible refine wpAny_isSubtype_exc hC1 ?_; rw [hcC])
    | wp_step)
  show wpAny _ _ (typeLookup (.ref C) _) _ _ _
  refine i1.at ?_
  refine wpAny_holding (wpAny_bind (b1.at ?_))
  refine wpAny_bind (wpAny_call (codeAny_mono hq fun r s' z => ?_))
  cases r with
  | error e => exact z
  | ok fl =>
    cases fl with
    | ret v =>
      obtain ⟨rfl, z⟩ := z
      first
        | exact wpAny_pure (wpAny_pure z)
        | (wp_walk; exact z)
    | next => exact z.elim
    | brk => exact z.elim
    | cont => exact z.elim
theorem kw_ask {M : Model} {kws : List (Str × Value)} {Q : Unit → Shared → Prop} (hC : h.get? C = some (excClassObj nm q C N bs bm hdct sn sub ab col dd k0 k1 k2 k3 k5 "Exception.__new__"))
    (hq : Q () ⟨h, g, d, t, os⟩) : wpAny M A (checkBuiltinCall "type.__call__" ⟨[.ref C], kws⟩) Q E ⟨h, g, d, t, os⟩ := by
  have f3 := tc_sub
  have hTy : (⟨h, g, d, t, os⟩ : Shared).TypeIs (.ref C) "type" := ⟨_, hC, rfl⟩
  simp only [checkBuiltinCall, tc_kind, tc_split]
  repeat (any_goals (first
    | assumption
    | with_reducible refine wpAny_loadPart_at hC ?_
    | with_reducible refine wpAny_onRaise ?_
    | with_reducible refine wpAny_map ?_
    | wp_step))
theorem kw_call (hT : ∀ X : String, bm.contains (.type X) = tailX.contains (.type X)) {kws : List (Str × Value)} {fI : Addr}
    (hC : h.get? C = some (excClassObj nm q C N bs bm hdct sn sub ab col dd k0 k1 k2 k3 k5 "Exception.__new__"))
    (hi : Looks (model prog w) h (typeLookup (.ref C) "__init__") (some (.ref fI))) (hb : ∀ self, Looks (model prog w) h (bindSpecial (.ref fI) self) (.ref fI, [self]))
    (hq : codeAny (model prog w) (A.under (.builtin "type.__call__" ⟨[.ref C], kws⟩)) (.call (.ref fI) ⟨[.ref (h.objs.size + 1)], kws⟩) (InitBack (h.objs.size + 1) R)
      ⟨(h.push (kdv_tup [])).push (newX C h.objs.size none), g, d, t, os⟩) :
    codeAny (model prog w) A (.call (.ref C) ⟨[], kws⟩) R ⟨h, g, d, t, os⟩ := by
  have f1 := tc_lookup
  have f2 := tc_bind (.ref C)
  have hTy : (⟨h, g, d, t, os⟩ : Shared).TypeIs (.ref C) "type" := ⟨_, hC, rfl⟩
  refine codeAny_of_tree ?_
  show wpAny _ _ (callAny (.ref C) _) _ _ _
  repeat (any_goals (first
    | assumption
    | with_reducible refine wpAny_loadPart_at hC ?_
    | wp_step))
  refine ⟨rfl, ?_⟩
  refine codeAny_call_builtin_at (Code.quiet_builtin _ (by decide +kernel)) entry_typeCall (kw_ask hC (kw_type hT hC hi hb ?_))
  refine codeAny_mono hq fun r s' z => ?_
  cases r with
  | error e => exact z
  | ok fl => cases fl <;> exact z
end
end XL

set_option Elab.async false
set_option linter.all false
set_option maxRecDepth 100000
set_option maxHeartbeats 4000000
namespace XL
open PySem PySem.W PySem.Calls PyProof.Rows L2
/-! ### the rules over the layer -/
section
variable {prog : Program} {w : World} {A : Around} {R : Result → Shared → Prop} {K : Frag} {s : Shared} {C fI : Addr} {f : Str}
/-- C(f = v) -/
theorem made_k (T : XC K C) (I : XI K C fI f) {v : Value} (X : K.In s.heap) (hlim : s.heap.NoLimit) (hroom : A.depth + 1 < recursionLimit)
    (hq : ∀ h' tk e d, XMade s.heap h' e C d f v → R (.ok (.ret (.ref e))) { s with heap := h', toks := tk }) :
    codeAny (model prog w) A (.call (.ref C) ⟨[], [(f, v)]⟩) R s := by
  obtain ⟨nm, N, qn, bs, bm, hdct, sn, sub, ab, col, dd, k0, k1, k2, k3, k5, hC, hT⟩ := excInit_of X T.q
  obtain ⟨hp, g, dr, tk, os⟩ := s
  have k : ∀ b o, hp.get? b = some o → ((hp.push (kdv_tup [])).push (newX C hp.objs.size none)).get? b = some o := fun b o e => Heap.get?_push_of_some _ (Heap.get?_push_of_some _ e)
  have hget : ((hp.push (kdv_tup [])).push (newX C hp.objs.size none)).get? (hp.objs.size + 1) = some (newX C hp.objs.size none) := by heap_get
  refine kw_call hT hC (looks_findIn X I.iC) (fun self => bind_fn X self I.tC) ?_
  refine init_x (s := ⟨(hp.push (kdv_tup [])).push (newX C hp.objs.size none), g, dr, tk, os⟩) T I (X.keeps k) (lim_push hlim) hget hroom (.inr rfl) fun h' tk' dx ⟨k', hx, dn, dne, hns⟩ => ?_
  have old : ∀ b o, hp.get? b = some o → h'.get? b = some o := fun b o e => k' b o (Nat.ne_of_lt (Nat.lt_succ_of_lt (Heap.lt_size e))) (k b o e)
  have z : hp.objs.size ≤ dx := by
    have y := dn
    rw [show ((hp.push (kdv_tup [])).push (newX C hp.objs.size none)).objs.size = hp.objs.size + 1 + 1 by rw [Heap.size_push, Heap.size_push]] at y
    omega
  exact ⟨rfl, hq h' tk' (hp.objs.size + 1) dx ⟨old, Nat.le_succ _, ⟨_, hx⟩, z, dne, hns⟩⟩
end
/-- an error of the class at C stands at a, its field f holds v -/
def ErrAt (H : Hp) (C a : Addr) (f : Str) (v : V) : Prop := ∃ dx, H a = some (exo a C (some dx)) ∧ H dx = some (exd dx [(f, v)])
/-- the heap behind: the new error, its dict -/
def errH (H : Hp) (C a dx : Addr) (f : Str) (v : V) : Hp := upd (upd H dx (exd dx [(f, v)])) a (exo a C (some dx))
theorem errH_same {H : Hp} {C a dx : Addr} {f : Str} {v : V} (ha : H a = none) (hd : H dx = none) : Same H (errH H C a dx f v) := fun b o e => by
  unfold errH
  rw [upd_ne (ne_of_none e ha), upd_ne (ne_of_none e hd)]
  exact e
theorem errH_at {H : Hp} {C a dx : Addr} {f : Str} {v : V} (n : dx ≠ a) : ErrAt (errH H C a dx f v) C a f v := ⟨dx, upd_same, by unfold errH; rw [upd_ne n, upd_same]⟩
section
variable {X : Cx} {pins : List (Addr × Obj)} {σ : L2.St} {H : Hp} {s : Shared}
/-- a made error is tracked -/
theorem track_x {C e d : Addr} {f : Str} {v : V} {u : Value} {hp h' : Heap} {g : Array GenState} {dr : Drawn} {t t' : Nat} {os : OsState} (I : Inv X pins σ H ⟨hp, g, dr, t, os⟩) (M : XMade hp h' e C d f u) (ru : RelV v u) :
    H e = none ∧ H d = none ∧ Inv X pins σ (errH H C e d f v) ⟨h', g, dr, t', os⟩ := by
  have he : H e = none := I.hok.fresh M.ebig
  have hd : H d = none := I.hok.fresh M.dbig
  have ne : ∀ {b : Addr} {o : Obj}, hp.get? b = some o → b ≠ e := fun {b o} q => Nat.ne_of_lt (Nat.lt_of_lt_of_le (Heap.lt_size q) M.ebig)
  have nd : ∀ {b : Addr} {o : Obj}, hp.get? b = some o → b ≠ d := fun {b o} q => Nat.ne_of_lt (Nat.lt_of_lt_of_le (Heap.lt_size q) M.dbig)
  have U : Un X.fs [] H (errH H C e d f v) hp h' := {
    keep := fun b o q _ _ _ => M.keep b o q
    slot := fun b o q _ _ _ => ⟨o.slots, M.keep b o q⟩
    free := fun b o q n _ => by unfold errH; rw [upd_ne (ne q), upd_ne (nd q)]; exact n
    there := fun b o q _ => ⟨o, M.keep b o q⟩
    tups := fun b xs q => errH_same he hd b _ q
    frzs := fun b o v q => errH_same he hd b _ q
    tbls := fun b ps q => ⟨#[], by rw [errH_same he hd b _ q]; simp⟩ }
  refine ⟨he, hd, I.un (t' := t') U fun b o q => ?_⟩
  obtain ⟨t1, ho⟩ := M.obj
  by_cases hb : b = e
  · subst hb
    unfold errH at q
    rw [upd_same] at q
    cases q
    exact exo_ok ho
  · by_cases hbd : b = d
    · subst hbd
      unfold errH at q
      rw [upd_ne hb, upd_same] at q
      cases q
      exact exd_ok M.ns (relO_put (fs := []) ru fun g => True.intro)
    · unfold errH at q
      rw [upd_ne hb, upd_ne hbd] at q
      exact (I.hok b o q).stay (fun c v _ z => M.keep c v z) (fun c hc => errH_same he hd c _ hc) fun c xs hc => errH_same he hd c _ hc
/-- the reading of C(v), C(f = v) -/
def tMkX (C : Addr) (f : Str) (t : TA) : TE := fun σ H Q => t σ H fun vs H1 => ∃ v, vs = [v] ∧ ∀ a dx, H1 a = none → H1 dx = none → dx ≠ a → Q (.ref a) (errH H1 C a dx f v)
theorem pe_mkX {C fI : Addr} {f x : Str} {e : Expr} {t : TA} {p pos : Pos} {k : Nat} (T : XC X.K C) (I0 : XI X.K C fI f) (hr : Room k X.A) (hg : Gl X x) (hm : X.mg x = some (.ref C)) (ha : PA X [e] t)
    (hdb : (x == ("__debug__" : Str)) = false := by decide) (he : starEach (e :: []) X.env = (false, eval e X.env) :: starEach [] X.env := by rfl) (hpl : (backTo pos (starEach [] X.env)).any (·.1) = false := by rfl) :
    PE X (.Call (.Name x p) [e] [] pos) (tMkX C f t) := by
  refine ⟨fun pins s σ H Q I h => ?_⟩
  refine wpAny_Call_Name_kw (ld_glob I hg hm ?_ hdb)
  refine callWith_K (h₀ := X.base) I.ok.mod.kin T.kp (thn (ha.run pos pins s σ H _ I h) fun us s1 ⟨vs, H1, I1, r1, v, ev, q1⟩ => ⟨I1.kIn, ?_⟩) he hpl
  subst ev
  cases r1 with
  | cons rv rn =>
    cases rn
    show wpAny _ _ (call (.ref C) [_]) _ _ _
    have hlim := I1.nolimit
    obtain ⟨hp, g, dr, tk, os⟩ := s1
    refine wpAny_call (made_x T I0 I1.kIn hlim (by have := hr.dp; omega) fun h' tk' a d M => ?_)
    obtain ⟨na, nd, J⟩ := track_x (t' := tk') I1 M rv
    exact ⟨.ref a, _, J, rfl, q1 a d na nd M.dne⟩
theorem pe_mkXk {C fI : Addr} {f x : Str} {kws : List Keyword} {t : TA} {p pos : Pos} {k : Nat} (T : XC X.K C) (I0 : XI X.K C fI f) (hr : Room k X.A) (hg : Gl X x) (hm : X.mg x = some (.ref C)) (hkw : PK X kws t)
    (hall : (backToKw pos (keywordEach kws X.env)).all (·.1.isSome) = true := by rfl) (hks : (backToKw pos (keywordEach kws X.env)).filterMap (·.1) = [f] := by rfl) (hdb : (x == ("__debug__" : Str)) = false := by decide)
    (hpl : ((backTo pos (starEach [] X.env)).any (·.1) || (backToKw pos (keywordEach kws X.env)).any (·.1.isNone)) = false := by rfl) :
    PE X (.Call (.Name x p) [] kws pos) (tMkX C f t) := by
  refine ⟨fun pins s σ H Q I h => ?_⟩
  refine wpAny_Call_Name_kw (ld_glob I hg hm ?_ hdb)
  refine callWith_KW0 (h₀ := X.base) I.ok.mod.kin T.kp hall ?_ hpl
  refine thn (hkw.run pos pins s σ H _ I h) fun ws s1 ⟨zs, H1, I1, rz, v, ev, q1⟩ => ⟨I1.kIn, ?_⟩
  rw [hks]
  subst ev
  cases rz with
  | cons rv rn =>
    cases rn
    show wpAny _ _ (call (.ref C) [] [(f, _)]) _ _ _
    have hlim := I1.nolimit
    obtain ⟨hp, g, dr, tk, os⟩ := s1
    refine wpAny_call (made_k T I0 I1.kIn hlim (by have := hr.dp; omega) fun h' tk' a d M => ?_)
    obtain ⟨na, nd, J⟩ := track_x (t' := tk') I1 M rv
    exact ⟨.ref a, _, J, rfl, q1 a d na nd M.dne⟩
theorem xinst {C a dx : Addr} {fs : List (Str × V)} (I : Inv X pins σ H s) (ha : H a = some (exo a C (some dx))) (hd : H dx = some (exd dx fs)) :
    ∃ (t1 : Addr) (od : Obj) (mA : Str → Option Value), InstAt s.heap a (newX C t1 (some dx)) C (some od) ∧ (∀ n, lookIn n od = some (mA n)) ∧ ∀ n, RelO (fs.lookup n) (mA n) := by
  obtain ⟨t1, ho⟩ := exo_at I.hok ha
  obtain ⟨mA, hns, rel⟩ := exd_at I.hok hd
  obtain ⟨od, h1, h2⟩ := lookIn_ns hns
  exact ⟨t1, od, mA, ⟨ho, rfl, rfl, h1⟩, h2, rel⟩
/-- e.f, e an error that stands tracked -/
def tXat (K : Frag) (f : Str) (te : TE) : TE := fun σ H Q => te σ H fun x H1 => ∃ (a C : Addr) (v : V), x = .ref a ∧ XC K C ∧ findIn K (.ref C) f = some none ∧ ErrAt H1 C a f v ∧ Q v H1
theorem pe_xat {e : Expr} {f : Str} {te : TE} {pos : Pos} (he : PE X e te) (hb : attributeBase e f X.env (eval e X.env) = eval e X.env := by rfl) : PE X (.Attribute e f pos) (tXat X.K f te) := by
  refine ⟨fun pins s σ H Q I h => ?_⟩
  refine attr_of hb (thn (he.run pins s σ H _ I h) fun u s1 hh => ?_)
  obtain ⟨x, H1, I1, rx, a, C, v, ex, T, hno, ⟨dx, ea, ed⟩, q⟩ := hh
  subst ex
  obtain rfl : u = Value.ref a := rx
  obtain ⟨t1, od, mA, J, hl, rel⟩ := xinst I1 ea ed
  have r0 := rel f
  have e0 : ([(f, v)] : List (Str × V)).lookup f = some v := by simp [List.lookup]
  rw [e0] at r0
  obtain ⟨u, hu, ru⟩ := RelO.some_of (v := v) (o := mA f) r0
  exact HandSPX.exc_get I1.kIn J T.ga T.gg T.ex (findObj_own T.hd hno rfl (by rw [hl, hu])) (handed_of ru) ⟨v, H1, I1.tok _, ru, q⟩
/-- isinstance(e, c), e an error that stands tracked, with its dict or without -/
def rIsX (K : Frag) : List V → Hp → VK → Prop := fun xs H Q => ∃ (a C : Addr) (c : V) (u : Value) (b : Bool), xs = [.ref a, c] ∧ XC K C ∧ (H a = some (exo a C none) ∨ ∃ f v, ErrAt H C a f v) ∧ ClsV c u ∧ kitOne K (.ref C) u = some b ∧ Q (.bl b) H
theorem call_isX : CallR X (.builtin "isinstance") (rIsX X.K) := by
  intro pins s σ H xs us Q I r h
  obtain ⟨a, C, c, u, b, rfl, T, hx, kc, e, q⟩ := h
  obtain ⟨u1, u2, rfl, r1, r2⟩ := vals2 r
  cases (show u1 = Value.ref a from r1)
  have e2 := kc.eq r2
  subst e2
  have hcl : (clsIn X.K C).isSome = true := by
    obtain ⟨cd, hc, _⟩ := any_some T.hd
    rw [hc]
    rfl
  rcases hx with hx | ⟨f, v, dx, hx, hd⟩
  · obtain ⟨t1, ho⟩ := exo_at I.hok hx
    have J : InstAt s.heap a (newX C t1 none) C none := ⟨ho, rfl, rfl, trivial⟩
    exact kia_one (kitx_exc hcl T.ga T.gg T.ex T.cc T.gd T.tk T.mo) I.kIn J e (fun z => nomatch z) fun tk => ⟨.bl b, H, I.tok tk, rfl, q⟩
  · obtain ⟨t1, od, mA, J, _⟩ := xinst I hx hd
    exact kia_one (kitx_exc hcl T.ga T.gg T.ex T.cc T.gd T.tk T.mo) I.kIn J e (fun z => nomatch z) fun tk => ⟨.bl b, H, I.tok tk, rfl, q⟩
end
end XL

set_option Elab.async false
set_option linter.all false
set_option maxRecDepth 100000
set_option maxHeartbeats 4000000
namespace GD
open PySem L2 PyProof.Rows
/-! ### promises of defs that show objects (repr): nothing is being shown where they run -/
/-- a def's promise where no guard is set -/
structure FnG (P : Program) (w : World) (K : PySem.W.Frag) (mg : Str → Option Value) (base : Heap) (CX : CXT) (k : Nat) (f : Addr) (fd : FuncData) (ps : List Str) (sp : Sp) : Prop where
  len : ∀ vs H Q E, sp vs H Q E → vs.length = ps.length
  run : ∀ (A : Around), A.guards = some [] → ∀ (outer : List Env) (s : Shared) (H : Hp) (args : Args) (us : List Value) (vs : List V) (Q : VK) (E : XK), Room k A →
    Env0 P w K mg base A outer s H → BindsTo s fd args (ps.zip us) → Vals vs us → sp vs H Q E → codeAny (model P w) A (.call (.ref f) args) (CR CX outer P w H s Q E) s
theorem FnG.of {P : Program} {w : World} {K : PySem.W.Frag} {mg : Str → Option Value} {base : Heap} {CX : CXT} {k : Nat} {f : Addr} {fd : FuncData} {ps : List Str} {sp : Sp} (F : FnOk P w K mg base CX k f fd ps sp) : FnG P w K mg base CX k f fd ps sp :=
  ⟨F.len, fun A _ => F.run A⟩
section
variable {P : Program} {w : World} {K : PySem.W.Frag} {mg : Str → Option Value} {base : Heap}
/-- a def by its body -/
theorem ok_guard {x qual : Str} {st : Stmt} {f : Addr} {fd : FuncData} {N ps : List Str} {k : Nat} {sp : Sp} {CX : CXT} (F : Fun K x qual st f fd) (S : FnScope N ps (defScope st)) (len : ∀ vs H Q E, sp vs H Q E → vs.length = ps.length)
    (body : ∀ (cdv : Value) (A : Around) (outer : List Env) (s : Shared) (H : Hp) (vs : List V) (Q : VK) (E : XK), A.guards = some [] → Room k (A.deeper (envOfC qual (defScope st) s.heap.objs.size f cdv)) → sp vs H Q E →
      ∃ t, PSs (cxOf CX P w K mg base N qual (defScope st) f cdv A outer s H E) (defBody st) t ∧ t { nx := fun _ H' => Q .non H', rt := Q } (start N vs) H) :
    FnG P w K mg base CX (k + 1) f fd ps sp := by
  obtain ⟨oc, od, kV, doc, pm, an, cdv, ct, osl, rfl, lk, hcd⟩ := F.ex
  refine ⟨len, fun A hgd outer s H args us vs Q E hr e0 hb r hsp => ?_⟩
  have hl := len _ _ _ _ hsp
  have keepB : ∀ (b : Addr) (o : Obj), base.get? b = some o → s.heap.get? b = some o := fun b o e => (e0.bs b o e).1
  have KX : K.In s.heap := e0.mod.kin.keeps keepB
  have kinds : ∀ y ∈ ps.zip us, (defScope st).names.lookup y.1 = some .local ∨ ((defScope st).names.lookup y.1 = some .cell ∧ ((cellsFrom (s.heap.objs.size + 1) (defScope st).names []).lookup y.1).isSome = true) := by
    intro ⟨n, v⟩ hy
    have hm := (List.of_mem_zip hy).1
    exact (S.par n hm).elim .inl fun q => .inr ⟨q, PySem.W.cellsFrom_some _ _ _ (.inl q)⟩
  refine codeAny_call_function hr.depth (KX _ _ lk) rfl S.co S.gen rfl (PySem.W.codeRec_of KX hcd) (hb _ _ _ _ ?_)
  refine wpAny_newFunctionEnv_cells S.kind kinds fun env he s1 x => ?_
  subst he
  refine ⟨(e0.mod.nolimit.keeps keepB).keeps x.toInCall.keep, codeAny_func ?_⟩
  obtain ⟨t, ht, hq⟩ := body cdv A outer s H vs Q E hgd (hr.deeper _) hsp
  have I := inv_start (CX := CX) (E := E) S hr.hd e0 hl r x
  refine wpAny_mono (ht.run [] s1 (start N vs) H _ I hq) (fun fl s' hs => ?_) fun e s' hs => hs
  cases fl with
  | next =>
    obtain ⟨σ', H', J, q⟩ := hs
    exact ⟨.non, H', J.os, J.bare, J.base, J.hok, rfl, q⟩
  | ret u =>
    obtain ⟨v, σ', H', J, rv, q⟩ := hs
    exact ⟨v, H', J.os, J.bare, J.base, J.hok, rv, q⟩
  | brk => exact hs.elim fun _ z => z.elim fun _ z => z.2.elim
  | cont => exact hs.elim fun _ z => z.elim fun _ z => z.2.elim
end
section
variable {X : Cx} {CX : CXT} {k : Nat} {f : Addr} {fd : FuncData} {ps : List Str} {sp : Sp} {E : XK} {x : Str} {p pos : Pos} {e : Expr} {es : List Expr} {t : TA}
/-- f(e, ..), where nothing is being shown -/
theorem pe_callG (hgd : X.A.guards = some []) (F : FnG X.prog X.w X.K X.mg X.base CX k f fd ps sp) (hr : Room k X.A) (hg : Gl X x) (hm : X.mg x = some (.ref f)) (hk : PySem.W.keepIn X.K (.ref f) = true) (hb : Binds X.K fd ps []) (hx : Passes CX X E)
    (ha : PA X (e :: es) t) (hdb : (x == ("__debug__" : Str)) = false := by decide) (he : starEach (e :: es) X.env = (false, eval e X.env) :: starEach es X.env := by rfl)
    (hpl : (backTo pos (starEach es X.env)).any (·.1) = false := by rfl) : PE X (.Call (.Name x p) (e :: es) [] pos) (tCall sp [] E t) := by
  refine ⟨fun pins s σ H Q I h => ?_⟩
  refine wpAny_Call_Name_kw (ld_glob I hg hm ?_ hdb)
  refine PySem.W.callWith_K (h₀ := X.base) I.ok.mod.kin hk (thn (ha.run pos pins s σ H _ I h) fun us s1 ⟨vs, H1, I1, r, q⟩ => ⟨I1.kIn, ?_⟩) he hpl
  have q' : sp (vs ++ []) H1 Q E := q
  rw [List.append_nil] at q'
  have hl : (us ++ []).length = ps.length := by
    rw [List.append_nil, ← Paired.length r]
    exact F.len _ _ _ _ q'
  have hbs := hb s1 us I1.kIn hl
  rw [List.append_nil] at hbs
  refine wpAny_call (codeAny_mono (F.run X.A hgd X.stack s1 H1 ⟨us, []⟩ us vs Q E hr I1.env0 hbs r q') fun r' s' hq => ?_)
  cases r' with
  | error e => exact hx pins σ H1 s1 e s' I1 hq
  | ok fl =>
    cases fl with
    | ret u => exact I1.after hq
    | next => exact hq.elim
    | brk => exact hq.elim
    | cont => exact hq.elim
end
/-! ### the law's own end, where its def's promise is of this kind -/
theorem law_guard {P : Program} {w : World} {K : PySem.W.Frag} {mg mb : Str → Option Value} {k : Nat} {fa a : Addr} {fd : FuncData} {x : Str} {sp : Sp} {s₁ : Shared} {vs : List Value} {ns : List Int}
    (KX : K.In s₁.heap) (hns : s₁.heap.Ns mainGlobals mg) (hb : s₁.heap.Ns builtinsNs mb) (hbb : ∀ x : Str, x ≠ "__name__" → mb x = bootBuiltins x) (hlim : s₁.heap.NoLimit) (hg : s₁.gens = #[])
    (ha : s₁.heap.get? a = some { cls := .type "list", data := .seq vs.toArray }) (hi : IntsAre vs ns) (hl : ns.length ≤ sizeLine) (hr : Room k callerA)
    (F : ∀ base : Heap, K.In base → base.Ns mainGlobals mg → FnG P w K mg base CX0 k fa fd [x] sp) (hbind : ∀ (s : Shared) (u : Value), BindsTo s fd ⟨[u], []⟩ [(x, u)])
    (hsp : ∀ H : Hp, Only H → SqL K H a (ns.map V.int) → sp [.ref a] H (fun v _ => v = .bl true) fun _ _ _ => False) :
    codeAny (model P w) callerA (.call (.ref fa) ⟨[.ref a], []⟩) (fun r s' => r = .ok (.ret (.bool true)) ∧ OldK s₁.heap s'.heap ∧ s'.os = s₁.os ∧ AllBare s'.gens) s₁ := by
  have rv := vals_ints hi
  -- the law's def, from any abstract heap that tracks at most the script
  have go : ∀ H : Hp, Only H → SqL K H a (ns.map V.int) → HOk P w H s₁.heap → (∀ b, H b ≠ none → b = a) → (H a ≠ none → K.lookup a = none) →
      codeAny (model P w) callerA (.call (.ref fa) ⟨[.ref a], []⟩) (fun r s' => r = .ok (.ret (.bool true)) ∧ OldK s₁.heap s'.heap ∧ s'.os = s₁.os ∧ AllBare s'.gens) s₁ := by
    intro H hO hS hok only notK
    have free : ∀ (b : Addr) (o : Obj), s₁.heap.get? b = some o → (b = a → False) → (hidT s₁.heap H).get? b = some o := fun b o e n => hidT_get e (by
      cases q : H b with
      | none => rfl
      | some u => exact (n (only b (by rw [q]; exact fun z => nomatch z))).elim)
    have space : ∀ (b : Addr) (m : Str → Option Value), s₁.heap.Ns b m → (hidT s₁.heap H).Ns b m := by
      rintro b m ⟨o, es, ep, e, d, r⟩
      refine ⟨o, es, ep, free b o e fun z => ?_, d, r⟩
      subst z
      rw [ha] at e
      cases e
      exact nomatch (show Data.seq vs.toArray _ = Data.dict es ep from d)
    have kb : K.In (hidT s₁.heap H) := fun b o e => hidT_get (KX b o e) (by
      cases q : H b with
      | none => rfl
      | some u =>
        have z := only b (by rw [q]; exact fun z => nomatch z)
        subst z
        rw [notK (by rw [q]; exact fun z => nomatch z)] at e
        cases e)
    have md : Mod K mg (hidT s₁.heap H) := by
      obtain ⟨mc, h1, h2⟩ := hlim
      exact ⟨kb, space _ _ hns, ⟨mb, space _ _ hb, hbb⟩, mc, space _ _ h1, h2⟩
    have e0 : Env0 P w K mg (hidT s₁.heap H) callerA [] s₁ H := ⟨rfl, md, fun b o e => of_hidT e, Nat.le_of_eq (hidT_size _ _), trivial, (fun b hb => nomatch (show b ∈ ([] : List Addr) from hb)), hok, .of_eq hg⟩
    have run := (F _ kb (space _ _ hns)).run callerA rfl [] s₁ H ⟨[.ref a], []⟩ [.ref a] [.ref a] (fun v _ => v = .bl true) (fun _ _ _ => False) hr e0 (hbind s₁ (.ref a)) (.cons rfl .nil) (hsp H hO hS)
    refine codeAny_mono run fun r s' h => ?_
    cases r with
    | error e => exact h.elim
    | ok fl =>
      cases fl with
      | next => exact h.elim
      | brk => exact h.elim
      | cont => exact h.elim
      | ret u =>
        obtain ⟨v, H', os, bare, un, hok', r', q⟩ := h
        cases (show v = .bl true from q)
        cases (show u = Value.bool true from r')
        refine ⟨rfl, OldK.of_keep fun b o e => ?_, os, bare⟩
        rcases hO b with z | ⟨ob, xs, z⟩
        · exact un.keep b o e z (fun y => nomatch y) (fun y => nomatch y)
        · have e1 := (hok b _ z).1
          have e2 := (hok' b _ (un.frzs b ob _ z)).1
          rw [e] at e1
          cases e1
          exact e2
  cases hk : K.lookup a with
  | none =>
    let H : Hp := fun b => if b = a then some (.frz { cls := .type "list", data := .seq vs.toArray } (.lst (ns.map V.int))) else none
    have at_ : H a = some (.frz { cls := .type "list", data := .seq vs.toArray } (.lst (ns.map V.int))) := if_pos rfl
    have off : ∀ b, b ≠ a → H b = none := fun b n => if_neg n
    refine go H (fun b => ?_) (.inl (.inr ⟨_, at_⟩)) (fun b u z => ?_) (fun b z => ?_) fun _ => hk
    · by_cases e : b = a
      · subst e; exact .inr ⟨_, _, at_⟩
      · exact .inl (off b e)
    · by_cases e : b = a
      · subst e
        rw [at_] at z
        cases z
        exact ⟨ha, by rw [List.length_map]; exact hl, vs, _, rv, ha⟩
      · rw [off b e] at z
        cases z
    · by_cases e : b = a
      · exact e
      · exact (z (off b e)).elim
  | some o =>
    have e := KX a o hk
    rw [ha] at e
    cases e
    exact go (fun _ => none) (fun _ => .inl rfl) (.inr ⟨_, vs.toArray, _, hk, rfl, rfl, rfl, by rw [List.size_toArray, hi.length]; exact hl, by simpa using rv⟩) (fun b u z => nomatch (show (none : Option HO) = some u from z)) (fun b z => (z rfl).elim) fun z => (z rfl).elim
/-- the last step of a row -/
theorem walk_guard {l : PySem.W.OpenLaw} {n k : Nat} {q : Program} {loose : List Str} {XP : (Str → Option Value) → Heap → Prop} {YP : World → Heap → Prop} {d : DefRec} {K : Params → PySem.W.Frag} {sp : World → Sp} {x : Str}
    (hn : l.most = some n) (hn2 : n ≤ sizeLine) (hdf : d.params.defaults = []) (hr : Room k callerA) (hY : ∀ (w : World) (h : Heap), YP w h → (K w.params).In h)
    (F : ∀ (w : World) (mg : Str → Option Value) (fa : Addr) (h : Heap), (K w.params).In h → h.Ns mainGlobals mg → mg d.name = some (.ref fa) →
      ∃ fd : FuncData, (∀ (s : Shared) (u : Value), BindsTo s fd ⟨[u], []⟩ [(x, u)]) ∧ ∀ base : Heap, (K w.params).In base → base.Ns mainGlobals mg → FnG l.prog w (K w.params) mg base CX0 k fa fd [x] (sp w))
    (hsp : ∀ (w : World) (H : Hp) (a : Addr) (ns : List Int), ns.length ≤ n → Only H → SqL (K w.params) H a (ns.map V.int) → sp w [.ref a] H (fun v _ => v = .bl true) fun _ _ _ => False) :
    PySem.W.WalkO q loose XP YP l.row.toRowW d [] (fun f vs => PySem.call f vs) := by
  refine Att.attach_call hn hdf fun w s₀ s₁ mg mb fa o pm cd doc a vs ns G Y ho hd hcd hmg hobj hints hlen hg => ?_
  have KX := hY w _ Y
  obtain ⟨fd, hb, hF⟩ := F w mg fa _ KX G.T.g hmg
  exact law_guard KX G.T.g G.T.b G.T.builtins G.T.nolimit hg hobj hints (Nat.le_trans hlen hn2) hr hF hb fun H hO hS => hsp w H a ns hlen hO hS
end GD

set_option Elab.async false
set_option linter.all false
set_option maxRecDepth 100000
set_option maxHeartbeats 4000000
namespace GD
open PySem L2 PyProof.Rows
/-! ### repr, where nothing is being shown -/
/-- what is shown: data without dicts, or an empty dict -/
inductive RV (K : PySem.W.Frag) (H : Hp) : V → PyData → Prop where
  | dat {v : V} {d : PyData} (h : Dp K H v d) (n : d.hasDict = false) : RV K H v d
  | emp {a : Addr} (h : H a = some (.dK [])) : RV K H (.ref a) (.dict [])
def rRepr (K : PySem.W.Frag) : List V → Hp → VK → Prop := fun xs H Q => ∃ (x : V) (d : PyData), xs = [x] ∧ RV K H x d ∧ d.showable = true ∧ d.depth ≤ 64 ∧ d.shown.length ≤ sizeLine ∧ Q (.str d.shown) H
theorem call_repr {X : Cx} (hgd : X.A.guards = some []) (hu : X.A.units + 100 < cLine) : CallR X (.builtin "repr") (rRepr X.K) := by
  intro pins s σ H xs us Q I r h
  obtain ⟨x, d, rfl, hd, sh, dep, sz, q⟩ := h
  obtain ⟨u, rfl, rx⟩ := vals1 r
  have fin : ∀ (h' : Heap) (tk : Nat) (t : Tok), (∀ b o, s.heap.get? b = some o → h'.get? b = some o) → EP X pins σ Q (.str d.shown t) { s with heap := h', toks := tk } :=
    fun h' tk t k => ⟨.str d.shown, H, I.kept (t' := tk) k, ⟨t, rfl⟩, q⟩
  cases hd with
  | dat hd nd =>
    cases hd with
    | non =>
      cases (show u = Value.none from rx)
      exact PySem.P.repr_of_none (fin s.heap _ _ fun _ _ e => e)
    | bl b =>
      cases (show u = Value.bool b from rx)
      refine PySem.P.repr_of_bool ?_
      cases b <;> exact fin s.heap _ _ fun _ _ e => e
    | int i =>
      obtain ⟨t, rfl⟩ := (show ∃ t, u = Value.int i t from rx)
      exact PySem.P.repr_of_int (of_decide_eq_true sh) (fin s.heap _ _ fun _ _ e => e)
    | str z =>
      obtain ⟨t, rfl⟩ := (show ∃ t, u = Value.str z t from rx)
      exact PySem.P.repr_of_str (fin s.heap _ _ fun _ _ e => e) sz
    | @lst a xs ds h1 h2 =>
      cases (show u = Value.ref a from rx)
      obtain ⟨as, R⟩ := Dp.reads I _ _ _ (.lst h1 h2) rx
      exact repr_of_reads' R sh (fun z => by rw [nd] at z; cases z) hgd (by omega) (fun _ _ e => e) (fun h' t tk k => fin h' tk t k) sz
    | @tup a xs ds h1 h2 =>
      cases (show u = Value.ref a from rx)
      obtain ⟨as, R⟩ := Dp.reads I _ _ _ (.tup h1 h2) rx
      exact repr_of_reads' R sh (fun z => by rw [nd] at z; cases z) hgd (by omega) (fun _ _ e => e) (fun h' t tk k => fin h' tk t k) sz
  | @emp a hd =>
    cases (show u = Value.ref a from rx)
    obtain ⟨_, ns, vs, kv, o, es, ep, h1, h2, h3⟩ := (show ObjOk X.prog X.w H s.heap a (.dK []) from I.hok a _ hd)
    cases kv
    obtain ⟨h3, _, h5, _⟩ := h3
    have e0 : es.toList = [] := by
      cases q : es.toList with
      | nil => rfl
      | cons y ys =>
        rw [q] at h5
        cases h5
    have R : Reads s.heap (.ref a) (.dict []) (a :: [] ++ []) := Reads.dict h1 h2.1 h3 (by rw [e0]; exact .nil) (by rw [e0]; exact .nil)
    refine repr_of_reads' R sh (fun _ z => ?_) hgd (by omega) (fun _ _ e => e) (fun h' t tk k => fin h' tk t k) sz
    have e1 : a = sysModules := (List.mem_singleton.mp (show sysModules ∈ [a] from by simpa using z)).symm
    rw [e1] at ns
    exact absurd ns (by decide)
end GD

set_option Elab.async false
set_option linter.all false
set_option maxRecDepth 100000
set_option maxHeartbeats 4000000
namespace XL
open PySem PySem.W PySem.Calls PyProof.Rows
/-! ### __init__(self): super().__init__() -/
def nA : Arguments := { posonlyargs := [], args := [{ arg := "self", annotation := none, pos := ⟨90, 17, 90, 21⟩ }], vararg := none, kwonlyargs := [], kw_defaults := [], kwarg := none, defaults := [] }
def nB : List Stmt := [.Expr (.Call (.Attribute (.Call (.Name "super" ⟨91, 8, 91, 13⟩) [] [] ⟨91, 8, 91, 15⟩) "__init__" ⟨91, 8, 91, 24⟩) [] [] ⟨91, 8, 91, 26⟩) ⟨91, 8, 91, 26⟩]
def nS : Scope := { kind := .function, names := [(PySem.Str.ofString "self", .local), (PySem.Str.ofString "__class__", .free), (PySem.Str.ofString "super", .globalImplicit)], isGenerator := false, isCoroutine := false, more := [] }
/-- what the written part says of such an __init__ -/
structure XN (prog : Program) (K : Frag) (C fI : Addr) : Prop where
  iC : findIn K (.ref C) "__init__" = some (some (.ref fI))
  tC : typeIn K (.ref fI) = some (.type "function")
  sup : ks_superIn K C C "__init__" = some (some (.builtin "Exception.__init__"))
  any : nsIn K cStatics "thirdparty.any" = some none
  glo : nsIn K mainGlobals "super" = some none
  sub : mroIn K C (.ref C) = some true
  subE : mroIn K C (.type "Exception") = some true
  top : (prog.main.scope.names.lookup ("super" : Str)).isSome = false
  fn : ∃ (oc : Value) (od : Option Addr) (doc pm : Value) (an : Option Addr) (cda cc : Addr) (ct : Value) (osl : Array (Option Value)) (qual : Str),
    K.lookup fI = some ⟨oc, od, .func (ksFn "__init__" qual nA nB nS .none .none doc pm an (.ref cda) ct cc), osl⟩ ∧ codeIn K (.ref cda) qual = true ∧
    (∃ (c1 : Value) (d1 : Option Addr) (vs : Array Value) (s1 : Array (Option Value)) (file : Str) (tf : Tok), K.lookup cda = some ⟨c1, d1, .fields vs, s1⟩ ∧ vs[2]? = some (.str file tf) ∧ ((prog.main.file : Str) == file) = true) ∧
    ∃ (c2 : Value) (d2 : Option Addr) (s2 : Array (Option Value)), K.lookup cc = some ⟨c2, d2, .cell (some (.ref C)), s2⟩
section
variable {prog : Program} {w : World} {A : Around} {R : Result → Shared → Prop} {K : Frag} {s : Shared} {C fI : Addr} {mg mb : Str → Option Value}
theorem init_n (T : XC K C) (I : XN prog K C fI) {x t0 : Addr} (X : K.In s.heap) (hg : s.heap.Ns mainGlobals mg) (hb : s.heap.Ns builtinsNs mb) (hbb : ∀ y : Str, y ≠ "__name__" → mb y = bootBuiltins y) (hlim : s.heap.NoLimit)
    (hx : s.heap.get? x = some (newX C t0 none)) (hroom : A.depth < recursionLimit)
    (hq : ∀ h' tk t1, (∀ b o, b ≠ x → s.heap.get? b = some o → h'.get? b = some o) → h'.get? x = some (newX C t1 none) → R (.ok (.ret .none)) { s with heap := h', toks := tk }) :
    codeAny (model prog w) A (.call (.ref fI) ⟨[.ref x], []⟩) R s := by
  obtain ⟨oc, od, doc, pm, an, cda, cc, ct, osl, qual, ho, hcd, ⟨c1, d1, vs, s1, file, tf, hcda, hvs, hfile⟩, c2, d2, s2, hcell⟩ := I.fn
  refine ks_codeAny_call_defAt (fd := ksFn "__init__" qual nA nB nS .none .none doc pm an (.ref cda) ct cc) (body := nB) (binds := [("self", .ref x)]) hroom (X _ _ ho) rfl hlim (codeRec_of X hcd) rfl (BindsTo.of_eq rfl) (show ∀ x ∈ nS.names, x.2 ≠ .cell by decide) (fun y hy => ?_) (fun h₀ hns hk => ?_)
  · cases List.mem_singleton.mp hy
    rfl
  have X0 : K.In h₀ := X.keeps hk
  have hx0 := hk _ _ hx
  show PySem.wpAt (model prog w) (A.deeper (ksEnv qual nS s.heap.objs.size fI (.ref cda) cc)) (.func nB (ksEnv qual nS s.heap.objs.size fI (.ref cda) cc)) (execs nB (ksEnv qual nS s.heap.objs.size fI (.ref cda) cc)) _ _ _
  refine ks_wpAt_execs_cons ?_
  refine ks_wpAt_Expr_any ?_
  refine ks_wpAt_MethodCall ?_
  obtain ⟨nm, N, qn, bs, bm, hdct, sn, sub, ab, col, dd, k0, k1, k2, k3, k5, hC, hT⟩ := excInit_of X0 T.q
  obtain ⟨cd, hc, hsup⟩ : ∃ cd, clsIn K C = some cd ∧ alongIn K "__init__" ((cd.mro.dropWhile (· != .ref C)).drop 1) = some (some (.builtin "Exception.__init__")) := by
    have y := I.sup
    unfold ks_superIn at y
    cases q : clsIn K C with
    | none => rw [q] at y; cases y
    | some cd => rw [q] at y; exact ⟨cd, rfl, y⟩
  obtain ⟨hp, g, d, t, os⟩ := s
  refine ks_wpAt_super_base (fd := ksFn "__init__" qual nA nB nS .none .none doc pm an (.ref cda) ct cc) (ar := { arg := "self", annotation := none, pos := ⟨90, 17, 90, 21⟩ }) rfl rfl (by decide) rfl (X0 _ _ ho) rfl rfl rfl (X0 _ _ hcda) rfl hvs hfile I.top ?_
  refine ks_loadName_global rfl rfl (loadGlobal_builtin (env := ksEnv qual nS hp.objs.size fI (.ref cda) cc) (hg.keeps hk) (mg_none_of X hg I.glo) (hb.keeps hk) ((hbb _ (by decide +kernel)).trans PyProof.Rows.Boot.«super») ⟨rfl, ?_⟩)
  refine wpAny_loadName_free rfl rfl rfl ⟨_, X0 _ _ hcell, rfl⟩ ?_
  refine wpAny_loadName_local rfl rfl hns rfl ?_
  refine ks_wpAny_isType_cls hC rfl ⟨rfl, ?_⟩
  refine ks_wpAny_call_super hC rfl hx0 rfl (fun c e => nomatch e) (looks_mroIn X0 I.sub) (fun h1 e k1 => ?_)
  have X1 := X0.keeps k1
  have J1 : InstAt h1 x (newX C t0 none) C none := ⟨k1 _ _ hx0, rfl, rfl, trivial⟩
  refine ESX.getMethod_super (K := K) (l₀ := cd.mro) (x := x) e (looks_opaque X1 I.any) (fun A Q E s k q => wpAny_bind ((looks_clsIn X1 hc) A _ E s k (wpAny_pure q))) rfl X1 hsup (ks_ne X1 J1 hc) (by decide) (J1.type.andThen (looks_mroIn X1 I.subE)) ?_
  have k2 : ∀ b o, h1.get? b = some o → (h1.push (ESX.bw x)).get? b = some o := fun b o e => Heap.get?_push_of_some _ e
  have hu : (h1.push (ESX.bw x)).get? h1.objs.size = some (ESX.bw x) := Heap.get?_push_at rfl rfl
  refine ESX.callWith_bw (x := x) rfl (evalArgs_empty ⟨hu, ?_⟩)
  refine ESX.call_bw (k2 _ _ (k1 _ _ hC)) (k2 _ _ (k1 _ _ hx0)) hu (by show 0 ≤ sizeLine; exact Nat.zero_le _) fun h2 t1 k3 he2 => ?_
  refine PySem.wpAt_of_wpAny (wpAny_execs_nil ?_)
  exact hq h2 _ t1 (fun b o nb q => k3 b o nb (k2 b o (k1 b o (hk b o q)))) he2
end
end XL

set_option Elab.async false
set_option linter.all false
set_option maxRecDepth 100000
set_option maxHeartbeats 4000000
namespace XL
open PySem PySem.W PySem.Calls PyProof.Rows L2
/-! ### C(), where C's __init__ asks its base's -/
section
variable {prog : Program} {w : World} {A : Around} {R : Result → Shared → Prop} {K : Frag} {s : Shared} {C fI : Addr} {mg mb : Str → Option Value}
theorem made_n (T : XC K C) (I : XN prog K C fI) (X : K.In s.heap) (hg : s.heap.Ns mainGlobals mg) (hb : s.heap.Ns builtinsNs mb) (hbb : ∀ y : Str, y ≠ "__name__" → mb y = bootBuiltins y) (hlim : s.heap.NoLimit) (hroom : A.depth + 1 < recursionLimit)
    (hq : ∀ h' tk e t1, (∀ b o, s.heap.get? b = some o → h'.get? b = some o) → s.heap.objs.size ≤ e → h'.get? e = some (newX C t1 none) → R (.ok (.ret (.ref e))) { s with heap := h', toks := tk }) :
    codeAny (model prog w) A (.call (.ref C) ⟨[], []⟩) R s := by
  obtain ⟨nm, N, qn, bs, bm, hdct, sn, sub, ab, col, dd, k0, k1, k2, k3, k5, hC, hT⟩ := excInit_of X T.q
  obtain ⟨hp, g, dr, tk, os⟩ := s
  have k : ∀ b o, hp.get? b = some o → ((hp.push (kdv_tup [])).push (newX C hp.objs.size none)).get? b = some o := fun b o e => Heap.get?_push_of_some _ (Heap.get?_push_of_some _ e)
  have hget : ((hp.push (kdv_tup [])).push (newX C hp.objs.size none)).get? (hp.objs.size + 1) = some (newX C hp.objs.size none) := by heap_get
  refine HandSPX.call_own PySem.F.excBase_Exception hT hC (looks_findIn X I.iC) (fun self => bind_fn X self I.tC) (Nat.zero_le _) ?_
  refine init_n (s := ⟨(hp.push (kdv_tup [])).push (newX C hp.objs.size none), g, dr, tk, os⟩) T I (X.keeps k) (hg.keeps k) (hb.keeps k) hbb (lim_push hlim) hget hroom fun h' tk' t1 k' hx => ?_
  exact ⟨rfl, hq h' tk' (hp.objs.size + 1) t1 (fun b o e => k' b o (Nat.ne_of_lt (Nat.lt_succ_of_lt (Heap.lt_size e))) (k b o e)) (Nat.le_succ _) hx⟩
end
section
variable {X : Cx} {pins : List (Addr × Obj)} {σ : L2.St} {H : Hp} {s : Shared}
def tMkN (C : Addr) : TE := fun _ H Q => ∀ a, H a = none → Q (.ref a) (upd H a (exo a C none))
theorem pe_mkN {C fI : Addr} {x : Str} {p pos : Pos} {k : Nat} (T : XC X.K C) (I0 : XN X.prog X.K C fI) (hr : Room k X.A) (hg : Gl X x) (hm : X.mg x = some (.ref C)) (hdb : (x == ("__debug__" : Str)) = false := by decide) :
    PE X (.Call (.Name x p) [] [] pos) (tMkN C) := by
  refine ⟨fun pins s σ H Q I h => ?_⟩
  refine wpAny_Call_Name_kw (ld_glob I hg hm ?_ hdb)
  refine callWith_K0 I.kIn T.kp ?_
  have hlim := I.nolimit
  have kx := I.kIn
  have kb : ∀ b o, X.base.get? b = some o → s.heap.get? b = some o := fun b o e => (I.env0.bs b o e).1
  obtain ⟨hk0, hns, ⟨mb, hb, hbb⟩, hl0⟩ := I.ok.mod
  have hg1 := hns.keeps kb
  have hb1 := hb.keeps kb
  obtain ⟨hp, g, dr, tk, os⟩ := s
  refine wpAny_call (made_n (mg := X.mg) (mb := mb) T I0 kx hg1 hb1 hbb hlim (by have := hr.dp; omega) fun h' tk' a t1 kp big hx => ?_)
  have na : H a = none := I.hok.fresh big
  exact ⟨.ref a, upd H a (exo a C none), I.laid (t' := tk') kp big (exo_ok hx), rfl, h a na⟩
/-- count of a list of truth values -/
def rCntB (K : Frag) : V → List V → Hp → VK → Prop := fun x xs H Q => ∃ (p : Addr) (bs : List Bool) (b : Bool), x = .ref p ∧ xs = [.bl b] ∧ SqL K H p (bs.map V.bl) ∧ Q (.int ((bs.countP fun y => y == b : Nat) : Int)) H
theorem dp_bls {K : Frag} {H : Hp} : ∀ bs : List Bool, DpAll K H (bs.map V.bl) (bs.map PyData.bool)
  | [] => .nil
  | b :: r => .cons (.bl b) (dp_bls r)
theorem plain_bls : ∀ bs : List Bool, PyData.plainAll (bs.map PyData.bool) = true
  | [] => rfl
  | _ :: r => plain_bls r
theorem deep_bls : ∀ bs : List Bool, PyData.depthAll (bs.map PyData.bool) = 0
  | [] => rfl
  | _ :: r => by
    show max 0 (PyData.depthAll (r.map PyData.bool)) = 0
    rw [deep_bls r]
    rfl
theorem mt_countB (hu : X.A.units + 1 < cLine) : MtR X "list.count" (rCntB X.K) := by
  intro pins s σ H x xs v us Q I rx rxs h
  obtain ⟨p, bs, b, rfl, rfl, hs, q⟩ := h
  cases (show v = Value.ref p from rx)
  obtain ⟨u, rfl, ru⟩ := rxs.one
  cases (show u = Value.bool b from ru)
  obtain ⟨its, rv, hl, _⟩ := I.list hs
  obtain ⟨as, R⟩ := Dp.readsAll I _ _ _ (dp_bls bs) rv
  refine SeqAt.count_list_data hl.isList (by simpa using R) (Reads.bool b) (plain_bls bs) rfl (by rw [deep_bls]; show X.A.units + 1 + min 0 0 < cLine; omega) ?_
  have e : (bs.map PyData.bool).countP (fun y => PyData.eqv y (.bool b)) = bs.countP fun y => y == b := by
    rw [List.countP_map]
    rfl
  rw [e]
  exact ⟨.int _, H, I.tok _, ⟨_, rfl⟩, q⟩
end
end XL

set_option Elab.async false
set_option linter.all false
set_option maxRecDepth 100000
set_option maxHeartbeats 4000000
namespace KT
open PySem L2 PyProof.Rows XL GD
/-! ### the text by places -/
def top (i : Nat) : Stmt := PySem.Challenge.pw_samebytes_k10_classes_of_errors.main.body.getD i (.Pass ⟨0, 0, 0, 0⟩)
abbrev sPool : Stmt := top 25
abbrev sDraw : Stmt := top 26
abbrev sPos : Stmt := top 27
abbrev sNam : Stmt := top 28
abbrev sWhich : Stmt := top 29
abbrev sMade : Stmt := top 30
abbrev sLaw : Stmt := top 31
structure Txt (mg : Str → Option Value) : Prop where
  isi : mg "isinstance" = none
  int : mg "int" = none
  len : mg "len" = none
  abs : mg "abs" = none
  sum : mg "sum" = none
  repr : mg "repr" = none
  enumerate : mg "enumerate" = none
  lookupError : mg "LookupError" = none
  valueError : mg "ValueError" = none
  typeError : mg "TypeError" = none
theorem same_upd {H : Hp} {p : Addr} {o : HO} (h : H p = none) : Same H (upd H p o) := fun b x e => by
  rw [upd_ne (ne_of_none e h)]
  exact e
section
variable {P : Program} {w : World} {K : PySem.W.Frag} {mg : Str → Option Value} {base : Heap}
/-! ### the law's pool of numbers, and a draw of it: bounds alone -/
def PoolAt (H : Hp) (p : Addr) : Prop := ∃ x y : Int, H p = some (.lst [.int x, .int y]) ∧ 0 ≤ x ∧ 0 ≤ y ∧ y < 2147483648
theorem emod_pos {a b : Int} (h : 0 < b) : 0 ≤ a % b ∧ a % b < b := ⟨Int.emod_nonneg a (by omega), Int.emod_lt_of_pos a h⟩
theorem cut_map (ns : List Int) (lo hi : Option Int) : ∃ ms : List Int, cutV (ns.map V.int) lo hi = ms.map V.int := by
  unfold cutV
  rw [← List.map_drop, ← List.map_take]
  exact ⟨_, rfl⟩
def spPool (K : PySem.W.Frag) : Sp := fun vs H Q _ => ∃ (a : Addr) (ns : List Int) (k : Nat), vs = [.ref a, .int (k : Int)] ∧ SqL K H a (ns.map V.int) ∧ k ≤ 1000 ∧
  ∀ H' p, Same H H' → H p = none → PoolAt H' p → Q (.ref p) H'
theorem scPo : FnScope ["_law_script", "_law_k", "_law_cell", "_law_great", "_law_small", "_law_mixed"] ["_law_script", "_law_k"] (defScope sPool) := ⟨rfl, rfl, rfl, by decide +kernel, rfl, by decide +kernel, by decide +kernel⟩
theorem ok_pool {f : Addr} {fd : FuncData} (F : Fun K "_law_pool" "_law_pool" sPool f fd) (T : Txt mg) : FnOk P w K mg base CX0 1 f fd ["_law_script", "_law_k"] (spPool K) := by
  refine F.ok scPo (fun vs H Q E h => ?_) (fun cdv A outer s H vs Q E hr h => ?_)
  · obtain ⟨a, ns, k, rfl, _⟩ := h
    rfl
  · obtain ⟨a, ns, k, rfl, hS, hk, q⟩ := h
    refine ⟨_, pss_cons (ps_set (i := 2) scPo.nd rfl (Or.inl rfl) (pe_op op_add (pe_op op_mul pe_int (pe_callB (cr_sum rfl) (by rfl) T.sum boot_sum (pa_cons (pe_slice sl_list (pv 0) po_none (po_some pe_int)) pa_nil))) (pv 1)))
      (pss_cons (ps_if (pt_cmpR op_lt (pv 1) (pe_callB call_len_seq (by rfl) T.len PySem.boot_len (pa_cons (pv 0) pa_nil)) (nomark _)) (pss_one (ps_set (i := 2) scPo.nd rfl (Or.inl rfl) (pe_ix ix_list (pv 0) (pv 1) (fun _ _ => rfl)))) pss_nil)
      (pss_cons (ps_set (i := 3) scPo.nd rfl (Or.inl rfl) (pe_callB call_abs (by rfl) T.abs boot_abs (pa_cons (pe_callTy call_int1 (by rfl) T.int boot_int (pa_cons (pv 2) pa_nil)) pa_nil)))
      (pss_cons (ps_set (i := 4) scPo.nd rfl (Or.inl rfl) (pe_op op_mod (pe_callTy call_int1 (by rfl) T.int boot_int (pa_cons (pv 3) pa_nil)) pe_int))
      (pss_cons (ps_set (i := 5) scPo.nd rfl (Or.inl rfl) (pe_op op_mod (pe_callTy call_int1 (by rfl) T.int boot_int (pa_cons
          (pe_op op_mul (pe_op op_add (pe_op op_add (pe_op op_add (pv 4) (pe_op op_mul (pe_op op_mul pe_int (pv 1)) (pv 1))) (pe_op op_mul pe_int (pv 1))) pe_int) pe_int) pa_nil)) pe_int))
      (pss_one (ps_ret (pe_lst (pa_cons (pe_op op_mul (pv 3) (pe_callTy call_int1 (by rfl) T.int boot_int (pa_cons (pe_cmpR op_ge (pv 3) (pe_op op_pow pe_int pe_int) (nomark _)) pa_nil)))
        (pa_cons (pe_op op_mod (pe_callTy call_int1 (by rfl) T.int boot_int (pa_cons (pe_op op_mul (pv 5) (pv 5)) pa_nil)) pe_int) pa_nil))))))))), ?_⟩
    refine ⟨.ref a, rfl, 63, rfl, a, ns.map V.int, rfl, hS, fun c hc => ?_⟩
    obtain ⟨ms, em⟩ := cut_map ns none (some 63)
    refine ⟨c, ms, rfl, SqL.of (by rw [upd_same, em]), 11, ms.sum, rfl, rfl, .inl ⟨by decide, by decide⟩, _, rfl, _, _, rfl, rfl, ?_⟩
    have s1 : Same H (upd H c (.lst (cutV (ns.map V.int) none (some 63)))) := same_upd hc
    refine ⟨_, rfl, _, rfl, a, ns.map V.int, rfl, .inl (s1.seq hS), (k : Int), _, rfl, rfl, _, rfl, ?_⟩
    have k1 : (k : Int) ≤ 1000 := by omega
    have k0 : (0 : Int) ≤ (k : Int) := by omega
    refine ite2 (fun e => ?_) (fun e => ?_)
    · have hl : k < ns.length := by
        have := of_decide_eq_true e
        rw [List.length_map] at this
        omega
      refine ⟨_, rfl, _, rfl, a, ns.map V.int, (k : Int), .int ns[k], rfl, rfl, s1.seq hS, atI_nat (by rw [List.getElem?_map, List.getElem?_eq_getElem hl]; rfl), ?_⟩
      refine ⟨_, rfl, .inl ⟨_, rfl, _, rfl, ?_⟩⟩
      generalize hg : (if ns[k] < 0 then -ns[k] else ns[k]) = g
      have g0 : 0 ≤ g := by rw [← hg]; split <;> omega
      refine ⟨_, rfl, .inl ⟨_, rfl, _, _, rfl, rfl, (by show (0 : Int) < 2147483629; decide), ?_⟩⟩
      refine ⟨_, rfl, _, rfl, _, _, rfl, rfl, .inl ⟨by decide, by decide⟩, _, rfl, _, _, rfl, rfl, .inr ⟨by omega, by omega⟩, _, _, rfl, rfl, _, rfl, _, _, rfl, rfl, .inl ⟨by decide, by decide⟩, _, _, rfl, rfl, _, _, rfl, rfl, _, _, rfl, rfl, .inr ⟨by decide, by decide⟩,
        .inl ⟨_, rfl, _, _, rfl, rfl, (by show (0 : Int) < 2147483647; decide), ?_⟩⟩
      have hm := emod_pos (a := (g % 2147483629 + 7919 * ↑k * ↑k + 31 * ↑k + 17) * 48271) (b := 2147483647) (by decide)
      refine ⟨_, rfl, _, rfl, _, _, rfl, rfl, ⟨by decide, by decide, by decide⟩, _, _, rfl, rfl, .inr ⟨_, rfl, _, _, rfl, rfl, .inr ⟨by split <;> decide, by split <;> decide⟩, _, rfl, _, rfl, _, _, rfl, rfl, .inl ⟨by omega, by omega⟩,
        .inl ⟨_, rfl, _, _, rfl, rfl, (by show (0 : Int) < 2147483629; decide), (by show 2 ≤ sizeLine; decide), fun p hp => ?_⟩⟩⟩
      refine q _ p (s1.trans (same_upd hp)) (s1.free hp) ⟨_, _, upd_same, Int.mul_nonneg g0 (by split <;> decide), (emod_pos (by decide)).1, Int.lt_trans (emod_pos (by decide)).2 (by decide)⟩
    · refine ⟨_, rfl, .inl ⟨_, rfl, _, rfl, ?_⟩⟩
      generalize hg : (if 11 * ms.sum + ↑k < 0 then -(11 * ms.sum + ↑k) else 11 * ms.sum + ↑k) = g
      have g0 : 0 ≤ g := by rw [← hg]; split <;> omega
      refine ⟨_, rfl, .inl ⟨_, rfl, _, _, rfl, rfl, (by show (0 : Int) < 2147483629; decide), ?_⟩⟩
      refine ⟨_, rfl, _, rfl, _, _, rfl, rfl, .inl ⟨by decide, by decide⟩, _, rfl, _, _, rfl, rfl, .inr ⟨by omega, by omega⟩, _, _, rfl, rfl, _, rfl, _, _, rfl, rfl, .inl ⟨by decide, by decide⟩, _, _, rfl, rfl, _, _, rfl, rfl, _, _, rfl, rfl, .inr ⟨by decide, by decide⟩,
        .inl ⟨_, rfl, _, _, rfl, rfl, (by show (0 : Int) < 2147483647; decide), ?_⟩⟩
      have hm := emod_pos (a := (g % 2147483629 + 7919 * ↑k * ↑k + 31 * ↑k + 17) * 48271) (b := 2147483647) (by decide)
      refine ⟨_, rfl, _, rfl, _, _, rfl, rfl, ⟨by decide, by decide, by decide⟩, _, _, rfl, rfl, .inr ⟨_, rfl, _, _, rfl, rfl, .inr ⟨by split <;> decide, by split <;> decide⟩, _, rfl, _, rfl, _, _, rfl, rfl, .inl ⟨by omega, by omega⟩,
        .inl ⟨_, rfl, _, _, rfl, rfl, (by show (0 : Int) < 2147483629; decide), (by show 2 ≤ sizeLine; decide), fun p hp => ?_⟩⟩⟩
      refine q _ p (s1.trans (same_upd hp)) (s1.free hp) ⟨_, _, upd_same, Int.mul_nonneg g0 (by split <;> decide), (emod_pos (by decide)).1, Int.lt_trans (emod_pos (by decide)).2 (by decide)⟩
/-! ### a draw -/
def spDraw : Sp := fun vs H Q _ => ∃ (p : Addr) (n : Int), vs = [.ref p, .int n] ∧ PoolAt H p ∧ 0 < n ∧ n < 1073741824 ∧
  ∀ (c x y : Int), 0 ≤ c → c < n → 0 ≤ x → 0 ≤ y → y < 2147483648 → Q (.int c) (upd H p (.lst [.int x, .int y]))
theorem scDr : FnScope ["_law_pool_here", "_law_many", "_law_found"] ["_law_pool_here", "_law_many"] (defScope sDraw) := ⟨rfl, rfl, rfl, by decide +kernel, rfl, by decide +kernel, by decide +kernel⟩
theorem fmod_b {a b : Int} (hb : 0 < b) : 0 ≤ a.fmod b ∧ a.fmod b < b := ⟨Int.fmod_nonneg_of_pos a hb, Int.fmod_lt_of_pos a hb⟩
theorem ok_draw {f : Addr} {fd : FuncData} (F : Fun K "_law_draw" "_law_draw" sDraw f fd) (T : Txt mg) : FnOk P w K mg base CX0 1 f fd ["_law_pool_here", "_law_many"] spDraw := by
  refine F.ok scDr (fun vs H Q E h => ?_) (fun cdv A outer s H vs Q E hr h => ?_)
  · obtain ⟨p, n, rfl, _⟩ := h
    rfl
  · obtain ⟨p, n, rfl, ⟨x, y, hp, hx, hy, hy2⟩, n0, n1, q⟩ := h
    refine ⟨_, pss_cons (ps_if (pt_cmpR op_gt (pe_ix ix_list (pv 0) pe_int (fun _ _ => rfl)) pe_int (nomark _))
        (pss_cons (ps_set (i := 2) scDr.nd rfl (Or.inl rfl) (pe_op op_modN (pe_callTy call_int1 (by rfl) T.int boot_int (pa_cons (pe_ix ix_list (pv 0) pe_int (fun _ _ => rfl)) pa_nil)) (pv 1)))
        (pss_cons (ps_asg (pe_op op_fdivN (pe_ix ix_list (pv 0) pe_int (fun _ _ => rfl)) (pv 1)) (pg_sub (pv 0) pe_int set_list))
        (pss_one (ps_ret (pv 2))))) pss_nil)
      (pss_cons (ps_asg (pe_op op_mod (pe_callTy call_int1 (by rfl) T.int boot_int (pa_cons (pe_op op_add (pe_op op_mul (pe_ix ix_list (pv 0) pe_int (fun _ _ => rfl)) pe_int) pe_int) pa_nil)) pe_int) (pg_sub (pv 0) pe_int set_list))
      (pss_one (ps_ret (pe_op op_modN (pe_callTy call_int1 (by rfl) T.int boot_int (pa_cons
        (pe_op op_fdiv (pe_op op_mod (pe_callTy call_int1 (by rfl) T.int boot_int (pa_cons (pe_op op_mul (pe_ix ix_list (pv 0) pe_int (fun _ _ => rfl)) (pe_ix ix_list (pv 0) pe_int (fun _ _ => rfl))) pa_nil)) pe_int) pe_int) pa_nil)) (pv 1))))), ?_⟩
    refine ⟨_, rfl, p, _, 0, .int x, rfl, rfl, SqL.of hp, atI_nat (j := 0) rfl, x, 0, rfl, rfl, _, rfl, ?_⟩
    refine ite2 (fun e => ?_) (fun e => ?_)
    · refine ⟨_, rfl, p, _, 0, .int x, rfl, rfl, SqL.of hp, atI_nat (j := 0) rfl, .inl ⟨_, rfl, _, rfl, x, n, rfl, rfl, (by show n ≠ 0; omega), ?_⟩⟩
      refine ⟨_, rfl, p, _, 0, .int x, rfl, rfl, SqL.of hp, atI_nat (j := 0) rfl, _, rfl, x, n, rfl, rfl, (by show n ≠ 0 ∧ n.natAbs < 1073741824; omega), ?_⟩
      refine ⟨_, rfl, p, _, 0, 0, rfl, rfl, hp, rfl, _, rfl, ?_⟩
      have f1 := fmod_b (a := x) n0
      exact q _ _ y f1.1 f1.2 (Int.fdiv_nonneg hx (by omega)) hy hy2
    · refine ⟨_, rfl, p, _, 1, .int y, rfl, rfl, SqL.of hp, atI_nat (j := 1) rfl, y, 48271, rfl, rfl, .inr ⟨by decide, by decide⟩, _, _, rfl, rfl, .inl ⟨_, rfl, _, _, rfl, rfl, (by show (0 : Int) < 2147483647; decide), ?_⟩⟩
      have hm := emod_pos (a := y * 48271 + 11) (b := 2147483647) (by decide)
      refine ⟨_, rfl, p, _, 1, 1, rfl, rfl, hp, rfl, ?_⟩
      have hp2 : upd H p (.lst [.int x, .int ((y * 48271 + 11) % 2147483647)]) p = some (.lst [.int x, .int ((y * 48271 + 11) % 2147483647)]) := upd_same
      refine ⟨_, rfl, p, _, 1, .int ((y * 48271 + 11) % 2147483647), rfl, rfl, SqL.of hp2, atI_nat (j := 1) rfl, _, rfl, p, _, 1, .int ((y * 48271 + 11) % 2147483647), rfl, rfl, SqL.of hp2, atI_nat (j := 1) rfl, ((y * 48271 + 11) % 2147483647), ((y * 48271 + 11) % 2147483647), rfl, rfl, .inl ⟨by omega, by omega⟩,
        .inl ⟨_, rfl, _, _, rfl, rfl, (by show (0 : Int) < 2147483629; decide), _, _, rfl, rfl, ⟨by decide, by decide⟩, .inl ⟨_, rfl, _, rfl, _, n, rfl, rfl, (by show n ≠ 0; omega), ?_⟩⟩⟩
      have f1 := fmod_b (a := ((y * 48271 + 11) % 2147483647) * ((y * 48271 + 11) % 2147483647) % 2147483629 / 16) n0
      exact q _ _ ((y * 48271 + 11) % 2147483647) f1.1 f1.2 hx hm.1 (by omega)
/-! ### the errors, by their number -/
def fldOf (i : Nat) : Str := if i < 11 then "value" else if i < 13 then "mark" else if i < 15 then "number" else if i < 17 then "name" else if i < 19 then "line" else if i < 20 then "index" else "clashes"
def nameOf (i : Nat) : Str := (["BadArgument", "BadMark", "UnknownMark", "BadName", "BadObject", "BadMap", "BadMarked", "BadChange", "BadValue", "BadPiece", "BadSteps", "MissingObject", "Unreachable", "LimitExceeded", "UnknownVersion", "UnknownName", "NameTaken", "BadText", "BadCommand", "NoPlace", "Clash", "NothingToUndo"] : List Str).getD i ""
structure Errs (P : Program) (K : PySem.W.Frag) (mg : Str → Option Value) (c fi : Nat → Addr) (cG : Addr) : Prop where
  T : ∀ i, i < 22 → XC K (c i)
  I : ∀ i, i < 21 → XI K (c i) (fi i) (fldOf i)
  N : XN P K (c 21) (fi 21)
  no : ∀ i, i < 21 → PySem.W.findIn K (.ref (c i)) (fldOf i) = some none
  m : ∀ i, i < 22 → mg (nameOf i) = some (.ref (c i))
  mG : mg "GraphError" = some (.ref cG)
  is : ∀ i j, i < 22 → j < 22 → PySem.W.kitOne K (.ref (c i)) (.ref (c j)) = some (decide (i = j))
  isG : ∀ i, i < 22 → PySem.W.kitOne K (.ref (c i)) (.ref cG) = some true
  isL : ∀ i, i < 22 → PySem.W.kitOne K (.ref (c i)) (.type "LookupError") = some false
  isV : ∀ i, i < 22 → PySem.W.kitOne K (.ref (c i)) (.type "ValueError") = some false
  isT : ∀ i, i < 22 → PySem.W.kitOne K (.ref (c i)) (.type "TypeError") = some false
/-- an item of a display gives v, whatever else becomes of the heap -/
def Gives (i : TE) (σ : L2.St) (v : V) : Prop := ∀ (H : Hp) (Q : VK), (∀ H', Same H H' → Q v H') → i σ H Q
theorem field_gives {c fi : Addr} {f : Str} {σ : L2.St} {x : V} (T : XC K c) (no : PySem.W.findIn K (.ref c) f = some none) (h0 : σ[0]? = some (some x)) : Gives (tXat K f (tMkX c f (tCons (tVar 0) tNil))) σ x :=
  fun H Q q => ⟨x, h0, x, rfl, fun a dx na nd ne => ⟨a, c, x, rfl, T, no, errH_at ne, q _ (errH_same na nd)⟩⟩
def tThree (a b c : TE) : TE := tLst (tCons a (tCons b (tCons c tNil)))
theorem three_gives {a b c : TE} {σ : L2.St} {x y z : V} (ha : Gives a σ x) (hb : Gives b σ y) (hc : Gives c σ z) {H : Hp} {Q : VK} (q : ∀ p H', H p = none → Same H H' → H' p = some (.lst [x, y, z]) → Q (.ref p) H') : tThree a b c σ H Q := by
  refine ha _ _ fun H1 s1 => hb _ _ fun H2 s2 => hc _ _ fun H3 s3 => ⟨by show 3 ≤ sizeLine; decide, fun p hp => ?_⟩
  have s := (s1.trans s2).trans s3
  exact q p _ (s.free hp) (s.trans (same_upd hp)) upd_same
theorem cat_gives {a b c : TE} {σ : L2.St} {x y z : V} {p0 : Addr} {xs : List V} (ha : Gives a σ x) (hb : Gives b σ y) (hc : Gives c σ z) (h1 : σ[1]? = some (some (.ref p0))) {H : Hp} (e : H p0 = some (.lst xs)) (hl : xs.length ≤ 100) {Q : VK}
    (q : ∀ p H', H p = none → Same H H' → H' p = some (.lst (xs ++ [x, y, z])) → Q (.ref p) H') : tOp rCat (tVar 1) (tThree a b c) σ H Q := by
  refine ⟨_, h1, three_gives ha hb hc fun p H1 np s1 e1 => ⟨p0, p, xs, [x, y, z], rfl, rfl, s1 _ _ e, e1, Nat.le_of_lt (small1000 (by show xs.length + 3 ≤ 1000; omega)), fun p2 hp2 => ?_⟩⟩
  exact q p2 _ (s1.free hp2) (s1.trans (same_upd hp2)) upd_same
def spBy : Sp := fun vs H Q _ => ∃ x : V, vs = [x] ∧ ∀ H' p, Same H H' → H' p = some (.lst [x, x, x, x, x, x, x, x, x, x, x, x, x, x, x, x, x, x, x, x, x]) → Q (.ref p) H'
variable {c fi : Nat → Addr} {cG : Addr}
theorem scPos : FnScope ["_law_a", "_law_found"] ["_law_a"] (defScope sPos) := ⟨rfl, rfl, rfl, by decide +kernel, rfl, by decide +kernel, by decide +kernel⟩
theorem scNam : FnScope ["_law_a", "_law_found"] ["_law_a"] (defScope sNam) := ⟨rfl, rfl, rfl, by decide +kernel, rfl, by decide +kernel, by decide +kernel⟩
theorem ok_pos {f : Addr} {fd : FuncData} (F : Fun K "_law_by_position" "_law_by_position" sPos f fd) (E : Errs P K mg c fi cG) : FnOk P w K mg base CX0 2 f fd ["_law_a"] spBy := by
  refine F.ok scPos (fun vs H Q E h => ?_) (fun cdv A outer s H vs Q _ hr h => ?_)
  · obtain ⟨x, rfl, _⟩ := h
    rfl
  · obtain ⟨x, rfl, q⟩ := h
    refine ⟨_, pss_cons (ps_set (i := 1) scPos.nd rfl (Or.inl rfl) (pe_lst (pa_cons (pe_xat (pe_mkX (f := "value") (E.T 0 (by decide)) (E.I 0 (by decide)) hr (by rfl) (E.m 0 (by decide)) (pa_cons (pv 0) pa_nil))) (pa_cons (pe_xat (pe_mkX (f := "value") (E.T 1 (by decide)) (E.I 1 (by decide)) hr (by rfl) (E.m 1 (by decide)) (pa_cons (pv 0) pa_nil))) (pa_cons (pe_xat (pe_mkX (f := "value") (E.T 2 (by decide)) (E.I 2 (by decide)) hr (by rfl) (E.m 2 (by decide)) (pa_cons (pv 0) pa_nil))) pa_nil)))))
      (pss_cons (ps_set (i := 1) scPos.nd rfl (Or.inl rfl) (pe_op op_cat (pv 1) (pe_lst (pa_cons (pe_xat (pe_mkX (f := "value") (E.T 3 (by decide)) (E.I 3 (by decide)) hr (by rfl) (E.m 3 (by decide)) (pa_cons (pv 0) pa_nil))) (pa_cons (pe_xat (pe_mkX (f := "value") (E.T 4 (by decide)) (E.I 4 (by decide)) hr (by rfl) (E.m 4 (by decide)) (pa_cons (pv 0) pa_nil))) (pa_cons (pe_xat (pe_mkX (f := "value") (E.T 5 (by decide)) (E.I 5 (by decide)) hr (by rfl) (E.m 5 (by decide)) (pa_cons (pv 0) pa_nil))) pa_nil))))))
      (pss_cons (ps_set (i := 1) scPos.nd rfl (Or.inl rfl) (pe_op op_cat (pv 1) (pe_lst (pa_cons (pe_xat (pe_mkX (f := "value") (E.T 6 (by decide)) (E.I 6 (by decide)) hr (by rfl) (E.m 6 (by decide)) (pa_cons (pv 0) pa_nil))) (pa_cons (pe_xat (pe_mkX (f := "value") (E.T 7 (by decide)) (E.I 7 (by decide)) hr (by rfl) (E.m 7 (by decide)) (pa_cons (pv 0) pa_nil))) (pa_cons (pe_xat (pe_mkX (f := "value") (E.T 8 (by decide)) (E.I 8 (by decide)) hr (by rfl) (E.m 8 (by decide)) (pa_cons (pv 0) pa_nil))) pa_nil))))))
      (pss_cons (ps_set (i := 1) scPos.nd rfl (Or.inl rfl) (pe_op op_cat (pv 1) (pe_lst (pa_cons (pe_xat (pe_mkX (f := "value") (E.T 9 (by decide)) (E.I 9 (by decide)) hr (by rfl) (E.m 9 (by decide)) (pa_cons (pv 0) pa_nil))) (pa_cons (pe_xat (pe_mkX (f := "value") (E.T 10 (by decide)) (E.I 10 (by decide)) hr (by rfl) (E.m 10 (by decide)) (pa_cons (pv 0) pa_nil))) (pa_cons (pe_xat (pe_mkX (f := "mark") (E.T 11 (by decide)) (E.I 11 (by decide)) hr (by rfl) (E.m 11 (by decide)) (pa_cons (pv 0) pa_nil))) pa_nil))))))
      (pss_cons (ps_set (i := 1) scPos.nd rfl (Or.inl rfl) (pe_op op_cat (pv 1) (pe_lst (pa_cons (pe_xat (pe_mkX (f := "mark") (E.T 12 (by decide)) (E.I 12 (by decide)) hr (by rfl) (E.m 12 (by decide)) (pa_cons (pv 0) pa_nil))) (pa_cons (pe_xat (pe_mkX (f := "number") (E.T 13 (by decide)) (E.I 13 (by decide)) hr (by rfl) (E.m 13 (by decide)) (pa_cons (pv 0) pa_nil))) (pa_cons (pe_xat (pe_mkX (f := "number") (E.T 14 (by decide)) (E.I 14 (by decide)) hr (by rfl) (E.m 14 (by decide)) (pa_cons (pv 0) pa_nil))) pa_nil))))))
      (pss_cons (ps_set (i := 1) scPos.nd rfl (Or.inl rfl) (pe_op op_cat (pv 1) (pe_lst (pa_cons (pe_xat (pe_mkX (f := "name") (E.T 15 (by decide)) (E.I 15 (by decide)) hr (by rfl) (E.m 15 (by decide)) (pa_cons (pv 0) pa_nil))) (pa_cons (pe_xat (pe_mkX (f := "name") (E.T 16 (by decide)) (E.I 16 (by decide)) hr (by rfl) (E.m 16 (by decide)) (pa_cons (pv 0) pa_nil))) (pa_cons (pe_xat (pe_mkX (f := "line") (E.T 17 (by decide)) (E.I 17 (by decide)) hr (by rfl) (E.m 17 (by decide)) (pa_cons (pv 0) pa_nil))) pa_nil))))))
      (pss_cons (ps_set (i := 1) scPos.nd rfl (Or.inl rfl) (pe_op op_cat (pv 1) (pe_lst (pa_cons (pe_xat (pe_mkX (f := "line") (E.T 18 (by decide)) (E.I 18 (by decide)) hr (by rfl) (E.m 18 (by decide)) (pa_cons (pv 0) pa_nil))) (pa_cons (pe_xat (pe_mkX (f := "index") (E.T 19 (by decide)) (E.I 19 (by decide)) hr (by rfl) (E.m 19 (by decide)) (pa_cons (pv 0) pa_nil))) (pa_cons (pe_xat (pe_mkX (f := "clashes") (E.T 20 (by decide)) (E.I 20 (by decide)) hr (by rfl) (E.m 20 (by decide)) (pa_cons (pv 0) pa_nil))) pa_nil))))))
      (pss_one (ps_ret (pv 1))))))))), ?_⟩
    have g : ∀ (i : Nat) (hi : i < 21) (σ : L2.St), σ[0]? = some (some x) → Gives (tXat K (fldOf i) (tMkX (c i) (fldOf i) (tCons (tVar 0) tNil))) σ x := fun i hi σ h0 => field_gives (fi := fi i) (E.T i (by omega)) (E.no i hi) h0
    refine three_gives (g 0 (by decide) _ rfl) (g 1 (by decide) _ rfl) (g 2 (by decide) _ rfl) fun p1 H1 n1 s1 e1 => ?_
    refine cat_gives (g 3 (by decide) _ rfl) (g 4 (by decide) _ rfl) (g 5 (by decide) _ rfl) rfl e1 (by show 3 ≤ 100; decide) fun p2 H2 n2 s2 e2 => ?_
    refine cat_gives (g 6 (by decide) _ rfl) (g 7 (by decide) _ rfl) (g 8 (by decide) _ rfl) rfl e2 (by show 6 ≤ 100; decide) fun p3 H3 n3 s3 e3 => ?_
    refine cat_gives (g 9 (by decide) _ rfl) (g 10 (by decide) _ rfl) (g 11 (by decide) _ rfl) rfl e3 (by show 9 ≤ 100; decide) fun p4 H4 n4 s4 e4 => ?_
    refine cat_gives (g 12 (by decide) _ rfl) (g 13 (by decide) _ rfl) (g 14 (by decide) _ rfl) rfl e4 (by show 12 ≤ 100; decide) fun p5 H5 n5 s5 e5 => ?_
    refine cat_gives (g 15 (by decide) _ rfl) (g 16 (by decide) _ rfl) (g 17 (by decide) _ rfl) rfl e5 (by show 15 ≤ 100; decide) fun p6 H6 n6 s6 e6 => ?_
    refine cat_gives (g 18 (by decide) _ rfl) (g 19 (by decide) _ rfl) (g 20 (by decide) _ rfl) rfl e6 (by show 18 ≤ 100; decide) fun p7 H7 n7 s7 e7 => ?_
    exact ⟨_, rfl, q H7 p7 ((((((s1.trans s2).trans s3).trans s4).trans s5).trans s6).trans s7) e7⟩
end
end KT

set_option Elab.async false
set_option linter.all false
set_option maxRecDepth 100000
set_option maxHeartbeats 4000000
namespace KT
open PySem L2 PyProof.Rows XL GD
section
variable {P : Program} {w : World} {K : PySem.W.Frag} {mg : Str → Option Value} {base : Heap} {c fi : Nat → Addr} {cG : Addr}
theorem ok_nam {f : Addr} {fd : FuncData} (F : Fun K "_law_by_name" "_law_by_name" sNam f fd) (E : Errs P K mg c fi cG) : FnOk P w K mg base CX0 2 f fd ["_law_a"] spBy := by
  refine F.ok scNam (fun vs H Q E h => ?_) (fun cdv A outer s H vs Q _ hr h => ?_)
  · obtain ⟨x, rfl, _⟩ := h
    rfl
  · obtain ⟨x, rfl, q⟩ := h
    refine ⟨_, pss_cons (ps_set (i := 1) scNam.nd rfl (Or.inl rfl) (pe_lst (pa_cons (pe_xat (pe_mkXk (f := "value") (E.T 0 (by decide)) (E.I 0 (by decide)) hr (by rfl) (E.m 0 (by decide)) (pk_cons (pv 0) pk_nil))) (pa_cons (pe_xat (pe_mkXk (f := "value") (E.T 1 (by decide)) (E.I 1 (by decide)) hr (by rfl) (E.m 1 (by decide)) (pk_cons (pv 0) pk_nil))) (pa_cons (pe_xat (pe_mkXk (f := "value") (E.T 2 (by decide)) (E.I 2 (by decide)) hr (by rfl) (E.m 2 (by decide)) (pk_cons (pv 0) pk_nil))) pa_nil)))))
      (pss_cons (ps_set (i := 1) scNam.nd rfl (Or.inl rfl) (pe_op op_cat (pv 1) (pe_lst (pa_cons (pe_xat (pe_mkXk (f := "value") (E.T 3 (by decide)) (E.I 3 (by decide)) hr (by rfl) (E.m 3 (by decide)) (pk_cons (pv 0) pk_nil))) (pa_cons (pe_xat (pe_mkXk (f := "value") (E.T 4 (by decide)) (E.I 4 (by decide)) hr (by rfl) (E.m 4 (by decide)) (pk_cons (pv 0) pk_nil))) (pa_cons (pe_xat (pe_mkXk (f := "value") (E.T 5 (by decide)) (E.I 5 (by decide)) hr (by rfl) (E.m 5 (by decide)) (pk_cons (pv 0) pk_nil))) pa_nil))))))
      (pss_cons (ps_set (i := 1) scNam.nd rfl (Or.inl rfl) (pe_op op_cat (pv 1) (pe_lst (pa_cons (pe_xat (pe_mkXk (f := "value") (E.T 6 (by decide)) (E.I 6 (by decide)) hr (by rfl) (E.m 6 (by decide)) (pk_cons (pv 0) pk_nil))) (pa_cons (pe_xat (pe_mkXk (f := "value") (E.T 7 (by decide)) (E.I 7 (by decide)) hr (by rfl) (E.m 7 (by decide)) (pk_cons (pv 0) pk_nil))) (pa_cons (pe_xat (pe_mkXk (f := "value") (E.T 8 (by decide)) (E.I 8 (by decide)) hr (by rfl) (E.m 8 (by decide)) (pk_cons (pv 0) pk_nil))) pa_nil))))))
      (pss_cons (ps_set (i := 1) scNam.nd rfl (Or.inl rfl) (pe_op op_cat (pv 1) (pe_lst (pa_cons (pe_xat (pe_mkXk (f := "value") (E.T 9 (by decide)) (E.I 9 (by decide)) hr (by rfl) (E.m 9 (by decide)) (pk_cons (pv 0) pk_nil))) (pa_cons (pe_xat (pe_mkXk (f := "value") (E.T 10 (by decide)) (E.I 10 (by decide)) hr (by rfl) (E.m 10 (by decide)) (pk_cons (pv 0) pk_nil))) (pa_cons (pe_xat (pe_mkXk (f := "mark") (E.T 11 (by decide)) (E.I 11 (by decide)) hr (by rfl) (E.m 11 (by decide)) (pk_cons (pv 0) pk_nil))) pa_nil))))))
      (pss_cons (ps_set (i := 1) scNam.nd rfl (Or.inl rfl) (pe_op op_cat (pv 1) (pe_lst (pa_cons (pe_xat (pe_mkXk (f := "mark") (E.T 12 (by decide)) (E.I 12 (by decide)) hr (by rfl) (E.m 12 (by decide)) (pk_cons (pv 0) pk_nil))) (pa_cons (pe_xat (pe_mkXk (f := "number") (E.T 13 (by decide)) (E.I 13 (by decide)) hr (by rfl) (E.m 13 (by decide)) (pk_cons (pv 0) pk_nil))) (pa_cons (pe_xat (pe_mkXk (f := "number") (E.T 14 (by decide)) (E.I 14 (by decide)) hr (by rfl) (E.m 14 (by decide)) (pk_cons (pv 0) pk_nil))) pa_nil))))))
      (pss_cons (ps_set (i := 1) scNam.nd rfl (Or.inl rfl) (pe_op op_cat (pv 1) (pe_lst (pa_cons (pe_xat (pe_mkXk (f := "name") (E.T 15 (by decide)) (E.I 15 (by decide)) hr (by rfl) (E.m 15 (by decide)) (pk_cons (pv 0) pk_nil))) (pa_cons (pe_xat (pe_mkXk (f := "name") (E.T 16 (by decide)) (E.I 16 (by decide)) hr (by rfl) (E.m 16 (by decide)) (pk_cons (pv 0) pk_nil))) (pa_cons (pe_xat (pe_mkXk (f := "line") (E.T 17 (by decide)) (E.I 17 (by decide)) hr (by rfl) (E.m 17 (by decide)) (pk_cons (pv 0) pk_nil))) pa_nil))))))
      (pss_cons (ps_set (i := 1) scNam.nd rfl (Or.inl rfl) (pe_op op_cat (pv 1) (pe_lst (pa_cons (pe_xat (pe_mkXk (f := "line") (E.T 18 (by decide)) (E.I 18 (by decide)) hr (by rfl) (E.m 18 (by decide)) (pk_cons (pv 0) pk_nil))) (pa_cons (pe_xat (pe_mkXk (f := "index") (E.T 19 (by decide)) (E.I 19 (by decide)) hr (by rfl) (E.m 19 (by decide)) (pk_cons (pv 0) pk_nil))) (pa_cons (pe_xat (pe_mkXk (f := "clashes") (E.T 20 (by decide)) (E.I 20 (by decide)) hr (by rfl) (E.m 20 (by decide)) (pk_cons (pv 0) pk_nil))) pa_nil))))))
      (pss_one (ps_ret (pv 1))))))))), ?_⟩
    have g : ∀ (i : Nat) (hi : i < 21) (σ : L2.St), σ[0]? = some (some x) → Gives (tXat K (fldOf i) (tMkX (c i) (fldOf i) (tCons (tVar 0) tNil))) σ x := fun i hi σ h0 => field_gives (fi := fi i) (E.T i (by omega)) (E.no i hi) h0
    refine three_gives (g 0 (by decide) _ rfl) (g 1 (by decide) _ rfl) (g 2 (by decide) _ rfl) fun p1 H1 n1 s1 e1 => ?_
    refine cat_gives (g 3 (by decide) _ rfl) (g 4 (by decide) _ rfl) (g 5 (by decide) _ rfl) rfl e1 (by show 3 ≤ 100; decide) fun p2 H2 n2 s2 e2 => ?_
    refine cat_gives (g 6 (by decide) _ rfl) (g 7 (by decide) _ rfl) (g 8 (by decide) _ rfl) rfl e2 (by show 6 ≤ 100; decide) fun p3 H3 n3 s3 e3 => ?_
    refine cat_gives (g 9 (by decide) _ rfl) (g 10 (by decide) _ rfl) (g 11 (by decide) _ rfl) rfl e3 (by show 9 ≤ 100; decide) fun p4 H4 n4 s4 e4 => ?_
    refine cat_gives (g 12 (by decide) _ rfl) (g 13 (by decide) _ rfl) (g 14 (by decide) _ rfl) rfl e4 (by show 12 ≤ 100; decide) fun p5 H5 n5 s5 e5 => ?_
    refine cat_gives (g 15 (by decide) _ rfl) (g 16 (by decide) _ rfl) (g 17 (by decide) _ rfl) rfl e5 (by show 15 ≤ 100; decide) fun p6 H6 n6 s6 e6 => ?_
    refine cat_gives (g 18 (by decide) _ rfl) (g 19 (by decide) _ rfl) (g 20 (by decide) _ rfl) rfl e6 (by show 18 ≤ 100; decide) fun p7 H7 n7 s7 e7 => ?_
    exact ⟨_, rfl, q H7 p7 ((((((s1.trans s2).trans s3).trans s4).trans s5).trans s6).trans s7) e7⟩
/-! ### which of the classes an error is of -/
def IsErr (H : Hp) (a C : Addr) : Prop := H a = some (exo a C none) ∨ ∃ f v, ErrAt H C a f v
theorem ErrAt.same {H H' : Hp} {C a : Addr} {f : Str} {v : V} (s : Same H H') (h : ErrAt H C a f v) : ErrAt H' C a f v := by
  obtain ⟨dx, h1, h2⟩ := h
  exact ⟨dx, s _ _ h1, s _ _ h2⟩
theorem IsErr.same {H H' : Hp} {a C : Addr} (s : Same H H') (h : IsErr H a C) : IsErr H' a C := by
  rcases h with h | ⟨f, v, h⟩
  · exact .inl (s _ _ h)
  · exact .inr ⟨f, v, ErrAt.same s h⟩
abbrev tIs (K : PySem.W.Frag) (C : Addr) : TE := tCB (rIsX K) (tCons (tVar 0) (tCons (tC (.ref C)) tNil))
/-- the items' answers, and a display's -/
theorem is_ok {a : Addr} {i j : Nat} (E : Errs P K mg c fi cG) (hi : i < 22) (hj : j < 22) {σ : L2.St} {H : Hp} {Q : VK} (h0 : σ[0]? = some (some (.ref a))) (h : IsErr H a (c i)) (q : Q (.bl (decide (i = j))) H) : tIs K (c j) σ H Q :=
  ⟨_, h0, a, c i, .ref (c j), .ref (c j), decide (i = j), rfl, E.T i hi, h, .own _, E.is i j hi hj, q⟩
abbrev D (i j : Nat) : V := .bl (decide (i = j))
theorem is3 {a : Addr} {i j : Nat} (E : Errs P K mg c fi cG) (hi : i < 22) (hj : j + 2 < 22) {σ : L2.St} {H : Hp} {Q : VK} (h0 : σ[0]? = some (some (.ref a))) (h : IsErr H a (c i))
    (q : ∀ p H', H p = none → Same H H' → H' p = some (.lst [D i j, D i (j + 1), D i (j + 2)]) → Q (.ref p) H') : tThree (tIs K (c j)) (tIs K (c (j + 1))) (tIs K (c (j + 2))) σ H Q :=
  is_ok E hi (by omega) h0 h (is_ok E hi (by omega) h0 h (is_ok E hi hj h0 h ⟨by show 3 ≤ sizeLine; decide, fun p hp => q p _ hp (same_upd hp) upd_same⟩))
theorem is2 {a : Addr} {i j : Nat} (E : Errs P K mg c fi cG) (hi : i < 22) (hj : j + 1 < 22) {σ : L2.St} {H : Hp} {Q : VK} (h0 : σ[0]? = some (some (.ref a))) (h : IsErr H a (c i))
    (q : ∀ p H', H p = none → Same H H' → H' p = some (.lst [D i j, D i (j + 1)]) → Q (.ref p) H') : tLst (tCons (tIs K (c j)) (tCons (tIs K (c (j + 1))) tNil)) σ H Q :=
  is_ok E hi (by omega) h0 h (is_ok E hi hj h0 h ⟨by show 2 ≤ sizeLine; decide, fun p hp => q p _ hp (same_upd hp) upd_same⟩)
theorem is1 {a : Addr} {i j : Nat} (E : Errs P K mg c fi cG) (hi : i < 22) (hj : j < 22) {σ : L2.St} {H : Hp} {Q : VK} (h0 : σ[0]? = some (some (.ref a))) (h : IsErr H a (c i))
    (q : ∀ p H', H p = none → Same H H' → H' p = some (.lst [D i j]) → Q (.ref p) H') : tLst (tCons (tIs K (c j)) tNil) σ H Q :=
  is_ok E hi hj h0 h ⟨by show 1 ≤ sizeLine; decide, fun p hp => q p _ hp (same_upd hp) upd_same⟩
/-- found + such a display -/
theorem cat_ok {t : TE} {σ : L2.St} {p0 : Addr} {xs ys : List V} {H : Hp} {Q : VK} (h1 : σ[1]? = some (some (.ref p0))) (e : H p0 = some (.lst xs)) (hl : xs.length + ys.length ≤ 100)
    (ht : ∀ Q' : VK, (∀ p H', H p = none → Same H H' → H' p = some (.lst ys) → Q' (.ref p) H') → t σ H Q') (q : ∀ p H', H p = none → Same H H' → H' p = some (.lst (xs ++ ys)) → Q (.ref p) H') : tOp rCat (tVar 1) t σ H Q := by
  refine ⟨_, h1, ht _ fun p H1 np s1 e1 => ⟨p0, p, xs, ys, rfl, rfl, s1 _ _ e, e1, Nat.le_of_lt (small1000 (by omega)), fun p2 hp2 => ?_⟩⟩
  exact q p2 _ (s1.free hp2) (s1.trans (same_upd hp2)) upd_same
def spWhich (c : Nat → Addr) : Sp := fun vs H Q _ => ∃ (a : Addr) (i : Nat), vs = [.ref a] ∧ i < 22 ∧ IsErr H a (c i) ∧ ∀ H' p, Same H H' →
  H' p = some (.lst ((List.range 22).map (D i))) → Q (.ref p) H'
theorem scWh : FnScope ["_law_error", "_law_found"] ["_law_error"] (defScope sWhich) := ⟨rfl, rfl, rfl, by decide +kernel, rfl, by decide +kernel, by decide +kernel⟩
theorem ok_which {f : Addr} {fd : FuncData} (F : Fun K "_law_which" "_law_which" sWhich f fd) (E : Errs P K mg c fi cG) (T : Txt mg) : FnOk P w K mg base CX0 1 f fd ["_law_error"] (spWhich c) := by
  refine F.ok scWh (fun vs H Q E h => ?_) (fun cdv A outer s H vs Q _ hr h => ?_)
  · obtain ⟨a, i, rfl, _⟩ := h
    rfl
  · obtain ⟨a, i, rfl, hi, he, q⟩ := h
    refine ⟨_, pss_cons (ps_set (i := 1) scWh.nd rfl (Or.inl rfl) (pe_lst (pa_cons (pe_callB call_isX (by rfl) T.isi boot_isinstance (pa_cons (pv 0) (pa_cons (pe_glob (v := .ref (c 0)) (by rfl) (E.m 0 (by decide)) rfl) pa_nil))) (pa_cons (pe_callB call_isX (by rfl) T.isi boot_isinstance (pa_cons (pv 0) (pa_cons (pe_glob (v := .ref (c 1)) (by rfl) (E.m 1 (by decide)) rfl) pa_nil))) (pa_cons (pe_callB call_isX (by rfl) T.isi boot_isinstance (pa_cons (pv 0) (pa_cons (pe_glob (v := .ref (c 2)) (by rfl) (E.m 2 (by decide)) rfl) pa_nil))) pa_nil)))))
      (pss_cons (ps_set (i := 1) scWh.nd rfl (Or.inl rfl) (pe_op op_cat (pv 1) (pe_lst (pa_cons (pe_callB call_isX (by rfl) T.isi boot_isinstance (pa_cons (pv 0) (pa_cons (pe_glob (v := .ref (c 3)) (by rfl) (E.m 3 (by decide)) rfl) pa_nil))) (pa_cons (pe_callB call_isX (by rfl) T.isi boot_isinstance (pa_cons (pv 0) (pa_cons (pe_glob (v := .ref (c 4)) (by rfl) (E.m 4 (by decide)) rfl) pa_nil))) (pa_cons (pe_callB call_isX (by rfl) T.isi boot_isinstance (pa_cons (pv 0) (pa_cons (pe_glob (v := .ref (c 5)) (by rfl) (E.m 5 (by decide)) rfl) pa_nil))) pa_nil))))))
      (pss_cons (ps_set (i := 1) scWh.nd rfl (Or.inl rfl) (pe_op op_cat (pv 1) (pe_lst (pa_cons (pe_callB call_isX (by rfl) T.isi boot_isinstance (pa_cons (pv 0) (pa_cons (pe_glob (v := .ref (c 6)) (by rfl) (E.m 6 (by decide)) rfl) pa_nil))) (pa_cons (pe_callB call_isX (by rfl) T.isi boot_isinstance (pa_cons (pv 0) (pa_cons (pe_glob (v := .ref (c 7)) (by rfl) (E.m 7 (by decide)) rfl) pa_nil))) (pa_cons (pe_callB call_isX (by rfl) T.isi boot_isinstance (pa_cons (pv 0) (pa_cons (pe_glob (v := .ref (c 8)) (by rfl) (E.m 8 (by decide)) rfl) pa_nil))) pa_nil))))))
      (pss_cons (ps_set (i := 1) scWh.nd rfl (Or.inl rfl) (pe_op op_cat (pv 1) (pe_lst (pa_cons (pe_callB call_isX (by rfl) T.isi boot_isinstance (pa_cons (pv 0) (pa_cons (pe_glob (v := .ref (c 9)) (by rfl) (E.m 9 (by decide)) rfl) pa_nil))) (pa_cons (pe_callB call_isX (by rfl) T.isi boot_isinstance (pa_cons (pv 0) (pa_cons (pe_glob (v := .ref (c 10)) (by rfl) (E.m 10 (by decide)) rfl) pa_nil))) (pa_cons (pe_callB call_isX (by rfl) T.isi boot_isinstance (pa_cons (pv 0) (pa_cons (pe_glob (v := .ref (c 11)) (by rfl) (E.m 11 (by decide)) rfl) pa_nil))) pa_nil))))))
      (pss_cons (ps_set (i := 1) scWh.nd rfl (Or.inl rfl) (pe_op op_cat (pv 1) (pe_lst (pa_cons (pe_callB call_isX (by rfl) T.isi boot_isinstance (pa_cons (pv 0) (pa_cons (pe_glob (v := .ref (c 12)) (by rfl) (E.m 12 (by decide)) rfl) pa_nil))) (pa_cons (pe_callB call_isX (by rfl) T.isi boot_isinstance (pa_cons (pv 0) (pa_cons (pe_glob (v := .ref (c 13)) (by rfl) (E.m 13 (by decide)) rfl) pa_nil))) pa_nil)))))
      (pss_cons (ps_expr (pe_bm PySem.F.plainAttrs_list PySem.F.slot_list_append PySem.F.type_list_append mt_append (pv 1) (pa_cons (pe_callB call_isX (by rfl) T.isi boot_isinstance (pa_cons (pv 0) (pa_cons (pe_glob (v := .ref (c 14)) (by rfl) (E.m 14 (by decide)) rfl) pa_nil))) pa_nil)))
      (pss_cons (ps_set (i := 1) scWh.nd rfl (Or.inl rfl) (pe_op op_cat (pv 1) (pe_lst (pa_cons (pe_callB call_isX (by rfl) T.isi boot_isinstance (pa_cons (pv 0) (pa_cons (pe_glob (v := .ref (c 15)) (by rfl) (E.m 15 (by decide)) rfl) pa_nil))) (pa_cons (pe_callB call_isX (by rfl) T.isi boot_isinstance (pa_cons (pv 0) (pa_cons (pe_glob (v := .ref (c 16)) (by rfl) (E.m 16 (by decide)) rfl) pa_nil))) (pa_cons (pe_callB call_isX (by rfl) T.isi boot_isinstance (pa_cons (pv 0) (pa_cons (pe_glob (v := .ref (c 17)) (by rfl) (E.m 17 (by decide)) rfl) pa_nil))) pa_nil))))))
      (pss_cons (ps_set (i := 1) scWh.nd rfl (Or.inl rfl) (pe_op op_cat (pv 1) (pe_lst (pa_cons (pe_callB call_isX (by rfl) T.isi boot_isinstance (pa_cons (pv 0) (pa_cons (pe_glob (v := .ref (c 18)) (by rfl) (E.m 18 (by decide)) rfl) pa_nil))) (pa_cons (pe_callB call_isX (by rfl) T.isi boot_isinstance (pa_cons (pv 0) (pa_cons (pe_glob (v := .ref (c 19)) (by rfl) (E.m 19 (by decide)) rfl) pa_nil))) (pa_cons (pe_callB call_isX (by rfl) T.isi boot_isinstance (pa_cons (pv 0) (pa_cons (pe_glob (v := .ref (c 20)) (by rfl) (E.m 20 (by decide)) rfl) pa_nil))) pa_nil))))))
      (pss_one (ps_ret (pe_op op_cat (pv 1) (pe_lst (pa_cons (pe_callB call_isX (by rfl) T.isi boot_isinstance (pa_cons (pv 0) (pa_cons (pe_glob (v := .ref (c 21)) (by rfl) (E.m 21 (by decide)) rfl) pa_nil))) pa_nil)))))))))))), ?_⟩
    have z0 : (L2.start ["_law_error", "_law_found"] [V.ref a])[0]? = some (some (.ref a)) := rfl
    refine is3 (j := 0) E hi (by decide) z0 he fun p1 H1 n1 s1 e1 => ?_
    have h1 := he.same s1
    refine cat_ok rfl e1 (by show 6 ≤ 100; decide) (fun Q' => is3 (j := 3) E hi (by decide) rfl h1) fun p2 H2 n2 s2 e2 => ?_
    have h2 := h1.same s2
    refine cat_ok rfl e2 (by show 9 ≤ 100; decide) (fun Q' => is3 (j := 6) E hi (by decide) rfl h2) fun p3 H3 n3 s3 e3 => ?_
    have h3 := h2.same s3
    refine cat_ok rfl e3 (by show 12 ≤ 100; decide) (fun Q' => is3 (j := 9) E hi (by decide) rfl h3) fun p4 H4 n4 s4 e4 => ?_
    have h4 := h3.same s4
    refine cat_ok rfl e4 (by show 14 ≤ 100; decide) (fun Q' => is2 (j := 12) E hi (by decide) rfl h4) fun p5 H5 n5 s5 e5 => ?_
    have h5 := h4.same s5
    refine ⟨_, rfl, .inl ⟨rfl, _, SqL.of e5⟩, is_ok (j := 14) E hi (by decide) rfl h5 ⟨p5, _, _, rfl, rfl, e5, small1000 (by show 14 ≤ 1000; decide), ?_⟩⟩
    have s05 := (((s1.trans s2).trans s3).trans s4)
    have n05 : H p5 = none := s05.free n5
    have s6 : Same H4 (upd H5 p5 (.lst (([D i 0, D i (0 + 1), D i (0 + 2)] ++ [D i 3, D i (3 + 1), D i (3 + 2)] ++ [D i 6, D i (6 + 1), D i (6 + 2)] ++ [D i 9, D i (9 + 1), D i (9 + 2)] ++ [D i 12, D i (12 + 1)]) ++ [D i 14]))) := fun b o e => by
      rw [upd_ne (ne_of_none e n5)]
      exact s5 b o e
    have e6 : upd H5 p5 (.lst (([D i 0, D i (0 + 1), D i (0 + 2)] ++ [D i 3, D i (3 + 1), D i (3 + 2)] ++ [D i 6, D i (6 + 1), D i (6 + 2)] ++ [D i 9, D i (9 + 1), D i (9 + 2)] ++ [D i 12, D i (12 + 1)]) ++ [D i 14])) p5 = _ := upd_same
    generalize upd H5 p5 (.lst (([D i 0, D i (0 + 1), D i (0 + 2)] ++ [D i 3, D i (3 + 1), D i (3 + 2)] ++ [D i 6, D i (6 + 1), D i (6 + 2)] ++ [D i 9, D i (9 + 1), D i (9 + 2)] ++ [D i 12, D i (12 + 1)]) ++ [D i 14])) = H6 at s6 e6 ⊢
    have h6 := h4.same s6
    refine cat_ok rfl e6 (by show 18 ≤ 100; decide) (fun Q' => is3 (j := 15) E hi (by decide) rfl h6) fun p7 H7 n7 s7 e7 => ?_
    have h7 := h6.same s7
    refine cat_ok rfl e7 (by show 21 ≤ 100; decide) (fun Q' => is3 (j := 18) E hi (by decide) rfl h7) fun p8 H8 n8 s8 e8 => ?_
    have h8 := h7.same s8
    refine cat_ok rfl e8 (by show 22 ≤ 100; decide) (fun Q' => is1 (j := 21) E hi (by decide) rfl h8) fun p9 H9 n9 s9 e9 => ?_
    exact q H9 p9 ((((s05.trans s6).trans s7).trans s8).trans s9) e9
/-! ### the errors, made -/
abbrev tMk (c : Nat → Addr) (i : Nat) : TE := tMkX (c i) (fldOf i) (tCons (tVar 0) tNil)
theorem mk_ok {i : Nat} {σ : L2.St} {x : V} {H : Hp} {Q : VK} (h0 : σ[0]? = some (some x)) (q : ∀ a H', Same H H' → IsErr H' a (c i) → Q (.ref a) H') : tMk c i σ H Q :=
  ⟨x, h0, x, rfl, fun a dx na nd ne => q a _ (errH_same na nd) (.inr ⟨_, _, errH_at ne⟩)⟩
/-- the first of xs are errors of the first classes -/
def Firsts (c : Nat → Addr) (H : Hp) (xs : List V) : Prop := ∀ (i : Nat) (x : V), xs[i]? = some x → ∃ a, x = .ref a ∧ IsErr H a (c i)
theorem Firsts.same {H H' : Hp} {xs : List V} (s : Same H H') (h : Firsts c H xs) : Firsts c H' xs := fun i x e => by
  obtain ⟨a, e1, e2⟩ := h i x e
  exact ⟨a, e1, e2.same s⟩
theorem Firsts.nil {H : Hp} : Firsts c H [] := fun i x e => by simp at e
theorem Firsts.snoc {H : Hp} {xs : List V} {a : Addr} (h : Firsts c H xs) (e : IsErr H a (c xs.length)) : Firsts c H (xs ++ [.ref a]) := fun i x q => by
  by_cases hi : i < xs.length
  · rw [List.getElem?_append_left hi] at q
    exact h i x q
  · rw [List.getElem?_append_right (by omega)] at q
    have z : i - xs.length = 0 := by
      have := (List.getElem?_eq_some_iff.mp q).1
      simp at this
      omega
    rw [z] at q
    cases q
    have : i = xs.length := by omega
    subst this
    exact ⟨a, rfl, e⟩
theorem mk3 {j : Nat} {σ : L2.St} {x : V} {H : Hp} {Q : VK} {xs : List V} (hx : Firsts c H xs) (hj : xs.length = j) (h0 : σ[0]? = some (some x))
    (q : ∀ p H' (ys : List V), H p = none → Same H H' → H' p = some (.lst ys) → ys.length = 3 → Firsts c H' (xs ++ ys) → Q (.ref p) H') : tThree (tMk c j) (tMk c (j + 1)) (tMk c (j + 2)) σ H Q := by
  subst hj
  show tMk c xs.length σ H (fun x1 H1 => tMk c (xs.length + 1) σ H1 fun x2 H2 => tMk c (xs.length + 2) σ H2 fun x3 H3 => [x1, x2, x3].length ≤ sizeLine ∧ ∀ p, H3 p = none → Q (.ref p) (upd H3 p (.lst [x1, x2, x3])))
  refine mk_ok h0 fun a H1 s1 e1 => ?_
  refine mk_ok h0 fun b H2 s2 e2 => ?_
  refine mk_ok h0 fun d H3 s3 e3 => ?_
  refine ⟨by show 3 ≤ sizeLine; decide, fun p hp => ?_⟩
  have f1 := (hx.same s1).snoc e1
  have f2 := (f1.same s2).snoc (a := b) (by rw [List.length_append]; exact e2)
  have f3 := (f2.same s3).snoc (a := d) (by rw [List.length_append, List.length_append]; exact e3)
  have s := (s1.trans s2).trans s3
  have f4 := f3.same (same_upd (o := .lst [.ref a, .ref b, .ref d]) hp)
  rw [List.append_assoc, List.append_assoc] at f4
  exact q p _ [.ref a, .ref b, .ref d] (s.free hp) (s.trans (same_upd hp)) upd_same rfl f4
theorem catM {j : Nat} {σ : L2.St} {x : V} {H : Hp} {Q : VK} {xs : List V} {p0 : Addr} (hx : Firsts c H xs) (hj : xs.length = j) (hl : j ≤ 60) (h0 : σ[0]? = some (some x)) (h1 : σ[1]? = some (some (.ref p0))) (e : H p0 = some (.lst xs))
    (q : ∀ p H' (zs : List V), H p = none → Same H H' → H' p = some (.lst zs) → zs.length = j + 3 → Firsts c H' zs → Q (.ref p) H') : tOp rCat (tVar 1) (tThree (tMk c j) (tMk c (j + 1)) (tMk c (j + 2))) σ H Q := by
  refine ⟨_, h1, mk3 hx hj h0 fun p H1 ys np s1 e1 l1 f1 => ⟨p0, p, xs, ys, rfl, rfl, s1 _ _ e, e1, Nat.le_of_lt (small1000 (by omega)), fun p2 hp2 => ?_⟩⟩
  exact q p2 _ (xs ++ ys) (s1.free hp2) (s1.trans (same_upd hp2)) upd_same (by rw [List.length_append]; omega) (f1.same (same_upd hp2))
def spMade (c : Nat → Addr) : Sp := fun vs H Q _ => ∃ x : V, vs = [x] ∧ ∀ H' p (zs : List V), Same H H' → H' p = some (.lst zs) → zs.length = 22 → Firsts c H' zs → Q (.ref p) H'
theorem scMd : FnScope ["_law_a", "_law_found"] ["_law_a"] (defScope sMade) := ⟨rfl, rfl, rfl, by decide +kernel, rfl, by decide +kernel, by decide +kernel⟩
theorem ok_made {f : Addr} {fd : FuncData} (F : Fun K "_law_made" "_law_made" sMade f fd) (E : Errs P K mg c fi cG) : FnOk P w K mg base CX0 2 f fd ["_law_a"] (spMade c) := by
  refine F.ok scMd (fun vs H Q E h => ?_) (fun cdv A outer s H vs Q _ hr h => ?_)
  · obtain ⟨x, rfl, _⟩ := h
    rfl
  · obtain ⟨x, rfl, q⟩ := h
    refine ⟨_, pss_cons (ps_set (i := 1) scMd.nd rfl (Or.inl rfl) (pe_lst (pa_cons (pe_mkX (f := "value") (E.T 0 (by decide)) (E.I 0 (by decide)) hr (by rfl) (E.m 0 (by decide)) (pa_cons (pv 0) pa_nil)) (pa_cons (pe_mkX (f := "value") (E.T 1 (by decide)) (E.I 1 (by decide)) hr (by rfl) (E.m 1 (by decide)) (pa_cons (pv 0) pa_nil)) (pa_cons (pe_mkX (f := "value") (E.T 2 (by decide)) (E.I 2 (by decide)) hr (by rfl) (E.m 2 (by decide)) (pa_cons (pv 0) pa_nil)) pa_nil)))))
      (pss_cons (ps_set (i := 1) scMd.nd rfl (Or.inl rfl) (pe_op op_cat (pv 1) (pe_lst (pa_cons (pe_mkX (f := "value") (E.T 3 (by decide)) (E.I 3 (by decide)) hr (by rfl) (E.m 3 (by decide)) (pa_cons (pv 0) pa_nil)) (pa_cons (pe_mkX (f := "value") (E.T 4 (by decide)) (E.I 4 (by decide)) hr (by rfl) (E.m 4 (by decide)) (pa_cons (pv 0) pa_nil)) (pa_cons (pe_mkX (f := "value") (E.T 5 (by decide)) (E.I 5 (by decide)) hr (by rfl) (E.m 5 (by decide)) (pa_cons (pv 0) pa_nil)) pa_nil))))))
      (pss_cons (ps_set (i := 1) scMd.nd rfl (Or.inl rfl) (pe_op op_cat (pv 1) (pe_lst (pa_cons (pe_mkX (f := "value") (E.T 6 (by decide)) (E.I 6 (by decide)) hr (by rfl) (E.m 6 (by decide)) (pa_cons (pv 0) pa_nil)) (pa_cons (pe_mkX (f := "value") (E.T 7 (by decide)) (E.I 7 (by decide)) hr (by rfl) (E.m 7 (by decide)) (pa_cons (pv 0) pa_nil)) (pa_cons (pe_mkX (f := "value") (E.T 8 (by decide)) (E.I 8 (by decide)) hr (by rfl) (E.m 8 (by decide)) (pa_cons (pv 0) pa_nil)) pa_nil))))))
      (pss_cons (ps_set (i := 1) scMd.nd rfl (Or.inl rfl) (pe_op op_cat (pv 1) (pe_lst (pa_cons (pe_mkX (f := "value") (E.T 9 (by decide)) (E.I 9 (by decide)) hr (by rfl) (E.m 9 (by decide)) (pa_cons (pv 0) pa_nil)) (pa_cons (pe_mkX (f := "value") (E.T 10 (by decide)) (E.I 10 (by decide)) hr (by rfl) (E.m 10 (by decide)) (pa_cons (pv 0) pa_nil)) (pa_cons (pe_mkX (f := "mark") (E.T 11 (by decide)) (E.I 11 (by decide)) hr (by rfl) (E.m 11 (by decide)) (pa_cons (pv 0) pa_nil)) pa_nil))))))
      (pss_cons (ps_set (i := 1) scMd.nd rfl (Or.inl rfl) (pe_op op_cat (pv 1) (pe_lst (pa_cons (pe_mkX (f := "mark") (E.T 12 (by decide)) (E.I 12 (by decide)) hr (by rfl) (E.m 12 (by decide)) (pa_cons (pv 0) pa_nil)) (pa_cons (pe_mkX (f := "number") (E.T 13 (by decide)) (E.I 13 (by decide)) hr (by rfl) (E.m 13 (by decide)) (pa_cons (pv 0) pa_nil)) (pa_cons (pe_mkX (f := "number") (E.T 14 (by decide)) (E.I 14 (by decide)) hr (by rfl) (E.m 14 (by decide)) (pa_cons (pv 0) pa_nil)) pa_nil))))))
      (pss_cons (ps_set (i := 1) scMd.nd rfl (Or.inl rfl) (pe_op op_cat (pv 1) (pe_lst (pa_cons (pe_mkX (f := "name") (E.T 15 (by decide)) (E.I 15 (by decide)) hr (by rfl) (E.m 15 (by decide)) (pa_cons (pv 0) pa_nil)) (pa_cons (pe_mkX (f := "name") (E.T 16 (by decide)) (E.I 16 (by decide)) hr (by rfl) (E.m 16 (by decide)) (pa_cons (pv 0) pa_nil)) (pa_cons (pe_mkX (f := "line") (E.T 17 (by decide)) (E.I 17 (by decide)) hr (by rfl) (E.m 17 (by decide)) (pa_cons (pv 0) pa_nil)) pa_nil))))))
      (pss_cons (ps_set (i := 1) scMd.nd rfl (Or.inl rfl) (pe_op op_cat (pv 1) (pe_lst (pa_cons (pe_mkX (f := "line") (E.T 18 (by decide)) (E.I 18 (by decide)) hr (by rfl) (E.m 18 (by decide)) (pa_cons (pv 0) pa_nil)) (pa_cons (pe_mkX (f := "index") (E.T 19 (by decide)) (E.I 19 (by decide)) hr (by rfl) (E.m 19 (by decide)) (pa_cons (pv 0) pa_nil)) (pa_cons (pe_mkX (f := "clashes") (E.T 20 (by decide)) (E.I 20 (by decide)) hr (by rfl) (E.m 20 (by decide)) (pa_cons (pv 0) pa_nil)) pa_nil))))))
      (pss_one (ps_ret (pe_op op_cat (pv 1) (pe_lst (pa_cons (pe_mkN (E.T 21 (by decide)) E.N hr (by rfl) (E.m 21 (by decide))) pa_nil))))))))))), ?_⟩
    have z0 : (L2.start ["_law_a", "_law_found"] [x])[0]? = some (some x) := rfl
    refine mk3 (j := 0) (c := c) (x := x) (xs := []) Firsts.nil rfl z0 fun p1 H1 y1 n1 s1 e1 l1 f1 => ?_
    refine catM (j := 3) f1 l1 (by decide) rfl rfl e1 fun p2 H2 y2 n2 s2 e2 l2 f2 => ?_
    refine catM (j := 6) f2 l2 (by decide) rfl rfl e2 fun p3 H3 y3 n3 s3 e3 l3 f3 => ?_
    refine catM (j := 9) f3 l3 (by decide) rfl rfl e3 fun p4 H4 y4 n4 s4 e4 l4 f4 => ?_
    refine catM (j := 12) f4 l4 (by decide) rfl rfl e4 fun p5 H5 y5 n5 s5 e5 l5 f5 => ?_
    refine catM (j := 15) f5 l5 (by decide) rfl rfl e5 fun p6 H6 y6 n6 s6 e6 l6 f6 => ?_
    refine catM (j := 18) f6 l6 (by decide) rfl rfl e6 fun p7 H7 y7 n7 s7 e7 l7 f7 => ?_
    have s07 := ((((((s1.trans s2).trans s3).trans s4).trans s5).trans s6).trans s7)
    refine ⟨_, rfl, fun a na => ⟨by show 1 ≤ sizeLine; decide, fun p8 hp8 => ⟨p7, p8, y7, _, rfl, rfl, ?_, upd_same, Nat.le_of_lt (small1000 (by rw [l7]; show 22 ≤ 1000; decide)), fun p9 hp9 => ?_⟩⟩⟩
    · exact ((same_upd na).trans (same_upd hp8)) _ _ e7
    · have s8 := same_upd (o := exo a (c 21) none) na
      have s9 := (same_upd (o := .lst [.ref a]) hp8).trans (same_upd (o := .lst (y7 ++ [.ref a])) hp9)
      refine q _ p9 (y7 ++ [.ref a]) (s07.trans (s8.trans s9)) upd_same (by rw [List.length_append, l7]; rfl) ?_
      exact ((f7.same s8).snoc (a := a) (by rw [l7]; exact .inl upd_same)).same s9
end
end KT

set_option Elab.async false
set_option linter.all false
set_option maxRecDepth 100000
set_option maxHeartbeats 4000000
namespace KT
open PySem L2 PyProof.Rows XL GD
/-! ### texts that are compared -/
theorem dp_strs {K : PySem.W.Frag} {H : Hp} : ∀ bs : List Str, DpAll K H (bs.map V.str) (bs.map PyData.str)
  | [] => .nil
  | b :: r => .cons (.str b) (dp_strs r)
theorem lay_strs : ∀ bs : List Str, (∀ b ∈ bs, PyData.strOk b = true) → PyData.canLayAll0 (bs.map PyData.str) = true
  | [], _ => rfl
  | b :: r, h => by
    show (PyData.strOk b && PyData.canLayAll0 (r.map PyData.str)) = true
    rw [h b List.mem_cons_self, lay_strs r fun c hc => h c (List.mem_cons_of_mem _ hc)]
    rfl
theorem depth_strs : ∀ bs : List Str, PyData.depthAll (bs.map PyData.str) = 0
  | [] => rfl
  | _ :: r => by
    show max 0 (PyData.depthAll (r.map PyData.str)) = 0
    rw [depth_strs r]
    rfl
theorem shaped_strs (bs : List Str) (h : ∀ b ∈ bs, PyData.strOk b = true) : SeqAt.shaped (.list (bs.map PyData.str)) = true := by
  unfold SeqAt.shaped
  rw [show PyData.canLay0 (.list (bs.map PyData.str)) = true from lay_strs bs h, show PyData.depth (.list (bs.map PyData.str)) = 1 from congrArg (· + 1) (depth_strs bs)]
  rfl
theorem eqv_strs_self : ∀ bs : List Str, PyData.eqvAll (bs.map PyData.str) (bs.map PyData.str) = true
  | [] => rfl
  | b :: r => by
    show ((b == b) && PyData.eqvAll (r.map PyData.str) (r.map PyData.str)) = true
    rw [eqv_strs_self r, beq_self_eq_true]
    rfl
/-! ### the six values -/
def SixV (H : Hp) (x : V) : Prop := x = .non ∨ (∃ n : Int, x = .int n ∧ 0 ≤ n ∧ n < 99) ∨ x = .str ("x" : Str) ∨ (∃ p, x = .ref p ∧ H p = some (.tup [.int 1, .int 2])) ∨ (∃ p, x = .ref p ∧ H p = some (.lst [.str ("y" : Str)])) ∨ ∃ p, x = .ref p ∧ H p = some (.dK [])
theorem SixV.same {H H' : Hp} {x : V} (s : Same H H') (h : SixV H x) : SixV H' x := by
  rcases h with h | h | h | ⟨p, h, e⟩ | ⟨p, h, e⟩ | ⟨p, h, e⟩
  · exact .inl h
  · exact .inr (.inl h)
  · exact .inr (.inr (.inl h))
  · exact .inr (.inr (.inr (.inl ⟨p, h, s _ _ e⟩)))
  · exact .inr (.inr (.inr (.inr (.inl ⟨p, h, s _ _ e⟩))))
  · exact .inr (.inr (.inr (.inr (.inr ⟨p, h, s _ _ e⟩))))
def shOk (d : PyData) : Bool := d.showable && (decide (d.depth ≤ 64) && (decide (d.shown.length ≤ 100) && PyData.strOk d.shown))
theorem shOk_int : ∀ i : _root_.Fin 99, shOk (.int (i.val : Int)) = true := by decide +kernel
/-- what is shown of it, in whatever becomes of the heap -/
theorem SixV.rv {K : PySem.W.Frag} {H : Hp} {x : V} (h : SixV H x) : ∃ d : PyData, (∀ H', Same H H' → RV K H' x d) ∧ d.showable = true ∧ d.depth ≤ 64 ∧ d.shown.length ≤ 100 ∧ PyData.strOk d.shown = true := by
  have fin : ∀ d : PyData, shOk d = true → (∀ H', Same H H' → RV K H' x d) → ∃ d : PyData, (∀ H', Same H H' → RV K H' x d) ∧ d.showable = true ∧ d.depth ≤ 64 ∧ d.shown.length ≤ 100 ∧ PyData.strOk d.shown = true := by
    intro d e r
    unfold shOk at e
    rw [Bool.and_eq_true, Bool.and_eq_true, Bool.and_eq_true] at e
    exact ⟨d, r, e.1, of_decide_eq_true e.2.1, of_decide_eq_true e.2.2.1, e.2.2.2⟩
  rcases h with rfl | ⟨n, rfl, h0, h1⟩ | rfl | ⟨p, rfl, e⟩ | ⟨p, rfl, e⟩ | ⟨p, rfl, e⟩
  · exact fin .none (by decide +kernel) fun H' s => .dat .non rfl
  · refine fin (.int n) ?_ fun H' s => .dat (.int n) rfl
    have := shOk_int ⟨n.toNat, by omega⟩
    rwa [show (((⟨n.toNat, by omega⟩ : _root_.Fin 99).val : Nat) : Int) = n by show (n.toNat : Int) = n; omega] at this
  · exact fin (.str ("x" : Str)) (by decide +kernel) fun H' s => .dat (.str _) rfl
  · exact fin (.tuple [.int 1, .int 2]) (by decide +kernel) fun H' s => .dat (.tup (SqT.of (s _ _ e)) (.cons (.int 1) (.cons (.int 2) .nil))) rfl
  · exact fin (.list [.str ("y" : Str)]) (by decide +kernel) fun H' s => .dat (.lst (SqL.of (s _ _ e)) (.cons (.str _) .nil)) rfl
  · exact fin (.dict []) (by decide +kernel) fun H' s => .emp (s _ _ e)
section
variable {P : Program} {w : World} {K : PySem.W.Frag} {mg : Str → Option Value} {base : Heap} {c fi : Nat → Addr} {cG : Addr}
structure LawG (P : Program) (w : World) (K : PySem.W.Frag) (mg : Str → Option Value) (base : Heap) (c : Nat → Addr) (fPool fDraw fPos fNam fWhich fMade : Addr) (dPool dDraw dPos dNam dWhich dMade : FuncData) : Prop where
  gPool : mg "_law_pool" = some (.ref fPool)
  gDraw : mg "_law_draw" = some (.ref fDraw)
  gPos : mg "_law_by_position" = some (.ref fPos)
  gNam : mg "_law_by_name" = some (.ref fNam)
  gWhich : mg "_law_which" = some (.ref fWhich)
  gMade : mg "_law_made" = some (.ref fMade)
  kPool : PySem.W.keepIn K (.ref fPool) = true
  kDraw : PySem.W.keepIn K (.ref fDraw) = true
  kPos : PySem.W.keepIn K (.ref fPos) = true
  kNam : PySem.W.keepIn K (.ref fNam) = true
  kWhich : PySem.W.keepIn K (.ref fWhich) = true
  kMade : PySem.W.keepIn K (.ref fMade) = true
  bPool : Binds K dPool ["_law_script", "_law_k"] []
  bDraw : Binds K dDraw ["_law_pool_here", "_law_many"] []
  bPos : Binds K dPos ["_law_a"] []
  bNam : Binds K dNam ["_law_a"] []
  bWhich : Binds K dWhich ["_law_error"] []
  bMade : Binds K dMade ["_law_a"] []
  GPool : FnOk P w K mg base CX0 1 fPool dPool ["_law_script", "_law_k"] (spPool K)
  GDraw : FnOk P w K mg base CX0 1 fDraw dDraw ["_law_pool_here", "_law_many"] spDraw
  GPos : FnOk P w K mg base CX0 2 fPos dPos ["_law_a"] spBy
  GNam : FnOk P w K mg base CX0 2 fNam dNam ["_law_a"] spBy
  GWhich : FnOk P w K mg base CX0 1 fWhich dWhich ["_law_error"] (spWhich c)
  GMade : FnOk P w K mg base CX0 2 fMade dMade ["_law_a"] (spMade c)
def spLaw (K : PySem.W.Frag) : Sp := fun vs H Q _ => ∃ (a : Addr) (ns : List Int), vs = [.ref a] ∧ SqL K H a (ns.map V.int) ∧ ns.length ≤ 63 ∧ ∀ H', Q (.bl true) H'
theorem scL : FnScope ["_law_script", "_law_a", "_law_at", "_law_error", "_law_found", "_law_one", "_law_pool_here"] ["_law_script"] (defScope sLaw) := ⟨rfl, rfl, rfl, by decide +kernel, rfl, by decide +kernel, by decide +kernel⟩
theorem count_one : ∀ j : _root_.Fin 22, ((List.range 22).map fun k => decide (j.val = k)).countP (fun y => y == true) = 1 := by decide +kernel
theorem ok_law {f fPool fDraw fPos fNam fWhich fMade : Addr} {fd dPool dDraw dPos dNam dWhich dMade : FuncData} (F : Fun K "law" "law" sLaw f fd) (E : Errs P K mg c fi cG) (T : Txt mg) (G : LawG P w K mg base c fPool fDraw fPos fNam fWhich fMade dPool dDraw dPos dNam dWhich dMade) :
    FnG P w K mg base CX0 3 f fd ["_law_script"] (spLaw K) := by
  refine ok_guard F scL (fun vs H Q E h => ?_) (fun cdv A outer s H vs Q _ hgd hr2 h => ?_)
  · obtain ⟨a, ns, rfl, _⟩ := h
    rfl
  · obtain ⟨a, ns, rfl, hS, hl, q⟩ := h
    have hr1 := hr2.mono (show 1 ≤ 2 by decide)
    have hr := hr2
    have rr : ∀ X : Cx, X.A = A.deeper (envOfC "law" (defScope sLaw) s.heap.objs.size f cdv) → X.K = K → CallR X (.builtin "repr") (rRepr K) := fun X e e2 => e2 ▸ call_repr (by rw [e]; exact hgd) (by rw [e]; have := hr2.un; omega)
    have hu1 : (A.deeper (envOfC "law" (defScope sLaw) s.heap.objs.size f cdv)).units + 1 < cLine := by have := hr2.un; omega
    refine ⟨_, PSs.nox (pss_cons (ps_set (i := 6) scL.nd rfl (Or.inl rfl) (pe_call G.GPool hr1 (by rfl) G.gPool G.kPool G.bPool .nil pass0 (pa_cons (pv 0) (pa_cons pe_int pa_nil))))
      (pss_cons (ps_for PassesOwn.never rfl (pi_list (pe_lst (pa_cons pe_non (pa_cons (pe_call G.GDraw hr1 (by rfl) G.gDraw G.kDraw G.bDraw .nil pass0 (pa_cons (pv 6) (pa_cons pe_int pa_nil))) (pa_cons pe_str (pa_cons (pe_tup (pa_cons pe_int (pa_cons pe_int pa_nil))) (pa_cons (pe_lst (pa_cons pe_str pa_nil)) (pa_cons pe_dnewK pa_nil)))))))) (pg_name (i := 1) scL.nd rfl (Or.inl rfl)) (pss_cons (ps_if (pt_cmpR (op_neD hr.units) (pe_lc (own := [("_law_one", 5)]) (g := gName 5) rfl scL.nd (pi_list (pe_call G.GPos hr2 (by rfl) G.gPos G.kPos G.bPos .nil pass0 (pa_cons (pv 1) pa_nil))) (blkOk_by (N := ["_law_script", "_law_a", "_law_at", "_law_error", "_law_found", "_law_one", "_law_pool_here"]) (sc := defScope sLaw) (by decide +kernel)) (fun _ _ _ _ _ => pg_name (i := 5) scL.nd rfl (Or.inl rfl)) (fun _ _ _ _ _ => pts_nil) (fun _ _ _ _ _ => (pe_callB (rr _ rfl rfl) (by rfl) T.repr boot_repr (pa_cons (pv 5) pa_nil)))) (pe_op op_rep (pe_lst (pa_cons (pe_callB (rr _ rfl rfl) (by rfl) T.repr boot_repr (pa_cons (pv 1) pa_nil)) pa_nil)) pe_int) (nomark _)) (pss_one (ps_ret pe_bl)) pss_nil)
        (pss_cons (ps_if (pt_cmpR (op_neD hr.units) (pe_lc (own := [("_law_one", 5)]) (g := gName 5) rfl scL.nd (pi_list (pe_call G.GNam hr2 (by rfl) G.gNam G.kNam G.bNam .nil pass0 (pa_cons (pv 1) pa_nil))) (blkOk_by (N := ["_law_script", "_law_a", "_law_at", "_law_error", "_law_found", "_law_one", "_law_pool_here"]) (sc := defScope sLaw) (by decide +kernel)) (fun _ _ _ _ _ => pg_name (i := 5) scL.nd rfl (Or.inl rfl)) (fun _ _ _ _ _ => pts_nil) (fun _ _ _ _ _ => (pe_callB (rr _ rfl rfl) (by rfl) T.repr boot_repr (pa_cons (pv 5) pa_nil)))) (pe_op op_rep (pe_lst (pa_cons (pe_callB (rr _ rfl rfl) (by rfl) T.repr boot_repr (pa_cons (pv 1) pa_nil)) pa_nil)) pe_int) (nomark _)) (pss_one (ps_ret pe_bl)) pss_nil)
        (pss_one (ps_for PassesOwn.never rfl (pi_enum (by rfl) T.enumerate (pa_cons (pe_call G.GMade hr2 (by rfl) G.gMade G.kMade G.bMade .nil pass0 (pa_cons (pv 1) pa_nil)) pa_nil)) (pg_tup (by rfl) (pgs_cons (pg_name (i := 2) scL.nd rfl (Or.inl rfl)) (pgs_cons (pg_name (i := 3) scL.nd rfl (Or.inl rfl)) pgs_nil))) (pss_cons (ps_if (PW.pt (pw_or (pt_not (pt_val (pe_callB call_isX (by rfl) T.isi boot_isinstance (pa_cons (pv 3) (pa_cons (pe_glob (v := .ref cG) (by rfl) E.mG rfl) pa_nil))))) (pw_or1 (pt_val (pe_callB call_isX (by rfl) T.isi boot_isinstance (pa_cons (pv 3) (pa_cons (pe_bltn (v := .ty "LookupError") (by rfl) T.lookupError (by decide +kernel) rfl) pa_nil))))))) (pss_one (ps_ret pe_bl)) pss_nil)
          (pss_cons (ps_if (PW.pt (pw_or (pt_val (pe_callB call_isX (by rfl) T.isi boot_isinstance (pa_cons (pv 3) (pa_cons (pe_bltn (v := .ty "ValueError") (by rfl) T.valueError (by decide +kernel) rfl) pa_nil)))) (pw_or1 (pt_val (pe_callB call_isX (by rfl) T.isi boot_isinstance (pa_cons (pv 3) (pa_cons (pe_bltn (v := .ty "TypeError") (by rfl) T.typeError (by decide +kernel) rfl) pa_nil))))))) (pss_one (ps_ret pe_bl)) pss_nil)
          (pss_cons (ps_set (i := 4) scL.nd rfl (Or.inl rfl) (pe_call G.GWhich hr1 (by rfl) G.gWhich G.kWhich G.bWhich .nil pass0 (pa_cons (pv 3) pa_nil)))
          (pss_one (ps_if (PW.pt (pw_or (pt_cmpR op_ne (pe_bm PySem.F.plainAttrs_list PySem.F.slot_list_count PySem.F.type_list_count (mt_countB hu1) (pv 4) (pa_cons pe_bl pa_nil)) pe_int (nomark _)) (pw_or1 (pt_cmpR op_notBl (pe_ix ix_list (pv 4) (pv 2) (fun _ _ => rfl)) pe_bl (nomark _))))) (pss_one (ps_ret pe_bl)) pss_nil))))))))))
      (pss_one (ps_ret pe_bl)))), ?_⟩
    refine ⟨_, rfl, a, ns, 0, rfl, hS, by decide, fun H1 p s1 np hp => ?_⟩
    refine ⟨_, rfl, p, 99, rfl, hp, by decide, by decide, fun v x1 y1 hv0 hv1 hx hy hy2 => ?_⟩
    generalize upd H1 p (.lst [.int x1, .int y1]) = H2
    refine ⟨(by show 2 ≤ sizeLine; decide), fun t ht => ⟨(by show 1 ≤ sizeLine; decide), fun l hl2 d hd => ⟨(by show 6 ≤ sizeLine; decide), fun L hL => ?_⟩⟩⟩
    have kL := same_upd (o := .lst [.non, .int v, .str ("x" : Str), .ref t, .ref l, .ref d]) hL
    have kd := (same_upd (o := .dK []) hd).trans kL
    have kl := (same_upd (o := .lst [.str ("y" : Str)]) hl2).trans kd
    have six : ∀ (i : Nat) (x : V), [V.non, .int v, .str ("x" : Str), .ref t, .ref l, .ref d][i]? = some x → SixV (upd (upd (upd (upd H2 t (.tup [.int 1, .int 2])) l (.lst [.str ("y" : Str)])) d (.dK [])) L (.lst [.non, .int v, .str ("x" : Str), .ref t, .ref l, .ref d])) x := by
      intro i x e
      match i, e with
      | 0, e => cases e; exact .inl rfl
      | 1, e => cases e; exact .inr (.inl ⟨v, rfl, hv0, hv1⟩)
      | 2, e => cases e; exact .inr (.inr (.inl rfl))
      | 3, e => cases e; exact .inr (.inr (.inr (.inl ⟨t, rfl, kl _ _ upd_same⟩)))
      | 4, e => cases e; exact .inr (.inr (.inr (.inr (.inl ⟨l, rfl, kd _ _ upd_same⟩))))
      | 5, e => cases e; exact .inr (.inr (.inr (.inr (.inr ⟨d, rfl, kL _ _ upd_same⟩))))
      | _ + 6, e => cases e
    have eL : (upd (upd (upd (upd H2 t (.tup [.int 1, .int 2])) l (.lst [.str ("y" : Str)])) d (.dK [])) L (.lst [.non, .int v, .str ("x" : Str), .ref t, .ref l, .ref d])) L = some (.lst [.non, .int v, .str ("x" : Str), .ref t, .ref l, .ref d]) := upd_same
    generalize (upd (upd (upd (upd H2 t (.tup [.int 1, .int 2])) l (.lst [.str ("y" : Str)])) d (.dK [])) L (.lst [.non, .int v, .str ("x" : Str), .ref t, .ref l, .ref d])) = H6 at six eL ⊢
    clear kL kd kl
    refine ⟨L, rfl, ⟨_, SqL.of eL⟩, ?_⟩
    refine for_list (K := K) (a := L) (xs := [.non, .int v, .str ("x" : Str), .ref t, .ref l, .ref d]) (fun i σ H' => ∃ o1 o2 o3 o4 o5 : Option V, σ = [some (.ref a), o1, o2, o3, o4, o5, some (.ref p)] ∧ Same H6 H') ⟨_, _, _, _, _, rfl, fun _ _ e => e⟩ (fun i σ H' _ ⟨_, _, _, _, _, _, s⟩ => SqL.of (s _ _ eL)) ?_ ?_
    · rintro i x σ H7 hi ⟨o1, o2, o3, o4, o5, rfl, s7⟩
      obtain ⟨dd, rv, sh, dep, sz, ok⟩ := SixV.rv (K := K) ((six i x hi).same s7)
      have szl : dd.shown.length ≤ sizeLine := Nat.le_of_lt (small1000 (by omega))
      have oks : ∀ b ∈ List.replicate 21 dd.shown, PyData.strOk b = true := fun b hb => by rw [List.eq_of_mem_replicate hb]; exact ok
      replace rv : ∀ H', Same H7 H' → RV K H' x dd := rv
      have s77 : Same H7 H7 := fun b o e => e
      refine ⟨_, rfl, x, rfl, fun Ha1 pa1 sa1 ea1 => ⟨pa1, rfl, ⟨_, SqL.of ea1⟩, fun D1 hD1 => ?_⟩⟩
      refine lc_list (K := K) (a := pa1) (xs := [x, x, x, x, x, x, x, x, x, x, x, x, x, x, x, x, x, x, x, x, x]) (fun i H' => Same Ha1 H' ∧ i ≤ 21 ∧ H' D1 = some (.lst ((List.replicate i dd.shown).map V.str))) ⟨same_upd hD1, Nat.zero_le _, upd_same⟩ (fun i H' _ h => SqL.of (h.1 _ _ ea1)) ?_ ?_
      · rintro i y Hb hi ⟨sb, hi2, eb⟩
        have hi3 : i < 21 := (List.getElem?_eq_some_iff.mp hi).1
        have ey : y = x := by
          have := List.mem_of_getElem? hi
          simpa using this
        subst ey
        refine ⟨rfl, ?_⟩
        refine ⟨_, rfl, y, dd, rfl, rv _ ((s77.trans sa1).trans sb), sh, dep, szl, _, eb, ?_, ?_, by omega, ?_⟩
        · rw [List.length_map, List.length_replicate]
          exact small1000 (by omega)
        · exact fun b o e => by
            have nb : b ≠ D1 := fun z => by rw [z, hD1] at e; cases e
            rw [upd_ne nb]
            exact sb b o e
        · rw [upd_same, List.replicate_succ', List.map_append]
          rfl
      · rintro Hb ⟨sb, _, eb⟩
        refine ⟨_, rfl, x, dd, rfl, rv _ ((s77.trans sa1).trans sb), sh, dep, szl, ?_⟩
        refine ⟨(by show 1 ≤ sizeLine; decide), fun l1 hl1 => ⟨l1, 21, [.str dd.shown], rfl, rfl, upd_same, by decide, by decide, (by show 1 * 21 ≤ sizeLine; decide), fun l2 hl2 => ?_⟩⟩
        have fl : (List.replicate (21 : Int).toNat [V.str dd.shown]).flatten = (List.replicate 21 dd.shown).map V.str := rfl
        rw [fl]
        have s1 := (same_upd (o := .lst [.str dd.shown]) hl1).trans (same_upd (o := .lst ((List.replicate 21 dd.shown).map V.str)) hl2)
        refine ⟨.list ((List.replicate 21 dd.shown).map PyData.str), .list ((List.replicate 21 dd.shown).map PyData.str), .lst (SqL.of (s1 _ _ eb)) (dp_strs _), .lst (SqL.of upd_same) (dp_strs _), shaped_strs _ oks, shaped_strs _ oks, ?_⟩
        rw [show PyData.eqv (.list ((List.replicate 21 dd.shown).map PyData.str)) (.list ((List.replicate 21 dd.shown).map PyData.str)) = true from eqv_strs_self _]
        have s8 := ((s77.trans sa1).trans sb).trans s1
        generalize upd (upd Hb l1 (.lst [.str dd.shown])) l2 (.lst ((List.replicate 21 dd.shown).map V.str)) = Hc1 at s8 ⊢
        clear s1
        refine ⟨false, rfl, iteF ?_⟩
        refine ⟨_, rfl, x, rfl, fun Ha2 pa2 sa2 ea2 => ⟨pa2, rfl, ⟨_, SqL.of ea2⟩, fun D2 hD2 => ?_⟩⟩
        refine lc_list (K := K) (a := pa2) (xs := [x, x, x, x, x, x, x, x, x, x, x, x, x, x, x, x, x, x, x, x, x]) (fun i H' => Same Ha2 H' ∧ i ≤ 21 ∧ H' D2 = some (.lst ((List.replicate i dd.shown).map V.str))) ⟨same_upd hD2, Nat.zero_le _, upd_same⟩ (fun i H' _ h => SqL.of (h.1 _ _ ea2)) ?_ ?_
        · rintro i y Hb hi ⟨sb2, hi2, eb2⟩
          have hi3 : i < 21 := (List.getElem?_eq_some_iff.mp hi).1
          have ey : y = x := by
            have := List.mem_of_getElem? hi
            simpa using this
          subst ey
          refine ⟨rfl, ?_⟩
          refine ⟨_, rfl, y, dd, rfl, rv _ ((s8.trans sa2).trans sb2), sh, dep, szl, _, eb2, ?_, ?_, by omega, ?_⟩
          · rw [List.length_map, List.length_replicate]
            exact small1000 (by omega)
          · exact fun b o e => by
              have nb : b ≠ D2 := fun z => by rw [z, hD2] at e; cases e
              rw [upd_ne nb]
              exact sb2 b o e
          · rw [upd_same, List.replicate_succ', List.map_append]
            rfl
        · rintro Hb ⟨sb2, _, eb2⟩
          refine ⟨_, rfl, x, dd, rfl, rv _ ((s8.trans sa2).trans sb2), sh, dep, szl, ?_⟩
          refine ⟨(by show 1 ≤ sizeLine; decide), fun l1 hl1 => ⟨l1, 21, [.str dd.shown], rfl, rfl, upd_same, by decide, by decide, (by show 1 * 21 ≤ sizeLine; decide), fun l2 hl2 => ?_⟩⟩
          have fl : (List.replicate (21 : Int).toNat [V.str dd.shown]).flatten = (List.replicate 21 dd.shown).map V.str := rfl
          rw [fl]
          have s1 := (same_upd (o := .lst [.str dd.shown]) hl1).trans (same_upd (o := .lst ((List.replicate 21 dd.shown).map V.str)) hl2)
          refine ⟨.list ((List.replicate 21 dd.shown).map PyData.str), .list ((List.replicate 21 dd.shown).map PyData.str), .lst (SqL.of (s1 _ _ eb2)) (dp_strs _), .lst (SqL.of upd_same) (dp_strs _), shaped_strs _ oks, shaped_strs _ oks, ?_⟩
          rw [show PyData.eqv (.list ((List.replicate 21 dd.shown).map PyData.str)) (.list ((List.replicate 21 dd.shown).map PyData.str)) = true from eqv_strs_self _]
          have s9 := ((s8.trans sa2).trans sb2).trans s1
          generalize upd (upd Hb l1 (.lst [.str dd.shown])) l2 (.lst ((List.replicate 21 dd.shown).map V.str)) = Hc2 at s9 ⊢
          clear s1
          refine ⟨false, rfl, iteF ?_⟩
          refine ⟨_, rfl, x, rfl, fun H9 m zs s10 e9 l9 f9 => ⟨m, zs, rfl, SqL.of e9, ?_⟩⟩
          have s79 := s9.trans s10
          refine for_it (walk_enum (xs := zs)) (fun j σ H' => ∃ o2 o3 o4 o5 : Option V, σ = [some (.ref a), some x, o2, o3, o4, o5, some (.ref p)] ∧ Same H9 H') ⟨_, _, _, _, rfl, fun _ _ e => e⟩ (fun j σ H' _ ⟨_, _, _, _, _, s⟩ => SqL.of (s _ _ e9)) ?_ ?_
          · rintro j y σ H10 H11 hj ⟨o2, o3, o4, o5, rfl, s10'⟩ ⟨T', i0, er, rfl, nT, rfl, q1, q2⟩
            cases q1
            obtain ⟨ea, rfl, ise⟩ := f9 j er q2
            have hj22 : j < 22 := by omega
            have s11 := s10'.trans (same_upd (o := .tup [.int (j : Int), .ref ea]) nT)
            have ise' := ise.same s11
            refine ⟨T', [.int (j : Int), .ref ea], rfl, SqT.of upd_same, rfl, .int (j : Int), [.ref ea], rfl, .ref ea, [], rfl, rfl, ?_⟩
            refine ⟨_, rfl, ea, c j, .ref cG, .ref cG, true, rfl, E.T j hj22, ise', .own _, E.isG j hj22, true, rfl, iteF ?_⟩
            refine ⟨_, rfl, ea, c j, .ty "LookupError", .type "LookupError", false, rfl, E.T j hj22, ise', .ty _, E.isL j hj22, false, rfl, iteF ?_⟩
            refine ⟨_, rfl, ea, c j, .ty "ValueError", .type "ValueError", false, rfl, E.T j hj22, ise', .ty _, E.isV j hj22, false, rfl, iteF ?_⟩
            refine ⟨_, rfl, ea, c j, .ty "TypeError", .type "TypeError", false, rfl, E.T j hj22, ise', .ty _, E.isT j hj22, false, rfl, iteF ?_⟩
            refine ⟨_, rfl, ea, j, rfl, hj22, ise', fun H12 pw s12 e12 => ?_⟩
            have eb : (List.range 22).map (D j) = ((List.range 22).map fun k => decide (j = k)).map V.bl := by rw [List.map_map]; rfl
            have e12' : H12 pw = some (.lst (((List.range 22).map fun k => decide (j = k)).map V.bl)) := by rw [← eb]; exact e12
            refine ⟨_, rfl, .inl ⟨rfl, _, SqL.of e12⟩, pw, (List.range 22).map fun k => decide (j = k), true, rfl, rfl, SqL.of e12', ?_⟩
            rw [count_one ⟨j, hj22⟩]
            refine ⟨rfl, false, congrArg V.bl (by decide +kernel), iteF ?_⟩
            have at_ : ((List.range 22).map (D j))[j]? = some (.bl true) := by
              rw [List.getElem?_map, List.getElem?_range hj22]
              show some (V.bl (decide (j = j))) = _
              rw [decide_eq_true rfl]
            refine ⟨_, rfl, _, rfl, pw, _, (j : Int), .bl true, rfl, rfl, SqL.of e12, atI_nat at_, ?_⟩
            refine ⟨true, true, rfl, rfl, false, rfl, iteF ?_⟩
            exact ⟨_, _, _, _, rfl, s11.trans s12⟩
          · rintro σ H' ⟨o2, o3, o4, o5, rfl, s11⟩
            exact ⟨_, _, _, _, _, rfl, s7.trans (s79.trans s11)⟩
    · rintro σ H' ⟨o1, o2, o3, o4, o5, rfl, _⟩
      exact q _
end
end KT

set_option Elab.async false
set_option linter.all false
set_option maxRecDepth 100000
set_option maxHeartbeats 4000000
namespace KT
open PySem L2 PyProof.Rows XL GD
/-! ### what the top has written: the errors -/
def XF (K : PySem.W.Frag) (fI : Addr) (f : Str) : Prop := ∃ (oc : Value) (od : Option Addr) (doc pm : Value) (an : Option Addr) (cdv ct : Value) (osl : Array (Option Value)) (qual : Str) (p1 p2 q1 q2 q3 q4 : Pos),
  K.lookup fI = some ⟨oc, od, .func (PySem.W.fnOf "__init__" qual (xA f p1 p2) (xB f q1 q2 q3 q4) (xS f) .none .none doc pm an cdv ct), osl⟩ ∧ PySem.W.codeIn K cdv qual = true
theorem xf_mk {K : PySem.W.Frag} {fI : Addr} {f : Str} {oc : Value} {od : Option Addr} {doc pm : Value} {an : Option Addr} {cdv ct : Value} {osl : Array (Option Value)} {qual : Str} {p1 p2 q1 q2 q3 q4 : Pos}
    (l : K.lookup fI = some ⟨oc, od, .func (PySem.W.fnOf "__init__" qual (xA f p1 p2) (xB f q1 q2 q3 q4) (xS f) .none .none doc pm an cdv ct), osl⟩) (c : PySem.W.codeIn K cdv qual = true) : XF K fI f := ⟨oc, od, doc, pm, an, cdv, ct, osl, qual, p1, p2, q1, q2, q3, q4, l, c⟩
theorem xn_mk {P : Program} {K : PySem.W.Frag} {C fI : Addr} {oc : Value} {od : Option Addr} {doc pm : Value} {an : Option Addr} {cda cc : Addr} {ct : Value} {osl : Array (Option Value)} {qual : Str} {c1 : Value} {d1 : Option Addr} {vs : Array Value} {s1 : Array (Option Value)} {file : Str} {tf : Tok} {c2 : Value} {d2 : Option Addr} {s2 : Array (Option Value)}
    (iC : PySem.W.findIn K (.ref C) "__init__" = some (some (.ref fI))) (l : K.lookup fI = some ⟨oc, od, .func (PySem.W.ksFn "__init__" qual nA nB nS .none .none doc pm an (.ref cda) ct cc), osl⟩) (c : PySem.W.codeIn K (.ref cda) qual = true)
    (lc : K.lookup cda = some ⟨c1, d1, .fields vs, s1⟩) (l2 : vs[2]? = some (.str file tf)) (pf : ((P.main.file : Str) == file) = true) (l3 : K.lookup cc = some ⟨c2, d2, .cell (some (.ref C)), s2⟩)
    (tC : PySem.W.typeIn K (.ref fI) = some (.type "function")) (sup : PySem.W.ks_superIn K C C "__init__" = some (some (.builtin "Exception.__init__"))) (any : PySem.W.nsIn K cStatics "thirdparty.any" = some none) (glo : PySem.W.nsIn K mainGlobals "super" = some none)
    (sub : PySem.W.mroIn K C (.ref C) = some true) (subE : PySem.W.mroIn K C (.type "Exception") = some true) (top : (P.main.scope.names.lookup ("super" : Str)).isSome = false) : XN P K C fI :=
  ⟨iC, tC, sup, any, glo, sub, subE, top, oc, od, doc, pm, an, cda, cc, ct, osl, qual, l, c, ⟨c1, d1, vs, s1, file, tf, lc, l2, pf⟩, c2, d2, s2, l3⟩
/-- all that is asked of the classes, for each, and of each two -/
def xiB (K : PySem.W.Frag) (C fI : Addr) (f : Str) : Bool := decide (PySem.W.takerIn K C f = some none) && (decide (PySem.W.findIn K (.ref C) "__init__" = some (some (.ref fI))) && (decide (PySem.W.typeIn K (.ref fI) = some (.type "function")) && decide (PySem.W.findIn K (.ref C) f = some none)))
def clB (K : PySem.W.Frag) (C cG : Addr) : Bool := xcB K C && (decide (PySem.W.kitOne K (.ref C) (.ref cG) = some true) && (decide (PySem.W.kitOne K (.ref C) (.type "LookupError") = some false) && (decide (PySem.W.kitOne K (.ref C) (.type "ValueError") = some false) && decide (PySem.W.kitOne K (.ref C) (.type "TypeError") = some false))))
def allC (K : PySem.W.Frag) (cs : List Addr) (cG : Addr) : Bool := (List.range 22).all fun i => clB K (cs.getD i 0) cG
def allI (K : PySem.W.Frag) (cs fs : List Addr) : Bool := (List.range 21).all fun i => xiB K (cs.getD i 0) (fs.getD i 0) (fldOf i)
def allP (K : PySem.W.Frag) (cs : List Addr) : Bool := (List.range 22).all fun i => (List.range 22).all fun j => decide (PySem.W.kitOne K (.ref (cs.getD i 0)) (.ref (cs.getD j 0)) = some (decide (i = j)))
theorem all_at {n : Nat} {p : Nat → Bool} (h : (List.range n).all p = true) {i : Nat} (hi : i < n) : p i = true := List.all_eq_true.mp h i (List.mem_range.mpr hi)
theorem fld_of : ∀ i, i < 21 → Fld (fldOf i) := by
  intro i hi
  unfold fldOf Fld
  split
  · exact .inl rfl
  · split
    · exact .inr (.inl rfl)
    · split
      · exact .inr (.inr (.inl rfl))
      · split
        · exact .inr (.inr (.inr (.inl rfl)))
        · split
          · exact .inr (.inr (.inr (.inr (.inl rfl))))
          · split
            · exact .inr (.inr (.inr (.inr (.inr (.inl rfl)))))
            · exact .inr (.inr (.inr (.inr (.inr (.inr rfl)))))

theorem errs_of {P : Program} {K : PySem.W.Frag} {mg : Str → Option Value} {h : Heap} {cG c0 c1 c2 c3 c4 c5 c6 c7 c8 c9 c10 c11 c12 c13 c14 c15 c16 c17 c18 c19 c20 c21 i0 i1 i2 i3 i4 i5 i6 i7 i8 i9 i10 i11 i12 i13 i14 i15 i16 i17 i18 i19 i20 i21 : Addr} (X : K.In h) (G : h.Ns mainGlobals mg)
    (m0 : PySem.W.nsIn K mainGlobals "BadArgument" = some (some (.ref c0))) (m1 : PySem.W.nsIn K mainGlobals "BadMark" = some (some (.ref c1))) (m2 : PySem.W.nsIn K mainGlobals "UnknownMark" = some (some (.ref c2))) (m3 : PySem.W.nsIn K mainGlobals "BadName" = some (some (.ref c3))) (m4 : PySem.W.nsIn K mainGlobals "BadObject" = some (some (.ref c4))) (m5 : PySem.W.nsIn K mainGlobals "BadMap" = some (some (.ref c5))) (m6 : PySem.W.nsIn K mainGlobals "BadMarked" = some (some (.ref c6))) (m7 : PySem.W.nsIn K mainGlobals "BadChange" = some (some (.ref c7))) (m8 : PySem.W.nsIn K mainGlobals "BadValue" = some (some (.ref c8))) (m9 : PySem.W.nsIn K mainGlobals "BadPiece" = some (some (.ref c9))) (m10 : PySem.W.nsIn K mainGlobals "BadSteps" = some (some (.ref c10))) (m11 : PySem.W.nsIn K mainGlobals "MissingObject" = some (some (.ref c11))) (m12 : PySem.W.nsIn K mainGlobals "Unreachable" = some (some (.ref c12))) (m13 : PySem.W.nsIn K mainGlobals "LimitExceeded" = some (some (.ref c13))) (m14 : PySem.W.nsIn K mainGlobals "UnknownVersion" = some (some (.ref c14))) (m15 : PySem.W.nsIn K mainGlobals "UnknownName" = some (some (.ref c15))) (m16 : PySem.W.nsIn K mainGlobals "NameTaken" = some (some (.ref c16))) (m17 : PySem.W.nsIn K mainGlobals "BadText" = some (some (.ref c17))) (m18 : PySem.W.nsIn K mainGlobals "BadCommand" = some (some (.ref c18))) (m19 : PySem.W.nsIn K mainGlobals "NoPlace" = some (some (.ref c19))) (m20 : PySem.W.nsIn K mainGlobals "Clash" = some (some (.ref c20))) (m21 : PySem.W.nsIn K mainGlobals "NothingToUndo" = some (some (.ref c21))) (mG : PySem.W.nsIn K mainGlobals "GraphError" = some (some (.ref cG)))
    (g0 : PySem.W.findIn K (.ref c0) "__init__" = some (some (.ref i0))) (g1 : PySem.W.findIn K (.ref c1) "__init__" = some (some (.ref i1))) (g2 : PySem.W.findIn K (.ref c2) "__init__" = some (some (.ref i2))) (g3 : PySem.W.findIn K (.ref c3) "__init__" = some (some (.ref i3))) (g4 : PySem.W.findIn K (.ref c4) "__init__" = some (some (.ref i4))) (g5 : PySem.W.findIn K (.ref c5) "__init__" = some (some (.ref i5))) (g6 : PySem.W.findIn K (.ref c6) "__init__" = some (some (.ref i6))) (g7 : PySem.W.findIn K (.ref c7) "__init__" = some (some (.ref i7))) (g8 : PySem.W.findIn K (.ref c8) "__init__" = some (some (.ref i8))) (g9 : PySem.W.findIn K (.ref c9) "__init__" = some (some (.ref i9))) (g10 : PySem.W.findIn K (.ref c10) "__init__" = some (some (.ref i10))) (g11 : PySem.W.findIn K (.ref c11) "__init__" = some (some (.ref i11))) (g12 : PySem.W.findIn K (.ref c12) "__init__" = some (some (.ref i12))) (g13 : PySem.W.findIn K (.ref c13) "__init__" = some (some (.ref i13))) (g14 : PySem.W.findIn K (.ref c14) "__init__" = some (some (.ref i14))) (g15 : PySem.W.findIn K (.ref c15) "__init__" = some (some (.ref i15))) (g16 : PySem.W.findIn K (.ref c16) "__init__" = some (some (.ref i16))) (g17 : PySem.W.findIn K (.ref c17) "__init__" = some (some (.ref i17))) (g18 : PySem.W.findIn K (.ref c18) "__init__" = some (some (.ref i18))) (g19 : PySem.W.findIn K (.ref c19) "__init__" = some (some (.ref i19))) (g20 : PySem.W.findIn K (.ref c20) "__init__" = some (some (.ref i20)))
    (x0 : XF K i0 "value") (x1 : XF K i1 "value") (x2 : XF K i2 "value") (x3 : XF K i3 "value") (x4 : XF K i4 "value") (x5 : XF K i5 "value") (x6 : XF K i6 "value") (x7 : XF K i7 "value") (x8 : XF K i8 "value") (x9 : XF K i9 "value") (x10 : XF K i10 "value") (x11 : XF K i11 "mark") (x12 : XF K i12 "mark") (x13 : XF K i13 "number") (x14 : XF K i14 "number") (x15 : XF K i15 "name") (x16 : XF K i16 "name") (x17 : XF K i17 "line") (x18 : XF K i18 "line") (x19 : XF K i19 "index") (x20 : XF K i20 "clashes")
    (xn : XN P K c21 i21) (b1 : allC K [c0, c1, c2, c3, c4, c5, c6, c7, c8, c9, c10, c11, c12, c13, c14, c15, c16, c17, c18, c19, c20, c21] cG = true) (b2 : allI K [c0, c1, c2, c3, c4, c5, c6, c7, c8, c9, c10, c11, c12, c13, c14, c15, c16, c17, c18, c19, c20, c21] [i0, i1, i2, i3, i4, i5, i6, i7, i8, i9, i10, i11, i12, i13, i14, i15, i16, i17, i18, i19, i20, i21] = true) (b3 : allP K [c0, c1, c2, c3, c4, c5, c6, c7, c8, c9, c10, c11, c12, c13, c14, c15, c16, c17, c18, c19, c20, c21] = true) :
    Errs P K mg (fun i => ([c0, c1, c2, c3, c4, c5, c6, c7, c8, c9, c10, c11, c12, c13, c14, c15, c16, c17, c18, c19, c20, c21] : List Addr).getD i 0) (fun i => ([i0, i1, i2, i3, i4, i5, i6, i7, i8, i9, i10, i11, i12, i13, i14, i15, i16, i17, i18, i19, i20, i21] : List Addr).getD i 0) cG := by
  have C : ∀ i, i < 22 → clB K (([c0, c1, c2, c3, c4, c5, c6, c7, c8, c9, c10, c11, c12, c13, c14, c15, c16, c17, c18, c19, c20, c21] : List Addr).getD i 0) cG = true := fun i hi => all_at b1 hi
  have I : ∀ i, i < 21 → xiB K (([c0, c1, c2, c3, c4, c5, c6, c7, c8, c9, c10, c11, c12, c13, c14, c15, c16, c17, c18, c19, c20, c21] : List Addr).getD i 0) (([i0, i1, i2, i3, i4, i5, i6, i7, i8, i9, i10, i11, i12, i13, i14, i15, i16, i17, i18, i19, i20, i21] : List Addr).getD i 0) (fldOf i) = true := fun i hi => all_at b2 hi
  unfold clB at C
  unfold xiB at I
  simp only [Bool.and_eq_true, decide_eq_true_eq] at C I
  have XFs : ∀ i, i < 21 → XF K (([i0, i1, i2, i3, i4, i5, i6, i7, i8, i9, i10, i11, i12, i13, i14, i15, i16, i17, i18, i19, i20, i21] : List Addr).getD i 0) (fldOf i) := fun i hi => match i, hi with
    | 0, _ => x0
    | 1, _ => x1
    | 2, _ => x2
    | 3, _ => x3
    | 4, _ => x4
    | 5, _ => x5
    | 6, _ => x6
    | 7, _ => x7
    | 8, _ => x8
    | 9, _ => x9
    | 10, _ => x10
    | 11, _ => x11
    | 12, _ => x12
    | 13, _ => x13
    | 14, _ => x14
    | 15, _ => x15
    | 16, _ => x16
    | 17, _ => x17
    | 18, _ => x18
    | 19, _ => x19
    | 20, _ => x20
    | _ + 21, h => absurd h (by omega)
  refine ⟨fun i hi => xc_of (C i hi).1, fun i hi => ⟨fld_of i hi, (I i hi).1, (I i hi).2.1, (I i hi).2.2.1, XFs i hi⟩, xn, fun i hi => (I i hi).2.2.2, fun i hi => ?_, PySem.W.mg_of X G mG, fun i j hi hj => of_decide_eq_true (all_at (all_at b3 hi) hj), fun i hi => (C i hi).2.1, fun i hi => (C i hi).2.2.1, fun i hi => (C i hi).2.2.2.1, fun i hi => (C i hi).2.2.2.2⟩
  match i, hi with
  | 0, _ => exact PySem.W.mg_of X G m0
  | 1, _ => exact PySem.W.mg_of X G m1
  | 2, _ => exact PySem.W.mg_of X G m2
  | 3, _ => exact PySem.W.mg_of X G m3
  | 4, _ => exact PySem.W.mg_of X G m4
  | 5, _ => exact PySem.W.mg_of X G m5
  | 6, _ => exact PySem.W.mg_of X G m6
  | 7, _ => exact PySem.W.mg_of X G m7
  | 8, _ => exact PySem.W.mg_of X G m8
  | 9, _ => exact PySem.W.mg_of X G m9
  | 10, _ => exact PySem.W.mg_of X G m10
  | 11, _ => exact PySem.W.mg_of X G m11
  | 12, _ => exact PySem.W.mg_of X G m12
  | 13, _ => exact PySem.W.mg_of X G m13
  | 14, _ => exact PySem.W.mg_of X G m14
  | 15, _ => exact PySem.W.mg_of X G m15
  | 16, _ => exact PySem.W.mg_of X G m16
  | 17, _ => exact PySem.W.mg_of X G m17
  | 18, _ => exact PySem.W.mg_of X G m18
  | 19, _ => exact PySem.W.mg_of X G m19
  | 20, _ => exact PySem.W.mg_of X G m20
  | 21, _ => exact PySem.W.mg_of X G m21
  | _ + 22, h => exact absurd h (by omega)
theorem all_mk {l : PySem.W.OpenLaw} {w : World} {K : PySem.W.Frag} {h : Heap} {mg : Str → Option Value} {c fi : Nat → Addr} {cG : Addr} {fa f1 f2 f3 f4 f5 f6 f7 : Addr} (X : K.In h) (G : h.Ns mainGlobals mg) (hfa : mg "law" = some (.ref fa)) (E : Errs l.prog K mg c fi cG)
    {od1 od2 od3 od4 od5 od6 od7 an1 an2 an3 an4 an5 an6 an7 : Option Addr} {sl1 sl2 sl3 sl4 sl5 sl6 sl7 : Array (Option Value)} {oc1 oc2 oc3 oc4 oc5 oc6 oc7 kV1 kV2 kV3 kV4 kV5 kV6 kV7 dc1 dc2 dc3 dc4 dc5 dc6 dc7 pm1 pm2 pm3 pm4 pm5 pm6 pm7 cd1 cd2 cd3 cd4 cd5 cd6 cd7 ct1 ct2 ct3 ct4 ct5 ct6 ct7 : Value}
    (a1 : PySem.W.nsIn K mainGlobals "_law_pool" = some (some (.ref f1))) (l1 : K.lookup f1 = some ⟨oc1, od1, .func (PySem.W.fnOf "_law_pool" "_law_pool" (defArgs sPool) (defBody sPool) (defScope sPool) .none kV1 dc1 pm1 an1 cd1 ct1), sl1⟩) (c1 : PySem.W.codeIn K cd1 "_law_pool" = true) (k1 : PySem.W.keepIn K (.ref f1) = true)
    (a2 : PySem.W.nsIn K mainGlobals "_law_draw" = some (some (.ref f2))) (l2 : K.lookup f2 = some ⟨oc2, od2, .func (PySem.W.fnOf "_law_draw" "_law_draw" (defArgs sDraw) (defBody sDraw) (defScope sDraw) .none kV2 dc2 pm2 an2 cd2 ct2), sl2⟩) (c2 : PySem.W.codeIn K cd2 "_law_draw" = true) (k2 : PySem.W.keepIn K (.ref f2) = true)
    (a3 : PySem.W.nsIn K mainGlobals "_law_by_position" = some (some (.ref f3))) (l3 : K.lookup f3 = some ⟨oc3, od3, .func (PySem.W.fnOf "_law_by_position" "_law_by_position" (defArgs sPos) (defBody sPos) (defScope sPos) .none kV3 dc3 pm3 an3 cd3 ct3), sl3⟩) (c3 : PySem.W.codeIn K cd3 "_law_by_position" = true) (k3 : PySem.W.keepIn K (.ref f3) = true)
    (a4 : PySem.W.nsIn K mainGlobals "_law_by_name" = some (some (.ref f4))) (l4 : K.lookup f4 = some ⟨oc4, od4, .func (PySem.W.fnOf "_law_by_name" "_law_by_name" (defArgs sNam) (defBody sNam) (defScope sNam) .none kV4 dc4 pm4 an4 cd4 ct4), sl4⟩) (c4 : PySem.W.codeIn K cd4 "_law_by_name" = true) (k4 : PySem.W.keepIn K (.ref f4) = true)
    (a5 : PySem.W.nsIn K mainGlobals "_law_which" = some (some (.ref f5))) (l5 : K.lookup f5 = some ⟨oc5, od5, .func (PySem.W.fnOf "_law_which" "_law_which" (defArgs sWhich) (defBody sWhich) (defScope sWhich) .none kV5 dc5 pm5 an5 cd5 ct5), sl5⟩) (c5 : PySem.W.codeIn K cd5 "_law_which" = true) (k5 : PySem.W.keepIn K (.ref f5) = true)
    (a6 : PySem.W.nsIn K mainGlobals "_law_made" = some (some (.ref f6))) (l6 : K.lookup f6 = some ⟨oc6, od6, .func (PySem.W.fnOf "_law_made" "_law_made" (defArgs sMade) (defBody sMade) (defScope sMade) .none kV6 dc6 pm6 an6 cd6 ct6), sl6⟩) (c6 : PySem.W.codeIn K cd6 "_law_made" = true) (k6 : PySem.W.keepIn K (.ref f6) = true)
    (a7 : PySem.W.nsIn K mainGlobals "law" = some (some (.ref f7))) (l7 : K.lookup f7 = some ⟨oc7, od7, .func (PySem.W.fnOf "law" "law" (defArgs sLaw) (defBody sLaw) (defScope sLaw) .none kV7 dc7 pm7 an7 cd7 ct7), sl7⟩) (c7 : PySem.W.codeIn K cd7 "law" = true) (k7 : PySem.W.keepIn K (.ref f7) = true)
    (z1 : PySem.W.nsIn K mainGlobals "isinstance" = some none)
    (z2 : PySem.W.nsIn K mainGlobals "int" = some none)
    (z3 : PySem.W.nsIn K mainGlobals "len" = some none)
    (z4 : PySem.W.nsIn K mainGlobals "abs" = some none)
    (z5 : PySem.W.nsIn K mainGlobals "sum" = some none)
    (z6 : PySem.W.nsIn K mainGlobals "repr" = some none)
    (z7 : PySem.W.nsIn K mainGlobals "enumerate" = some none)
    (z8 : PySem.W.nsIn K mainGlobals "LookupError" = some none)
    (z9 : PySem.W.nsIn K mainGlobals "ValueError" = some none)
    (z10 : PySem.W.nsIn K mainGlobals "TypeError" = some none) :
    ∃ fd : FuncData, (∀ (s : Shared) (v : Value), BindsTo s fd ⟨[v], []⟩ [("_law_script", v)]) ∧ ∀ base : Heap, K.In base → base.Ns mainGlobals mg → FnG l.prog w K mg base CX0 3 fa fd ["_law_script"] (spLaw K) := by
  have e := hfa.symm.trans (PySem.W.mg_of X G a7)
  cases e
  have F1 := fun_mk (st := sPool) l1 c1 k1
  have b1 := F1.binds (ps := ["_law_script", "_law_k"]) fun _ _ _ _ _ _ us hl => match us, hl with | [_, _], _ => rfl
  have g1 := PySem.W.mg_of X G a1
  have F2 := fun_mk (st := sDraw) l2 c2 k2
  have b2 := F2.binds (ps := ["_law_pool_here", "_law_many"]) fun _ _ _ _ _ _ us hl => match us, hl with | [_, _], _ => rfl
  have g2 := PySem.W.mg_of X G a2
  have F3 := fun_mk (st := sPos) l3 c3 k3
  have b3 := F3.binds (ps := ["_law_a"]) fun _ _ _ _ _ _ us hl => match us, hl with | [_], _ => rfl
  have g3 := PySem.W.mg_of X G a3
  have F4 := fun_mk (st := sNam) l4 c4 k4
  have b4 := F4.binds (ps := ["_law_a"]) fun _ _ _ _ _ _ us hl => match us, hl with | [_], _ => rfl
  have g4 := PySem.W.mg_of X G a4
  have F5 := fun_mk (st := sWhich) l5 c5 k5
  have b5 := F5.binds (ps := ["_law_error"]) fun _ _ _ _ _ _ us hl => match us, hl with | [_], _ => rfl
  have g5 := PySem.W.mg_of X G a5
  have F6 := fun_mk (st := sMade) l6 c6 k6
  have b6 := F6.binds (ps := ["_law_a"]) fun _ _ _ _ _ _ us hl => match us, hl with | [_], _ => rfl
  have g6 := PySem.W.mg_of X G a6
  have F7 := fun_mk (st := sLaw) l7 c7 k7
  refine ⟨PySem.W.fnOf "law" "law" (defArgs sLaw) (defBody sLaw) (defScope sLaw) .none kV7 dc7 pm7 an7 cd7 ct7, fun s v => .of_eq rfl, fun base _ _ => ?_⟩
  have T : Txt mg := ⟨PySem.W.mg_none_of X G z1, PySem.W.mg_none_of X G z2, PySem.W.mg_none_of X G z3, PySem.W.mg_none_of X G z4, PySem.W.mg_none_of X G z5, PySem.W.mg_none_of X G z6, PySem.W.mg_none_of X G z7, PySem.W.mg_none_of X G z8, PySem.W.mg_none_of X G z9, PySem.W.mg_none_of X G z10⟩
  exact ok_law F7 E T ⟨g1, g2, g3, g4, g5, g6, F1.kp, F2.kp, F3.kp, F4.kp, F5.kp, F6.kp, b1, b2, b3, b4, b5, b6, ok_pool F1 T, ok_draw F2 T, ok_pos F3 E, ok_nam F4 E, ok_which F5 E T, ok_made F6 E⟩
end KT
open PySem PySem.W PyProof.Rows
set_option maxRecDepth 100000 in
set_option maxHeartbeats 0 in
theorem PySem.Challenge.cw_samebytes_k10_classes_of_errors_holds : PySem.Challenge.rw_samebytes_k10_classes_of_errors.Holds := by
  w_on; o_law; k_head; (case hw => w_witness2)
  k_fill
  refine GD.walk_guard (l := PySem.Challenge.rw_samebytes_k10_classes_of_errors) (n := 63) (k := 3) (x := "_law_script") (sp := fun w => KT.spLaw _) rfl (by decide) rfl ⟨rfl, by decide, by decide⟩ (fun w h Y => PySem.W.kIn_of Y) ?F (fun w H a ns hl _ hS => ⟨a, ns, rfl, hS, hl, fun _ => rfl⟩)
  case F =>
    intro w mg fa h KX G hmg
    refine' KT.all_mk KX G hmg ?E ?a1 ?l1 ?c1 ?k1 ?a2 ?l2 ?c2 ?k2 ?a3 ?l3 ?c3 ?k3 ?a4 ?l4 ?c4 ?k4 ?a5 ?l5 ?c5 ?k5 ?a6 ?l6 ?c6 ?k6 ?a7 ?l7 ?c7 ?k7 ?z1 ?z2 ?z3 ?z4 ?z5 ?z6 ?z7 ?z8 ?z9 ?z10
    case E =>
      refine' KT.errs_of KX G ?me0 ?me1 ?me2 ?me3 ?me4 ?me5 ?me6 ?me7 ?me8 ?me9 ?me10 ?me11 ?me12 ?me13 ?me14 ?me15 ?me16 ?me17 ?me18 ?me19 ?me20 ?me21 ?meG ?ge0 ?ge1 ?ge2 ?ge3 ?ge4 ?ge5 ?ge6 ?ge7 ?ge8 ?ge9 ?ge10 ?ge11 ?ge12 ?ge13 ?ge14 ?ge15 ?ge16 ?ge17 ?ge18 ?ge19 ?ge20 ?xe0 ?xe1 ?xe2 ?xe3 ?xe4 ?xe5 ?xe6 ?xe7 ?xe8 ?xe9 ?xe10 ?xe11 ?xe12 ?xe13 ?xe14 ?xe15 ?xe16 ?xe17 ?xe18 ?xe19 ?xe20 ?xen ?be1 ?be2 ?be3
      (case me0 => k_is); (case me1 => k_is); (case me2 => k_is); (case me3 => k_is); (case me4 => k_is); (case me5 => k_is)
      (case me6 => k_is); (case me7 => k_is); (case me8 => k_is); (case me9 => k_is); (case me10 => k_is); (case me11 => k_is)
      (case me12 => k_is); (case me13 => k_is); (case me14 => k_is); (case me15 => k_is); (case me16 => k_is); (case me17 => k_is)
      (case me18 => k_is); (case me19 => k_is); (case me20 => k_is); (case me21 => k_is); (case meG => k_is); (case ge0 => k_is)
      (case ge1 => k_is); (case ge2 => k_is); (case ge3 => k_is); (case ge4 => k_is); (case ge5 => k_is); (case ge6 => k_is)
      (case ge7 => k_is); (case ge8 => k_is); (case ge9 => k_is); (case ge10 => k_is); (case ge11 => k_is); (case ge12 => k_is)
      (case ge13 => k_is); (case ge14 => k_is); (case ge15 => k_is); (case ge16 => k_is); (case ge17 => k_is); (case ge18 => k_is)
      (case ge19 => k_is); (case ge20 => k_is)
      (case xe0 => (refine' KT.xf_mk ?l ?c; (case l => k_is); (case c => k_is)))
      (case xe1 => (refine' KT.xf_mk ?l ?c; (case l => k_is); (case c => k_is)))
      (case xe2 => (refine' KT.xf_mk ?l ?c; (case l => k_is); (case c => k_is)))
      (case xe3 => (refine' KT.xf_mk ?l ?c; (case l => k_is); (case c => k_is)))
      (case xe4 => (refine' KT.xf_mk ?l ?c; (case l => k_is); (case c => k_is)))
      (case xe5 => (refine' KT.xf_mk ?l ?c; (case l => k_is); (case c => k_is)))
      (case xe6 => (refine' KT.xf_mk ?l ?c; (case l => k_is); (case c => k_is)))
      (case xe7 => (refine' KT.xf_mk ?l ?c; (case l => k_is); (case c => k_is)))
      (case xe8 => (refine' KT.xf_mk ?l ?c; (case l => k_is); (case c => k_is)))
      (case xe9 => (refine' KT.xf_mk ?l ?c; (case l => k_is); (case c => k_is)))
      (case xe10 => (refine' KT.xf_mk ?l ?c; (case l => k_is); (case c => k_is)))
      (case xe11 => (refine' KT.xf_mk ?l ?c; (case l => k_is); (case c => k_is)))
      (case xe12 => (refine' KT.xf_mk ?l ?c; (case l => k_is); (case c => k_is)))
      (case xe13 => (refine' KT.xf_mk ?l ?c; (case l => k_is); (case c => k_is)))
      (case xe14 => (refine' KT.xf_mk ?l ?c; (case l => k_is); (case c => k_is)))
      (case xe15 => (refine' KT.xf_mk ?l ?c; (case l => k_is); (case c => k_is)))
      (case xe16 => (refine' KT.xf_mk ?l ?c; (case l => k_is); (case c => k_is)))
      (case xe17 => (refine' KT.xf_mk ?l ?c; (case l => k_is); (case c => k_is)))
      (case xe18 => (refine' KT.xf_mk ?l ?c; (case l => k_is); (case c => k_is)))
      (case xe19 => (refine' KT.xf_mk ?l ?c; (case l => k_is); (case c => k_is)))
      (case xe20 => (refine' KT.xf_mk ?l ?c; (case l => k_is); (case c => k_is)))
      (case xen => (refine' KT.xn_mk ?yyiC ?yyl ?yyc ?yylc ?yyl2 ?yypf ?yyl3 ?yytC ?yysup ?yyany ?yyglo ?yysub ?yysubE ?yytop; (case yyiC => k_is); (case yyl => k_is); (case yyc => k_is); (case yylc => k_is); (case yyl2 => rfl); (case yypf => decide +kernel); (case yyl3 => k_is); (case yytC => k_is); (case yysup => ks_is); (case yyany => k_is); (case yyglo => k_is); (case yysub => k_is); (case yysubE => k_is); (case yytop => decide +kernel)))
      (case be1 => kernel_rfl); (case be2 => kernel_rfl); (case be3 => kernel_rfl)
    (case a1 => k_is); (case l1 => k_is); (case c1 => k_is); (case k1 => k_is); (case a2 => k_is); (case l2 => k_is)
    (case c2 => k_is); (case k2 => k_is); (case a3 => k_is); (case l3 => k_is); (case c3 => k_is); (case k3 => k_is)
    (case a4 => k_is); (case l4 => k_is); (case c4 => k_is); (case k4 => k_is); (case a5 => k_is); (case l5 => k_is)
    (case c5 => k_is); (case k5 => k_is); (case a6 => k_is); (case l6 => k_is); (case c6 => k_is); (case k6 => k_is)
    (case a7 => k_is); (case l7 => k_is); (case c7 => k_is); (case k7 => k_is); (case z1 => k_is); (case z2 => k_is)
    (case z3 => k_is); (case z4 => k_is); (case z5 => k_is); (case z6 => k_is); (case z7 => k_is); (case z8 => k_is)
    (case z9 => k_is); (case z10 => k_is)

