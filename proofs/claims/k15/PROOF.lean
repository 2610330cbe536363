import PyProof.Rows.All
import Wide.All
import OpenK.AllK
import Wide.FinOn
import HandS.ForMost
import HandS.IsInst
import HandS.Style
import HandS.Walk
import HandS.Exc
import HandS.ExcOwn
import HandS.ExcInit
import HandS.ExcSuper
import KE.KExcInit
import KE.KExcIs
import PySem.Challenge.RW_samebytes_k15_maps_one_after_the_other
import HandS.TryOnly
import HandS.ExcField
import HandS.Zip
import HandS.Conv
import HandS.SetKeys
import HandS.DictComp
import HandS.Finally
import KE.KDictList
import KE.KDictZip
import KE.KSetInts
import HandS.WordsExc
import HandS.CallSlots
set_option Elab.async false
set_option linter.all false
set_option maxRecDepth 100000
set_option maxHeartbeats 4000000
namespace XL
open PySem PySem.W PySem.Calls PyProof.Rows Builtin Builtin.ObjectAttr
/-! ### classes of errors over Exception, one of the program's own classes perhaps between -/
abbrev tailX : List Value := [.type "Exception", .type "BaseException", .type "object"]
/-- what the written part says of the class at C -/
structure XC (K : Frag) (C : Addr) : Prop where
  q : excInitIn K C tailX "Exception.__new__" = true
  ov : excOver K C tailX = true
  hd : hasDictIn K C = true
  sa : findIn K (.ref C) "__setattr__" = some (some (.builtin "object.__setattr__"))
  ga : findIn K (.ref C) "__getattribute__" = some (some (.builtin "BaseException.__getattribute__"))
  gg : findIn K (.ref C) "__getattr__" = some none
  ex : subIn K (.ref C) (.type "BaseException") = some true
  kp : keepIn K (.ref C) = true
  cc : findIn K (.ref C) "__class__" = some (some (.builtin "object.__class__"))
  mo : mroIn K C (.type "object") = some true
  gd : specialIn K (.builtin "object.__class__") "__get__" = some (some (.builtin "getset_descriptor.__get__"))
  tk : takesIn K (.builtin "object.__class__") = some true
def xcB (K : Frag) (C : Addr) : Bool :=
  excInitIn K C tailX "Exception.__new__" && (excOver K C tailX && (hasDictIn K C && (decide (findIn K (.ref C) "__setattr__" = some (some (.builtin "object.__setattr__"))) &&
  (decide (findIn K (.ref C) "__getattribute__" = some (some (.builtin "BaseException.__getattribute__"))) && (decide (findIn K (.ref C) "__getattr__" = some none) && (decide (subIn K (.ref C) (.type "BaseException") = some true) && (keepIn K (.ref C) &&
  (decide (findIn K (.ref C) "__class__" = some (some (.builtin "object.__class__"))) && (decide (mroIn K C (.type "object") = some true) && (decide (specialIn K (.builtin "object.__class__") "__get__" = some (some (.builtin "getset_descriptor.__get__"))) &&
  decide (takesIn K (.builtin "object.__class__") = some true)))))))))))
theorem xc_of {K : Frag} {C : Addr} (h : xcB K C = true) : XC K C := by
  unfold xcB at h
  simp only [Bool.and_eq_true, decide_eq_true_eq] at h
  obtain ⟨h1, h2, h3, h4, h5, h6, h7, h8, h9, h10, h11, h12⟩ := h
  exact ⟨h1, h2, h3, h4, h5, h6, h7, h8, h9, h10, h11, h12⟩
/-- the object of a new error, its args at t -/
abbrev newX (C t : Addr) (d : Option Addr) : Obj := { cls := .ref C, dict := d, data := .fields #[.ref t, .none, .none, .none, .bool false, .none] }
section
variable {prog : Program} {w : World} {A : Around} {E : Value → Shared → Prop} {K : Frag} {hp : Heap} {g : Array GenState} {d : Drawn} {t : Nat} {os : OsState}
/-- self.f = v, the first field -/
theorem store_first {x C t0 : Addr} {f : Str} {v : Value} {Q : Unit → Shared → Prop} (T : XC K C) (X : K.In hp) (hx : hp.get? x = some (newX C t0 none)) (no : takerIn K C f = some none)
    (h : ∀ h' tk dx, (∀ b o, b ≠ x → hp.get? b = some o → h'.get? b = some o) → hp.objs.size ≤ dx → dx ≠ x → h'.get? x = some (newX C t0 (some dx)) → h'.Ns1 dx (fun y => if y = f then some v else none) → Q () ⟨h', g, d, tk, os⟩) :
    wpAny (model prog w) A (setAttr (.ref x) f v) Q E ⟨hp, g, d, t, os⟩ := by
  have I : InstAt hp x (newX C t0 none) C none := ⟨hx, rfl, rfl, trivial⟩
  have ne : x ≠ hp.objs.size := Nat.ne_of_lt (Heap.lt_size hx)
  obtain ⟨cd, hc, hd⟩ := any_some T.hd
  refine set_plain X I T.sa (osa_openX (r := none) PySem.F.store_Exception X I T.ov no fun b => ?_)
  have look : Looks (model prog w) hp (classData C) cd := looks_clsIn X hc
  obtain ⟨c1, c2, c3, c4, c5, c6, c7, c8, c9, c10, c11⟩ := cd
  have hd' : c6 = true := hd
  subst hd'
  show wpAny _ _ (storeInOwnDict _ _ _ _ _ _) _ _ _
  unfold storeInOwnDict
  unfold ownDictForStores
  repeat (first | with_reducible refine HandSPX.store_in_new ?_ ?_ | with_reducible refine wpAny_loadPart_at hx ?_ | with_reducible refine look.at ?_ | wp_step)
  · exact ⟨_, #[], _, Eq.trans (Heap.get?_update_ne _ _ _ _ ne.symm) (Heap.get?_push_at rfl rfl), rfl, fun e z => absurd z (by simp), fun _ => rfl⟩
  · intro h' tk' hn' hs
    have hx1 : (hp.push { cls := .type "dict", data := .dict #[] }).get? x = some (newX C t0 none) := Heap.get?_push_of_some _ hx
    refine h h' tk' hp.objs.size (fun b o nb ho => ?_) (Nat.le_refl _) ne.symm ?_ hn'
    · exact Eq.trans (hs.2 b (Nat.ne_of_lt (Heap.lt_size ho))) (Eq.trans (Heap.get?_update_ne _ _ _ _ nb) (Heap.get?_push_of_some _ ho))
    · exact Eq.trans (hs.2 x ne) (Heap.get?_update_self _ hx1 rfl)
end
end XL

set_option Elab.async false
set_option linter.all false
set_option maxRecDepth 100000
set_option maxHeartbeats 4000000
namespace XL
open PySem PySem.W PySem.Calls PyProof.Rows
/-! ### __init__(self, f): self.f = f -/
def xA (f : Str) (p1 p2 : Pos) : Arguments := { posonlyargs := [], args := [{ arg := "self", annotation := none, pos := p1 }, { arg := f, annotation := none, pos := p2 }], vararg := none, kwonlyargs := [], kw_defaults := [], kwarg := none, defaults := [] }
def xB (f : Str) (q1 q2 q3 q4 : Pos) : List Stmt := [.Assign [.Attribute (.Name "self" q1) f q2] (.Name f q3) q4]
def xS (f : Str) : Scope := { kind := .function, names := [(PySem.Str.ofString "self", .local), (f, .local)], isGenerator := false, isCoroutine := false, more := [] }
/-- the names of fields that the program has -/
def Fld (f : Str) : Prop := f = "value" ∨ f = "mark" ∨ f = "number" ∨ f = "name" ∨ f = "line" ∨ f = "index" ∨ f = "clashes"
/-- what the written part says of the class's __init__, at fI -/
structure XI (K : Frag) (C fI : Addr) (f : Str) : Prop where
  fld : Fld f
  no : takerIn K C f = some none
  iC : findIn K (.ref C) "__init__" = some (some (.ref fI))
  tC : typeIn K (.ref fI) = some (.type "function")
  fn : ∃ (oc : Value) (od : Option Addr) (doc pm : Value) (an : Option Addr) (cdv ct : Value) (osl : Array (Option Value)) (qual : Str) (p1 p2 q1 q2 q3 q4 : Pos),
    K.lookup fI = some ⟨oc, od, .func (fnOf "__init__" qual (xA f p1 p2) (xB f q1 q2 q3 q4) (xS f) .none .none doc pm an cdv ct), osl⟩ ∧ codeIn K cdv qual = true
/-- what is left of a fresh error at x -/
structure XEnd (h h' : Heap) (x C dx t1 : Addr) (f : Str) (v : Value) : Prop where
  keep : ∀ b o, b ≠ x → h.get? b = some o → h'.get? b = some o
  obj : h'.get? x = some (newX C t1 (some dx))
  dbig : h.objs.size ≤ dx
  dne : dx ≠ x
  ns : h'.Ns1 dx (fun y => if y = f then some v else none)
theorem loadL {M : Model} {s : Shared} {name : Str} {scope : Scope} {L a : Addr} {cd : Value} {m : Str → Option Value} {x : Str} {pos : Pos} {v : Value} {Q : Value → Shared → Prop} {A : Around} {E : Value → Shared → Prop} (hn : s.heap.Ns L m) (hv : m x = some v) (h : Q v s)
    (hk : scope.kind = .function) (hl : (envOfC name scope L a cd).kindOf x = some .local) (hd : (x == ("__debug__" : Str)) = false) :
    wpAny M A (eval (.Name x pos) (envOfC name scope L a cd)) Q E s := wpAny_Name (wpAny_loadName_local hk hl hn hv h) hd
section
variable {prog : Program} {w : World} {A : Around} {R : Result → Shared → Prop} {K : Frag} {s : Shared} {C fI : Addr} {f : Str}
/-- how its arguments come: by place, by name -/
def Comes (args : Args) (x : Addr) (f : Str) (v : Value) : Prop := args = ⟨[.ref x, v], []⟩ ∨ args = ⟨[.ref x], [(f, v)]⟩
theorem binds_x {f : Str} (hf : Fld f) {args : Args} {x : Addr} {v : Value} (ha : Comes args x f v) {qual : Str} {p1 p2 q1 q2 q3 q4 : Pos} {doc pm cdv ct : Value} {an : Option Addr} {s : Shared} :
    BindsTo s (fnOf "__init__" qual (xA f p1 p2) (xB f q1 q2 q3 q4) (xS f) .none .none doc pm an cdv ct) args [("self", .ref x), (f, v)] := by
  rcases ha with rfl | rfl
  · rcases hf with rfl | rfl | rfl | rfl | rfl | rfl | rfl <;> exact BindsTo.of_eq rfl
  · rcases hf with rfl | rfl | rfl | rfl | rfl | rfl | rfl <;> exact BindsTo.of_eq rfl
theorem init_x (T : XC K C) (I : XI K C fI f) {args : Args} {x t0 : Addr} {v : Value} (X : K.In s.heap) (hlim : s.heap.NoLimit) (hx : s.heap.get? x = some (newX C t0 none)) (hroom : A.depth < recursionLimit) (ha : Comes args x f v)
    (hq : ∀ h' tk dx, XEnd s.heap h' x C dx t0 f v → R (.ok (.ret .none)) { s with heap := h', toks := tk }) :
    codeAny (model prog w) A (.call (.ref fI) args) R s := by
  obtain ⟨oc, od, doc, pm, an, cdv, ct, osl, qual, p1, p2, q1, q2, q3, q4, ho, hcd⟩ := I.fn
  refine Att.call_fn (binds := [("self", .ref x), (f, v)]) X hlim ho hcd hroom (binds_x I.fld ha) ?_ (fun s₁ IC => ?_) rfl rfl rfl
  · rcases I.fld with rfl | rfl | rfl | rfl | rfl | rfl | rfl <;> rfl
  · obtain ⟨h₁, tk₁, rfl⟩ := IC.toInCall.same
    have k : ∀ b o, s.heap.get? b = some o → h₁.get? b = some o := IC.toInCall.keep
    have hn := IC.toInCall.ns
    have X₁ : K.In h₁ := X.keeps k
    have hx₁ := k _ _ hx
    have hself : bindL (envOfC qual (xS f) s.heap.objs.size fI cdv).kindOf [("self", .ref x), (f, v)] (fun _ => none) "self" = some (.ref x) := by
      rcases I.fld with rfl | rfl | rfl | rfl | rfl | rfl | rfl <;> rfl
    have hval : bindL (envOfC qual (xS f) s.heap.objs.size fI cdv).kindOf [("self", .ref x), (f, v)] (fun _ => none) f = some v := by
      rcases I.fld with rfl | rfl | rfl | rfl | rfl | rfl | rfl <;> rfl
    have kself : (envOfC qual (xS f) s.heap.objs.size fI cdv).kindOf "self" = some .local := by
      rcases I.fld with rfl | rfl | rfl | rfl | rfl | rfl | rfl <;> rfl
    have kval : (envOfC qual (xS f) s.heap.objs.size fI cdv).kindOf f = some .local := by
      rcases I.fld with rfl | rfl | rfl | rfl | rfl | rfl | rfl <;> rfl
    have dval : (f == ("__debug__" : Str)) = false := by
      rcases I.fld with rfl | rfl | rfl | rfl | rfl | rfl | rfl <;> decide +kernel
    show wpAny _ _ (execs _ _) _ _ _
    refine wpAny_execs_cons (plainObj_wpAny_Assign_Attribute ?_)
    refine loadL hn hval (loadL hn hself ?_ rfl kself (by decide)) rfl kval dval
    refine store_first T X₁ hx₁ I.no fun h₃ tk₃ dx k₃ dn dne hx₃ hn₃ => ?_
    show wpAny _ _ (execs _ _) _ _ _
    have z : s.heap.objs.size < h₁.objs.size := hn.lt
    exact wpAny_execs_nil (hq h₃ tk₃ dx ⟨fun b o hb e => k₃ b o hb (k b o e), hx₃, Nat.le_of_lt (Nat.lt_of_lt_of_le z dn), dne, hn₃⟩)
/-- a made error: the object at e, its dict at d -/
structure XMade (h h' : Heap) (e C d : Addr) (f : Str) (v : Value) : Prop where
  keep : ∀ b o, h.get? b = some o → h'.get? b = some o
  ebig : h.objs.size ≤ e
  obj : ∃ t1, h'.get? e = some (newX C t1 (some d))
  dbig : h.objs.size ≤ d
  dne : d ≠ e
  ns : h'.Ns1 d (fun y => if y = f then some v else none)
theorem lim_push {h : Heap} {o1 o2 : Obj} (l : h.NoLimit) : ((h.push o1).push o2).NoLimit := l.keeps fun b o e => Heap.get?_push_of_some _ (Heap.get?_push_of_some _ e)
theorem one_fits (v : Value) : [v].length ≤ sizeLine := by
  show 1 ≤ sizeLine
  decide
/-- C(v) -/
theorem made_x (T : XC K C) (I : XI K C fI f) {v : Value} (X : K.In s.heap) (hlim : s.heap.NoLimit) (hroom : A.depth + 1 < recursionLimit)
    (hq : ∀ h' tk e d, XMade s.heap h' e C d f v → R (.ok (.ret (.ref e))) { s with heap := h', toks := tk }) :
    codeAny (model prog w) A (.call (.ref C) ⟨[v], []⟩) R s := by
  obtain ⟨nm, N, qn, bs, bm, hdct, sn, sub, ab, col, dd, k0, k1, k2, k3, k5, hC, hT⟩ := excInit_of X T.q
  obtain ⟨hp, g, dr, tk, os⟩ := s
  have k : ∀ b o, hp.get? b = some o → ((hp.push (kdv_tup [v])).push (newX C hp.objs.size none)).get? b = some o := fun b o e => Heap.get?_push_of_some _ (Heap.get?_push_of_some _ e)
  have hget : ((hp.push (kdv_tup [v])).push (newX C hp.objs.size none)).get? (hp.objs.size + 1) = some (newX C hp.objs.size none) := by heap_get
  refine HandSPX.call_own PySem.F.excBase_Exception hT hC (looks_findIn X I.iC) (fun self => bind_fn X self I.tC) (one_fits v) ?_
  refine init_x (s := ⟨(hp.push (kdv_tup [v])).push (newX C hp.objs.size none), g, dr, tk, os⟩) T I (X.keeps k) (lim_push hlim) hget hroom (.inl rfl) fun h' tk' dx ⟨k', hx, dn, dne, hns⟩ => ?_
  have old : ∀ b o, hp.get? b = some o → h'.get? b = some o := fun b o e => k' b o (Nat.ne_of_lt (Nat.lt_succ_of_lt (Heap.lt_size e))) (k b o e)
  have z : hp.objs.size ≤ dx := by
    have y := dn
    rw [show ((hp.push (kdv_tup [v])).push (newX C hp.objs.size none)).objs.size = hp.objs.size + 1 + 1 by rw [Heap.size_push, Heap.size_push]] at y
    omega
  exact ⟨rfl, hq h' tk' (hp.objs.size + 1) dx ⟨old, Nat.le_succ _, ⟨_, hx⟩, z, dne, hns⟩⟩
end
end XL

set_option Elab.async false
set_option linter.all false
set_option maxRecDepth 100000
set_option maxHeartbeats 4000000
namespace XL
open PySem PySem.W PySem.Calls PyProof.Rows
/-! ### C(f = v): an error made by its field's name -/
section
variable {prog : Program} {w : World} {A : Around} {E : Value → Shared → Prop} {R : Result → Shared → Prop} {h : Heap} {g : Array GenState} {d : Drawn} {t : Nat} {os : OsState}
variable {nm q : Str} {C N : Addr} {bs bm : List Value} {hdct : Bool} {sn : List Str} {sub : List Value} {ab : Bool} {col : Option Bool} {dd : Option Addr} {k0 k1 k2 k3 k5 : Option Value}
theorem kw_check {M : Model} (hT : ∀ X : String, bm.contains (.type X) = tailX.contains (.type X)) {kws : List (Str × Value)} {Q : Unit → Shared → Prop}
    (hC : h.get? C = some (excClassObj nm q C N bs bm hdct sn sub ab col dd k0 k1 k2 k3 k5 "Exception.__new__")) (hq : Q () ⟨h, g, d, t, os⟩) :
    wpAny M A (checkBuiltinCall "Exception.__new__" ⟨[.ref C], kws⟩) Q E ⟨h, g, d, t, os⟩ := by
  have hB : (Value.ref C :: bm).contains (.type "Exception") = true := by rw [List.contains_cons, hT]; rfl
  have no := PySem.F.excBase_Exception.noStar
  simp only [checkBuiltinCall, PySem.F.excBase_Exception.newKind, PySem.F.excBase_Exception.newSplit, PySem.F.excBase_Exception.newRow]
  repeat (first
    | refine wpAny_loadPart_at hC ?_
    | (refine wpAny_isSubtype_exc hC ?_; rw [hB])
    | refine wpAny_staticBase_exc hC ?_
    | refine wpAny_madeBy_exc hC ?_
    | simp only [bne_self_eq_false, Bool.false_eq_true, if_false]
    | wp_step)
  exact hq
theorem kw_new (hT : ∀ X : String, bm.contains (.type X) = tailX.contains (.type X)) {kws : List (Str × Value)}
    (hC : h.get? C = some (excClassObj nm q C N bs bm hdct sn sub ab col dd k0 k1 k2 k3 k5 "Exception.__new__"))
    (hq : R (.ok (.ret (.ref (h.objs.size + 1)))) ⟨(h.push (kdv_tup [])).push (newX C h.objs.size none), g, d, t, os⟩) :
    codeAny (model prog w) A (.builtin "Exception.__new__" ⟨[.ref C], kws⟩) R ⟨h, g, d, t, os⟩ := by
  have hends := PySem.F.excBase_Exception.ends
  have hB : (Value.ref C :: bm).contains (.type "Exception") = true := by rw [List.contains_cons, hT]; rfl
  have hA : (Value.ref C :: bm).contains (.type "AttributeError") = false := by rw [List.contains_cons, hT]; rfl
  have hN : (Value.ref C :: bm).contains (.type "NameError") = false := by rw [List.contains_cons, hT]; rfl
  refine codeAny_builtinAt PySem.F.excBase_Exception.entry ?_
  unfold Builtin.«BaseException.__new__»
  refine PySem.wpAt_bind ?_
  show PySem.wpAt _ _ _ (stack >>= _) _ _ _
  refine PySem.wpAt_bind (PySem.wpAt_stack fun p below => PySem.wpAt_of_wpAny ?_)
  wp_walk
  refine PySem.wpAt_of_wpAny ?_
  rw [PySem.F.excBase_Exception.owner]
  repeat (first
    | with_reducible refine wpAny_madeHere_exc PySem.F.excBase_Exception.canon hC ?_
    | with_reducible refine wpAny_loadPart_at hC ?_
    | (with_reducible refine wpAny_isSubtype_exc hC ?_; first | rw [hB] | rw [hA] | rw [hN])
    | wp_step)
  show R _ _
  rw [Heap.size_push]
  exact hq
theorem kw_type (hT : ∀ X : String, bm.contains (.type X) = tailX.contains (.type X)) {kws : List (Str × Value)} {fI : Addr} {Q : Fin → Shared → Prop}
    (hC : h.get? C = some (excClassObj nm q C N bs bm hdct sn sub ab col dd k0 k1 k2 k3 k5 "Exception.__new__"))
    (hi : Looks (model prog w) h (typeLookup (.ref C) "__init__") (some (.ref fI))) (hb : ∀ self, Looks (model prog w) h (bindSpecial (.ref fI) self) (.ref fI, [self]))
    (hq : codeAny (model prog w) A (.call (.ref fI) ⟨[.ref (h.objs.size + 1)], kws⟩)
      (fun r s' => match r with | .ok (.ret v) => v = .none ∧ Q (.done (.ret (.ref (h.objs.size + 1)))) s' | .ok _ => False | .error e => E e s')
      ⟨(h.push (kdv_tup [])).push (newX C h.objs.size none), g, d, t, os⟩) :
    wpAny (model prog w) A (Builtin.«type.__call__» ⟨[.ref C], kws⟩) Q E ⟨h, g, d, t, os⟩ := by
  repeat (first
    | with_reducible refine wpAny_loadPart_at hC ?_
    | with_reducible refine wpAny_madeBy_exc hC ?_
    | wp_step)
  refine codeAny_call_builtin_code (Code.quiet_builtin _ PySem.F.excBase_Exception.quiet) (kw_check hT hC ?_)
  refine kw_new hT hC ?_
  show wpAny _ _ _ _ _ _
  have k : ∀ b o, h.get? b = some o → ((h.push (kdv_tup [])).push (newX C h.objs.size none)).get? b = some o := fun b o e => Heap.get?_push_of_some _ (Heap.get?_push_of_some _ e)
  have hC1 := k _ _ hC
  have hget : ((h.push (kdv_tup [])).push (newX C h.objs.size none)).get? (h.objs.size + 1) = some (newX C h.objs.size none) := by heap_get
  have hcC : (Value.ref C :: bm).contains (.ref C) = true := by simp
  have i1 := hi.keeps k
  have b1 := (hb (.ref (h.objs.size + 1))).keeps k
  unfold isInstance
  repeat (first
    | with_reducible refine wpAny_loadPart_at hget ?_
    | (with_reducible refine wpAny_isSubtype_exc hC1 ?_; rw [hcC])
    | wp_step)
  show wpAny _ _ (typeLookup (.ref C) _) _ _ _
  refine i1.at ?_
  refine wpAny_holding (wpAny_bind (b1.at ?_))
  refine wpAny_bind (wpAny_call (codeAny_mono hq fun r s' z => ?_))
  cases r with
  | error e => exact z
  | ok fl =>
    cases fl with
    | ret v =>
      obtain ⟨rfl, z⟩ := z
      first
        | exact wpAny_pure (wpAny_pure z)
        | (wp_walk; exact z)
    | next => exact z.elim
    | brk => exact z.elim
    | cont => exact z.elim
theorem kw_ask {M : Model} {kws : List (Str × Value)} {Q : Unit → Shared → Prop} (hC : h.get? C = some (excClassObj nm q C N bs bm hdct sn sub ab col dd k0 k1 k2 k3 k5 "Exception.__new__"))
    (hq : Q () ⟨h, g, d, t, os⟩) : wpAny M A (checkBuiltinCall "type.__call__" ⟨[.ref C], kws⟩) Q E ⟨h, g, d, t, os⟩ := by
  have f3 := tc_sub
  have hTy : (⟨h, g, d, t, os⟩ : Shared).TypeIs (.ref C) "type" := ⟨_, hC, rfl⟩
  simp only [checkBuiltinCall, tc_kind, tc_split]
  repeat (any_goals (first
    | assumption
    | with_reducible refine wpAny_loadPart_at hC ?_
    | with_reducible refine wpAny_onRaise ?_
    | with_reducible refine wpAny_map ?_
    | wp_step))
theorem kw_call (hT : ∀ X : String, bm.contains (.type X) = tailX.contains (.type X)) {kws : List (Str × Value)} {fI : Addr}
    (hC : h.get? C = some (excClassObj nm q C N bs bm hdct sn sub ab col dd k0 k1 k2 k3 k5 "Exception.__new__"))
    (hi : Looks (model prog w) h (typeLookup (.ref C) "__init__") (some (.ref fI))) (hb : ∀ self, Looks (model prog w) h (bindSpecial (.ref fI) self) (.ref fI, [self]))
    (hq : codeAny (model prog w) (A.under (.builtin "type.__call__" ⟨[.ref C], kws⟩)) (.call (.ref fI) ⟨[.ref (h.objs.size + 1)], kws⟩) (InitBack (h.objs.size + 1) R)
      ⟨(h.push (kdv_tup [])).push (newX C h.objs.size none), g, d, t, os⟩) :
    codeAny (model prog w) A (.call (.ref C) ⟨[], kws⟩) R ⟨h, g, d, t, os⟩ := by
  have f1 := tc_lookup
  have f2 := tc_bind (.ref C)
  have hTy : (⟨h, g, d, t, os⟩ : Shared).TypeIs (.ref C) "type" := ⟨_, hC, rfl⟩
  refine codeAny_of_tree ?_
  show wpAny _ _ (callAny (.ref C) _) _ _ _
  repeat (any_goals (first
    | assumption
    | with_reducible refine wpAny_loadPart_at hC ?_
    | wp_step))
  refine ⟨rfl, ?_⟩
  refine codeAny_call_builtin_at (Code.quiet_builtin _ (by decide +kernel)) entry_typeCall (kw_ask hC (kw_type hT hC hi hb ?_))
  refine codeAny_mono hq fun r s' z => ?_
  cases r with
  | error e => exact z
  | ok fl => cases fl <;> exact z
end
end XL

set_option Elab.async false
set_option linter.all false
set_option maxRecDepth 100000
set_option maxHeartbeats 4000000
namespace XL
open PySem PySem.W PySem.Calls PyProof.Rows L2
/-! ### the rules over the layer -/
section
variable {prog : Program} {w : World} {A : Around} {R : Result → Shared → Prop} {K : Frag} {s : Shared} {C fI : Addr} {f : Str}
/-- C(f = v) -/
theorem made_k (T : XC K C) (I : XI K C fI f) {v : Value} (X : K.In s.heap) (hlim : s.heap.NoLimit) (hroom : A.depth + 1 < recursionLimit)
    (hq : ∀ h' tk e d, XMade s.heap h' e C d f v → R (.ok (.ret (.ref e))) { s with heap := h', toks := tk }) :
    codeAny (model prog w) A (.call (.ref C) ⟨[], [(f, v)]⟩) R s := by
  obtain ⟨nm, N, qn, bs, bm, hdct, sn, sub, ab, col, dd, k0, k1, k2, k3, k5, hC, hT⟩ := excInit_of X T.q
  obtain ⟨hp, g, dr, tk, os⟩ := s
  have k : ∀ b o, hp.get? b = some o → ((hp.push (kdv_tup [])).push (newX C hp.objs.size none)).get? b = some o := fun b o e => Heap.get?_push_of_some _ (Heap.get?_push_of_some _ e)
  have hget : ((hp.push (kdv_tup [])).push (newX C hp.objs.size none)).get? (hp.objs.size + 1) = some (newX C hp.objs.size none) := by heap_get
  refine kw_call hT hC (looks_findIn X I.iC) (fun self => bind_fn X self I.tC) ?_
  refine init_x (s := ⟨(hp.push (kdv_tup [])).push (newX C hp.objs.size none), g, dr, tk, os⟩) T I (X.keeps k) (lim_push hlim) hget hroom (.inr rfl) fun h' tk' dx ⟨k', hx, dn, dne, hns⟩ => ?_
  have old : ∀ b o, hp.get? b = some o → h'.get? b = some o := fun b o e => k' b o (Nat.ne_of_lt (Nat.lt_succ_of_lt (Heap.lt_size e))) (k b o e)
  have z : hp.objs.size ≤ dx := by
    have y := dn
    rw [show ((hp.push (kdv_tup [])).push (newX C hp.objs.size none)).objs.size = hp.objs.size + 1 + 1 by rw [Heap.size_push, Heap.size_push]] at y
    omega
  exact ⟨rfl, hq h' tk' (hp.objs.size + 1) dx ⟨old, Nat.le_succ _, ⟨_, hx⟩, z, dne, hns⟩⟩
end
/-- an error of the class at C stands at a, its field f holds v -/
def ErrAt (H : Hp) (C a : Addr) (f : Str) (v : V) : Prop := ∃ dx, H a = some (exo a C (some dx)) ∧ H dx = some (exd dx [(f, v)])
/-- the heap behind: the new error, its dict -/
def errH (H : Hp) (C a dx : Addr) (f : Str) (v : V) : Hp := upd (upd H dx (exd dx [(f, v)])) a (exo a C (some dx))
theorem errH_same {H : Hp} {C a dx : Addr} {f : Str} {v : V} (ha : H a = none) (hd : H dx = none) : Same H (errH H C a dx f v) := fun b o e => by
  unfold errH
  rw [upd_ne (ne_of_none e ha), upd_ne (ne_of_none e hd)]
  exact e
theorem errH_at {H : Hp} {C a dx : Addr} {f : Str} {v : V} (n : dx ≠ a) : ErrAt (errH H C a dx f v) C a f v := ⟨dx, upd_same, by unfold errH; rw [upd_ne n, upd_same]⟩
section
variable {X : Cx} {pins : List (Addr × Obj)} {σ : L2.St} {H : Hp} {s : Shared}
/-- a made error is tracked -/
theorem track_x {C e d : Addr} {f : Str} {v : V} {u : Value} {hp h' : Heap} {g : Array GenState} {dr : Drawn} {t t' : Nat} {os : OsState} (I : Inv X pins σ H ⟨hp, g, dr, t, os⟩) (M : XMade hp h' e C d f u) (ru : RelV v u) :
    H e = none ∧ H d = none ∧ Inv X pins σ (errH H C e d f v) ⟨h', g, dr, t', os⟩ := by
  have he : H e = none := I.hok.fresh M.ebig
  have hd : H d = none := I.hok.fresh M.dbig
  have ne : ∀ {b : Addr} {o : Obj}, hp.get? b = some o → b ≠ e := fun {b o} q => Nat.ne_of_lt (Nat.lt_of_lt_of_le (Heap.lt_size q) M.ebig)
  have nd : ∀ {b : Addr} {o : Obj}, hp.get? b = some o → b ≠ d := fun {b o} q => Nat.ne_of_lt (Nat.lt_of_lt_of_le (Heap.lt_size q) M.dbig)
  have U : Un X.fs [] H (errH H C e d f v) hp h' := {
    keep := fun b o q _ _ _ => M.keep b o q
    slot := fun b o q _ _ _ => ⟨o.slots, M.keep b o q⟩
    free := fun b o q n _ => by unfold errH; rw [upd_ne (ne q), upd_ne (nd q)]; exact n
    there := fun b o q _ => ⟨o, M.keep b o q⟩
    tups := fun b xs q => errH_same he hd b _ q
    frzs := fun b o v q => errH_same he hd b _ q
    tbls := fun b ps q => ⟨#[], by rw [errH_same he hd b _ q]; simp⟩ }
  refine ⟨he, hd, I.un (t' := t') U fun b o q => ?_⟩
  obtain ⟨t1, ho⟩ := M.obj
  by_cases hb : b = e
  · subst hb
    unfold errH at q
    rw [upd_same] at q
    cases q
    exact exo_ok ho
  · by_cases hbd : b = d
    · subst hbd
      unfold errH at q
      rw [upd_ne hb, upd_same] at q
      cases q
      exact exd_ok M.ns (relO_put (fs := []) ru fun g => True.intro)
    · unfold errH at q
      rw [upd_ne hb, upd_ne hbd] at q
      exact (I.hok b o q).stay (fun c v _ z => M.keep c v z) (fun c hc => errH_same he hd c _ hc) fun c xs hc => errH_same he hd c _ hc
/-- the reading of C(v), C(f = v) -/
def tMkX (C : Addr) (f : Str) (t : TA) : TE := fun σ H Q => t σ H fun vs H1 => ∃ v, vs = [v] ∧ ∀ a dx, H1 a = none → H1 dx = none → dx ≠ a → Q (.ref a) (errH H1 C a dx f v)
theorem pe_mkX {C fI : Addr} {f x : Str} {e : Expr} {t : TA} {p pos : Pos} {k : Nat} (T : XC X.K C) (I0 : XI X.K C fI f) (hr : Room k X.A) (hg : Gl X x) (hm : X.mg x = some (.ref C)) (ha : PA X [e] t)
    (hdb : (x == ("__debug__" : Str)) = false := by decide) (he : starEach (e :: []) X.env = (false, eval e X.env) :: starEach [] X.env := by rfl) (hpl : (backTo pos (starEach [] X.env)).any (·.1) = false := by rfl) :
    PE X (.Call (.Name x p) [e] [] pos) (tMkX C f t) := by
  refine ⟨fun pins s σ H Q I h => ?_⟩
  refine wpAny_Call_Name_kw (ld_glob I hg hm ?_ hdb)
  refine callWith_K (h₀ := X.base) I.ok.mod.kin T.kp (thn (ha.run pos pins s σ H _ I h) fun us s1 ⟨vs, H1, I1, r1, v, ev, q1⟩ => ⟨I1.kIn, ?_⟩) he hpl
  subst ev
  cases r1 with
  | cons rv rn =>
    cases rn
    show wpAny _ _ (call (.ref C) [_]) _ _ _
    have hlim := I1.nolimit
    obtain ⟨hp, g, dr, tk, os⟩ := s1
    refine wpAny_call (made_x T I0 I1.kIn hlim (by have := hr.dp; omega) fun h' tk' a d M => ?_)
    obtain ⟨na, nd, J⟩ := track_x (t' := tk') I1 M rv
    exact ⟨.ref a, _, J, rfl, q1 a d na nd M.dne⟩
theorem pe_mkXk {C fI : Addr} {f x : Str} {kws : List Keyword} {t : TA} {p pos : Pos} {k : Nat} (T : XC X.K C) (I0 : XI X.K C fI f) (hr : Room k X.A) (hg : Gl X x) (hm : X.mg x = some (.ref C)) (hkw : PK X kws t)
    (hall : (backToKw pos (keywordEach kws X.env)).all (·.1.isSome) = true := by rfl) (hks : (backToKw pos (keywordEach kws X.env)).filterMap (·.1) = [f] := by rfl) (hdb : (x == ("__debug__" : Str)) = false := by decide)
    (hpl : ((backTo pos (starEach [] X.env)).any (·.1) || (backToKw pos (keywordEach kws X.env)).any (·.1.isNone)) = false := by rfl) :
    PE X (.Call (.Name x p) [] kws pos) (tMkX C f t) := by
  refine ⟨fun pins s σ H Q I h => ?_⟩
  refine wpAny_Call_Name_kw (ld_glob I hg hm ?_ hdb)
  refine callWith_KW0 (h₀ := X.base) I.ok.mod.kin T.kp hall ?_ hpl
  refine thn (hkw.run pos pins s σ H _ I h) fun ws s1 ⟨zs, H1, I1, rz, v, ev, q1⟩ => ⟨I1.kIn, ?_⟩
  rw [hks]
  subst ev
  cases rz with
  | cons rv rn =>
    cases rn
    show wpAny _ _ (call (.ref C) [] [(f, _)]) _ _ _
    have hlim := I1.nolimit
    obtain ⟨hp, g, dr, tk, os⟩ := s1
    refine wpAny_call (made_k T I0 I1.kIn hlim (by have := hr.dp; omega) fun h' tk' a d M => ?_)
    obtain ⟨na, nd, J⟩ := track_x (t' := tk') I1 M rv
    exact ⟨.ref a, _, J, rfl, q1 a d na nd M.dne⟩
theorem xinst {C a dx : Addr} {fs : List (Str × V)} (I : Inv X pins σ H s) (ha : H a = some (exo a C (some dx))) (hd : H dx = some (exd dx fs)) :
    ∃ (t1 : Addr) (od : Obj) (mA : Str → Option Value), InstAt s.heap a (newX C t1 (some dx)) C (some od) ∧ (∀ n, lookIn n od = some (mA n)) ∧ ∀ n, RelO (fs.lookup n) (mA n) := by
  obtain ⟨t1, ho⟩ := exo_at I.hok ha
  obtain ⟨mA, hns, rel⟩ := exd_at I.hok hd
  obtain ⟨od, h1, h2⟩ := lookIn_ns hns
  exact ⟨t1, od, mA, ⟨ho, rfl, rfl, h1⟩, h2, rel⟩
/-- e.f, e an error that stands tracked -/
def tXat (K : Frag) (f : Str) (te : TE) : TE := fun σ H Q => te σ H fun x H1 => ∃ (a C : Addr) (v : V), x = .ref a ∧ XC K C ∧ findIn K (.ref C) f = some none ∧ ErrAt H1 C a f v ∧ Q v H1
theorem pe_xat {e : Expr} {f : Str} {te : TE} {pos : Pos} (he : PE X e te) (hb : attributeBase e f X.env (eval e X.env) = eval e X.env := by rfl) : PE X (.Attribute e f pos) (tXat X.K f te) := by
  refine ⟨fun pins s σ H Q I h => ?_⟩
  refine attr_of hb (thn (he.run pins s σ H _ I h) fun u s1 hh => ?_)
  obtain ⟨x, H1, I1, rx, a, C, v, ex, T, hno, ⟨dx, ea, ed⟩, q⟩ := hh
  subst ex
  obtain rfl : u = Value.ref a := rx
  obtain ⟨t1, od, mA, J, hl, rel⟩ := xinst I1 ea ed
  have r0 := rel f
  have e0 : ([(f, v)] : List (Str × V)).lookup f = some v := by simp [List.lookup]
  rw [e0] at r0
  obtain ⟨u, hu, ru⟩ := RelO.some_of (v := v) (o := mA f) r0
  exact HandSPX.exc_get I1.kIn J T.ga T.gg T.ex (findObj_own T.hd hno rfl (by rw [hl, hu])) (handed_of ru) ⟨v, H1, I1.tok _, ru, q⟩
/-- isinstance(e, c), e an error that stands tracked, with its dict or without -/
def rIsX (K : Frag) : List V → Hp → VK → Prop := fun xs H Q => ∃ (a C : Addr) (c : V) (u : Value) (b : Bool), xs = [.ref a, c] ∧ XC K C ∧ (H a = some (exo a C none) ∨ ∃ f v, ErrAt H C a f v) ∧ ClsV c u ∧ kitOne K (.ref C) u = some b ∧ Q (.bl b) H
theorem call_isX : CallR X (.builtin "isinstance") (rIsX X.K) := by
  intro pins s σ H xs us Q I r h
  obtain ⟨a, C, c, u, b, rfl, T, hx, kc, e, q⟩ := h
  obtain ⟨u1, u2, rfl, r1, r2⟩ := vals2 r
  cases (show u1 = Value.ref a from r1)
  have e2 := kc.eq r2
  subst e2
  have hcl : (clsIn X.K C).isSome = true := by
    obtain ⟨cd, hc, _⟩ := any_some T.hd
    rw [hc]
    rfl
  rcases hx with hx | ⟨f, v, dx, hx, hd⟩
  · obtain ⟨t1, ho⟩ := exo_at I.hok hx
    have J : InstAt s.heap a (newX C t1 none) C none := ⟨ho, rfl, rfl, trivial⟩
    exact kia_one (kitx_exc hcl T.ga T.gg T.ex T.cc T.gd T.tk T.mo) I.kIn J e (fun z => nomatch z) fun tk => ⟨.bl b, H, I.tok tk, rfl, q⟩
  · obtain ⟨t1, od, mA, J, _⟩ := xinst I hx hd
    exact kia_one (kitx_exc hcl T.ga T.gg T.ex T.cc T.gd T.tk T.mo) I.kIn J e (fun z => nomatch z) fun tk => ⟨.bl b, H, I.tok tk, rfl, q⟩
end
end XL

set_option Elab.async false
set_option linter.all false
set_option maxRecDepth 100000
set_option maxHeartbeats 4000000
namespace GD
open PySem L2 PyProof.Rows
/-! ### promises of defs that show objects (repr): nothing is being shown where they run -/
/-- a def's promise where no guard is set -/
structure FnG (P : Program) (w : World) (K : PySem.W.Frag) (mg : Str → Option Value) (base : Heap) (CX : CXT) (k : Nat) (f : Addr) (fd : FuncData) (ps : List Str) (sp : Sp) : Prop where
  len : ∀ vs H Q E, sp vs H Q E → vs.length = ps.length
  run : ∀ (A : Around), A.guards = some [] → ∀ (outer : List Env) (s : Shared) (H : Hp) (args : Args) (us : List Value) (vs : List V) (Q : VK) (E : XK), Room k A →
    Env0 P w K mg base A outer s H → BindsTo s fd args (ps.zip us) → Vals vs us → sp vs H Q E → codeAny (model P w) A (.call (.ref f) args) (CR CX outer P w H s Q E) s
theorem FnG.of {P : Program} {w : World} {K : PySem.W.Frag} {mg : Str → Option Value} {base : Heap} {CX : CXT} {k : Nat} {f : Addr} {fd : FuncData} {ps : List Str} {sp : Sp} (F : FnOk P w K mg base CX k f fd ps sp) : FnG P w K mg base CX k f fd ps sp :=
  ⟨F.len, fun A _ => F.run A⟩
section
variable {P : Program} {w : World} {K : PySem.W.Frag} {mg : Str → Option Value} {base : Heap}
/-- a def by its body -/
theorem ok_guard {x qual : Str} {st : Stmt} {f : Addr} {fd : FuncData} {N ps : List Str} {k : Nat} {sp : Sp} {CX : CXT} (F : Fun K x qual st f fd) (S : FnScope N ps (defScope st)) (len : ∀ vs H Q E, sp vs H Q E → vs.length = ps.length)
    (body : ∀ (cdv : Value) (A : Around) (outer : List Env) (s : Shared) (H : Hp) (vs : List V) (Q : VK) (E : XK), A.guards = some [] → Room k (A.deeper (envOfC qual (defScope st) s.heap.objs.size f cdv)) → sp vs H Q E →
      ∃ t, PSs (cxOf CX P w K mg base N qual (defScope st) f cdv A outer s H E) (defBody st) t ∧ t { nx := fun _ H' => Q .non H', rt := Q } (start N vs) H) :
    FnG P w K mg base CX (k + 1) f fd ps sp := by
  obtain ⟨oc, od, kV, doc, pm, an, cdv, ct, osl, rfl, lk, hcd⟩ := F.ex
  refine ⟨len, fun A hgd outer s H args us vs Q E hr e0 hb r hsp => ?_⟩
  have hl := len _ _ _ _ hsp
  have keepB : ∀ (b : Addr) (o : Obj), base.get? b = some o → s.heap.get? b = some o := fun b o e => (e0.bs b o e).1
  have KX : K.In s.heap := e0.mod.kin.keeps keepB
  have kinds : ∀ y ∈ ps.zip us, (defScope st).names.lookup y.1 = some .local ∨ ((defScope st).names.lookup y.1 = some .cell ∧ ((cellsFrom (s.heap.objs.size + 1) (defScope st).names []).lookup y.1).isSome = true) := by
    intro ⟨n, v⟩ hy
    have hm := (List.of_mem_zip hy).1
    exact (S.par n hm).elim .inl fun q => .inr ⟨q, PySem.W.cellsFrom_some _ _ _ (.inl q)⟩
  refine codeAny_call_function hr.depth (KX _ _ lk) rfl S.co S.gen rfl (PySem.W.codeRec_of KX hcd) (hb _ _ _ _ ?_)
  refine wpAny_newFunctionEnv_cells S.kind kinds fun env he s1 x => ?_
  subst he
  refine ⟨(e0.mod.nolimit.keeps keepB).keeps x.toInCall.keep, codeAny_func ?_⟩
  obtain ⟨t, ht, hq⟩ := body cdv A outer s H vs Q E hgd (hr.deeper _) hsp
  have I := inv_start (CX := CX) (E := E) S hr.hd e0 hl r x
  refine wpAny_mono (ht.run [] s1 (start N vs) H _ I hq) (fun fl s' hs => ?_) fun e s' hs => hs
  cases fl with
  | next =>
    obtain ⟨σ', H', J, q⟩ := hs
    exact ⟨.non, H', J.os, J.bare, J.base, J.hok, rfl, q⟩
  | ret u =>
    obtain ⟨v, σ', H', J, rv, q⟩ := hs
    exact ⟨v, H', J.os, J.bare, J.base, J.hok, rv, q⟩
  | brk => exact hs.elim fun _ z => z.elim fun _ z => z.2.elim
  | cont => exact hs.elim fun _ z => z.elim fun _ z => z.2.elim
end
section
variable {X : Cx} {CX : CXT} {k : Nat} {f : Addr} {fd : FuncData} {ps : List Str} {sp : Sp} {E : XK} {x : Str} {p pos : Pos} {e : Expr} {es : List Expr} {t : TA}
/-- f(e, ..), where nothing is being shown -/
theorem pe_callG (hgd : X.A.guards = some []) (F : FnG X.prog X.w X.K X.mg X.base CX k f fd ps sp) (hr : Room k X.A) (hg : Gl X x) (hm : X.mg x = some (.ref f)) (hk : PySem.W.keepIn X.K (.ref f) = true) (hb : Binds X.K fd ps []) (hx : Passes CX X E)
    (ha : PA X (e :: es) t) (hdb : (x == ("__debug__" : Str)) = false := by decide) (he : starEach (e :: es) X.env = (false, eval e X.env) :: starEach es X.env := by rfl)
    (hpl : (backTo pos (starEach es X.env)).any (·.1) = false := by rfl) : PE X (.Call (.Name x p) (e :: es) [] pos) (tCall sp [] E t) := by
  refine ⟨fun pins s σ H Q I h => ?_⟩
  refine wpAny_Call_Name_kw (ld_glob I hg hm ?_ hdb)
  refine PySem.W.callWith_K (h₀ := X.base) I.ok.mod.kin hk (thn (ha.run pos pins s σ H _ I h) fun us s1 ⟨vs, H1, I1, r, q⟩ => ⟨I1.kIn, ?_⟩) he hpl
  have q' : sp (vs ++ []) H1 Q E := q
  rw [List.append_nil] at q'
  have hl : (us ++ []).length = ps.length := by
    rw [List.append_nil, ← Paired.length r]
    exact F.len _ _ _ _ q'
  have hbs := hb s1 us I1.kIn hl
  rw [List.append_nil] at hbs
  refine wpAny_call (codeAny_mono (F.run X.A hgd X.stack s1 H1 ⟨us, []⟩ us vs Q E hr I1.env0 hbs r q') fun r' s' hq => ?_)
  cases r' with
  | error e => exact hx pins σ H1 s1 e s' I1 hq
  | ok fl =>
    cases fl with
    | ret u => exact I1.after hq
    | next => exact hq.elim
    | brk => exact hq.elim
    | cont => exact hq.elim
end
/-! ### the law's own end, where its def's promise is of this kind -/
theorem law_guard {P : Program} {w : World} {K : PySem.W.Frag} {mg mb : Str → Option Value} {k : Nat} {fa a : Addr} {fd : FuncData} {x : Str} {sp : Sp} {s₁ : Shared} {vs : List Value} {ns : List Int}
    (KX : K.In s₁.heap) (hns : s₁.heap.Ns mainGlobals mg) (hb : s₁.heap.Ns builtinsNs mb) (hbb : ∀ x : Str, x ≠ "__name__" → mb x = bootBuiltins x) (hlim : s₁.heap.NoLimit) (hg : s₁.gens = #[])
    (ha : s₁.heap.get? a = some { cls := .type "list", data := .seq vs.toArray }) (hi : IntsAre vs ns) (hl : ns.length ≤ sizeLine) (hr : Room k callerA)
    (F : ∀ base : Heap, K.In base → base.Ns mainGlobals mg → FnG P w K mg base CX0 k fa fd [x] sp) (hbind : ∀ (s : Shared) (u : Value), BindsTo s fd ⟨[u], []⟩ [(x, u)])
    (hsp : ∀ H : Hp, Only H → SqL K H a (ns.map V.int) → sp [.ref a] H (fun v _ => v = .bl true) fun _ _ _ => False) :
    codeAny (model P w) callerA (.call (.ref fa) ⟨[.ref a], []⟩) (fun r s' => r = .ok (.ret (.bool true)) ∧ OldK s₁.heap s'.heap ∧ s'.os = s₁.os ∧ AllBare s'.gens) s₁ := by
  have rv := vals_ints hi
  -- the law's def, from any abstract heap that tracks at most the script
  have go : ∀ H : Hp, Only H → SqL K H a (ns.map V.int) → HOk P w H s₁.heap → (∀ b, H b ≠ none → b = a) → (H a ≠ none → K.lookup a = none) →
      codeAny (model P w) callerA (.call (.ref fa) ⟨[.ref a], []⟩) (fun r s' => r = .ok (.ret (.bool true)) ∧ OldK s₁.heap s'.heap ∧ s'.os = s₁.os ∧ AllBare s'.gens) s₁ := by
    intro H hO hS hok only notK
    have free : ∀ (b : Addr) (o : Obj), s₁.heap.get? b = some o → (b = a → False) → (hidT s₁.heap H).get? b = some o := fun b o e n => hidT_get e (by
      cases q : H b with
      | none => rfl
      | some u => exact (n (only b (by rw [q]; exact fun z => nomatch z))).elim)
    have space : ∀ (b : Addr) (m : Str → Option Value), s₁.heap.Ns b m → (hidT s₁.heap H).Ns b m := by
      rintro b m ⟨o, es, ep, e, d, r⟩
      refine ⟨o, es, ep, free b o e fun z => ?_, d, r⟩
      subst z
      rw [ha] at e
      cases e
      exact nomatch (show Data.seq vs.toArray _ = Data.dict es ep from d)
    have kb : K.In (hidT s₁.heap H) := fun b o e => hidT_get (KX b o e) (by
      cases q : H b with
      | none => rfl
      | some u =>
        have z := only b (by rw [q]; exact fun z => nomatch z)
        subst z
        rw [notK (by rw [q]; exact fun z => nomatch z)] at e
        cases e)
    have md : Mod K mg (hidT s₁.heap H) := by
      obtain ⟨mc, h1, h2⟩ := hlim
      exact ⟨kb, space _ _ hns, ⟨mb, space _ _ hb, hbb⟩, mc, space _ _ h1, h2⟩
    have e0 : Env0 P w K mg (hidT s₁.heap H) callerA [] s₁ H := ⟨rfl, md, fun b o e => of_hidT e, Nat.le_of_eq (hidT_size _ _), trivial, (fun b hb => nomatch (show b ∈ ([] : List Addr) from hb)), hok, .of_eq hg⟩
    have run := (F _ kb (space _ _ hns)).run callerA rfl [] s₁ H ⟨[.ref a], []⟩ [.ref a] [.ref a] (fun v _ => v = .bl true) (fun _ _ _ => False) hr e0 (hbind s₁ (.ref a)) (.cons rfl .nil) (hsp H hO hS)
    refine codeAny_mono run fun r s' h => ?_
    cases r with
    | error e => exact h.elim
    | ok fl =>
      cases fl with
      | next => exact h.elim
      | brk => exact h.elim
      | cont => exact h.elim
      | ret u =>
        obtain ⟨v, H', os, bare, un, hok', r', q⟩ := h
        cases (show v = .bl true from q)
        cases (show u = Value.bool true from r')
        refine ⟨rfl, OldK.of_keep fun b o e => ?_, os, bare⟩
        rcases hO b with z | ⟨ob, xs, z⟩
        · exact un.keep b o e z (fun y => nomatch y) (fun y => nomatch y)
        · have e1 := (hok b _ z).1
          have e2 := (hok' b _ (un.frzs b ob _ z)).1
          rw [e] at e1
          cases e1
          exact e2
  cases hk : K.lookup a with
  | none =>
    let H : Hp := fun b => if b = a then some (.frz { cls := .type "list", data := .seq vs.toArray } (.lst (ns.map V.int))) else none
    have at_ : H a = some (.frz { cls := .type "list", data := .seq vs.toArray } (.lst (ns.map V.int))) := if_pos rfl
    have off : ∀ b, b ≠ a → H b = none := fun b n => if_neg n
    refine go H (fun b => ?_) (.inl (.inr ⟨_, at_⟩)) (fun b u z => ?_) (fun b z => ?_) fun _ => hk
    · by_cases e : b = a
      · subst e; exact .inr ⟨_, _, at_⟩
      · exact .inl (off b e)
    · by_cases e : b = a
      · subst e
        rw [at_] at z
        cases z
        exact ⟨ha, by rw [List.length_map]; exact hl, vs, _, rv, ha⟩
      · rw [off b e] at z
        cases z
    · by_cases e : b = a
      · exact e
      · exact (z (off b e)).elim
  | some o =>
    have e := KX a o hk
    rw [ha] at e
    cases e
    exact go (fun _ => none) (fun _ => .inl rfl) (.inr ⟨_, vs.toArray, _, hk, rfl, rfl, rfl, by rw [List.size_toArray, hi.length]; exact hl, by simpa using rv⟩) (fun b u z => nomatch (show (none : Option HO) = some u from z)) (fun b z => (z rfl).elim) fun z => (z rfl).elim
/-- the last step of a row -/
theorem walk_guard {l : PySem.W.OpenLaw} {n k : Nat} {q : Program} {loose : List Str} {XP : (Str → Option Value) → Heap → Prop} {YP : World → Heap → Prop} {d : DefRec} {K : Params → PySem.W.Frag} {sp : World → Sp} {x : Str}
    (hn : l.most = some n) (hn2 : n ≤ sizeLine) (hdf : d.params.defaults = []) (hr : Room k callerA) (hY : ∀ (w : World) (h : Heap), YP w h → (K w.params).In h)
    (F : ∀ (w : World) (mg : Str → Option Value) (fa : Addr) (h : Heap), (K w.params).In h → h.Ns mainGlobals mg → mg d.name = some (.ref fa) →
      ∃ fd : FuncData, (∀ (s : Shared) (u : Value), BindsTo s fd ⟨[u], []⟩ [(x, u)]) ∧ ∀ base : Heap, (K w.params).In base → base.Ns mainGlobals mg → FnG l.prog w (K w.params) mg base CX0 k fa fd [x] (sp w))
    (hsp : ∀ (w : World) (H : Hp) (a : Addr) (ns : List Int), ns.length ≤ n → Only H → SqL (K w.params) H a (ns.map V.int) → sp w [.ref a] H (fun v _ => v = .bl true) fun _ _ _ => False) :
    PySem.W.WalkO q loose XP YP l.row.toRowW d [] (fun f vs => PySem.call f vs) := by
  refine Att.attach_call hn hdf fun w s₀ s₁ mg mb fa o pm cd doc a vs ns G Y ho hd hcd hmg hobj hints hlen hg => ?_
  have KX := hY w _ Y
  obtain ⟨fd, hb, hF⟩ := F w mg fa _ KX G.T.g hmg
  exact law_guard KX G.T.g G.T.b G.T.builtins G.T.nolimit hg hobj hints (Nat.le_trans hlen hn2) hr hF hb fun H hO hS => hsp w H a ns hlen hO hS
end GD

set_option Elab.async false
set_option linter.all false
set_option maxRecDepth 100000
set_option maxHeartbeats 4000000
namespace GD
open PySem L2 PyProof.Rows
/-! ### repr, where nothing is being shown -/
/-- what is shown: data without dicts, or an empty dict -/
inductive RV (K : PySem.W.Frag) (H : Hp) : V → PyData → Prop where
  | dat {v : V} {d : PyData} (h : Dp K H v d) (n : d.hasDict = false) : RV K H v d
  | emp {a : Addr} (h : H a = some (.dK [])) : RV K H (.ref a) (.dict [])
def rRepr (K : PySem.W.Frag) : List V → Hp → VK → Prop := fun xs H Q => ∃ (x : V) (d : PyData), xs = [x] ∧ RV K H x d ∧ d.showable = true ∧ d.depth ≤ 64 ∧ d.shown.length ≤ sizeLine ∧ Q (.str d.shown) H
theorem call_repr {X : Cx} (hgd : X.A.guards = some []) (hu : X.A.units + 100 < cLine) : CallR X (.builtin "repr") (rRepr X.K) := by
  intro pins s σ H xs us Q I r h
  obtain ⟨x, d, rfl, hd, sh, dep, sz, q⟩ := h
  obtain ⟨u, rfl, rx⟩ := vals1 r
  have fin : ∀ (h' : Heap) (tk : Nat) (t : Tok), (∀ b o, s.heap.get? b = some o → h'.get? b = some o) → EP X pins σ Q (.str d.shown t) { s with heap := h', toks := tk } :=
    fun h' tk t k => ⟨.str d.shown, H, I.kept (t' := tk) k, ⟨t, rfl⟩, q⟩
  cases hd with
  | dat hd nd =>
    cases hd with
    | non =>
      cases (show u = Value.none from rx)
      exact PySem.P.repr_of_none (fin s.heap _ _ fun _ _ e => e)
    | bl b =>
      cases (show u = Value.bool b from rx)
      refine PySem.P.repr_of_bool ?_
      cases b <;> exact fin s.heap _ _ fun _ _ e => e
    | int i =>
      obtain ⟨t, rfl⟩ := (show ∃ t, u = Value.int i t from rx)
      exact PySem.P.repr_of_int (of_decide_eq_true sh) (fin s.heap _ _ fun _ _ e => e)
    | str z =>
      obtain ⟨t, rfl⟩ := (show ∃ t, u = Value.str z t from rx)
      exact PySem.P.repr_of_str (fin s.heap _ _ fun _ _ e => e) sz
    | @lst a xs ds h1 h2 =>
      cases (show u = Value.ref a from rx)
      obtain ⟨as, R⟩ := Dp.reads I _ _ _ (.lst h1 h2) rx
      exact repr_of_reads' R sh (fun z => by rw [nd] at z; cases z) hgd (by omega) (fun _ _ e => e) (fun h' t tk k => fin h' tk t k) sz
    | @tup a xs ds h1 h2 =>
      cases (show u = Value.ref a from rx)
      obtain ⟨as, R⟩ := Dp.reads I _ _ _ (.tup h1 h2) rx
      exact repr_of_reads' R sh (fun z => by rw [nd] at z; cases z) hgd (by omega) (fun _ _ e => e) (fun h' t tk k => fin h' tk t k) sz
  | @emp a hd =>
    cases (show u = Value.ref a from rx)
    obtain ⟨_, ns, vs, kv, o, es, ep, h1, h2, h3⟩ := (show ObjOk X.prog X.w H s.heap a (.dK []) from I.hok a _ hd)
    cases kv
    obtain ⟨h3, _, h5, _⟩ := h3
    have e0 : es.toList = [] := by
      cases q : es.toList with
      | nil => rfl
      | cons y ys =>
        rw [q] at h5
        cases h5
    have R : Reads s.heap (.ref a) (.dict []) (a :: [] ++ []) := Reads.dict h1 h2.1 h3 (by rw [e0]; exact .nil) (by rw [e0]; exact .nil)
    refine repr_of_reads' R sh (fun _ z => ?_) hgd (by omega) (fun _ _ e => e) (fun h' t tk k => fin h' tk t k) sz
    have e1 : a = sysModules := (List.mem_singleton.mp (show sysModules ∈ [a] from by simpa using z)).symm
    rw [e1] at ns
    exact absurd ns (by decide)
end GD

set_option Elab.async false
set_option linter.all false
set_option maxRecDepth 100000
set_option maxHeartbeats 4000000
namespace XL
open PySem PySem.W PySem.Calls PyProof.Rows L2
/-! ### raise C(v), C a class of errors whose __init__ keeps one field; the caught one's field -/
section
variable {X : Cx} {pins : List (Addr × Obj)} {σ : L2.St} {H : Hp} {s : Shared}
theorem fly_x {C e d : Addr} {f : Str} {v : V} {u : Value} {hp h' : Heap} {g : Array GenState} {dr : Drawn} {t t' : Nat} {os : OsState} {Q : XK} (R : Raises X (.ref C)) (I : Inv X pins σ H ⟨hp, g, dr, t, os⟩) (M : XMade hp h' e C d f u) (ru : RelV v u)
    (q : H d = none → Q (.ref C) (some d) (upd H d (.xd [(f, v)]))) : MkP X pins σ Q (.ref e) ⟨h', g, dr, t', os⟩ := by
  have he : H e = none := I.hok.fresh M.ebig
  have hd : H d = none := I.hok.fresh M.dbig
  obtain ⟨t1, ho⟩ := M.obj
  obtain ⟨G, g1, g2⟩ := restrict h' fun b => decide (b ≠ e)
  have gk : ∀ b, b ≠ e → G.get? b = h'.get? b := fun b hb => g1 b (decide_eq_true hb)
  have ge : G.get? e = none := g2 e (by simp)
  have ne : ∀ {b : Addr} {o : Obj}, hp.get? b = some o → b ≠ e := fun {b o} q => Nat.ne_of_lt (Nat.lt_of_lt_of_le (Heap.lt_size q) M.ebig)
  have nd : ∀ {b : Addr} {o : Obj}, hp.get? b = some o → b ≠ d := fun {b o} q => Nat.ne_of_lt (Nat.lt_of_lt_of_le (Heap.lt_size q) M.dbig)
  have kp : ∀ b o, hp.get? b = some o → G.get? b = some o := fun b o q => (gk b (ne q)).trans (M.keep b o q)
  have sm : ∀ (b : Addr) (o : HO), H b = some o → upd H d (.xd [(f, v)]) b = some o := fun b o q => by rw [upd_ne (ne_of_none q hd)]; exact q
  have U : Un X.fs [] H (upd H d (.xd [(f, v)])) hp G := {
    keep := fun b o q _ _ _ => kp b o q
    slot := fun b o q _ _ _ => ⟨o.slots, kp b o q⟩
    free := fun b o q n _ => by rw [upd_ne (nd q)]; exact n
    there := fun b o q _ => ⟨o, kp b o q⟩
    tups := fun b xs q => sm b _ q
    frzs := fun b o v q => sm b _ q
    tbls := fun b ps q => ⟨#[], by rw [sm b _ q]; simp⟩ }
  have J : Inv X pins σ (upd H d (.xd [(f, v)])) ⟨G, g, dr, t', os⟩ := I.un (t' := t') U fun b o q => by
    by_cases hb : b = d
    · subst hb
      rw [upd_same] at q
      cases q
      exact ⟨_, M.ns.at fun o y => (gk b M.dne).trans y, relO_put (fs := []) ru fun g => True.intro⟩
    · rw [upd_ne hb] at q
      exact (I.hok b o q).stay (fun c v _ z => kp c v z) (fun c hc => sm c _ hc) fun c xs hc => sm c _ hc
  refine ⟨e, _, _, ⟨G, g, dr, t', os⟩, upd H d (.xd [(f, v)]), .ref C, some d, rfl, J, fun b o z => ?_, ge, ho, ⟨rfl, rfl⟩, rfl, rfl, ?_, rfl, I.bare, R, q hd⟩
  · by_cases hb : b = e
    · subst hb
      rw [ge] at z
      cases z
    · exact (gk b hb).symm.trans z
  · rw [upd_ne (Ne.symm M.dne)]
    exact he
/-- the reading of C(v) that is raised -/
def tFly (C : Addr) (f : Str) (t : TA) : L2.St → Hp → XK → Prop := fun σ H Q => t σ H fun vs H1 => ∃ v, vs = [v] ∧ ∀ dx, H1 dx = none → Q (.ref C) (some dx) (upd H1 dx (.xd [(f, v)]))
theorem pmk_x {C fI : Addr} {f x : Str} {e : Expr} {t : TA} {p pos : Pos} {k : Nat} (T : XC X.K C) (tC : typeIn X.K (.ref C) = some (.type "type")) (I0 : XI X.K C fI f) (hr : Room k X.A) (hg : Gl X x) (hm : X.mg x = some (.ref C)) (ha : PA X [e] t)
    (hdb : (x == ("__debug__" : Str)) = false := by decide) (he : starEach (e :: []) X.env = (false, eval e X.env) :: starEach [] X.env := by rfl) (hpl : (backTo pos (starEach [] X.env)).any (·.1) = false := by rfl) :
    PMk X (.Call (.Name x p) [e] [] pos) (tFly C f t) := by
  intro pins s σ H Q I h
  refine wpAny_Call_Name_kw (ld_glob I hg hm ?_ hdb)
  refine callWith_K (h₀ := X.base) I.ok.mod.kin T.kp (thn (ha.run pos pins s σ H _ I h) fun us s1 ⟨vs, H1, I1, r1, v, ev, q1⟩ => ⟨I1.kIn, ?_⟩) he hpl
  subst ev
  cases r1 with
  | cons rv rn =>
    cases rn
    show wpAny _ _ (call (.ref C) [_]) _ _ _
    have hlim := I1.nolimit
    obtain ⟨hp, g, dr, tk, os⟩ := s1
    refine wpAny_call (made_x T I0 I1.kIn hlim (by have := hr.dp; omega) fun h' tk' a d M => ?_)
    exact fly_x (raises_own T.ex tC) I1 M rv fun nd => q1 d nd
theorem XC.field {K : Frag} {C : Addr} (T : XC K C) : XfC K C := ⟨T.ga, T.gg, T.ex, T.hd⟩
end
end XL

set_option Elab.async false
set_option linter.all false
set_option maxRecDepth 100000
set_option maxHeartbeats 4000000
namespace GD
open PySem L2 PyProof.Rows
/-! ### repr of a dict whose keys are numbers and texts, its values without lists and dicts -/
mutual
inductive Fl (K : PySem.W.Frag) (H : Hp) : V → PyData → Prop
  | non : Fl K H .non .none
  | bl (b : Bool) : Fl K H (.bl b) (.bool b)
  | int (i : Int) : Fl K H (.int i) (.int i)
  | str (x : Str) : Fl K H (.str x) (.str x)
  | tup {a : Addr} {xs : List V} {ds : List PyData} : SqT K H a xs → FlAll K H xs ds → Fl K H (.ref a) (.tuple ds)
inductive FlAll (K : PySem.W.Frag) (H : Hp) : List V → List PyData → Prop
  | nil : FlAll K H [] []
  | cons {x : V} {d : PyData} {xs : List V} {ds : List PyData} : Fl K H x d → FlAll K H xs ds → FlAll K H (x :: xs) (d :: ds)
end
section
variable {X : Cx} {pins : List (Addr × Obj)} {σ : L2.St} {H : Hp} {s : Shared}
mutual
theorem Fl.reads (I : Inv X pins σ H s) : ∀ (d : PyData) (v : V) (u : Value), Fl X.K H v d → RelV v u → Reads s.heap u d []
  | .none, _, _, h, r => by cases h; cases r; exact .none
  | .bool b, _, _, h, r => by cases h; cases r; exact .bool b
  | .int i, _, _, h, r => by cases h; obtain ⟨t, rfl⟩ := r; exact .int i t
  | .str x, _, _, h, r => by cases h; obtain ⟨t, rfl⟩ := r; exact .str x t
  | .list _, _, _, h, _ => by cases h
  | .dict _, _, _, h, _ => by cases h
  | .tuple ds, _, _, h, r => by
    cases h with
    | tup hs ha =>
      cases r
      obtain ⟨its, rv, ⟨o, ho, hc, n, hd⟩, _⟩ := I.tuple hs
      exact .tuple ho hc hd (by simpa using Fl.readsAll I ds _ its ha rv)
theorem Fl.readsAll (I : Inv X pins σ H s) : ∀ (ds : List PyData) (vs : List V) (us : List Value), FlAll X.K H vs ds → Vals vs us → ReadsAll s.heap us ds []
  | [], _, _, h, r => by cases h; cases r; exact .nil
  | d :: ds, _, _, h, r => by
    cases h with
    | cons h1 h2 =>
      cases r with
      | cons r1 r2 => exact ReadsAll.cons (Fl.reads I d _ _ h1 r1) (Fl.readsAll I ds _ _ h2 r2)
end
def keyD : Key → PyData
  | .inl i => .int i
  | .inr x => .str x
def dictD (kvs : List (Key × V)) (ds : List PyData) : PyData := .dict ((kvs.map fun p => keyD p.1).zip ds)
theorem keys_read {P : Program} {w : World} {h : Heap} : ∀ {es : List DictEntry} {vs : List (Key × Value)}, Pairs (mixKind P w) es vs → ReadsAll h (es.map (·.key)) (vs.map fun p => keyD p.1) []
  | [], _, r => by cases r; exact .nil
  | e :: es, _, r => by
    cases r with
    | @cons _ kv _ _ h1 _ h3 =>
      have k1 : Reads h e.key (keyD kv.1) [] := by
        obtain ⟨k, v⟩ := kv
        rcases keyIs_shape (show keyIs k e.key = true from h1) with ⟨i, t, ek, ev⟩ | ⟨x, t, ek, ev⟩
        · rw [ev]; subst ek; exact .int i t
        · rw [ev]; subst ek; exact .str x t
      exact ReadsAll.cons k1 (keys_read h3)
theorem pairs_vals {P : Program} {w : World} : ∀ {es : List DictEntry} {vs : List (Key × Value)}, Pairs (mixKind P w) es vs → es.map (·.val) = vs.map (·.2)
  | [], _, r => by cases r; rfl
  | _ :: _, _, r => by
    cases r with
    | cons _ h2 h3 => rw [List.map_cons, List.map_cons, h2, pairs_vals h3]
theorem kv_vals : ∀ {kvs : List (Key × V)} {vs : List (Key × Value)}, KV kvs vs → Vals (kvs.map (·.2)) (vs.map (·.2)) ∧ (kvs.map fun p => keyD p.1) = vs.map fun p => keyD p.1
  | [], _, r => by cases r; exact ⟨.nil, rfl⟩
  | _ :: _, _, r => by
    cases r with
    | cons h1 h2 =>
      obtain ⟨a, b⟩ := kv_vals h2
      refine ⟨.cons h1.2 a, ?_⟩
      rw [List.map_cons, List.map_cons, b, h1.1]
theorem flall_len : ∀ {vs : List V} {ds : List PyData}, FlAll X.K H vs ds → vs.length = ds.length
  | _, _, .nil => rfl
  | _, _, .cons _ t => congrArg (· + 1) (flall_len t)
theorem zip_snd {α β : Type} : ∀ (ks : List α) (ds : List β), ks.length = ds.length → (ks.zip ds).map (·.2) = ds ∧ (ks.zip ds).map (·.1) = ks
  | [], [], _ => ⟨rfl, rfl⟩
  | k :: ks, d :: ds, h => by
    obtain ⟨a, b⟩ := zip_snd ks ds (Nat.succ.inj h)
    exact ⟨congrArg (d :: ·) a, congrArg (k :: ·) b⟩
  | [], _ :: _, h => nomatch h
  | _ :: _, [], h => nomatch h
theorem dict_reads (I : Inv X pins σ H s) {a : Addr} {kvs : List (Key × V)} {ds : List PyData} (hd : H a = some (.dK kvs)) (hv : FlAll X.K H (kvs.map (·.2)) ds) : Reads s.heap (.ref a) (dictD kvs ds) [a] ∧ a ≠ sysModules := by
  obtain ⟨_, ns, vs, kv, o, es, ep, h1, h2, h3, _, h5, _⟩ := (show ObjOk X.prog X.w H s.heap a (.dK kvs) from I.hok a _ hd)
  obtain ⟨rv, ek⟩ := kv_vals kv
  have hl : (kvs.map fun p => keyD p.1).length = ds.length := by
    rw [List.length_map, ← flall_len hv, List.length_map]
  obtain ⟨e2, e1⟩ := zip_snd _ _ hl
  refine ⟨Reads.dict (as := []) (bs := []) h1 h2.1 h3 ?_ ?_, fun z => by rw [z] at ns; exact absurd ns (by decide)⟩
  · rw [e1, ek]
    exact keys_read h5
  · rw [e2, pairs_vals h5]
    exact Fl.readsAll I ds _ _ hv rv
def rReprD (K : PySem.W.Frag) : List V → Hp → VK → Prop := fun xs H Q => ∃ (a : Addr) (kvs : List (Key × V)) (ds : List PyData), xs = [.ref a] ∧ H a = some (.dK kvs) ∧ FlAll K H (kvs.map (·.2)) ds ∧ (dictD kvs ds).showable = true ∧ (dictD kvs ds).depth ≤ 64 ∧ (dictD kvs ds).shown.length ≤ sizeLine ∧
  Q (.str (dictD kvs ds).shown) H
theorem call_reprD {X : Cx} (hgd : X.A.guards = some []) (hu : X.A.units + 100 < cLine) : CallR X (.builtin "repr") (rReprD X.K) := by
  intro pins s σ H xs us Q I r h
  obtain ⟨a, kvs, ds, rfl, hd, hv, sh, dep, sz, q⟩ := h
  obtain ⟨u, rfl, rx⟩ := vals1 r
  cases (show u = Value.ref a from rx)
  obtain ⟨R, ne⟩ := dict_reads I hd hv
  refine repr_of_reads' R sh (fun _ z => ne (List.mem_singleton.mp z).symm) hgd (by omega) (fun _ _ e => e) (fun h' t tk k => ?_) sz
  exact ⟨.str _, H, I.kept (t' := tk) k, ⟨t, rfl⟩, q⟩
/-- of either kind -/
def rReprA (K : PySem.W.Frag) : List V → Hp → VK → Prop := fun xs H Q => rRepr K xs H Q ∨ rReprD K xs H Q
theorem call_reprA {X : Cx} (hgd : X.A.guards = some []) (hu : X.A.units + 100 < cLine) : CallR X (.builtin "repr") (rReprA X.K) := by
  intro pins s σ H xs us Q I r h
  rcases h with h | h
  · exact call_repr hgd hu pins s σ H xs us Q I r h
  · exact call_reprD hgd hu pins s σ H xs us Q I r h
end
end GD

set_option Elab.async false
set_option linter.all false
set_option maxRecDepth 100000
set_option maxHeartbeats 4000000
namespace DM
open PySem PySem.Spec PyProof.Rows L2
/-! ### list(d.values()) -/
theorem pairedGet {α β : Type} {F : α → β → Prop} : ∀ {xs : List α} {ys : List β}, Paired F xs ys → ∀ {i : Nat} {y : β}, ys[i]? = some y → ∃ x, xs[i]? = some x ∧ F x y
  | _, _, .nil, i, y, h => by cases h
  | _, _, .cons r t, 0, y, h => by
    have e := Option.some.inj h
    subst e
    exact ⟨_, rfl, r⟩
  | _, _, .cons r t, i + 1, y, h => pairedGet t h
def tListVals (te : TE) : TE := fun σ H Q => te σ H fun x H1 => ∃ (d : Addr) (kvs : List (Key × V)), x = .ref d ∧ H1 d = some (.dK kvs) ∧ ∀ p, H1 p = none → Q (.ref p) (upd H1 p (.lst (kvs.map (·.2))))
section
variable {X : Cx} {e : Expr} {te : TE} {p apos cpos pos : Pos}
theorem pe_listVals (hc : X.calm = true) (he : PE X e te) (hg : Gl X "list") (hm : X.mg "list" = none) (hbase : attributeBase e "values" X.env (eval e X.env) = eval e X.env := by rfl) (hline : (apos.endLine == cpos.line) = true := by rfl)
    (hs : starEach [.Call (.Attribute e "values" apos) [] [] cpos] X.env = (false, eval (.Call (.Attribute e "values" apos) [] [] cpos) X.env) :: starEach [] X.env := by rfl) :
    PE X (.Call (.Name "list" p) [.Call (.Attribute e "values" apos) [] [] cpos] [] pos) (tListVals te) := by
  refine ⟨fun pins s σ H Q I hq => ?_⟩
  refine wpAny_Call_Name_kw (ld_blt I hg hm boot_list ?_)
  refine PyProof.Rows.callWith_type1 ?_ hs rfl
  rw [hs]
  show wpAny _ _ (spliced ((false, eval (.Call (.Attribute e "values" apos) [] [] cpos) X.env) :: backTo pos (starEach [] X.env))) _ _ s
  refine Calls.spliced_cons ?_
  refine wpAny_Call_method (T := "dict") (id := "dict.values") hbase rfl hline F.plainAttrs_dict F.slot_dict_values F.type_dict_values (thn (he.run pins s σ H _ I hq) fun u s1 ⟨x, H1, I1, rx, d, kvs, ex, hd, q⟩ => ?_)
  subst ex
  obtain rfl : u = Value.ref d := rx
  obtain ⟨hz, hs0, vs, kv, hdo⟩ := I1.hok d _ hd
  obtain ⟨ep, hat⟩ := hdo.dictAt
  have lk : kvs.length = vs.length := Paired.length kv
  have I2 : Inv X pins σ H1 { s1 with heap := s1.heap.push { cls := .type "dict_values", data := .fields #[.ref d] } } := I1.kept (t' := s1.toks) fun b ob q => Heap.get?_push_of_some _ q
  refine ⟨hdo.typeIs, hdo.mapOf.noDict, ?_⟩
  show wpAny _ _ (callWith cpos (.builtin "dict.values") [.ref d] [] []) _ X.xe s1
  refine method_meetsIn F.slot_dict_values F.entry_dict_values rfl (PySem.evalArgs_none ⟨rfl, hdo.typeIs, F.args_dict_values_1 _, _, meets_dict_values (mixKind X.prog X.w) d hs0, ⟨vs, hdo⟩, ?_⟩)
  refine Calls.spliced_nil ?_
  refine PySem.W.kdl_call (PySem.W.kdl_values (knd := mixKind X.prog X.w) (kvs := vs) (ep := ep) (r := s1.heap.objs.size) (d := d)) (I1.ok.hd hc) ⟨⟨_, Heap.get?_push_size _ rfl, rfl, rfl⟩, hat.push _⟩ (by omega) fun h' tk acc c hk hS hacc => ?_
  refine ⟨.ref _, _, I2.laid (t' := tk) hk (Nat.le_refl _) (show ObjOk X.prog X.w _ _ _ (.lst (kvs.map (·.2))) from ⟨?_, acc.toList, c, ?_, ?_⟩), rfl, q _ (I2.hok.fresh (Nat.le_refl _))⟩
  · rw [List.length_map]; exact hz
  · have el : acc.toList.length = acc.size := by simp
    refine vals_of_at (by rw [List.length_map, el, hacc.1, lk]) fun j x w h1 h2 => ?_
    obtain ⟨k, hky⟩ := hacc.2 j w (by rw [← Array.getElem?_toList]; exact h2)
    obtain ⟨⟨k', y⟩, g1, g2, g3⟩ := pairedGet kv hky
    rw [List.getElem?_map, g1] at h1
    cases h1
    exact g3
  · rw [Array.toArray_toList]; exact hS
end
/-! ### dict(zip(xs, ys)) -/
theorem kv_zip : ∀ (ks : List Key) {ys : List V} {us : List Value}, Vals ys us → KV (ks.zip ys) (ks.zip us)
  | [], ys, us, _ => by rw [List.zip_nil_left, List.zip_nil_left]; exact .nil
  | k :: ks, _, _, .nil => by rw [List.zip_nil_right, List.zip_nil_right]; exact .nil
  | k :: ks, _, _, .cons r t => .cons ⟨rfl, r⟩ (kv_zip ks t)
theorem keys_get : ∀ (ks : List Key) {us : List Value}, Vals (ks.map kV) us → ∀ (i : Nat) (u : Value), us[i]? = some u → ∃ k, ks[i]? = some k ∧ RelV (kV k) u
  | [], _, .nil, i, u, h => by cases h
  | k :: ks, _, .cons r t, 0, u, h => by
    have e := Option.some.inj h
    subst e
    exact ⟨k, rfl, r⟩
  | k :: ks, _, .cons r t, i + 1, u, h => keys_get ks t i u h
def tDictZip (K : PySem.W.Frag) (ta : TA) : TE := fun σ H Q => ta σ H fun vs H1 => ∃ (a b : Addr) (ks : List Key) (ys : List V), vs = [.ref a, .ref b] ∧ SqL K H1 a (ks.map kV) ∧ SqL K H1 b ys ∧ ∀ p, H1 p = none → Q (.ref p) (upd H1 p (.dK (mergeK [] (ks.zip ys))))
section
variable {X : Cx} {e e2 : Expr} {ta : TA} {p p2 cpos pos : Pos}
theorem pe_dictZip (hc : X.calm = true) (hg : Gl X "dict") (hm : X.mg "dict" = none) (hg2 : Gl X "zip") (hm2 : X.mg "zip" = none) (ha : PA X [e, e2] ta)
    (hs : starEach [e, e2] X.env = (false, eval e X.env) :: starEach [e2] X.env := by rfl) (hpl : (backTo cpos (starEach [e2] X.env)).any (·.1) = false := by rfl)
    (na : starEach [.Call (.Name "zip" p2) [e, e2] [] cpos] X.env = (false, eval (.Call (.Name "zip" p2) [e, e2] [] cpos) X.env) :: starEach [] X.env := by rfl) :
    PE X (.Call (.Name "dict" p) [.Call (.Name "zip" p2) [e, e2] [] cpos] [] pos) (tDictZip X.K ta) := by
  refine ⟨fun pins s σ H Q I h => ?_⟩
  refine Call_ (ld_blt I hg hm boot_dict ?_)
  refine PyProof.Rows.callWith_type1 (PyProof.Rows.args_cons ?_ na) na rfl
  refine Call_ (ld_blt I hg2 hm2 boot_zip (PyProof.Rows.callWith_type1 (thn (ha.run cpos pins s σ H _ I h) fun us s1 ⟨vs, H1, I1, r1, q1⟩ => ?_) hs hpl))
  obtain ⟨a, b, ks, ys, ex, hqx, hqy, q⟩ := q1
  subst ex
  cases r1 with
  | cons r rr =>
    cases rr with
    | cons r' rr =>
      cases rr
      cases r
      cases r'
      obtain ⟨its, rv, p1, z1⟩ := I1.list hqx
      obtain ⟨its2, rv2, p2, z2⟩ := I1.list hqy
      have la : a < s1.heap.objs.size := p1.lt
      have lb : b < s1.heap.objs.size := p2.lt
      have lk : ks.length = its.length := by rw [← rv.length, List.length_map]
      refine call_zip_2 p1.isList p2.isList fun h' hz hTI hTO h1 h2 hsz hk => PyProof.Rows.args_nil ?_
      have up : ∀ b o, s1.heap.get? b = some o → h'.get? b = some o := hk
      refine PySem.call_dict_pairs (knd := mixKind X.prog X.w) (kvs := ks.zip its2) (PySem.PairArg.zip _ _ _ _ _ a b (PySem.W.ktu_apart s1.heap.objs.size a b la lb) its.toArray its2.toArray) (I1.ok.hd hc) ⟨hz, hTI, ⟨_, _, hTO⟩, h1, h2, (by obtain ⟨o, e, r⟩ := p1.isList; exact ⟨o, hk _ _ e, r⟩), (by obtain ⟨o, e, r⟩ := p2.isList; exact ⟨o, hk _ _ e, r⟩)⟩ ⟨?_, ?_⟩ ?_ fun h2 tk hd' hk2 => ?_
      · rw [List.length_zip, lk, List.size_toArray, List.size_toArray]
      · rintro i key v ⟨g1, g2⟩
        obtain ⟨k, e1, e2⟩ := keys_get ks rv i key (by simpa using g1)
        exact ⟨k, by rw [List.getElem?_zip_eq_some]; exact ⟨e1, by simpa using g2⟩, kV_is e2⟩
      · rw [List.size_toArray, List.size_toArray]
        refine Nat.le_trans (Nat.min_le_left _ _) ?_
        rw [← lk]
        have := z1
        rwa [List.length_map] at this
      · have hm' : (h'.objs.size == sysModules) = false := beq_eq_false_iff_ne.mpr (Nat.ne_of_gt (Nat.lt_of_lt_of_le I1.big (by rw [hsz]; omega)))
        have hle : s1.heap.objs.size ≤ h'.objs.size := by rw [hsz]; omega
        have hlen : (mergeK [] (ks.zip ys)).length ≤ sizeLine := by
          refine Nat.le_trans (length_mergeK _ []) ?_
          rw [List.length_nil, Nat.zero_add, List.length_zip]
          refine Nat.le_trans (Nat.min_le_left _ _) ?_
          have := z1
          rwa [List.length_map] at this
        have kp : ∀ b o, s1.heap.get? b = some o → h2.get? b = some o := fun b o e => hk2 b o (fun hb => by
          have lt := Heap.lt_size e
          have hge : s1.heap.objs.size ≤ b := by
            simp only [List.mem_cons, List.not_mem_nil, or_false] at hb
            rcases hb with q | q | q | q
            · rw [q]; exact Nat.le_add_right _ _
            · rw [q]; exact Nat.le_add_right _ _
            · rw [q]; exact Nat.le_refl _
            · rw [q]; exact Nat.le_add_right _ _
          exact Nat.lt_irrefl _ (Nat.lt_of_lt_of_le lt hge)) (up b o e)
        exact ⟨.ref h'.objs.size, upd H1 h'.objs.size (.dK (mergeK [] (ks.zip ys))), I1.laid (t' := tk) kp hle (show ObjOk X.prog X.w _ _ _ (.dK (mergeK [] (ks.zip ys))) from ⟨hlen, hm', merged [] (ks.zip its2), KV.merge (kv_zip ks rv2) .nil, hd'⟩), rfl, q _ (I1.hok.fresh hle)⟩
end
end DM

set_option Elab.async false
set_option linter.all false
set_option maxRecDepth 100000
set_option maxHeartbeats 4000000
namespace DM
open PySem PySem.Spec PyProof.Rows L2
/-! ### len(set(xs)), xs a list of numbers and texts -/
def inB (l : List Key) (k : Key) : Bool := l.any fun x => decide (x = k)
theorem inB_iff {l : List Key} {k : Key} : inB l k = true ↔ k ∈ l := by
  unfold inB
  rw [List.any_eq_true]
  exact ⟨fun ⟨x, hx, e⟩ => of_decide_eq_true e ▸ hx, fun h => ⟨k, h, decide_eq_true rfl⟩⟩
theorem inB_snoc (l : List Key) (a k : Key) : inB (l ++ [a]) k = (inB l k || decide (k = a)) := by
  unfold inB
  rw [List.any_append]
  show (_ || (decide (a = k) || false)) = _
  rw [Bool.or_false]
  by_cases e : a = k
  · subst e; rw [decide_eq_true rfl]
  · rw [decide_eq_false e, decide_eq_false (fun z => e z.symm)]
theorem soCongr {P : Program} {w : World} {h : Heap} {a : Addr} {S S' : Key → Bool} {n : Nat} (x : h.SetOf (mixKind P w) a S n) (e : ∀ k, S k = S' k) : h.SetOf (mixKind P w) a S' n := by
  have q : S = S' := funext e
  subst q
  exact x
/-- how many different ones are among the first i -/
structure Cnt (ks : List Key) (i n : Nat) : Prop where
  le : n ≤ i
  all : n = i ↔ (ks.take i).Nodup
theorem Cnt.zero (ks : List Key) : Cnt ks 0 0 := ⟨Nat.le_refl _, ⟨fun _ => by simp, fun _ => rfl⟩⟩
theorem Cnt.next {ks : List Key} {i n : Nat} {k : Key} (c : Cnt ks i n) (h : ks[i]? = some k) : Cnt ks (i + 1) (if inB (ks.take i) k = true then n else n + 1) := by
  have tk : ks.take (i + 1) = ks.take i ++ [k] := by rw [List.take_succ, h]; rfl
  by_cases e : k ∈ ks.take i
  · rw [if_pos (inB_iff.mpr e)]
    refine ⟨Nat.le_succ_of_le c.le, ⟨fun q => absurd c.le (by omega), fun q => ?_⟩⟩
    rw [tk] at q
    obtain ⟨_, _, d⟩ := List.nodup_append.mp q
    exact absurd rfl (d k e k (List.mem_singleton.mpr rfl))
  · rw [if_neg (fun z => e (inB_iff.mp z))]
    refine ⟨Nat.succ_le_succ c.le, ⟨fun q => ?_, fun q => ?_⟩⟩
    · rw [tk]
      refine List.nodup_append.mpr ⟨c.all.mp (by omega), by simp, fun a ha b hb => ?_⟩
      rw [List.mem_singleton.mp hb]
      rintro rfl
      exact e ha
    · rw [tk] at q
      have := c.all.mpr (List.nodup_append.mp q).1
      omega
section
variable {P : Program} {w : World} {A : Around} {E : Value → Shared → Prop} {s : Shared}
theorem soKeep {h h' : Heap} {a : Addr} {S : Key → Bool} {n : Nat} (x : h.SetOf (mixKind P w) a S n) (k : ∀ o, h.get? a = some o → h'.get? a = some o) : h'.SetOf (mixKind P w) a S n := by
  obtain ⟨o, es, ep, t, ho, r⟩ := x
  exact ⟨o, es, ep, t, k o ho, r⟩
theorem soFresh {h : Heap} {a : Addr} {led : Bool} (ho : h.get? a = some { cls := .type "set", dict := none, data := .set #[] 0 (.fresh 0 0 led) }) : h.SetOf (mixKind P w) a (fun _ => false) 0 :=
  ⟨_, #[], 0, _, ho, ⟨rfl, rfl, rfl⟩, rfl, (fun e he => by cases he), (fun k => ⟨fun q => (by cases q), fun ⟨e, he, _⟩ => (by cases he)⟩), (by unfold scanBound; decide), rfl, rfl⟩
/-- set.update's loop over what hands numbers and texts over -/
theorem loopK {I : Addr} {fp wr : List Addr} {G : Array GenState → Array GenState → Prop} {n : Nat} {Pv : Nat → Value → Prop} {St : Nat → Shared → Prop} {R : Result → Shared → Prop} (W : WalksS P w A.in1 I fp wr G n Pv St) (S : Addr) (hSf : S ∉ fp)
    (ks : List Key) (hn : n = ks.length) (hfew : ks.length + 1 < scanBound) (hval : ∀ i v, Pv i v → ∃ k, ks[i]? = some k ∧ RelV (kV k) v) :
    ∀ (m i : Nat) (s : Shared), n - i = m → i ≤ n → St i s → (∃ c, s.heap.SetOf (mixKind P w) S (inB (ks.take i)) c ∧ Cnt ks i c) →
      (∀ s' c, Moved (S :: wr) G s s' → s'.heap.SetOf (mixKind P w) S (inB (ks.take n)) c → Cnt ks n c → R (.ok (.ret .none)) s') →
      codeAny (model P w) A (.builtin "set.update.loop" ⟨[.ref S, .ref I], []⟩) R s := by
  have hSw : S ∉ wr := fun h => hSf (W.sub _ h)
  have up : ∀ b ∈ wr, b ∈ S :: wr := fun b hb => List.mem_cons_of_mem _ hb
  intro m
  induction m with
  | zero =>
    rintro i s hk' hi hst ⟨c, hS, g⟩ hR
    obtain rfl : i = n := by omega
    refine codeAny_builtin F.entry_set_update_loop ?_; rw [Around.under_plainId F.plain_set_update_loop _]
    show wpAny _ A.in1 (pyNext (.ref I) >>= _) _ _ s
    refine wpAny_bind (W.done s _ _ hst fun s' hm => ?_); show wpAny _ A.in1 (ret Value.none) _ _ s'
    exact wpAny_pure (hR s' c (hm.mono up) (soKeep hS fun o e => hm.heap S o hSw e) g)
  | succ m ih =>
    rintro i s hk' hi hst ⟨c, hS, g⟩ hR
    have hlt : i < n := by omega
    refine codeAny_builtin F.entry_set_update_loop ?_; rw [Around.under_plainId F.plain_set_update_loop _]
    show wpAny _ A.in1 (pyNext (.ref I) >>= _) _ _ s
    refine wpAny_bind (W.item i s _ _ hlt hst fun v s' hP hst' hm => ?_)
    obtain ⟨k, hp, rv⟩ := hval i v hP
    have hS' := soKeep hS fun o e => hm.heap S o hSw e
    have his : (mixKind P w).is k v = true := kV_is rv
    show wpAny _ A.in1 (holding [v] (setAdd S v) >>= _) _ _ s'
    refine wpAny_bind (wpAny_holding ?_); unfold setAdd; refine wpAny_holding (wpAny_bind ?_)
    refine (mixKind P w).pyHash his ?_
    refine wpAny_setAddHashed_of (knd := mixKind P w) (s := { s' with toks := s'.toks + 1 }) his (key_scan rv) hS' (by have := g.le; omega) fun h' hsb hS2 => ?_
    have tk : ks.take (i + 1) = ks.take i ++ [k] := by rw [List.take_succ, hp]; rfl
    have hS3 : h'.SetOf (mixKind P w) S (inB (ks.take (i + 1))) (if inB (ks.take i) k = true then c else c + 1) := by
      refine soCongr hS2 fun k' => ?_
      rw [tk, inB_snoc]
    refine wpAny_pure ⟨plainId_quiet F.plain_set_update_loop _, ih (i + 1) _ (by omega) hlt (W.frame _ s' _ _ hst' (Nat.le_succ _) fun b hb o e => ?_) ⟨_, hS3, g.next hp⟩ fun s'' c2 hm2 hS4 g3 => ?_⟩
    · exact (hsb.2 b (fun h : b = S => hSf (h ▸ hb))).trans e
    · refine hR s'' c2 (Moved.trans W.gtrans ((hm.mono up).then_heap (Nat.le_succ _) fun b o hb e => ?_) hm2) hS4 g3
      exact (hsb.2 b (fun h : b = S => hb (h ▸ List.mem_cons_self))).trans e
/-- what set(xs) leaves -/
def MadeK (P : Program) (w : World) (s : Shared) (ks : List Key) (h' : Heap) : Prop := ∃ c, h'.SetOf (mixKind P w) s.heap.objs.size (inB (ks.take ks.length)) c ∧ Cnt ks ks.length c ∧ ∀ b o, s.heap.get? b = some o → h'.get? b = some o
set_option maxHeartbeats 8000000 in
theorem call_setK_list {l : Addr} {items : Array Value} (ks : List Key) {Q : Value → Shared → Prop} (hh : A.handled = none) (hl : s.heap.IsList l items) (hit : Vals (ks.map kV) items.toList) (hfew : ks.length + 1 < scanBound)
    (h : ∀ (h' : Heap) (tk : Nat), MadeK P w s ks h' → Q (.ref s.heap.objs.size) { s with heap := h', toks := tk }) : wpAny (model P w) A (call (.type "set") [.ref l]) Q E s := by
  have hisz : items.size = ks.length := by
    have q := hit.length
    rw [List.length_map, Array.length_toList] at q
    exact q.symm
  obtain ⟨c, tl, hmro⟩ := F.called_set.mro; have hmade := F.called_set.made; have hsub := F.called_set.sub
  refine wpAny_call (codeAny_of_tree ?_); show wpAny _ _ (callAny (.type "set") _) _ _ _
  refine wpAny_pure ⟨Code.quiet_builtin _ (by decide +kernel), codeAny_builtin F.entry_type_call ?_⟩; rw [Around.under_plain (weight_type_call_type "set" [.ref l] []) rfl]
  have h1 := F.called_set.notType; have h2 := F.called_set.canCreate; have hct := F.typeCall_set_1 (.ref l)
  repeat (any_goals (first | assumption | wp_step))
  refine codeAny_mono (code_set_new_1 (.ref l) (E := E) (Q₁ := fun obj s₁ => ∃ led : Bool, obj = .ref s.heap.objs.size ∧ s₁ = { s with heap := s.heap.push { cls := .type "set", dict := none, data := .set #[] 0 (.fresh 0 0 led) } }) fun led => ⟨led, rfl, rfl⟩) fun r s₁ hr => ?_
  cases r with
  | error e => exact hr
  | ok fl =>
    cases fl with
    | ret obj =>
      obtain ⟨led, rfl, rfl⟩ := hr
      have hS : (s.heap.push { cls := .type "set", dict := none, data := .set #[] 0 (.fresh 0 0 led) }).get? s.heap.objs.size = some { cls := .type "set", dict := none, data := .set #[] 0 (.fresh 0 0 led) } := Heap.get?_push_size _ rfl
      have hT : Shared.TypeIs { s with heap := s.heap.push { cls := .type "set", dict := none, data := .set #[] 0 (.fresh 0 0 led) } } (.ref s.heap.objs.size) "set" := ⟨_, hS, rfl⟩
      have hli := F.called_set.init.lookup; have hbi := F.called_set.init.bind (.ref s.heap.objs.size)
      repeat (any_goals (first | assumption | wp_step))
      refine codeAny_mono (codeAny_call_builtin (R := wants (fun r s₂ => r = .none ∧ ∃ h' tk, s₂ = { s with heap := h', toks := tk } ∧ MadeK P w s ks h') E) F.called_set.init.plain F.entry_set_init (check_set_init_1 hT ?_)) fun r₂ s₂ hr₂ => ?_
      · obtain ⟨⟨ocls, odict, odata, oslots⟩, hol, hcl, nl, hdl⟩ := hl
        simp only at hcl hdl
        subst hcl; subst hdl
        have hol' : (s.heap.push { cls := .type "set", dict := none, data := .set #[] 0 (.fresh 0 0 led) }).get? l = some { cls := .type "list", dict := odict, data := .seq items nl, slots := oslots } := Heap.get?_push_of_some _ hol
        have hsls := F.sub_list_set; have hslf := F.sub_list_frozenset
        have hne : (Value.type "list" == Value.type "dict") = false := by decide
        have hl1 : (s.heap.push { cls := .type "set", dict := none, data := .set #[] 0 (.fresh 0 0 led) }).IsList l items := ⟨_, hol', rfl, nl, rfl⟩
        unfold Builtin.«set.__init__» noKeywords Builtin.Frozenset.updateFrom
        generalize hPI : pyIter = PI
        wp_walk
        subst hPI
        refine wpAny_pyIter_list hl1 ?_; refine wpAny_bind (wpAny_runValue ?_)
        have hlS : l < s.heap.objs.size := Heap.lt_size hol
        have hh3 : A.in1.in1.in1.handled = none := by simp [hh]
        have hsz : (s.heap.push { cls := .type "set", dict := none, data := .set #[] 0 (.fresh 0 0 led) }).objs.size = s.heap.objs.size + 1 := Heap.size_push ..
        have hval : ∀ (i : Nat) (v : Value), items[i]? = some v → ∃ k, ks[i]? = some k ∧ RelV (kV k) v := fun i v hv => keys_get ks hit i v (by rw [Array.getElem?_toList]; exact hv)
        have neI : l ≠ (s.heap.push { cls := .type "set", dict := none, data := .set #[] 0 (.fresh 0 0 led) }).objs.size := by rw [hsz]; exact Nat.ne_of_lt (Nat.lt_succ_of_lt hlS)
        have hSf : s.heap.objs.size ∉ [(s.heap.push { cls := .type "set", dict := none, data := .set #[] 0 (.fresh 0 0 led) }).objs.size, l] := by
          rw [hsz]
          intro z
          rcases List.mem_cons.mp z with z | z
          · exact Nat.ne_of_lt (Nat.lt_succ_self _) z
          · exact Nat.ne_of_gt hlS (List.mem_singleton.mp z)
        refine loopK ((Walks.list hh3 _ l neI items).toS) s.heap.objs.size hSf ks hisz hfew hval (items.size - 0) 0 _ (by omega) (Nat.zero_le _)
          ⟨⟨_, Heap.get?_push_size _ rfl, rfl, rfl⟩, (hl1.push _)⟩ ⟨0, soCongr (soFresh (Heap.get?_push_of_some _ hS)) (fun k => rfl), Cnt.zero ks⟩ fun s' c hm hS' g' => ?_
        obtain ⟨h', g2, d', tk', os'⟩ := s'
        have eg : g2 = s.gens := hm.gens
        have ed : d' = s.drawn := hm.drawn
        have eo : os' = s.os := hm.os
        subst eg; subst ed; subst eo
        show wpAny _ _ _ _ _ _; refine wpAny_pure ?_; show wpAny _ _ (ret Value.none) _ _ _
        rw [hisz] at g' hS'
        refine wpAny_pure ⟨rfl, h', tk', rfl, c, hS', g', fun b o e => ?_⟩
        have hb := Heap.lt_size e
        refine hm.heap b o ?_ (Heap.get?_push_of_some _ (Heap.get?_push_of_some _ e))
        intro z
        rw [hsz] at z
        rcases List.mem_cons.mp z with z | z
        · rw [z] at hb; exact Nat.lt_irrefl _ hb
        · rw [List.mem_singleton.mp z] at hb; exact Nat.lt_irrefl _ (Nat.lt_of_lt_of_le hb (Nat.le_succ _))
      · cases r₂ with
        | error e => exact hr₂
        | ok fl₂ =>
          cases fl₂ with
          | ret r =>
            obtain ⟨rfl, h', tk, rfl, hm⟩ := hr₂
            repeat (any_goals (first | assumption | wp_step))
            exact h _ _ hm
          | _ => exact hr₂.elim
    | _ => exact hr.elim
end
def tLenSetK (K : PySem.W.Frag) (ta : TE) : TE := fun σ H Q => ta σ H fun x H1 => ∃ (l : Addr) (ks : List Key), x = .ref l ∧ SqL K H1 l (ks.map kV) ∧ ks.length ≤ 4000 ∧ ∀ n : Nat, n ≤ ks.length → (n = ks.length ↔ ks.Nodup) → Q (.int (n : Nat)) H1
theorem pe_lenSetK {X : Cx} {a : Expr} {ta : TE} {p p2 q pos : Pos} (hg : Gl X "len") (hm : X.mg "len" = none) (hg2 : Gl X "set") (hm2 : X.mg "set" = none) (ha : PE X a ta) (hc : X.calm = true := by rfl)
    (na : starEach [a] X.env = (false, eval a X.env) :: starEach [] X.env := by rfl) : PE X (.Call (.Name "len" p) [.Call (.Name "set" p2) [a] [] q] [] pos) (tLenSetK X.K ta) := by
  refine ⟨fun pins s σ H Q I h => ?_⟩
  refine Call_ (ld_blt I hg hm boot_len ?_)
  refine PyProof.Rows.callWith_builtin1 (PyProof.Rows.args_cons ?_ rfl) rfl rfl
  refine Call_ (ld_blt I hg2 hm2 boot_set ?_)
  refine PyProof.Rows.callWith_type1 (PyProof.Rows.args_cons (thn (ha.run pins s σ H _ I h) fun v s1 ⟨x, H1, I1, r1, q1⟩ => PyProof.Rows.args_nil ?_) na) na rfl
  obtain ⟨l, ks, rfl, hq, hl, q1⟩ := q1
  cases r1
  obtain ⟨its, r, pl, hz⟩ := I1.list hq
  refine call_setK_list ks (I1.ok.hd hc) pl.isList (by simpa using r) (by unfold scanBound; omega) fun h' tk hM => ?_
  refine PyProof.Rows.args_nil ?_
  obtain ⟨c, hS, hC, hk⟩ := hM
  have hC' := hC.all
  rw [List.take_length] at hC'
  obtain ⟨o, es, ep, t, ho, hex, hd, _, _, _, hf, hn⟩ := hS
  have I2 : Inv X pins σ H1 { s1 with heap := h', toks := tk } := I1.kept fun b o e => hk b o e
  have le := hC.le
  exact call_len_set ho hex hd hf (by rw [hn] <;> omega) ⟨.int c, H1, I2.tok _, ⟨_, by rw [hn]⟩, q1 c le hC'⟩
end DM

set_option Elab.async false
set_option linter.all false
set_option maxRecDepth 100000
set_option maxHeartbeats 4000000
namespace MB
open PySem L2 PyProof.Rows XL GD DM
/-! ### the text by places -/
def top (i : Nat) : Stmt := PySem.Challenge.pw_samebytes_k15_maps_one_after_the_other.main.body.getD i (.Pass ⟨0, 0, 0, 0⟩)
abbrev sMark : Stmt := top 7
abbrev sSpelled : Stmt := top 8
abbrev sDict : Stmt := top 9
abbrev sDiff : Stmt := top 10
abbrev sThen : Stmt := top 12
abbrev sBack : Stmt := top 13
abbrev sCheck : Stmt := top 14
abbrev sPool : Stmt := top 16
abbrev sDraw : Stmt := top 17
abbrev sMixed : Stmt := top 18
abbrev sTold : Stmt := top 19
abbrev sLaw : Stmt := top 20
def LT : Str := "abcdefghijklmnopqrstuvwxyz"
def LD : Str := "abcdefghijklmnopqrstuvwxyz0123456789"
structure Txt (mg : Str → Option Value) : Prop where
  isi : mg "isinstance" = none
  str : mg "str" = none
  dict : mg "dict" = none
  int : mg "int" = none
  len : mg "len" = none
  all : mg "all" = none
  abs : mg "abs" = none
  sum : mg "sum" = none
  list : mg "list" = none
  set : mg "set" = none
  zip : mg "zip" = none
  range : mg "range" = none
  repr : mg "repr" = none
  max : mg "max" = none
  min : mg "min" = none
  lt : ∃ t, mg "LETTERS" = some (.str LT t)
  ld : ∃ t, mg "LETTERS_AND_DIGITS" = some (.str LD t)
  lw : ∃ t, mg "LONGEST_WORD" = some (.int 8 t)
theorem same_upd {H : Hp} {p : Addr} {o : HO} (h : H p = none) : Same H (upd H p o) := fun b x e => by
  rw [upd_ne (ne_of_none e h)]
  exact e
/-! ### what a value is, as far as marks are concerned -/
inductive SV (H : Hp) : V → Option Str → Prop where
  | str (s : Str) : s.length ≤ sizeLine → SV H (.str s) (some s)
  | non : SV H .non none
  | int (i : Int) : SV H (.int i) none
  | tup {a : Addr} {xs : List V} : H a = some (.tup xs) → SV H (.ref a) none
inductive SVs (H : Hp) : List V → List (Option Str) → Prop where
  | nil : SVs H [] []
  | cons {v : V} {vs : List V} {d : Option Str} {ds : List (Option Str)} : SV H v d → SVs H vs ds → SVs H (v :: vs) (d :: ds)
def TupStay (H H' : Hp) : Prop := ∀ a xs, H a = some (.tup xs) → H' a = some (.tup xs)
theorem SV.stay {H H' : Hp} (k : TupStay H H') {v : V} {o : Option Str} : SV H v o → SV H' v o
  | .str s h => .str s h
  | .non => .non
  | .int i => .int i
  | .tup h => .tup (k _ _ h)
theorem SVs.stay {H H' : Hp} (k : TupStay H H') : ∀ {v : List V} {o : List (Option Str)}, SVs H v o → SVs H' v o
  | _, _, .nil => .nil
  | _, _, .cons a b => .cons (a.stay k) (b.stay k)
theorem TupStay.of {H H' : Hp} (s : Same H H') : TupStay H H' := fun a xs e => s a _ e
theorem TupStay.trans {H1 H2 H3 : Hp} (a : TupStay H1 H2) (b : TupStay H2 H3) : TupStay H1 H3 := fun x xs e => b x xs (a x xs e)
theorem SVs.get {H : Hp} : ∀ {vs : List V} {os : List (Option Str)}, SVs H vs os → ∀ {i : Nat} {v : V}, vs[i]? = some v → ∃ o, os[i]? = some o ∧ SV H v o
  | _, _, .cons a b, 0, v, e => by
    have z := Option.some.inj e
    subst z
    exact ⟨_, rfl, a⟩
  | _, _, .cons a b, i + 1, v, e => SVs.get b (i := i) e
theorem SVs.len {H : Hp} : ∀ {vs : List V} {os : List (Option Str)}, SVs H vs os → vs.length = os.length
  | _, _, .nil => rfl
  | _, _, .cons _ b => congrArg Nat.succ b.len
def ty1 : Option Str → V → String
  | some _, _ => "str"
  | none, .non => "NoneType"
  | none, .int _ => "int"
  | none, _ => "tuple"
theorem SV.ty {K : PySem.W.Frag} {H : Hp} {v : V} {o : Option Str} (h : SV H v o) : TyX K H v (.type (ty1 o v)) := by
  cases h with
  | str s _ => exact .base (.str s)
  | non => exact .base .non
  | int i => exact .base (.int i)
  | tup h => exact .base (.tup h)
theorem SV.kit {K : PySem.W.Frag} {H : Hp} {v : V} {o : Option Str} (h : SV H v o) : PySem.W.kitOne K (.type (ty1 o v)) (.type "str") = some o.isSome := by
  cases h with
  | str s _ => exact kit_ty (show kitB "str" "str" = some true by decide +kernel)
  | non => exact kit_ty (show kitB "NoneType" "str" = some false by decide +kernel)
  | int i => exact kit_ty (show kitB "int" "str" = some false by decide +kernel)
  | tup h => exact kit_ty (show kitB "tuple" "str" = some false by decide +kernel)
def made (s cs : Str) : Bool := s.cps.toList.all fun c => decide (c ∈ cs.cps.toList)
def spelled (s cs : Str) (l m : Int) : Bool := decide (l ≤ (s.length : Int)) && (decide ((s.length : Int) ≤ m) && made s cs)
def headIn (s cs : Str) : Bool := match s.cps[0]? with | some c => decide (c ∈ cs.cps.toList) | none => false
def spO (o : Option Str) (cs : Str) (l m : Int) : Bool := match o with | some s => spelled s cs l m | none => false
/-- a mark -/
def mkS (s : Str) : Bool := spelled s LD 1 8 && headIn s LT
def mkO (o : Option Str) : Bool := match o with | some s => mkS s | none => false
theorem all_map {α : Type} (l : List α) (f : α → Bool) : (l.map f).all id = l.all f := by
  rw [List.all_map]; rfl
section
variable {P : Program} {w : World} {K : PySem.W.Frag} {mg : Str → Option Value} {base : Heap}
/-! ### is_spelled -/
def spSpelled : Sp := fun vs H Q _ => ∃ (v : V) (o : Option Str) (cs : Str) (l m : Int), vs = [v, .str cs, .int l, .int m] ∧ SV H v o ∧ 0 ≤ m ∧ m ≤ 1000 ∧ ∀ H', Same H H' → Q (.bl (spO o cs l m)) H'
theorem scSp : FnScope ["value", "characters", "least", "most", "sign"] ["value", "characters", "least", "most"] (defScope sSpelled) := ⟨rfl, rfl, rfl, by decide +kernel, rfl, by decide +kernel, by decide +kernel⟩
theorem ok_spelled {f : Addr} {fd : FuncData} (F : Fun K "is_spelled" "is_spelled" sSpelled f fd) (T : Txt mg) : FnOk P w K mg base CX0 1 f fd ["value", "characters", "least", "most"] spSpelled := by
  refine F.ok scSp (fun vs H Q E h => ?_) (fun cdv A outer s H vs Q E hr h => ?_)
  · obtain ⟨v, d, cs, l, m, rfl, _⟩ := h
    rfl
  · obtain ⟨v, d, cs, l, m, rfl, hd, hm0, hm1, q⟩ := h
    refine ⟨_, pss_one (ps_ret (pe_and (pe_callB call_isi (by rfl) T.isi boot_isinstance (pa_cons (pv 0) (pa_cons (pe_bltn (v := .ty "str") (by rfl) T.str boot_str rfl) pa_nil)))
      (pe_and (pe_chain op_le op_le (pv 2) (pe_callB call_len_str (by rfl) T.len PySem.boot_len (pa_cons (pv 0) pa_nil)) (pv 3))
      (pe_one (pe_callB (cr_all rfl) (by rfl) T.all (by decide +kernel) (pa_cons
        (pe_lc (own := [("sign", 4)]) (g := gName 4) (tt := tYes) rfl scSp.nd (pi_str (pv 0)) (blkOk_by (N := ["value", "characters", "least", "most", "sign"]) (sc := defScope sSpelled) (by decide +kernel))
          (fun _ _ _ _ _ => pg_name (i := 4) scSp.nd rfl (Or.inl rfl)) (fun _ _ _ _ _ => pts_nil) (fun _ _ _ _ _ => pe_cmpR op_in_sign (pv 4) (pv 1) rfl)) pa_nil)))))), ?_⟩
    refine ⟨_, rfl, v, .ty "str", .type (ty1 d v), .type "str", d.isSome, rfl, .ty _, hd.ty, hd.kit, d.isSome, rfl, ?_⟩
    cases hd with
    | str z hz =>
      refine iteT ?_
      have hz' : z.length ≤ sizeLine := hz
      refine ⟨_, rfl, _, rfl, z, rfl, hz', l, (z.length : Int), rfl, rfl, decide (l ≤ (z.length : Int)), rfl, ?_⟩
      refine ite2 (fun e1 => ?_) (fun e1 => ?_)
      · refine ⟨_, rfl, (z.length : Int), m, rfl, rfl, decide ((z.length : Int) ≤ m), rfl, ?_⟩
        have e1' : decide (l ≤ (z.length : Int)) = true := e1
        refine ite2 (fun e2 => ?_) (fun e2 => ?_)
        · refine ⟨_, rfl, z, rfl, fun D hD => ?_⟩
          refine lc_it (walk_str (z := z)) (fun i H' => Same H H' ∧ H' D = some (.lst ((z.cps.toList.take i).map fun c => V.bl (decide (c ∈ cs.cps.toList)))) ) ?_ (fun _ _ _ _ => trivial) ?_ ?_
          · exact ⟨same_upd hD, by rw [upd_same]; rfl⟩
          · rintro i x H1 H2 hi ⟨s1, e3⟩ ⟨rfl, c, hc, rfl⟩
            refine ⟨rfl, ?_⟩
            refine ⟨_, rfl, _, rfl, c, cs, rfl, rfl, _, e3, ?_, ?_, ?_⟩
            · rw [List.length_map]
              have := (Int.ofNat_le.mp (show (z.length : Int) ≤ (1000 : Nat) from Int.le_trans (of_decide_eq_true e2) hm1))
              have hzl : z.length = z.cps.size := rfl
              refine small1000 (Nat.le_trans (List.length_take_le _ _) ?_)
              omega
            · exact fun b o e => by rw [upd_ne (ne_of_none e hD)]; exact s1 b o e
            · rw [upd_same]
              have hc' : z.cps.toList[i]? = some c := by rw [Array.getElem?_toList]; exact hc
              rw [List.take_add_one, hc', List.map_append]
              rfl
          · rintro H1 ⟨s1, e3⟩
            refine ⟨D, (z.cps.toList.take z.cps.size).map fun c => decide (c ∈ cs.cps.toList), rfl, SqL.of (by rw [e3, List.map_map]; rfl), ?_⟩
            rw [all_map, List.take_of_length_le (by rw [Array.length_toList]; exact Nat.le_refl _)]
            have er : spO (some z) cs l m = z.cps.toList.all fun c => decide (c ∈ cs.cps.toList) := by
              show (decide _ && (decide _ && made z cs)) = _
              rw [e1, e2]
              rfl
            rw [← er]
            exact q H1 s1
        · have er : spO (some z) cs l m = false := by
            show (decide _ && (decide _ && made z cs)) = _
            rw [Bool.eq_false_iff.mpr e2]
            simp
          have := q H (Same.refl H)
          rw [er] at this
          exact this
      · have er : spO (some z) cs l m = false := by
          show (decide _ && (decide _ && made z cs)) = _
          rw [Bool.eq_false_iff.mpr e1]
          simp
        have := q H (Same.refl H)
        rw [er] at this
        refine ⟨false, rfl, ?_⟩
        exact iteF this
    | _ => exact iteF (q H (Same.refl H))
/-! ### is_mark -/
def spMark : Sp := fun vs H Q _ => ∃ (v : V) (o : Option Str), vs = [v] ∧ SV H v o ∧ ∀ H', Same H H' → Q (.bl (mkO o)) H'
theorem scMk : FnScope ["value"] ["value"] (defScope sMark) := ⟨rfl, rfl, rfl, by decide +kernel, rfl, by decide +kernel, by decide +kernel⟩
theorem ok_mark {f fS : Addr} {fd fdS : FuncData} (F : Fun K "is_mark" "is_mark" sMark f fd) (FS : Fun K "is_spelled" "is_spelled" sSpelled fS fdS) (bS : Binds K fdS ["value", "characters", "least", "most"] []) (gS : mg "is_spelled" = some (.ref fS)) (T : Txt mg) :
    FnOk P w K mg base CX0 2 f fd ["value"] spMark := by
  have GS : FnOk P w K mg base CX0 1 fS fdS ["value", "characters", "least", "most"] spSpelled := ok_spelled FS T
  obtain ⟨t1, g1⟩ := T.ld
  obtain ⟨t2, g2⟩ := T.lw
  obtain ⟨t3, g3⟩ := T.lt
  refine F.ok scMk (fun vs H Q E h => ?_) (fun cdv A outer s H vs Q E hr h => ?_)
  · obtain ⟨v, d, rfl, _⟩ := h
    rfl
  · obtain ⟨v, d, rfl, hd, q⟩ := h
    refine ⟨_, pss_one (ps_ret (pe_and (pe_call GS hr (by rfl) gS FS.kp bS .nil pass0 (pa_cons (pv 0) (pa_cons (pe_glob (v := .str LD) (by rfl) g1 ⟨_, rfl⟩) (pa_cons pe_int (pa_cons (pe_glob (v := .int 8) (by rfl) g2 ⟨_, rfl⟩) pa_nil)))))
      (pe_one (pe_cmpR op_in_sign (pe_item_str (pv 0) pe_int (fun _ _ => rfl)) (pe_glob (v := .str LT) (by rfl) g3 ⟨_, rfl⟩) rfl)))), ?_⟩
    refine ⟨_, rfl, v, d, LD, 1, 8, rfl, hd, by decide, by decide, fun H1 s1 => ⟨_, rfl, ?_⟩⟩
    have q' := q H1 s1
    cases hd with
    | str z hz =>
      refine ite2 (fun e => ?_) (fun e => ?_)
      · have hl : decide ((1 : Int) ≤ (z.length : Int)) = true := by
          have e' : (decide ((1 : Int) ≤ (z.length : Int)) && (decide ((z.length : Int) ≤ 8) && made z LD)) = true := e
          rw [Bool.and_eq_true] at e'
          exact e'.1
        have hl' := of_decide_eq_true hl
        have hzl : z.length = z.cps.size := rfl
        have h0 : 0 < z.cps.size := by omega
        refine ⟨_, rfl, z, 0, z.cps[0], rfl, rfl, Int.le_refl _, by decide, by omega, ?_, z.cps[0], LT, rfl, rfl, ?_⟩
        · exact Array.getElem?_eq_getElem h0
        · have e2 : mkO (some z) = decide (z.cps[0] ∈ LT.cps.toList) := by
            show (spelled z LD 1 8 && headIn z LT) = _
            have e3 : spelled z LD 1 8 = true := e
            have e4 : headIn z LT = decide (z.cps[0] ∈ LT.cps.toList) := by
              unfold headIn
              rw [Array.getElem?_eq_getElem h0]
            rw [e3, e4]
            rfl
          rw [e2] at q'
          exact q'
      · have e2 : mkO (some z) = false := by
          show (spelled z LD 1 8 && headIn z LT) = false
          have e3 : spelled z LD 1 8 = false := Bool.eq_false_iff.mpr e
          rw [e3]
          rfl
        rw [e2] at q'
        exact q'
    | _ => exact iteF q'
end
end MB

set_option Elab.async false
set_option linter.all false
set_option maxRecDepth 100000
set_option maxHeartbeats 4000000
namespace MB
open PySem L2 PyProof.Rows XL GD DM
/-- all but what stands at a stays -/
def SameB (a : Addr) (H H' : Hp) : Prop := ∀ b o, b ≠ a → H b = some o → H' b = some o
theorem SameB.trans {a : Addr} {H1 H2 H3 : Hp} (x : SameB a H1 H2) (y : SameB a H2 H3) : SameB a H1 H3 := fun b o n e => y b o n (x b o n e)
theorem SameB.of {a : Addr} {H H' : Hp} (s : Same H H') : SameB a H H' := fun b o _ e => s b o e
theorem SameB.put {a : Addr} {H : Hp} {o : HO} : SameB a H (upd H a o) := fun b x n e => by rw [upd_ne n]; exact e
theorem SameB.back {a : Addr} {H H' : Hp} {o : HO} (x : SameB a H H') (h : H a = some o) : Same H (upd H' a o) := fun b u e => by
  by_cases c : b = a
  · rw [c] at e ⊢
    rw [upd_same]
    exact (h.symm.trans e) ▸ rfl
  · rw [upd_ne c]
    exact x b u c e
theorem SameB.tup {a : Addr} {H H' : Hp} {kvs : List (Key × V)} (x : SameB a H H') (h : H a = some (.dK kvs)) : TupStay H H' := fun b xs e => x b _ (fun c => by rw [c, h] at e; cases e) e
theorem valV_get {v : V} {k : Key} : ∀ {kvs : List (Key × V)} {i : Nat}, (kvs.map (·.1)).Nodup → kvs[i]? = some (k, v) → valV kvs k = some v
  | [], i, _, e => by cases e
  | p :: r, 0, _, e => by
    have z := Option.some.inj e
    subst z
    exact valV_pos rfl
  | p :: r, i + 1, n, e => by
    obtain ⟨n1, n2⟩ := List.nodup_cons.mp n
    have e' : r[i]? = some (k, v) := e
    rw [valV_neg (fun c => n1 (show p.1 ∈ r.map (·.1) from by rw [c]; exact List.mem_map.mpr ⟨_, List.mem_of_getElem? e', rfl⟩))]
    exact valV_get n2 e'
def keyO : Key → Option Str
  | .inl _ => none
  | .inr s => some s
def keyFit : Key → Prop
  | .inl _ => True
  | .inr s => s.length ≤ sizeLine
theorem key_sv {H : Hp} : ∀ {k : Key}, keyFit k → SV H (kV k) (keyO k)
  | .inl i, _ => .int i
  | .inr s, h => .str s h
def entB (k : Key) (o : Option Str) : Bool := mkO (keyO k) && mkO o
def entL : List (Key × V) → List (Option Str) → List Bool
  | p :: r, o :: os => entB p.1 o :: entL r os
  | _, _ => []
theorem entL_get : ∀ {kvs : List (Key × V)} {os : List (Option Str)} {i : Nat} {p : Key × V} {o : Option Str}, kvs[i]? = some p → os[i]? = some o → (entL kvs os)[i]? = some (entB p.1 o)
  | _ :: _, _ :: _, 0, _, _, e1, e2 => by
    have z1 := Option.some.inj e1
    have z2 := Option.some.inj e2
    subst z1; subst z2
    rfl
  | _ :: r, _ :: os, i + 1, p, o, e1, e2 => entL_get (kvs := r) (os := os) (i := i) e1 e2
theorem entL_len : ∀ {kvs : List (Key × V)} {os : List (Option Str)}, kvs.length = os.length → (entL kvs os).length = kvs.length
  | [], [], _ => rfl
  | _ :: r, _ :: os, h => congrArg Nat.succ (entL_len (Nat.succ.inj h))
def isDM (kvs : List (Key × V)) (os : List (Option Str)) : Bool := (entL kvs os).all id
inductive NoD (H : Hp) : V → Prop where
  | non : NoD H .non
  | int (i : Int) : NoD H (.int i)
  | lst {a : Addr} {xs : List V} : H a = some (.lst xs) → NoD H (.ref a)
theorem NoD.same {H H' : Hp} (s : Same H H') {v : V} : NoD H v → NoD H' v
  | .non => .non
  | .int i => .int i
  | .lst h => .lst (s _ _ h)
theorem NoD.kit {K : PySem.W.Frag} {H : Hp} {v : V} (h : NoD H v) : ∃ T, TyX K H v (.type T) ∧ PySem.W.kitOne K (.type T) (.type "dict") = some false := by
  cases h with
  | non => exact ⟨_, .base .non, kit_ty (show kitB "NoneType" "dict" = some false by decide +kernel)⟩
  | int i => exact ⟨_, .base (.int i), kit_ty (show kitB "int" "dict" = some false by decide +kernel)⟩
  | lst h => exact ⟨_, .base (.lst h), kit_ty (show kitB "list" "dict" = some false by decide +kernel)⟩
/-- a dict of ours: its values and keys as far as marks are concerned -/
structure DD (H : Hp) (a : Addr) (kvs : List (Key × V)) (os : List (Option Str)) : Prop where
  at' : H a = some (.dK kvs)
  vals : SVs H (kvs.map (·.2)) os
  keys : (kvs.map (·.1)).Nodup
  fit : ∀ p ∈ kvs, keyFit p.1
  few : kvs.length ≤ 1000
theorem DD.same {H H' : Hp} {a : Addr} {kvs : List (Key × V)} {os : List (Option Str)} (d : DD H a kvs os) (s : Same H H') : DD H' a kvs os := ⟨s _ _ d.at', d.vals.stay (.of s), d.keys, d.fit, d.few⟩
section
variable {P : Program} {w : World} {K : PySem.W.Frag} {mg : Str → Option Value} {base : Heap}
/-! ### is_dict_of_marks -/
def spDict : Sp := fun vs H Q _ => ∃ v : V, vs = [v] ∧ ((NoD H v ∧ ∀ H', Same H H' → Q (.bl false) H') ∨ ∃ (a : Addr) (kvs : List (Key × V)) (os : List (Option Str)), v = .ref a ∧ DD H a kvs os ∧ ∀ H', Same H H' → Q (.bl (isDM kvs os)) H')
theorem scDm : FnScope ["value", "mark"] ["value"] (defScope sDict) := ⟨rfl, rfl, rfl, by decide +kernel, rfl, by decide +kernel, by decide +kernel⟩
theorem ok_dict {f fM : Addr} {fd fdM : FuncData} (F : Fun K "is_dict_of_marks" "is_dict_of_marks" sDict f fd) (kM : PySem.W.keepIn K (.ref fM) = true) (bM : Binds K fdM ["value"] []) (gM : mg "is_mark" = some (.ref fM)) (GM : FnOk P w K mg base CX0 2 fM fdM ["value"] spMark) (T : Txt mg) :
    FnOk P w K mg base CX0 3 f fd ["value"] spDict := by
  refine F.ok scDm (fun vs H Q E h => ?_) (fun cdv A outer s H vs Q E hr h => ?_)
  · obtain ⟨v, rfl, _⟩ := h
    rfl
  · obtain ⟨v, rfl, h⟩ := h
    have hu := hu_of hr
    refine ⟨_, pss_one (ps_ret (pe_and (pe_callB call_isi (by rfl) T.isi boot_isinstance (pa_cons (pv 0) (pa_cons (pe_bltn (v := .ty "dict") (by rfl) T.dict boot_dict rfl) pa_nil)))
      (pe_one (pe_callB (cr_all rfl) (by rfl) T.all (by decide +kernel) (pa_cons
        (pe_lock (pe_lc (own := [("mark", 1)]) (g := gName 1) (tt := tYes) rfl scDm.nd (pi_keys (pv 0)) (blkOk_by (N := ["value", "mark"]) (sc := defScope sDict) (by decide +kernel))
          (fun _ _ _ _ _ => pg_name (i := 1) scDm.nd rfl (Or.inl rfl)) (fun _ _ _ _ _ => pts_nil)
          (fun _ _ _ _ _ => pe_and (pe_call GM hr (by rfl) gM kM bM .nil pass0 (pa_cons (pv 1) pa_nil)) (pe_one (pe_call GM hr (by rfl) gM kM bM .nil pass0 (pa_cons (pe_dget hu (pv 0) (pv 1) (fun _ _ => rfl)) pa_nil)))))) pa_nil))))), ?_⟩
    rcases h with ⟨hn, q⟩ | ⟨a, kvs, os, rfl, hd, q⟩
    · obtain ⟨t, h1, h2⟩ := hn.kit (K := K)
      refine ⟨_, rfl, v, .ty "dict", .type t, .type "dict", false, rfl, .ty _, h1, h2, false, rfl, ?_⟩
      exact iteF (q H (Same.refl H))
    · have e0 := hd.at'
      refine ⟨_, rfl, .ref a, .ty "dict", .type "dict", .type "dict", true, rfl, .ty _, .base (.dK e0), kit_ty (show kitB "dict" "dict" = some true by decide +kernel), true, rfl, ?_⟩
      refine iteT ?_
      refine ⟨a, _, e0, trivial, fun od => ?_⟩
      refine ⟨_, rfl, a, od, rfl, .inl ⟨kvs, upd_same, fun D hD => ?_⟩⟩
      have hDa : D ≠ a := fun c => by rw [c, upd_same] at hD; cases hD
      refine lc_it (walk_keys (kvs := kvs)) (fun i H' => SameB a H H' ∧ H' a = some (.frz od (.dK kvs)) ∧ H' D = some (.lst (((entL kvs os).take i).map V.bl))) ?_ (fun _ _ _ h => h.2.1) ?_ ?_
      · refine ⟨SameB.put.trans (.of (same_upd hD)), ?_, ?_⟩
        · rw [upd_ne (Ne.symm hDa), upd_same]
        · rw [upd_same]; rfl
      · rintro i x H1 H2 hi ⟨s1, e1, e3⟩ ⟨rfl, k, v, hk, rfl⟩
        obtain ⟨o, ho, hv⟩ := hd.vals.get (i := i) (v := v) (by rw [List.getElem?_map, hk]; rfl)
        have st : TupStay H H2 := s1.tup e0
        have hmem := List.mem_of_getElem? hk
        have fin : ∀ H4, Same H2 H4 → ∃ acc, H4 D = some (.lst acc) ∧ acc.length < sizeLine ∧ (SameB a H (upd H4 D (.lst (acc ++ [.bl (entB k o)]))) ∧ (upd H4 D (.lst (acc ++ [.bl (entB k o)]))) a = some (.frz od (.dK kvs)) ∧ (upd H4 D (.lst (acc ++ [.bl (entB k o)]))) D = some (.lst (((entL kvs os).take (i + 1)).map V.bl))) := fun H4 s4 => by
          refine ⟨_, s4 _ _ e3, ?_, ?_, ?_, ?_⟩
          · rw [List.length_map]
            refine small1000 (Nat.le_trans (List.length_take_le _ _) ?_)
            exact Nat.le_trans (Nat.le_of_lt hi) hd.few
          · intro b u n e
            have hb : b ≠ D := fun c => by
              rw [c] at e
              have z : (upd H a (.frz od (.dK kvs))) D = some u := by rw [upd_ne hDa]; exact e
              rw [hD] at z
              cases z
            rw [upd_ne hb]
            exact s4 _ _ (s1 b u n e)
          · rw [upd_ne (Ne.symm hDa)]
            exact s4 _ _ e1
          · rw [upd_same, List.take_add_one, entL_get hk ho, List.map_append]
            rfl
        refine ⟨rfl, ?_⟩
        refine ⟨_, rfl, kV k, keyO k, rfl, key_sv (hd.fit _ hmem), fun H3 s3 => ⟨_, rfl, ?_⟩⟩
        refine ite2 (fun e4 => ?_) (fun e4 => ?_)
        · refine ⟨_, rfl, _, rfl, a, v, rfl, .inl ⟨kvs, k, .inr ⟨od, s3 _ _ e1⟩, rfl, (valV_get hd.keys hk).symm⟩, v, o, rfl, hv.stay (st.trans (.of s3)), fun H4 s4 => ?_⟩
          have e5 : entB k o = mkO o := by
            have z : mkO (keyO k) = true := e4
            show (mkO (keyO k) && mkO o) = mkO o
            rw [z]; rfl
          rw [← e5]
          exact fin H4 (s3.trans s4)
        · have e5 : false = entB k o := by
            have z : mkO (keyO k) = false := Bool.eq_false_iff.mpr e4
            show false = (mkO (keyO k) && mkO o)
            rw [z]; rfl
          rw [e5]
          exact fin H3 s3
      · rintro H1 ⟨s1, e1, e3⟩
        refine ⟨e1, ?_⟩
        have le := entL_len (kvs := kvs) (os := os) (by have := hd.vals.len; rwa [List.length_map] at this)
        refine ⟨D, entL kvs os, rfl, SqL.of ?_, ?_⟩
        · rw [upd_ne hDa, e3, List.take_of_length_le (by rw [le]; exact Nat.le_refl _)]
        · exact q _ (s1.back e0)
end
end MB

set_option Elab.async false
set_option linter.all false
set_option maxRecDepth 100000
set_option maxHeartbeats 4000000
namespace MB
open PySem L2 PyProof.Rows XL GD DM
/-! ### maps of marks -/
def dM (m : List (Str × Str)) : List (Key × V) := m.map fun p => ((Sum.inr p.1 : Key), V.str p.2)
theorem dM_keys (m : List (Str × Str)) : (dM m).map (·.1) = (m.map (·.1)).map Sum.inr := by
  unfold dM
  rw [List.map_map, List.map_map]; rfl
theorem dM_vals (m : List (Str × Str)) : (dM m).map (·.2) = (m.map (·.2)).map V.str := by
  unfold dM
  rw [List.map_map, List.map_map]; rfl
theorem inj_nodup {α β : Type} {f : α → β} (hf : ∀ a b, f a = f b → a = b) : ∀ {l : List α}, (l.map f).Nodup ↔ l.Nodup
  | [] => ⟨fun _ => List.nodup_nil, fun _ => List.nodup_nil⟩
  | a :: l => by
    rw [List.map_cons, List.nodup_cons, List.nodup_cons, inj_nodup hf (l := l), List.mem_map]
    exact ⟨fun ⟨h1, h2⟩ => ⟨fun q => h1 ⟨a, q, rfl⟩, h2⟩, fun ⟨h1, h2⟩ => ⟨fun ⟨b, hb, e⟩ => h1 (hf _ _ e ▸ hb), h2⟩⟩
theorem mk_short {s : Str} (h : mkS s = true) : s.length ≤ sizeLine := by
  unfold mkS spelled at h
  rw [Bool.and_eq_true, Bool.and_eq_true, Bool.and_eq_true] at h
  have q : (s.length : Int) ≤ 8 := of_decide_eq_true h.1.2.1
  exact Nat.le_of_lt (small1000 (show s.length ≤ 1000 by omega))
structure MM (m : List (Str × Str)) : Prop where
  keys : (m.map (·.1)).Nodup
  marks : ∀ p ∈ m, mkS p.1 = true ∧ mkS p.2 = true
  few : m.length ≤ 1000
theorem svs_strs {H : Hp} : ∀ {l : List Str}, (∀ s ∈ l, s.length ≤ sizeLine) → SVs H (l.map V.str) (l.map some)
  | [], _ => .nil
  | s :: l, h => .cons (.str s (h s List.mem_cons_self)) (svs_strs fun x hx => h x (List.mem_cons_of_mem _ hx))
theorem isDM_map : ∀ {m : List (Str × Str)}, (∀ p ∈ m, mkS p.1 = true ∧ mkS p.2 = true) → isDM (dM m) ((m.map (·.2)).map some) = true
  | [], _ => rfl
  | p :: m, h => by
    have ih := isDM_map (m := m) fun q hq => h q (List.mem_cons_of_mem _ hq)
    obtain ⟨h1, h2⟩ := h p List.mem_cons_self
    show (entB (Sum.inr p.1) (some p.2) && isDM (dM m) ((m.map (·.2)).map some)) = true
    rw [ih]
    show ((mkS p.1 && mkS p.2) && true) = true
    rw [h1, h2]; rfl
theorem MM.dd {H : Hp} {a : Addr} {m : List (Str × Str)} (g : MM m) (e : H a = some (.dK (dM m))) : DD H a (dM m) ((m.map (·.2)).map some) where
  at' := e
  vals := by
    rw [dM_vals]
    exact svs_strs fun s hs => by
      obtain ⟨p, hp, rfl⟩ := List.mem_map.mp hs
      exact mk_short (g.marks p hp).2
  keys := by
    rw [dM_keys]
    exact (inj_nodup fun a b e => Sum.inr.inj e).mpr g.keys
  fit := fun p hp => by
    obtain ⟨q, hq, rfl⟩ := List.mem_map.mp hp
    exact mk_short (g.marks q hq).1
  few := by
    unfold dM
    rw [List.length_map]
    exact g.few
/-- a value that is asked for being a one-to-one dict from marks to marks -/
inductive MV (H : Hp) : V → Bool → Prop where
  | no {v : V} : NoD H v → MV H v false
  | odd {a : Addr} {kvs : List (Key × V)} {os : List (Option Str)} : DD H a kvs os → isDM kvs os = false → MV H (.ref a) false
  | map {a : Addr} {b : Bool} (m : List (Str × Str)) : H a = some (.dK (dM m)) → MM m → (b = true ↔ (m.map (·.2)).Nodup) → MV H (.ref a) b
theorem MV.same {H H' : Hp} (s : Same H H') {v : V} {b : Bool} : MV H v b → MV H' v b
  | .no h => .no (h.same s)
  | .odd h e => .odd (h.same s) e
  | .map m h g i => .map m (s _ _ h) g i
section
variable {P : Program} {w : World} {K : PySem.W.Frag} {mg : Str → Option Value} {base : Heap}
/-! ### are_different -/
def spDiff (K : PySem.W.Frag) : Sp := fun vs H Q _ => ∃ (l : Addr) (ks : List Key), vs = [.ref l] ∧ SqL K H l (ks.map kV) ∧ ks.length ≤ 1000 ∧ ∀ (b : Bool) H', Same H H' → (b = true ↔ ks.Nodup) → Q (.bl b) H'
theorem scDf : FnScope ["worths"] ["worths"] (defScope sDiff) := ⟨rfl, rfl, rfl, by decide +kernel, rfl, by decide +kernel, by decide +kernel⟩
theorem ok_diff {f : Addr} {fd : FuncData} (F : Fun K "are_different" "are_different" sDiff f fd) (T : Txt mg) : FnOk P w K mg base CX0 1 f fd ["worths"] (spDiff K) := by
  refine F.ok scDf (fun vs H Q E h => ?_) (fun cdv A outer s H vs Q E hr h => ?_)
  · obtain ⟨v, ks, rfl, _⟩ := h
    rfl
  · obtain ⟨l, ks, rfl, hl, hf, q⟩ := h
    refine ⟨_, pss_one (ps_ret (pe_cmpR op_eq (pe_lenSetK (by rfl) T.len (by rfl) T.set (pv 0) rfl) (pe_callB call_len_seq (by rfl) T.len PySem.boot_len (pa_cons (pv 0) pa_nil)) (nomark _))), ?_⟩
    refine ⟨_, rfl, l, ks, rfl, hl, by omega, fun n h1 h2 => ⟨_, rfl, l, ks.map kV, rfl, .inl hl, rfl, ?_⟩⟩
    rw [List.length_map]
    refine q _ H (Same.refl H) ?_
    rw [decide_eq_true_iff]
    exact ⟨fun e => h2.mp (by have := V.int.inj e; omega), fun e => by rw [h2.mpr e]⟩
/-! ### check_map -/
def spCheck (C : Addr) : Sp := fun vs H Q E => ∃ (v : V) (b : Bool), vs = [v] ∧ MV H v b ∧ (b = true → ∀ H', Same H H' → Q .non H') ∧ (b = false → ∀ H' dx, Same H H' → H' dx = none → E (.ref C) (some dx) (upd H' dx (.xd [("value", v)])))
theorem scCh : FnScope ["value"] ["value"] (defScope sCheck) := ⟨rfl, rfl, rfl, by decide +kernel, rfl, by decide +kernel, by decide +kernel⟩
theorem ok_check {f fD fF C fI : Addr} {fd fdD fdF : FuncData} (F : Fun K "check_map" "check_map" sCheck f fd) (kD : PySem.W.keepIn K (.ref fD) = true) (bD : Binds K fdD ["value"] []) (gD : mg "is_dict_of_marks" = some (.ref fD)) (GD : FnOk P w K mg base CX0 3 fD fdD ["value"] spDict)
    (kF : PySem.W.keepIn K (.ref fF) = true) (bF : Binds K fdF ["worths"] []) (gF : mg "are_different" = some (.ref fF)) (GF : FnOk P w K mg base CX0 1 fF fdF ["worths"] (spDiff K)) (T : XC K C) (tC : PySem.W.typeIn K (.ref C) = some (.type "type")) (I : XI K C fI "value") (gC : mg "BadMap" = some (.ref C)) (Tx : Txt mg) :
    FnOk P w K mg base (L2.CX P w) 4 f fd ["value"] (spCheck C) := by
  refine F.okX scCh (fun vs H Q E h => ?_) (fun cdv A outer s H vs Q E hr h => ?_)
  · obtain ⟨v, b, rfl, _⟩ := h
    rfl
  · obtain ⟨v, b, rfl, hR, hT, hF⟩ := h
    refine ⟨_, pss_one (ps_if (PW.pt (pw_or (pt_not (pt_val (pe_call GD hr (by rfl) gD kD bD .nil pass0 (pa_cons (pv 0) pa_nil))))
        (pw_or1 (pt_not (pt_val (pe_call GF (hr.mono (by decide)) (by rfl) gF kF bF .nil pass0 (pa_cons (pe_listVals rfl (pv 0) (by rfl) Tx.list) pa_nil)))))))
      (pss_one (ps_raise rfl (takes_of rfl rfl rfl rfl) (pmk_x (f := "value") T tC I hr (by rfl) gC (by exact (pa_cons (pv 0) pa_nil))))) pss_nil), ?_⟩
    cases hR with
    | no hn => exact ⟨_, rfl, v, rfl, .inl ⟨hn, fun H1 s1 => ⟨false, rfl, iteT (iteT ⟨_, rfl, v, rfl, fun dx nd => hF rfl _ _ s1 nd⟩)⟩⟩⟩
    | odd hd e =>
      refine ⟨_, rfl, _, rfl, .inr ⟨_, _, _, rfl, hd, fun H1 s1 => ⟨false, by rw [e], ?_⟩⟩⟩
      exact iteT (iteT ⟨_, rfl, _, rfl, fun dx nd => hF rfl _ _ s1 nd⟩)
    | map m e g hi =>
      rename_i a
      refine ⟨_, rfl, _, rfl, .inr ⟨a, dM m, _, rfl, g.dd e, fun H1 s1 => ⟨true, by rw [isDM_map g.marks], ?_⟩⟩⟩
      refine iteF ?_
      refine ⟨_, rfl, a, dM m, rfl, s1 _ _ e, fun p np => ?_⟩
      refine ⟨p, (m.map fun q => (Sum.inr q.2 : Key)), rfl, SqL.of ?_, by rw [List.length_map]; exact g.few, fun b' H2 s2 hb => ⟨b', rfl, ?_⟩⟩
      · rw [upd_same, dM_vals, List.map_map, List.map_map]; rfl
      · have en : (m.map fun q => (Sum.inr q.2 : Key)) = (m.map (·.2)).map Sum.inr := by rw [List.map_map]; rfl
        rw [en, inj_nodup fun a b e => Sum.inr.inj e] at hb
        have s3 : Same H H2 := (s1.trans (same_upd np)).trans s2
        cases b' with
        | true => exact iteF (hT (hi.mpr (hb.mp rfl)) _ s3)
        | false => exact iteT (⟨_, rfl, _, rfl, fun dx nd => hF (Bool.eq_false_iff.mpr fun z => Bool.noConfusion (hb.mpr (hi.mp z))) _ _ s3 nd⟩)
end
end MB

set_option Elab.async false
set_option linter.all false
set_option maxRecDepth 100000
set_option maxHeartbeats 4000000
namespace MB
open PySem L2 PyProof.Rows XL GD DM
section
variable {J : It} {n : Nat} {G : Hp → Prop} {Y : Nat → Hp → V → Hp → Prop}
/-- a dict comprehension over what is walked -/
theorem dc_it (w : Walk J n G Y) {g : TG} {tt : TT} {tk tv : TE} {vs : List Nat} {σ : L2.St} {H1 : Hp} {D : Addr} {Qd : Hp → Prop} (Pv : Nat → Hp → Prop) (h0 : Pv 0 (upd H1 D (.dK []))) (hG : ∀ i H, i ≤ n → Pv i H → G H)
    (hs : ∀ i x H H', i < n → Pv i H → Y i H x H' → g x (wipe σ vs) H' fun σ2 H2 => wipe σ2 vs = wipe σ vs ∧ tt σ2 H2 fun b H3 =>
      if b = true then tk σ2 H3 fun y H4 => tv σ2 H4 fun z H5 => ∃ kvs k, y = kV k ∧ H5 D = some (.dK kvs) ∧ kvs.length < sizeLine ∧ Pv (i + 1) (upd H5 D (.dK (putK kvs k z))) else Pv (i + 1) H3) (hd : ∀ H, Pv n H → Qd H) :
    ∃ W : Nat → Nat → Hp → Prop, (∃ m, W 0 m (upd H1 D (.dK []))) ∧ ∀ i m H, W i m H →
      (J.stop i H ∧ Qd H) ∨ (J.go i H ∧ ∃ Nx : Hp → Prop, (∀ H', Nx H' → ∃ m', m' < m ∧ W (i + 1) m' H') ∧ ∀ x H', J.yld i H x H' → g x (wipe σ vs) H' fun σ2 H2 => wipe σ2 vs = wipe σ vs ∧ tt σ2 H2 fun b H3 =>
        if b = true then tk σ2 H3 fun y H4 => tv σ2 H4 fun z H5 => ∃ kvs k, y = kV k ∧ H5 D = some (.dK kvs) ∧ kvs.length < sizeLine ∧ Nx (upd H5 D (.dK (putK kvs k z))) else Nx H3) := by
  refine ⟨fun i m H => m = n - i ∧ i ≤ n ∧ Pv i H, ⟨n, by simp, Nat.zero_le _, h0⟩, ?_⟩
  rintro i m H ⟨rfl, hi, p⟩
  have q := hG i H hi p
  by_cases hlt : i < n
  · exact .inr ⟨w.goes i H hlt q, Pv (i + 1), fun H' p' => ⟨n - (i + 1), by omega, rfl, hlt, p'⟩, fun x H' y => hs i x H H' hlt p (w.yields i H x H' hlt q y)⟩
  · have e : i = n := by omega
    subst e
    exact .inl ⟨w.stops H q, hd H p⟩
end
/-! ### what a map has of a mark -/
def lk : List (Str × Str) → Str → Option Str
  | [], _ => none
  | p :: m, k => if p.1 = k then some p.2 else lk m k
theorem valV_dM : ∀ (m : List (Str × Str)) (k : Str), valV (dM m) (Sum.inr k) = (lk m k).map V.str
  | [], _ => rfl
  | p :: m, k => by
    show valV ((Sum.inr p.1, V.str p.2) :: dM m) (Sum.inr k) = Option.map V.str (if p.1 = k then some p.2 else lk m k)
    by_cases e : p.1 = k
    · rw [if_pos e, valV_pos (show (Sum.inr p.1 : Key) = Sum.inr k by rw [e])]; rfl
    · rw [if_neg e, valV_neg (fun z => e (Sum.inr.inj z)), valV_dM m k]
theorem lk_mem : ∀ (m : List (Str × Str)) (k : Str), (lk m k).isSome = true ↔ k ∈ m.map (·.1)
  | [], k => by simp [lk]
  | p :: m, k => by
    show (if p.1 = k then some p.2 else lk m k).isSome = true ↔ k ∈ p.1 :: m.map (·.1)
    by_cases e : p.1 = k
    · rw [if_pos e]; exact ⟨fun _ => by rw [e]; exact List.mem_cons_self, fun _ => rfl⟩
    · rw [if_neg e, lk_mem m k, List.mem_cons]
      exact ⟨fun z => .inr z, fun z => z.elim (fun q => absurd q.symm e) id⟩
theorem lk_none {m : List (Str × Str)} {k : Str} (h : k ∉ m.map (·.1)) : lk m k = none := by
  cases c : lk m k with
  | none => rfl
  | some v => exact absurd ((lk_mem m k).mp (by rw [c]; rfl)) h
theorem lk_get {k v : Str} : ∀ {m : List (Str × Str)}, (m.map (·.1)).Nodup → (k, v) ∈ m → lk m k = some v
  | p :: m, n, h => by
    obtain ⟨n1, n2⟩ := List.nodup_cons.mp n
    show (if p.1 = k then some p.2 else lk m k) = some v
    rcases List.mem_cons.mp h with e | e
    · rw [← e, if_pos rfl]
    · rw [if_neg (fun z => n1 (show p.1 ∈ m.map (·.1) from by rw [z]; exact List.mem_map.mpr ⟨_, e, rfl⟩))]
      exact lk_get n2 e
theorem putK_dM {m : List (Str × Str)} {k v : Str} (h : k ∉ m.map (·.1)) : putK (dM m) (Sum.inr k) (.str v) = dM (m ++ [(k, v)]) := by
  rw [putK_new _ (by rw [valV_dM, lk_none h]; rfl)]
  unfold dM
  rw [List.map_append]; rfl
/-- a good map: one-to-one, of marks -/
structure GO (m : List (Str × Str)) : Prop where
  mm : MM m
  vals : (m.map (·.2)).Nodup
theorem GO.mv {H : Hp} {a : Addr} {m : List (Str × Str)} (g : GO m) (e : H a = some (.dK (dM m))) : MV H (.ref a) true := .map m e g.mm ⟨fun _ => g.vals, fun _ => rfl⟩
/-- a dict comprehension's turns over a locked map -/
structure PvD (H : Hp) (a : Addr) (od : Obj) (m l : List (Str × Str)) (D : Addr) (i : Nat) (H' : Hp) : Prop where
  same : SameB a H H'
  frz : H' a = some (.frz od (.dK (dM m)))
  at' : H' D = some (.dK (dM (l.take i)))
theorem PvD.zero {H : Hp} {a : Addr} {od : Obj} {m l : List (Str × Str)} {D : Addr} (e : H a = some (.dK (dM m))) (hD : (upd H a (.frz od (.dK (dM m)))) D = none) : PvD H a od m l D 0 (upd (upd H a (.frz od (.dK (dM m)))) D (.dK [])) ∧ D ≠ a := by
  have hDa : D ≠ a := fun c => by rw [c, upd_same] at hD; cases hD
  exact ⟨⟨SameB.put.trans (.of (same_upd hD)), by rw [upd_ne (Ne.symm hDa), upd_same], by rw [upd_same]; rfl⟩, hDa⟩
theorem PvD.next {H H1 H4 : Hp} {a : Addr} {od : Obj} {m l : List (Str × Str)} {D : Addr} {i : Nat} {k v : Str} (p : PvD H a od m l D i H1) (s : Same H1 H4) (hDa : D ≠ a) (hD : H D = none) (g : l[i]? = some (k, v)) (n : (l.map (·.1)).Nodup) (few : l.length ≤ 1000) :
    ∃ kvs k', V.str k = kV k' ∧ H4 D = some (.dK kvs) ∧ kvs.length < sizeLine ∧ PvD H a od m l D (i + 1) (upd H4 D (.dK (putK kvs k' (.str v)))) := by
  have tk : l.take (i + 1) = l.take i ++ [(k, v)] := by rw [List.take_succ, g]; rfl
  refine ⟨_, Sum.inr k, rfl, s _ _ p.at', ?_, ?_, ?_, ?_⟩
  · unfold dM
    rw [List.length_map]
    exact small1000 (Nat.le_trans (List.length_take_le' _ _) few)
  · intro b u nb e
    have hb : b ≠ D := fun c => by rw [c, hD] at e; cases e
    rw [upd_ne hb]
    exact s _ _ (p.same b u nb e)
  · rw [upd_ne (Ne.symm hDa)]
    exact s _ _ p.frz
  · rw [upd_same, tk, putK_dM]
    intro hm
    rw [← List.take_append_drop (i + 1) l, tk] at n
    simp only [List.map_append, List.map_cons, List.map_nil] at n
    have n1 := (List.nodup_append.mp n).1
    exact (List.nodup_append.mp n1).2.2 k hm k (List.mem_singleton.mpr rfl) rfl
section
variable {P : Program} {w : World} {K : PySem.W.Frag} {mg : Str → Option Value} {base : Heap}
/-! ### backwards -/
def flip (m : List (Str × Str)) : List (Str × Str) := m.map fun p => (p.2, p.1)
theorem flip_keys (m : List (Str × Str)) : (flip m).map (·.1) = m.map (·.2) := by
  unfold flip
  rw [List.map_map]; rfl
theorem flip_vals (m : List (Str × Str)) : (flip m).map (·.2) = m.map (·.1) := by
  unfold flip
  rw [List.map_map]; rfl
def spBack (C : Addr) : Sp := fun vs H Q E => ∃ v : V, vs = [v] ∧ ((∃ (a : Addr) (m : List (Str × Str)), v = .ref a ∧ H a = some (.dK (dM m)) ∧ GO m ∧ ∀ H' p, Same H H' → H p = none → H' p = some (.dK (dM (flip m))) → Q (.ref p) H') ∨
  (MV H v false ∧ ∀ H' dx, Same H H' → H' dx = none → E (.ref C) (some dx) (upd H' dx (.xd [("value", v)]))))
theorem scBk : FnScope ["first", "mark", "image"] ["first"] (defScope sBack) := ⟨rfl, rfl, rfl, by decide +kernel, rfl, by decide +kernel, by decide +kernel⟩
theorem ok_back {f fC C : Addr} {fd fdC : FuncData} (F : Fun K "backwards" "backwards" sBack f fd) (kC : PySem.W.keepIn K (.ref fC) = true) (bC : Binds K fdC ["value"] []) (gC : mg "check_map" = some (.ref fC)) (GC : FnOk P w K mg base (L2.CX P w) 4 fC fdC ["value"] (spCheck C)) :
    FnOk P w K mg base (L2.CX P w) 5 f fd ["first"] (spBack C) := by
  refine F.okX scBk (fun vs H Q E h => ?_) (fun cdv A outer s H vs Q E hr h => ?_)
  · obtain ⟨v, rfl, _⟩ := h
    rfl
  · obtain ⟨v, rfl, h⟩ := h
    refine ⟨_, pss_cons (ps_expr (pe_callS GC hr (by rfl) gC kC bC (fun σ => L2.passAt (takes_of rfl rfl rfl rfl) σ) (pa_cons (pv 0) pa_nil)))
      (pss_one (ps_ret (pe_lock (pe_dc (own := [("mark", 1), ("image", 2)]) (tt := tYes) rfl scBk.nd (pi_items (pv 0)) (blkOk_by (N := ["first", "mark", "image"]) (sc := defScope sBack) (by decide +kernel))
        (g := gTup K 2 (gCons (gName 1) (gCons (gName 2) gNil))) (fun _ _ _ _ _ => by exact (pg_tup rfl (pgs_cons (by exact (pg_name (i := 1) scBk.nd rfl (Or.inl rfl))) (pgs_cons (by exact (pg_name (i := 2) scBk.nd rfl (Or.inl rfl))) pgs_nil)))) (fun _ _ _ _ _ => pts_nil) (fun _ _ _ _ _ => pv 2) (fun _ _ _ _ _ => pv 1))))), ?_⟩
    rcases h with ⟨a, m, rfl, e0, g, q⟩ | ⟨hR, q⟩
    · refine ⟨_, rfl, _, true, rfl, g.mv e0, fun _ H1 s1 => ?_, fun z => Bool.noConfusion z⟩
      have e1 := s1 _ _ e0
      refine ⟨a, _, e1, trivial, fun od => ?_⟩
      refine ⟨_, rfl, a, od, dM m, rfl, upd_same, fun D hD => ?_⟩
      obtain ⟨p0, hDa⟩ := PvD.zero (l := flip m) e1 hD
      have hD1 : H1 D = none := by rw [upd_ne hDa] at hD; exact hD
      refine dc_it (walk_items (kvs := dM m)) (PvD H1 a od m (flip m) D) p0 (fun _ _ _ p => p.frz) ?_ ?_
      · rintro i x H2 H3 hi pv ⟨T, x1, x2, rfl, hT, rfl, c1, c2⟩
        have hi' : i < m.length := by unfold dM at hi; rwa [List.length_map] at hi
        have gi : m[i]? = some m[i] := List.getElem?_eq_getElem hi'
        have gd : (dM m)[i]? = some ((Sum.inr m[i].1 : Key), V.str m[i].2) := by
          unfold dM
          rw [List.getElem?_map, gi]; rfl
        dsimp only at c1 c2
        rw [gd] at c1 c2
        cases c1
        cases c2
        refine ⟨T, _, rfl, SqT.of upd_same, rfl, ?_⟩
        refine ⟨_, _, rfl, _, _, rfl, rfl, ?_⟩
        refine ⟨rfl, ?_⟩
        refine ⟨_, rfl, _, rfl, ?_⟩
        exact pv.next (same_upd hT) hDa hD1 (by unfold flip; rw [List.getElem?_map, gi]; rfl) (by rw [flip_keys]; exact g.vals) (by unfold flip; rw [List.length_map]; exact g.mm.few)
      · intro H2 pv
        refine ⟨pv.frz, ?_⟩
        have hn : H D = none := by
          cases c : H D with
          | none => rfl
          | some o => rw [s1 _ _ c] at hD1; cases hD1
        refine q _ D (s1.trans (pv.same.back e1)) hn ?_
        rw [upd_ne hDa, pv.at', List.take_of_length_le]
        unfold flip dM
        rw [List.length_map, List.length_map]
        exact Nat.le_refl _
    · exact ⟨_, rfl, v, false, rfl, hR, fun z => Bool.noConfusion z, fun _ H1 dx s1 nd => q _ _ s1 nd⟩
end
end MB

set_option Elab.async false
set_option linter.all false
set_option maxRecDepth 100000
set_option maxHeartbeats 4000000
namespace MB
open PySem L2 PyProof.Rows XL GD DM
def comp (m m2 : List (Str × Str)) : List (Str × Str) := m.map fun p => (p.1, (lk m2 p.2).getD p.2)
theorem comp_keys (m m2 : List (Str × Str)) : (comp m m2).map (·.1) = m.map (·.1) := by
  unfold comp
  rw [List.map_map]; rfl
def Good (H : Hp) (v : V) (m : List (Str × Str)) : Prop := ∃ a, v = .ref a ∧ H a = some (.dK (dM m)) ∧ GO m
theorem Good.same {H H' : Hp} (s : Same H H') {v : V} {m : List (Str × Str)} : Good H v m → Good H' v m := fun ⟨a, e, h, g⟩ => ⟨a, e, s _ _ h, g⟩
theorem Good.mv {H : Hp} {v : V} {m : List (Str × Str)} : Good H v m → MV H v true := fun ⟨_, e, h, g⟩ => e ▸ g.mv h
def hasAll (m m2 : List (Str × Str)) : Bool := (m.map (·.2)).all fun s => (lk m2 s).isSome
def BadAt (C : Addr) (v : V) (H : Hp) (E : XK) : Prop := ∀ H' dx, Same H H' → H' dx = none → E (.ref C) (some dx) (upd H' dx (.xd [("value", v)]))
/-- what then(x, y) comes to -/
inductive ThenAt (C : Addr) (x y : V) (H : Hp) (Q : VK) (E : XK) : Prop where
  | first : MV H x false → BadAt C x H E → ThenAt C x y H Q E
  | second {m : List (Str × Str)} : Good H x m → MV H y false → BadAt C y H E → ThenAt C x y H Q E
  | both {m m2 : List (Str × Str)} : Good H x m → Good H y m2 → (hasAll m m2 = false → BadAt C y H E) → (hasAll m m2 = true → x ≠ y ∧ ∀ H' p, Same H H' → H p = none → H' p = some (.dK (dM (comp m m2))) → Q (.ref p) H') → ThenAt C x y H Q E
section
variable {P : Program} {w : World} {K : PySem.W.Frag} {mg : Str → Option Value} {base : Heap}
def spThen (C : Addr) : Sp := fun vs H Q E => ∃ x y : V, vs = [x, y] ∧ ThenAt C x y H Q E
theorem scTh : FnScope ["first", "second", "image", "mark"] ["first", "second"] (defScope sThen) := ⟨rfl, rfl, rfl, by decide +kernel, rfl, by decide +kernel, by decide +kernel⟩
theorem ok_then {f fC C fI : Addr} {fd fdC : FuncData} (F : Fun K "then" "then" sThen f fd) (kC : PySem.W.keepIn K (.ref fC) = true) (bC : Binds K fdC ["value"] []) (gC : mg "check_map" = some (.ref fC)) (GC : FnOk P w K mg base (L2.CX P w) 4 fC fdC ["value"] (spCheck C))
    (XT : XC K C) (tC : PySem.W.typeIn K (.ref C) = some (.type "type")) (I : XI K C fI "value") (gX : mg "BadMap" = some (.ref C)) (T : Txt mg) :
    FnOk P w K mg base (L2.CX P w) 5 f fd ["first", "second"] (spThen C) := by
  refine F.okX scTh (fun vs H Q E h => ?_) (fun cdv A outer s H vs Q E hr h => ?_)
  · obtain ⟨x, y, rfl, _⟩ := h
    rfl
  · obtain ⟨x, y, rfl, h⟩ := h
    have hu := hu_of hr
    refine ⟨_, pss_cons (ps_expr (pe_callS GC hr (by rfl) gC kC bC (fun σ => L2.passAt (takes_of rfl rfl rfl rfl) σ) (pa_cons (pv 0) pa_nil)))
      (pss_cons (ps_expr (pe_callS GC hr (by rfl) gC kC bC (fun σ => L2.passAt (takes_of rfl rfl rfl rfl) σ) (pa_cons (pv 1) pa_nil)))
      (pss_cons (ps_if (pt_not (pt_val (pe_callB (cr_all rfl) (by rfl) T.all (by decide +kernel) (pa_cons
          (pe_lc (own := [("image", 2)]) (g := gName 2) (tt := tYes) rfl scTh.nd (pi_list (pe_listVals rfl (pv 0) (by rfl) T.list)) (blkOk_by (N := ["first", "second", "image", "mark"]) (sc := defScope sThen) (by decide +kernel))
            (fun _ _ _ _ _ => pg_name (i := 2) scTh.nd rfl (Or.inl rfl)) (fun _ _ _ _ _ => pts_nil) (fun _ _ _ _ _ => pe_cmp (pc_din hu (pv 2) (pv 1)) rfl)) pa_nil))))
        (pss_one (ps_raise rfl (takes_of rfl rfl rfl rfl) (pmk_x (f := "value") XT tC I hr (by rfl) gX (by exact (pa_cons (pv 1) pa_nil))))) pss_nil)
      (pss_one (ps_ret (pe_lock (pe_dc (own := [("mark", 3), ("image", 2)]) (tt := tYes) rfl scTh.nd (pi_items (pv 0)) (blkOk_by (N := ["first", "second", "image", "mark"]) (sc := defScope sThen) (by decide +kernel))
        (g := gTup K 2 (gCons (gName 3) (gCons (gName 2) gNil))) (fun _ _ _ _ _ => by exact (pg_tup rfl (pgs_cons (by exact (pg_name (i := 3) scTh.nd rfl (Or.inl rfl))) (pgs_cons (by exact (pg_name (i := 2) scTh.nd rfl (Or.inl rfl))) pgs_nil))))
        (fun _ _ _ _ _ => pts_nil) (fun _ _ _ _ _ => pv 3) (fun _ _ _ _ _ => pe_dget hu (pv 1) (pv 2) (fun _ _ => rfl)))))))), ?_⟩
    cases h with
    | first hR q => exact ⟨_, rfl, x, false, rfl, hR, fun z => Bool.noConfusion z, fun _ H1 dx s1 nd => q _ _ s1 nd⟩
    | second hg hR q => exact ⟨_, rfl, x, true, rfl, hg.mv, fun _ H1 s1 => ⟨_, rfl, y, false, rfl, hR.same s1, fun z => Bool.noConfusion z, fun _ H2 dx s2 nd => q _ _ (s1.trans s2) nd⟩, fun z => Bool.noConfusion z⟩
    | both hg hg2 hF hT =>
      rename_i m m2
      refine ⟨_, rfl, x, true, rfl, hg.mv, fun _ H1 s1 => ⟨_, rfl, y, true, rfl, (hg2.same s1).mv, fun _ H2 s2 => ?_, fun z => Bool.noConfusion z⟩, fun z => Bool.noConfusion z⟩
      have s12 := s1.trans s2
      obtain ⟨a, rfl, e0, g⟩ := hg.same s12
      obtain ⟨b, rfl, e2, g2⟩ := hg2.same s12
      refine ⟨_, rfl, a, dM m, rfl, e0, fun L nL => ⟨L, rfl, ⟨_, SqL.of upd_same⟩, fun D hD => ?_⟩⟩
      rw [dM_vals]
      have hDL : D ≠ L := fun c => by rw [c, dM_vals, upd_same] at hD; cases hD
      have nD : H2 D = none := by rw [upd_ne hDL] at hD; exact hD
      refine lc_list (xs := (m.map (·.2)).map V.str) (fun i H' => Same H2 H' ∧ H' L = some (.lst ((m.map (·.2)).map V.str)) ∧ H' D = some (.lst (((m.map (·.2)).take i).map fun s => V.bl (lk m2 s).isSome))) ?_ (fun i H' _ p => SqL.of p.2.1) ?_ ?_
      · exact ⟨(same_upd nL).trans (same_upd (by rw [upd_ne hDL]; exact nD)), by rw [upd_ne (Ne.symm hDL), upd_same], by rw [upd_same]; rfl⟩
      · rintro i z H3 hz ⟨s3, l3, d3⟩
        rw [List.getElem?_map] at hz
        cases gz : (m.map (·.2))[i]? with
        | none => rw [gz] at hz; cases hz
        | some sz =>
          rw [gz] at hz
          cases hz
          refine ⟨rfl, ?_⟩
          refine ⟨_, rfl, _, rfl, b, _, rfl, DGet.k (k := Sum.inr sz) (s3 _ _ e2), ?_⟩
          refine ⟨_, d3, ?_, ?_, ?_, ?_⟩
          · rw [List.length_map]
            refine small1000 (Nat.le_trans (List.length_take_le' _ _) ?_)
            rw [List.length_map]
            exact g.mm.few
          · exact fun c o e => by rw [upd_ne (ne_of_none e nD)]; exact s3 c o e
          · rw [upd_ne (Ne.symm hDL)]; exact l3
          · have ev : (Option.map V.str (lk m2 sz)).isSome = (lk m2 sz).isSome := by cases lk m2 sz <;> rfl
            rw [upd_same, List.take_succ, gz, List.map_append, valV_dM, ev]
            rfl
      · rintro H3 ⟨s3, l3, d3⟩
        refine ⟨D, (m.map (·.2)).map fun s => (lk m2 s).isSome, rfl, SqL.of ?_, ?_⟩
        · rw [d3, List.take_of_length_le (by rw [List.length_map, List.length_map, List.length_map]; exact Nat.le_refl _), List.map_map (g := V.bl)]; rfl
        · have sH3 : Same H H3 := s12.trans s3
          have eA : ((m.map (·.2)).map fun s => (lk m2 s).isSome).all id = hasAll m m2 := all_map _ _
          rw [eA]
          refine ⟨_, rfl, ?_⟩
          cases hA : hasAll m m2 with
          | false => exact iteT ⟨_, rfl, _, rfl, fun dx nd => hF hA _ _ sH3 nd⟩
          | true =>
            refine iteF ?_
            obtain ⟨hne, q⟩ := hT hA
            have hab : b ≠ a := fun c => hne (by rw [c])
            have e3 := s3 _ _ e0
            refine ⟨a, _, e3, trivial, fun od => ?_⟩
            refine ⟨_, rfl, a, od, dM m, rfl, upd_same, fun R hR => ?_⟩
            obtain ⟨p0, hRa⟩ := PvD.zero (l := comp m m2) e3 hR
            have hR3 : H3 R = none := by rw [upd_ne hRa] at hR; exact hR
            refine dc_it (walk_items (kvs := dM m)) (PvD H3 a od m (comp m m2) R) p0 (fun _ _ _ p => p.frz) ?_ ?_
            · rintro i x H4 H5 hi pv ⟨T', x1, x2, rfl, hT', rfl, c1, c2⟩
              have hi' : i < m.length := by unfold dM at hi; rwa [List.length_map] at hi
              have gi : m[i]? = some m[i] := List.getElem?_eq_getElem hi'
              have gd : (dM m)[i]? = some ((Sum.inr m[i].1 : Key), V.str m[i].2) := by
                unfold dM
                rw [List.getElem?_map, gi]; rfl
              dsimp only at c1 c2
              rw [gd] at c1 c2
              cases c1
              cases c2
              have hv : ∃ v, lk m2 m[i].2 = some v := by
                have z := (List.all_eq_true.mp hA) m[i].2 (List.mem_map.mpr ⟨_, List.getElem_mem hi', rfl⟩)
                exact Option.isSome_iff_exists.mp z
              obtain ⟨v, hv⟩ := hv
              have e5 : (upd H4 T' (.tup [V.str m[i].1, V.str m[i].2])) b = some (.dK (dM m2)) := same_upd hT' _ _ (pv.same b _ hab (s3 _ _ e2))
              refine ⟨T', _, rfl, SqT.of upd_same, rfl, ?_⟩
              refine ⟨_, _, rfl, _, _, rfl, rfl, ?_⟩
              refine ⟨rfl, ?_⟩
              refine ⟨_, rfl, _, rfl, _, rfl, b, .str v, rfl, ?_, ?_⟩
              · have z := DGet.k (k := Sum.inr m[i].2) e5
                rw [valV_dM, hv] at z
                exact z
              · exact pv.next (k := m[i].1) (v := v) (same_upd hT') hRa hR3 (by unfold comp; rw [List.getElem?_map, gi]; show some (m[i].1, (lk m2 m[i].2).getD m[i].2) = some (m[i].1, v); rw [hv]; rfl) (by rw [comp_keys]; exact g.mm.keys) (by unfold comp; rw [List.length_map]; exact g.mm.few)
            · intro H4 pv
              refine ⟨pv.frz, ?_⟩
              have hn : H R = none := by
                cases c : H R with
                | none => rfl
                | some o => rw [sH3 _ _ c] at hR3; cases hR3
              refine q _ R (sH3.trans (pv.same.back e3)) hn ?_
              rw [upd_ne hRa, pv.at', List.take_of_length_le]
              unfold comp dM
              rw [List.length_map, List.length_map]
              exact Nat.le_refl _
end
end MB

set_option Elab.async false
set_option linter.all false
set_option maxRecDepth 100000
set_option maxHeartbeats 4000000
namespace MB
open PySem L2 PyProof.Rows XL GD DM
section
variable {P : Program} {w : World} {K : PySem.W.Frag} {mg : Str → Option Value} {base : Heap}
/-! ### the law's pool of numbers, and a draw of it: bounds alone -/
def PoolAt (H : Hp) (p : Addr) : Prop := ∃ x y : Int, H p = some (.lst [.int x, .int y]) ∧ 0 ≤ x ∧ 0 ≤ y ∧ y < 2147483648
theorem emod_pos {a b : Int} (h : 0 < b) : 0 ≤ a % b ∧ a % b < b := ⟨Int.emod_nonneg a (by omega), Int.emod_lt_of_pos a h⟩
theorem cut_map (ns : List Int) (lo hi : Option Int) : ∃ ms : List Int, cutV (ns.map V.int) lo hi = ms.map V.int := by
  unfold cutV
  rw [← List.map_drop, ← List.map_take]
  exact ⟨_, rfl⟩
def spPool (K : PySem.W.Frag) : Sp := fun vs H Q _ => ∃ (a : Addr) (ns : List Int) (k : Nat), vs = [.ref a, .int (k : Int)] ∧ SqL K H a (ns.map V.int) ∧ k ≤ 1000 ∧
  ∀ H' p, Same H H' → H p = none → PoolAt H' p → Q (.ref p) H'
theorem scPo : FnScope ["_law_script", "_law_k", "_law_cell", "_law_great", "_law_small", "_law_mixed_here"] ["_law_script", "_law_k"] (defScope sPool) := ⟨rfl, rfl, rfl, by decide +kernel, rfl, by decide +kernel, by decide +kernel⟩
theorem ok_pool {f : Addr} {fd : FuncData} (F : Fun K "_law_pool" "_law_pool" sPool f fd) (T : Txt mg) : FnOk P w K mg base CX0 1 f fd ["_law_script", "_law_k"] (spPool K) := by
  refine F.ok scPo (fun vs H Q E h => ?_) (fun cdv A outer s H vs Q E hr h => ?_)
  · obtain ⟨a, ns, k, rfl, _⟩ := h
    rfl
  · obtain ⟨a, ns, k, rfl, hS, hk, q⟩ := h
    refine ⟨_, pss_cons (ps_set (i := 2) scPo.nd rfl (Or.inl rfl) (pe_op op_add (pe_op op_mul pe_int (pe_callB (cr_sum rfl) (by rfl) T.sum boot_sum (pa_cons (pe_slice sl_list (pv 0) po_none (po_some pe_int)) pa_nil))) (pv 1)))
      (pss_cons (ps_if (pt_cmpR op_lt (pv 1) (pe_callB call_len_seq (by rfl) T.len PySem.boot_len (pa_cons (pv 0) pa_nil)) (nomark _)) (pss_one (ps_set (i := 2) scPo.nd rfl (Or.inl rfl) (pe_ix ix_list (pv 0) (pv 1) (fun _ _ => rfl)))) pss_nil)
      (pss_cons (ps_set (i := 3) scPo.nd rfl (Or.inl rfl) (pe_callB call_abs (by rfl) T.abs boot_abs (pa_cons (pe_callTy call_int1 (by rfl) T.int boot_int (pa_cons (pv 2) pa_nil)) pa_nil)))
      (pss_cons (ps_set (i := 4) scPo.nd rfl (Or.inl rfl) (pe_op op_mod (pe_callTy call_int1 (by rfl) T.int boot_int (pa_cons (pv 3) pa_nil)) pe_int))
      (pss_cons (ps_set (i := 5) scPo.nd rfl (Or.inl rfl) (pe_op op_mod (pe_callTy call_int1 (by rfl) T.int boot_int (pa_cons
          (pe_op op_mul (pe_op op_add (pe_op op_add (pe_op op_add (pv 4) (pe_op op_mul (pe_op op_mul pe_int (pv 1)) (pv 1))) (pe_op op_mul pe_int (pv 1))) pe_int) pe_int) pa_nil)) pe_int))
      (pss_one (ps_ret (pe_lst (pa_cons (pe_op op_mul (pv 3) (pe_callTy call_int1 (by rfl) T.int boot_int (pa_cons (pe_cmpR op_ge (pv 3) (pe_op op_pow pe_int pe_int) (nomark _)) pa_nil)))
        (pa_cons (pe_op op_mod (pe_callTy call_int1 (by rfl) T.int boot_int (pa_cons (pe_op op_mul (pv 5) (pv 5)) pa_nil)) pe_int) pa_nil))))))))), ?_⟩
    refine ⟨.ref a, rfl, 63, rfl, a, ns.map V.int, rfl, hS, fun c hc => ?_⟩
    obtain ⟨ms, em⟩ := cut_map ns none (some 63)
    refine ⟨c, ms, rfl, SqL.of (by rw [upd_same, em]), 11, ms.sum, rfl, rfl, .inl ⟨by decide, by decide⟩, _, rfl, _, _, rfl, rfl, ?_⟩
    have s1 : Same H (upd H c (.lst (cutV (ns.map V.int) none (some 63)))) := same_upd hc
    refine ⟨_, rfl, _, rfl, a, ns.map V.int, rfl, .inl (s1.seq hS), (k : Int), _, rfl, rfl, _, rfl, ?_⟩
    have k1 : (k : Int) ≤ 1000 := by omega
    have k0 : (0 : Int) ≤ (k : Int) := by omega
    refine ite2 (fun e => ?_) (fun e => ?_)
    · have hl : k < ns.length := by
        have := of_decide_eq_true e
        rw [List.length_map] at this
        omega
      refine ⟨_, rfl, _, rfl, a, ns.map V.int, (k : Int), .int ns[k], rfl, rfl, s1.seq hS, atI_nat (by rw [List.getElem?_map, List.getElem?_eq_getElem hl]; rfl), ?_⟩
      refine ⟨_, rfl, .inl ⟨_, rfl, _, rfl, ?_⟩⟩
      generalize hg : (if ns[k] < 0 then -ns[k] else ns[k]) = g
      have g0 : 0 ≤ g := by rw [← hg]; split <;> omega
      refine ⟨_, rfl, .inl ⟨_, rfl, _, _, rfl, rfl, (by show (0 : Int) < 2147483629; decide), ?_⟩⟩
      refine ⟨_, rfl, _, rfl, _, _, rfl, rfl, .inl ⟨by decide, by decide⟩, _, rfl, _, _, rfl, rfl, .inr ⟨by omega, by omega⟩, _, _, rfl, rfl, _, rfl, _, _, rfl, rfl, .inl ⟨by decide, by decide⟩, _, _, rfl, rfl, _, _, rfl, rfl, _, _, rfl, rfl, .inr ⟨by decide, by decide⟩,
        .inl ⟨_, rfl, _, _, rfl, rfl, (by show (0 : Int) < 2147483647; decide), ?_⟩⟩
      have hm := emod_pos (a := (g % 2147483629 + 7919 * ↑k * ↑k + 31 * ↑k + 17) * 48271) (b := 2147483647) (by decide)
      refine ⟨_, rfl, _, rfl, _, _, rfl, rfl, ⟨by decide, by decide, by decide⟩, _, _, rfl, rfl, .inr ⟨_, rfl, _, _, rfl, rfl, .inr ⟨by split <;> decide, by split <;> decide⟩, _, rfl, _, rfl, _, _, rfl, rfl, .inl ⟨by omega, by omega⟩,
        .inl ⟨_, rfl, _, _, rfl, rfl, (by show (0 : Int) < 2147483629; decide), (by show 2 ≤ sizeLine; decide), fun p hp => ?_⟩⟩⟩
      refine q _ p (s1.trans (same_upd hp)) (s1.free hp) ⟨_, _, upd_same, Int.mul_nonneg g0 (by split <;> decide), (emod_pos (by decide)).1, Int.lt_trans (emod_pos (by decide)).2 (by decide)⟩
    · refine ⟨_, rfl, .inl ⟨_, rfl, _, rfl, ?_⟩⟩
      generalize hg : (if 11 * ms.sum + ↑k < 0 then -(11 * ms.sum + ↑k) else 11 * ms.sum + ↑k) = g
      have g0 : 0 ≤ g := by rw [← hg]; split <;> omega
      refine ⟨_, rfl, .inl ⟨_, rfl, _, _, rfl, rfl, (by show (0 : Int) < 2147483629; decide), ?_⟩⟩
      refine ⟨_, rfl, _, rfl, _, _, rfl, rfl, .inl ⟨by decide, by decide⟩, _, rfl, _, _, rfl, rfl, .inr ⟨by omega, by omega⟩, _, _, rfl, rfl, _, rfl, _, _, rfl, rfl, .inl ⟨by decide, by decide⟩, _, _, rfl, rfl, _, _, rfl, rfl, _, _, rfl, rfl, .inr ⟨by decide, by decide⟩,
        .inl ⟨_, rfl, _, _, rfl, rfl, (by show (0 : Int) < 2147483647; decide), ?_⟩⟩
      have hm := emod_pos (a := (g % 2147483629 + 7919 * ↑k * ↑k + 31 * ↑k + 17) * 48271) (b := 2147483647) (by decide)
      refine ⟨_, rfl, _, rfl, _, _, rfl, rfl, ⟨by decide, by decide, by decide⟩, _, _, rfl, rfl, .inr ⟨_, rfl, _, _, rfl, rfl, .inr ⟨by split <;> decide, by split <;> decide⟩, _, rfl, _, rfl, _, _, rfl, rfl, .inl ⟨by omega, by omega⟩,
        .inl ⟨_, rfl, _, _, rfl, rfl, (by show (0 : Int) < 2147483629; decide), (by show 2 ≤ sizeLine; decide), fun p hp => ?_⟩⟩⟩
      refine q _ p (s1.trans (same_upd hp)) (s1.free hp) ⟨_, _, upd_same, Int.mul_nonneg g0 (by split <;> decide), (emod_pos (by decide)).1, Int.lt_trans (emod_pos (by decide)).2 (by decide)⟩
/-! ### a draw -/
def spDraw : Sp := fun vs H Q _ => ∃ (p : Addr) (n : Int), vs = [.ref p, .int n] ∧ PoolAt H p ∧ 0 < n ∧ n < 1073741824 ∧
  ∀ (c x y : Int), 0 ≤ c → c < n → 0 ≤ x → 0 ≤ y → y < 2147483648 → Q (.int c) (upd H p (.lst [.int x, .int y]))
theorem scDr : FnScope ["_law_pool_here", "_law_many", "_law_found"] ["_law_pool_here", "_law_many"] (defScope sDraw) := ⟨rfl, rfl, rfl, by decide +kernel, rfl, by decide +kernel, by decide +kernel⟩
theorem fmod_b {a b : Int} (hb : 0 < b) : 0 ≤ a.fmod b ∧ a.fmod b < b := ⟨Int.fmod_nonneg_of_pos a hb, Int.fmod_lt_of_pos a hb⟩
theorem ok_draw {f : Addr} {fd : FuncData} (F : Fun K "_law_draw" "_law_draw" sDraw f fd) (T : Txt mg) : FnOk P w K mg base CX0 1 f fd ["_law_pool_here", "_law_many"] spDraw := by
  refine F.ok scDr (fun vs H Q E h => ?_) (fun cdv A outer s H vs Q E hr h => ?_)
  · obtain ⟨p, n, rfl, _⟩ := h
    rfl
  · obtain ⟨p, n, rfl, ⟨x, y, hp, hx, hy, hy2⟩, n0, n1, q⟩ := h
    refine ⟨_, pss_cons (ps_if (pt_cmpR op_gt (pe_ix ix_list (pv 0) pe_int (fun _ _ => rfl)) pe_int (nomark _))
        (pss_cons (ps_set (i := 2) scDr.nd rfl (Or.inl rfl) (pe_op op_modN (pe_callTy call_int1 (by rfl) T.int boot_int (pa_cons (pe_ix ix_list (pv 0) pe_int (fun _ _ => rfl)) pa_nil)) (pv 1)))
        (pss_cons (ps_asg (pe_op op_fdivN (pe_ix ix_list (pv 0) pe_int (fun _ _ => rfl)) (pv 1)) (pg_sub (pv 0) pe_int set_list))
        (pss_one (ps_ret (pv 2))))) pss_nil)
      (pss_cons (ps_asg (pe_op op_mod (pe_callTy call_int1 (by rfl) T.int boot_int (pa_cons (pe_op op_add (pe_op op_mul (pe_ix ix_list (pv 0) pe_int (fun _ _ => rfl)) pe_int) pe_int) pa_nil)) pe_int) (pg_sub (pv 0) pe_int set_list))
      (pss_one (ps_ret (pe_op op_modN (pe_callTy call_int1 (by rfl) T.int boot_int (pa_cons
        (pe_op op_fdiv (pe_op op_mod (pe_callTy call_int1 (by rfl) T.int boot_int (pa_cons (pe_op op_mul (pe_ix ix_list (pv 0) pe_int (fun _ _ => rfl)) (pe_ix ix_list (pv 0) pe_int (fun _ _ => rfl))) pa_nil)) pe_int) pe_int) pa_nil)) (pv 1))))), ?_⟩
    refine ⟨_, rfl, p, _, 0, .int x, rfl, rfl, SqL.of hp, atI_nat (j := 0) rfl, x, 0, rfl, rfl, _, rfl, ?_⟩
    refine ite2 (fun e => ?_) (fun e => ?_)
    · refine ⟨_, rfl, p, _, 0, .int x, rfl, rfl, SqL.of hp, atI_nat (j := 0) rfl, .inl ⟨_, rfl, _, rfl, x, n, rfl, rfl, (by show n ≠ 0; omega), ?_⟩⟩
      refine ⟨_, rfl, p, _, 0, .int x, rfl, rfl, SqL.of hp, atI_nat (j := 0) rfl, _, rfl, x, n, rfl, rfl, (by show n ≠ 0 ∧ n.natAbs < 1073741824; omega), ?_⟩
      refine ⟨_, rfl, p, _, 0, 0, rfl, rfl, hp, rfl, _, rfl, ?_⟩
      have f1 := fmod_b (a := x) n0
      exact q _ _ y f1.1 f1.2 (Int.fdiv_nonneg hx (by omega)) hy hy2
    · refine ⟨_, rfl, p, _, 1, .int y, rfl, rfl, SqL.of hp, atI_nat (j := 1) rfl, y, 48271, rfl, rfl, .inr ⟨by decide, by decide⟩, _, _, rfl, rfl, .inl ⟨_, rfl, _, _, rfl, rfl, (by show (0 : Int) < 2147483647; decide), ?_⟩⟩
      have hm := emod_pos (a := y * 48271 + 11) (b := 2147483647) (by decide)
      refine ⟨_, rfl, p, _, 1, 1, rfl, rfl, hp, rfl, ?_⟩
      have hp2 : upd H p (.lst [.int x, .int ((y * 48271 + 11) % 2147483647)]) p = some (.lst [.int x, .int ((y * 48271 + 11) % 2147483647)]) := upd_same
      refine ⟨_, rfl, p, _, 1, .int ((y * 48271 + 11) % 2147483647), rfl, rfl, SqL.of hp2, atI_nat (j := 1) rfl, _, rfl, p, _, 1, .int ((y * 48271 + 11) % 2147483647), rfl, rfl, SqL.of hp2, atI_nat (j := 1) rfl, ((y * 48271 + 11) % 2147483647), ((y * 48271 + 11) % 2147483647), rfl, rfl, .inl ⟨by omega, by omega⟩,
        .inl ⟨_, rfl, _, _, rfl, rfl, (by show (0 : Int) < 2147483629; decide), _, _, rfl, rfl, ⟨by decide, by decide⟩, .inl ⟨_, rfl, _, rfl, _, n, rfl, rfl, (by show n ≠ 0; omega), ?_⟩⟩⟩
      have f1 := fmod_b (a := ((y * 48271 + 11) % 2147483647) * ((y * 48271 + 11) % 2147483647) % 2147483629 / 16) n0
      exact q _ _ ((y * 48271 + 11) % 2147483647) f1.1 f1.2 hx hm.1 (by omega)

end
end MB

set_option Elab.async false
set_option linter.all false
set_option maxRecDepth 100000
set_option maxHeartbeats 4000000
namespace MB
open PySem L2 PyProof.Rows XL GD DM
theorem PoolAt.put {H : Hp} {p : Addr} {x y : Int} (hx : 0 ≤ x) (hy : 0 ≤ y) (hz : y < 2147483648) : PoolAt (upd H p (.lst [.int x, .int y])) p := ⟨x, y, upd_same, hx, hy, hz⟩
theorem PoolAt.same {H H' : Hp} {p : Addr} (s : Same H H') : PoolAt H p → PoolAt H' p := fun ⟨x, y, e, r⟩ => ⟨x, y, s _ _ e, r⟩
theorem PoolAt.there {H : Hp} {p : Addr} : PoolAt H p → ∃ o, H p = some o := fun ⟨x, y, e, _⟩ => ⟨_, e⟩
theorem sIx0 (n : Nat) (d : Nat) (j : Nat) (h : j ≤ n) : HT.sIx n d (some (j : Int)) = j := by
  rw [HT.sIx_nat]
  exact Nat.min_eq_left h
theorem cutTake (xs : List V) (j : Nat) (h : j ≤ xs.length) : cutV xs none (some (j : Int)) = xs.take j := by
  unfold cutV
  rw [sIx0 _ _ _ h]
  rfl
theorem cutDrop (xs : List V) (j : Nat) (h : j ≤ xs.length) : cutV xs (some (j : Int)) none = xs.drop j := by
  unfold cutV
  rw [sIx0 _ _ _ h]
  exact List.take_of_length_le (by rw [List.length_drop]; exact Nat.le_refl _)
theorem perm_take {α : Type} (l : List α) (j : Nat) (x : α) (h : l[j]? = some x) (fs : List α) : ((fs ++ [x]) ++ (l.take j ++ l.drop (j + 1))).Perm (fs ++ l) := by
  have e : l = l.take j ++ x :: l.drop (j + 1) := by
    obtain ⟨hj, ex⟩ := List.getElem?_eq_some_iff.mp h
    rw [← ex, List.getElem_cons_drop, List.take_append_drop]
  have q : ([x] ++ (l.take j ++ l.drop (j + 1))).Perm l := by
    conv => rhs; rw [e]
    exact (List.perm_middle (l₁ := l.take j) (l₂ := l.drop (j + 1))).symm
  rw [List.append_assoc]
  exact q.append_left fs
theorem sqlB {K : PySem.W.Frag} {p a : Addr} {xs : List V} {H H' : Hp} (np : a ≠ p) (h : SqL K H a xs) (s : SameB p H H') : SqL K H' a xs := by
  rcases h with (h | ⟨o, h⟩) | h
  · exact .inl (.inl (s _ _ np h))
  · exact .inl (.inr ⟨o, s _ _ np h⟩)
  · exact .inr h
section
variable {P : Program} {w : World} {K : PySem.W.Frag} {mg : Str → Option Value} {base : Heap}
/-! ### the law's mixing -/
def spMixed (K : PySem.W.Frag) : Sp := fun vs H Q _ => ∃ (p a : Addr) (xs : List V), vs = [.ref p, .ref a] ∧ PoolAt H p ∧ SqL K H a xs ∧ a ≠ p ∧ xs.length ≤ 100 ∧ ∀ H' q ys, SameB p H H' → PoolAt H' p → H q = none → H' q = some (.lst ys) → ys.Perm xs → Q (.ref q) H'
theorem scMx : FnScope ["_law_pool_here", "_law_things", "_law_left", "_law_found", "_law_thing", "_law_at"] ["_law_pool_here", "_law_things"] (defScope sMixed) := ⟨rfl, rfl, rfl, by decide +kernel, rfl, by decide +kernel, by decide +kernel⟩
theorem ok_mixed {f fD : Addr} {fd fdD : FuncData} (F : Fun K "_law_mixed" "_law_mixed" sMixed f fd) (kD : PySem.W.keepIn K (.ref fD) = true) (bD : Binds K fdD ["_law_pool_here", "_law_many"] []) (gD : mg "_law_draw" = some (.ref fD)) (GD : FnOk P w K mg base CX0 1 fD fdD ["_law_pool_here", "_law_many"] spDraw) (T : Txt mg) :
    FnOk P w K mg base CX0 2 f fd ["_law_pool_here", "_law_things"] (spMixed K) := by
  refine F.ok scMx (fun vs H Q E h => ?_) (fun cdv A outer s H vs Q E hr h => ?_)
  · obtain ⟨p, a, xs, rfl, _⟩ := h
    rfl
  · obtain ⟨p, a, xs, rfl, hp, hS, hap, hfew, q⟩ := h
    refine ⟨_, pss_cons (ps_par (i := 2) (j := 3) (by rfl) scMx.nd rfl rfl (by decide) rfl rfl (pa_cons (pe_callTy call_list_of (by rfl) T.list boot_list (pa_cons (pv 1) pa_nil)) (pa_cons (pe_lst pa_nil) pa_nil)) (by rfl))
      (pss_cons (ps_for PassesOwn.never rfl (pi_list (pv 1)) (pg_name (i := 4) scMx.nd rfl (Or.inl rfl))
        (pss_cons (ps_set (i := 5) scMx.nd rfl (Or.inl rfl) (pe_call GD hr (by rfl) gD kD bD .nil pass0 (pa_cons (pv 0) (pa_cons (pe_callB call_len_seq (by rfl) T.len PySem.boot_len (pa_cons (pv 2) pa_nil)) pa_nil))))
        (pss_cons (ps_expr (pe_bm PySem.F.plainAttrs_list PySem.F.slot_list_append PySem.F.type_list_append mt_append (pv 3) (pa_cons (pe_ix ix_list (pv 2) (pv 5) (fun _ _ => rfl)) pa_nil)))
        (pss_one (ps_set (i := 2) scMx.nd rfl (Or.inl rfl) (pe_op op_cat (pe_slice sl_list (pv 2) po_none (po_some (pv 5))) (pe_slice sl_list (pv 2) (po_some (pe_op op_add (pv 5) pe_int)) po_none)))))))
      (pss_one (ps_ret (pv 3)))), ?_⟩
    refine ⟨_, rfl, a, xs, rfl, .inl hS, fun L nL => ?_⟩
    have hLp : L ≠ p := fun c => by
      obtain ⟨o, e⟩ := hp.there
      rw [c, e] at nL
      cases nL
    refine ⟨(by show 0 ≤ sizeLine; decide), fun F nF => ?_⟩
    have hFL : F ≠ L := fun c => by rw [c, upd_same] at nF; cases nF
    have nF0 : H F = none := by rw [upd_ne hFL] at nF; exact nF
    have hFp : F ≠ p := fun c => by
      obtain ⟨o, e⟩ := hp.there
      rw [c, e] at nF0
      cases nF0
    refine ⟨_, _, rfl, ?_⟩
    refine ⟨_, rfl, a, rfl, ⟨_, (same_upd nF).seq ((same_upd nL).seq hS)⟩, ?_⟩
    refine for_list (K := K) (a := a) (xs := xs) (fun i σ H' => ∃ (L' : Addr) (ls fs : List V) (o4 o5 : Option V), σ = [some (.ref p), some (.ref a), some (.ref L'), some (.ref F), o4, o5] ∧ SameB p H H' ∧ PoolAt H' p ∧ H' L' = some (.lst ls) ∧ H' F = some (.lst fs) ∧ L' ≠ p ∧ L' ≠ F ∧ (fs ++ ls).Perm xs ∧ ls.length + i = xs.length)
      ⟨L, xs, [], none, none, rfl, .of ((same_upd nL).trans (same_upd nF)), (hp.same (same_upd nL)).same (same_upd nF), by rw [upd_ne (Ne.symm hFL), upd_same], upd_same, hLp, Ne.symm hFL, List.Perm.refl _, rfl⟩ ?_ ?_ ?_
    · rintro i σ H1 hi ⟨L', ls, fs, o4, o5, rfl, sb, _⟩
      exact sqlB hap hS sb
    · rintro i z σ H1 hz ⟨L', ls, fs, o4, o5, rfl, sb, pl, eL, eF, n1, n2, pm, hlen⟩
      have hi : i < xs.length := (List.getElem?_eq_some_iff.mp hz).1
      refine ⟨_, rfl, _, rfl, L', ls, rfl, .inl (SqL.of eL), p, (ls.length : Int), rfl, pl, by omega, by omega, fun c x y c0 c1 x0 y0 y1 => ?_⟩
      obtain ⟨j, rfl⟩ : ∃ j : Nat, c = (j : Int) := ⟨c.toNat, by omega⟩
      have hj : j < ls.length := by omega
      have gj : ls[j]? = some ls[j] := List.getElem?_eq_getElem hj
      have eL2 : (upd H1 p (.lst [.int x, .int y])) L' = some (.lst ls) := by rw [upd_ne n1]; exact eL
      have eF2 : (upd H1 p (.lst [.int x, .int y])) F = some (.lst fs) := by rw [upd_ne hFp]; exact eF
      have p2 : PoolAt (upd H1 p (.lst [.int x, .int y])) p := .put x0 y0 y1
      have sb2 : SameB p H (upd H1 p (.lst [.int x, .int y])) := sb.trans SameB.put
      have hfs : fs.length = i := by
        have := pm.length_eq
        rw [List.length_append] at this
        omega
      refine ⟨_, rfl, .inl ⟨rfl, _, SqL.of eF2⟩, ?_⟩
      refine ⟨_, rfl, _, rfl, L', ls, (j : Int), ls[j], rfl, rfl, SqL.of eL2, atI_nat gj, ?_⟩
      refine ⟨F, fs, ls[j], rfl, rfl, eF2, small1000 (by omega), ?_⟩
      have eL3 : (upd (upd H1 p (.lst [.int x, .int y])) F (.lst (fs ++ [ls[j]]))) L' = some (.lst ls) := by rw [upd_ne n2]; exact eL2
      refine ⟨_, rfl, _, rfl, (j : Int), rfl, L', ls, rfl, SqL.of eL3, fun A1 nA1 => ?_⟩
      refine ⟨_, rfl, _, rfl, (j : Int), 1, rfl, rfl, _, rfl, L', ls, rfl, (same_upd nA1).seq (SqL.of eL3), fun A2 nA2 => ?_⟩
      have nA2' : (upd (upd H1 p (.lst [.int x, .int y])) F (.lst (fs ++ [ls[j]]))) A2 = none := (same_upd nA1).free nA2
      refine ⟨A1, A2, _, _, rfl, rfl, same_upd nA2 _ _ upd_same, upd_same, ?_, fun N nN => ?_⟩
      · rw [cutTake _ _ (Nat.le_of_lt hj), show ((j : Int) + 1) = ((j + 1 : Nat) : Int) by omega, cutDrop _ _ hj]
        rw [List.length_take, List.length_drop]
        exact Nat.le_of_lt (small1000 (show min j ls.length + (ls.length - j.succ) ≤ 1000 by omega))
      · rw [cutTake _ _ (Nat.le_of_lt hj), show ((j : Int) + 1) = ((j + 1 : Nat) : Int) by omega, cutDrop _ _ hj] at *
        have s2 : Same (upd (upd H1 p (.lst [.int x, .int y])) F (.lst (fs ++ [ls[j]]))) (upd (upd (upd (upd H1 p (.lst [.int x, .int y])) F (.lst (fs ++ [ls[j]]))) A1 (.lst (ls.take j))) A2 (.lst (ls.drop (j + 1)))) := (same_upd nA1).trans (same_upd nA2)
        have s3 := s2.trans (same_upd (o := .lst (ls.take j ++ ls.drop (j + 1))) nN)
        have nF3 : SameB p H (upd (upd H1 p (.lst [.int x, .int y])) F (.lst (fs ++ [ls[j]]))) := fun b o nb e => by
          rw [upd_ne (fun c => by rw [c, nF0] at e; cases e)]
          exact sb2 b o nb e
        have pF : PoolAt (upd (upd H1 p (.lst [.int x, .int y])) F (.lst (fs ++ [ls[j]]))) p := by
          obtain ⟨x', y', e, r⟩ := p2
          exact ⟨x', y', by rw [upd_ne (Ne.symm hFp)]; exact e, r⟩
        have eNp : N ≠ p := fun c => by
          obtain ⟨o, e⟩ := pF.there
          have := s2 _ _ e
          rw [c, this] at nN
          cases nN
        have eNF : N ≠ F := fun c => by
          have := s2 F _ upd_same
          rw [c, this] at nN
          cases nN
        refine ⟨N, _, fs ++ [ls[j]], _, _, rfl, nF3.trans (.of s3), pF.same s3, upd_same, s3 _ _ upd_same, eNp, eNF, (perm_take ls j ls[j] gj fs).trans pm, ?_⟩
        rw [List.length_append, List.length_take, List.length_drop]
        omega
    · rintro σ H1 ⟨L', ls, fs, o4, o5, rfl, sb, pl, eL, eF, n1, n2, pm, hlen⟩
      have e0 : ls = [] := List.eq_nil_of_length_eq_zero (by omega)
      subst e0
      rw [List.append_nil] at pm
      exact ⟨_, rfl, q _ F fs sb pl nF0 eF pm⟩
end
end MB

set_option Elab.async false
set_option linter.all false
set_option maxRecDepth 100000
set_option maxHeartbeats 4000000
namespace MB
open PySem L2 PyProof.Rows XL GD DM
/-- a value's text, by repr -/
def Shows (K : PySem.W.Frag) (H : Hp) (v : V) (z : Str) : Prop := ∀ (H' : Hp) (Q : VK), Same H H' → Q (.str z) H' → rReprA K [v] H' Q
theorem Shows.same {K : PySem.W.Frag} {H H' : Hp} {v : V} {z : Str} (h : Shows K H v z) (s : Same H H') : Shows K H' v z := fun H2 Q s2 q => h H2 Q (s.trans s2) q
/-- what is told of what is refused -/
def Told (K : PySem.W.Frag) (H : Hp) (Q : VK) (v : V) : Prop := ∃ z : Str, Shows K H v z ∧ ∀ H' p, Same H H' → H p = none → H' p = some (.lst [.str ("map" : Str), .str z]) → Q (.ref p) H'
inductive ToldAt (K : PySem.W.Frag) (H : Hp) (Q : VK) : Int → V → V → Prop where
  | backBad {x y : V} : MV H x false → Told K H Q x → ToldAt K H Q 0 x y
  | first {x y : V} : MV H x false → Told K H Q x → ToldAt K H Q 1 x y
  | second {x y : V} {m : List (Str × Str)} : Good H x m → MV H y false → Told K H Q y → ToldAt K H Q 1 x y
  | both {x y : V} {m m2 : List (Str × Str)} : Good H x m → Good H y m2 → (hasAll m m2 = false → Told K H Q y) → (hasAll m m2 = true → x ≠ y ∧ ∀ H' p, Same H H' → H p = none → H' p = some (.dK (dM (comp m m2))) → Q (.ref p) H') → ToldAt K H Q 1 x y
section
variable {P : Program} {w : World} {K : PySem.W.Frag} {mg : Str → Option Value} {base : Heap}
def spTold (K : PySem.W.Frag) : Sp := fun vs H Q _ => ∃ (d : Int) (x y : V), vs = [.int d, x, y] ∧ ToldAt K H Q d x y
theorem scTd : FnScope ["_law_door", "_law_one", "_law_two", "e"] ["_law_door", "_law_one", "_law_two"] (defScope sTold) := ⟨rfl, rfl, rfl, by decide +kernel, rfl, by decide +kernel, by decide +kernel⟩
theorem ok_told {f fB fT C : Addr} {fd fdB fdT : FuncData} (F : Fun K "_law_told" "_law_told" sTold f fd) (kB : PySem.W.keepIn K (.ref fB) = true) (bB : Binds K fdB ["first"] []) (gB : mg "backwards" = some (.ref fB)) (GB : FnOk P w K mg base (L2.CX P w) 5 fB fdB ["first"] (spBack C))
    (kT : PySem.W.keepIn K (.ref fT) = true) (bT : Binds K fdT ["first", "second"] []) (gT : mg "then" = some (.ref fT)) (GT : FnOk P w K mg base (L2.CX P w) 5 fT fdT ["first", "second"] (spThen C))
    (T : XC K C) (hno : PySem.W.findIn K (.ref C) "value" = some none) (te : PySem.W.exmOne K (.ref C) (.ref C) = some true) (gC : mg "BadMap" = some (.ref C)) (gr : mg "repr" = none) :
    FnG P w K mg base CX0 6 f fd ["_law_door", "_law_one", "_law_two"] (spTold K) := by
  refine ok_guard F scTd (fun vs H Q E h => ?_) (fun cdv A outer s H vs Q E hgd hr h => ?_)
  · obtain ⟨d, x, y, rfl, _⟩ := h
    rfl
  · obtain ⟨d, x, y, rfl, h⟩ := h
    have rr : ∀ X : Cx, X.A.guards = A.guards → X.A.units = (A.deeper (envOfC "_law_told" (defScope sTold) s.heap.objs.size f cdv)).units → X.K = K → CallR X (.builtin "repr") (rReprA K) := fun X e e1 e2 => e2 ▸ call_reprA (by rw [e]; exact hgd) (by rw [e1]; have := hr.un; omega)
    refine ⟨_, PSs.nox (pss_one (ps_try_as (i := 3) (tb := fun W => tRet (tIf (tTest (tOp rEq (tVar 0) (tC (.int 0)))) (tCallS (spBack C) (WE W) (tCons (tVar 1) tNil)) (tCallS (spThen C) (WE W) (tCons (tVar 1) (tCons (tVar 2) tNil)))))
        (ts := fun a cls d => tRet (tLst (tCons (tC (.str "map")) (tCons (tCB (rReprA K) (tCons (tXf a cls d C "value" (tVar 3)) tNil)) tNil)))) (Wout := fun _ _ _ _ => False) rfl rfl scTd.nd rfl rfl ⟨rfl, by decide, Or.inl gC⟩ takes0
        (fun W pn xe tk _ => pss_one (ps_ret (by exact (pe_ifExp (pt_cmpR op_eq (pv 0) pe_int (nomark _)) (pe_callS GB hr rfl gB kB bB (fun σ => L2.passAt tk σ) (by exact (pa_cons (pv 1) pa_nil))) (pe_callS GT hr rfl gT kT bT (fun σ => L2.passAt tk σ) (by exact (pa_cons (pv 1) (pa_cons (pv 2) pa_nil)))))))
        )
        (fun a oe cls d pn hz hf => pss_one (ps_ret (by exact (pe_lst (pa_cons pe_str (pa_cons (pe_callB (rr _ rfl rfl rfl) (by rfl) gr boot_repr (by exact (pa_cons (pe_xf T.field hno hz hf (pv 3)) pa_nil))) pa_nil)))))))), ?_⟩
    cases h with
    | backBad hR ht =>
      obtain ⟨z, hz, q⟩ := ht
      refine ⟨_, rfl, rfl, _, rfl, ?_⟩
      refine iteT ?_
      refine ⟨_, rfl, x, rfl, .inr ⟨hR, fun H1 dx s1 nd => ⟨true, te, fun _ a ha => ?_, fun z => Bool.noConfusion z⟩⟩⟩
      have s2 := s1.trans (same_upd (o := .xd [("value", x)]) nd)
      exact ⟨_, rfl, rfl, rfl, dx, _, x, rfl, upd_same, rfl, hz _ _ s2 ⟨(by show 2 ≤ sizeLine; decide), fun p hp => q _ p (s2.trans (same_upd hp)) (s2.free hp) upd_same⟩⟩
    | first hR ht =>
      obtain ⟨z, hz, q⟩ := ht
      refine ⟨_, rfl, rfl, _, rfl, ?_⟩
      refine iteF ?_
      refine ⟨_, rfl, _, rfl, x, y, rfl, .first hR fun H1 dx s1 nd => ⟨true, te, fun _ a ha => ?_, fun z => Bool.noConfusion z⟩⟩
      have s2 := s1.trans (same_upd (o := .xd [("value", x)]) nd)
      exact ⟨_, rfl, rfl, rfl, dx, _, x, rfl, upd_same, rfl, hz _ _ s2 ⟨(by show 2 ≤ sizeLine; decide), fun p hp => q _ p (s2.trans (same_upd hp)) (s2.free hp) upd_same⟩⟩
    | second hg hR ht =>
      obtain ⟨z, hz, q⟩ := ht
      refine ⟨_, rfl, rfl, _, rfl, ?_⟩
      refine iteF ?_
      refine ⟨_, rfl, _, rfl, x, y, rfl, .second hg hR fun H1 dx s1 nd => ⟨true, te, fun _ a ha => ?_, fun z => Bool.noConfusion z⟩⟩
      have s2 := s1.trans (same_upd (o := .xd [("value", y)]) nd)
      exact ⟨_, rfl, rfl, rfl, dx, _, y, rfl, upd_same, rfl, hz _ _ s2 ⟨(by show 2 ≤ sizeLine; decide), fun p hp => q _ p (s2.trans (same_upd hp)) (s2.free hp) upd_same⟩⟩
    | both hg hg2 hF hT =>
      refine ⟨_, rfl, rfl, _, rfl, ?_⟩
      refine iteF ?_
      refine ⟨_, rfl, _, rfl, x, y, rfl, .both hg hg2 (fun hA H1 dx s1 nd => ⟨true, te, fun _ a ha => ?_, fun z => Bool.noConfusion z⟩) fun hA => ?_⟩
      · obtain ⟨z, hz, q⟩ := hF hA
        have s2 := s1.trans (same_upd (o := .xd [("value", y)]) nd)
        exact ⟨_, rfl, rfl, rfl, dx, _, y, rfl, upd_same, rfl, hz _ _ s2 ⟨(by show 2 ≤ sizeLine; decide), fun p hp => q _ p (s2.trans (same_upd hp)) (s2.free hp) upd_same⟩⟩
      · exact hT hA
end
end MB

set_option Elab.async false
set_option linter.all false
set_option maxRecDepth 100000
set_option maxHeartbeats 4000000
namespace MB
open PySem L2 PyProof.Rows XL GD DM
/-! ### the law's lists -/
def NM : List Str := ["a", "b", "c1", "zz", "m", "q", "abcdefgh"]
def IM : List Str := ["b", "a", "x", "y", "zz", "q", "m"]
def JM : List Str := ["r", "s", "t", "a", "b", "zz", "m"]
def ndB : List Str → Bool
  | [] => true
  | a :: l => (l.all fun x => !decide (a = x)) && ndB l
theorem nodupB : ∀ {l : List Str}, ndB l = true → l.Nodup
  | [], _ => List.nodup_nil
  | a :: l, h => by
    have h' : ((l.all fun x => !decide (a = x)) && ndB l) = true := h
    rw [Bool.and_eq_true] at h'
    refine List.nodup_cons.mpr ⟨fun m => ?_, nodupB h'.2⟩
    have z := List.all_eq_true.mp h'.1 a m
    simp at z
theorem nd_NM : NM.Nodup := nodupB (by decide +kernel)
theorem nd_IM : IM.Nodup := nodupB (by decide +kernel)
theorem nd_JM : JM.Nodup := nodupB (by decide +kernel)
theorem allB {l : List Str} {f : Str → Bool} (h : l.all f = true) : ∀ s ∈ l, f s = true := List.all_eq_true.mp h
theorem mk_NM : ∀ s ∈ NM, mkS s = true := allB (by decide +kernel)
theorem mk_IM : ∀ s ∈ IM, mkS s = true := allB (by decide +kernel)
theorem mk_JM : ∀ s ∈ JM, mkS s = true := allB (by decide +kernel)
def unS : V → Str
  | .str s => s
  | _ => ""
theorem perm_strs {ys : List V} {l : List Str} (h : ys.Perm (l.map V.str)) : ∃ l' : List Str, ys = l'.map V.str ∧ l'.Perm l := by
  have all : ∀ y ∈ ys, ∃ s, y = V.str s := fun y hy => by
    obtain ⟨s, _, e⟩ := List.mem_map.mp (h.mem_iff.mp hy)
    exact ⟨s, e.symm⟩
  refine ⟨ys.map unS, ?_, ?_⟩
  · rw [List.map_map]
    conv => lhs; rw [← List.map_id ys]
    refine List.map_congr_left fun y hy => ?_
    obtain ⟨s, rfl⟩ := all y hy
    rfl
  · have q := h.map unS
    rw [List.map_map] at q
    have e : l.map (unS ∘ V.str) = l := by
      conv => rhs; rw [← List.map_id l]
      rfl
    rwa [e] at q
theorem zip_dM : ∀ (ks ys : List Str), (ks.map fun k => (Sum.inr k : Key)).zip (ys.map V.str) = dM (ks.zip ys)
  | [], _ => by simp [dM]
  | _ :: _, [] => by simp [dM]
  | k :: ks, y :: ys => by
    have ih := zip_dM ks ys
    show ((Sum.inr k : Key), V.str y) :: (ks.map fun k => (Sum.inr k : Key)).zip (ys.map V.str) = ((Sum.inr k : Key), V.str y) :: dM (ks.zip ys)
    rw [ih]
theorem zip_keys : ∀ {ks ys : List Str}, ks.length ≤ ys.length → (ks.zip ys).map (·.1) = ks
  | [], _, _ => by simp
  | _ :: _, [], h => by simp at h
  | k :: ks, y :: ys, h => by
    show k :: (ks.zip ys).map (·.1) = k :: ks
    rw [zip_keys (by simpa using h)]
theorem zip_vals : ∀ (ks ys : List Str), ((ks.zip ys).map (·.2)).Sublist ys
  | [], _ => by simp
  | _ :: _, [] => by simp
  | k :: ks, y :: ys => by
    show (y :: (ks.zip ys).map (·.2)).Sublist (y :: ys)
    exact (zip_vals ks ys).cons₂ y
theorem zip_mem {ks ys : List Str} {p : Str × Str} (h : p ∈ ks.zip ys) : p.1 ∈ ks ∧ p.2 ∈ ys := ⟨(List.of_mem_zip h).1, (List.of_mem_zip h).2⟩
theorem go_zip {ks ys : List Str} (nk : ks.Nodup) (ny : ys.Nodup) (hk : ∀ s ∈ ks, mkS s = true) (hy : ∀ s ∈ ys, mkS s = true) (hl : ks.length ≤ ys.length) (few : ks.length ≤ 1000) : GO (ks.zip ys) where
  mm := ⟨by rw [zip_keys hl]; exact nk, fun p hp => ⟨hk _ (zip_mem hp).1, hy _ (zip_mem hp).2⟩, by rw [List.length_zip]; omega⟩
  vals := ny.sublist (zip_vals ks ys)
theorem flip_flip (m : List (Str × Str)) : flip (flip m) = m := by
  unfold flip
  rw [List.map_map]
  conv => rhs; rw [← List.map_id m]
  rfl
theorem flip_len (m : List (Str × Str)) : (flip m).length = m.length := by unfold flip; rw [List.length_map]
theorem GO.flip {m : List (Str × Str)} (g : GO m) : GO (flip m) where
  mm := ⟨by rw [flip_keys]; exact g.vals, fun p hp => by
    unfold MB.flip at hp
    obtain ⟨q, hq, rfl⟩ := List.mem_map.mp hp
    exact ⟨(g.mm.marks q hq).2, (g.mm.marks q hq).1⟩, by rw [flip_len]; exact g.mm.few⟩
  vals := by rw [flip_vals]; exact g.mm.keys
theorem hasAll_of {m m2 : List (Str × Str)} (h : ∀ s ∈ m.map (·.2), s ∈ m2.map (·.1)) : hasAll m m2 = true := List.all_eq_true.mpr fun s hs => (lk_mem m2 s).mpr (h s hs)
theorem hasAll_flip (m : List (Str × Str)) : hasAll m (flip m) = true := hasAll_of fun s hs => by rw [flip_keys]; exact hs
theorem hasAll_flip' (m : List (Str × Str)) : hasAll (flip m) m = true := hasAll_of fun s hs => by rw [flip_vals] at hs; exact hs
def idm (l : List Str) : List (Str × Str) := l.map fun s => (s, s)
theorem comp_flip {m : List (Str × Str)} (g : GO m) : comp m (flip m) = idm (m.map (·.1)) := by
  unfold comp idm
  rw [List.map_map]
  refine List.map_congr_left fun p hp => ?_
  rw [lk_get (k := p.2) (v := p.1) (m := flip m) (by rw [flip_keys]; exact g.vals) (List.mem_map.mpr ⟨p, hp, rfl⟩)]
  rfl
theorem comp_flip' {m : List (Str × Str)} (g : GO m) : comp (flip m) m = idm (m.map (·.2)) := by
  have q := comp_flip g.flip
  rwa [flip_flip, flip_keys] at q
theorem idm_keys (l : List Str) : (idm l).map (·.1) = l := by
  unfold idm
  rw [List.map_map]
  conv => rhs; rw [← List.map_id l]
  rfl
/-! ### dicts of pairs -/
theorem mergeK_dM : ∀ (l acc : List (Str × Str)), ((acc ++ l).map (·.1)).Nodup → mergeK (dM acc) (dM l) = dM (acc ++ l)
  | [], acc, _ => by rw [List.append_nil]; rfl
  | p :: l, acc, n => by
    show mergeK (putK (dM acc) (Sum.inr p.1) (V.str p.2)) (dM l) = _
    have hn : p.1 ∉ acc.map (·.1) := by
      rw [List.map_append, List.map_cons] at n
      exact fun z => (List.nodup_append.mp n).2.2 _ z _ List.mem_cons_self rfl
    rw [putK_dM hn]
    have e : acc ++ [(p.1, p.2)] ++ l = acc ++ p :: l := by rw [List.append_assoc]; rfl
    rw [mergeK_dM l (acc ++ [(p.1, p.2)]) (by rw [e]; exact n), e]
theorem mergeK_nil {l : List (Str × Str)} (n : (l.map (·.1)).Nodup) : mergeK [] (dM l) = dM l := mergeK_dM l [] n
theorem same_dM {l : List (Str × Str)} (n : (l.map (·.1)).Nodup) : ∀ p ∈ dM l, valV (dM l) p.1 = some p.2 ∧ flatB p.2 = true := fun p hp => by
  obtain ⟨q, hq, rfl⟩ := List.mem_map.mp hp
  refine ⟨?_, rfl⟩
  show valV (dM l) (Sum.inr q.1) = some (V.str q.2)
  rw [valV_dM, lk_get n hq]; rfl
/-- the turns of a list of pairs, over a locked map -/
structure PvT (H : Hp) (a : Addr) (od : Obj) (m l : List (Str × Str)) (D : Addr) (i : Nat) (H' : Hp) : Prop where
  same : SameB a H H'
  frz : H' a = some (.frz od (.dK (dM m)))
  at' : ∃ ps : List Addr, H' D = some (.lst (ps.map V.ref)) ∧ Paired (fun (p : Addr) (q : Str × Str) => H' p = some (.tup [.str q.1, .str q.2])) ps (l.take i)
theorem paired_len {α β : Type} {F : α → β → Prop} : ∀ {xs : List α} {ys : List β}, Paired F xs ys → xs.length = ys.length
  | _, _, .nil => rfl
  | _, _, .cons _ t => congrArg Nat.succ (paired_len t)
theorem paired_mono {α β : Type} {F G : α → β → Prop} (h : ∀ x y, F x y → G x y) : ∀ {xs : List α} {ys : List β}, Paired F xs ys → Paired G xs ys
  | _, _, .nil => .nil
  | _, _, .cons r t => .cons (h _ _ r) (paired_mono h t)
theorem paired_snoc {α β : Type} {F : α → β → Prop} {x : α} {y : β} (h : F x y) : ∀ {xs : List α} {ys : List β}, Paired F xs ys → Paired F (xs ++ [x]) (ys ++ [y])
  | _, _, .nil => .cons h .nil
  | _, _, .cons r t => .cons r (paired_snoc h t)
theorem paired_map {α β γ : Type} {F : α → γ → Prop} {f : β → γ} : ∀ {xs : List α} {ys : List β}, Paired (fun x y => F x (f y)) xs ys → Paired F xs (ys.map f)
  | _, _, .nil => .nil
  | _, _, .cons r t => .cons r (paired_map t)
theorem PvT.zero {H : Hp} {a : Addr} {od : Obj} {m l : List (Str × Str)} {D : Addr} (e : H a = some (.dK (dM m))) (hD : (upd H a (.frz od (.dK (dM m)))) D = none) : PvT H a od m l D 0 (upd (upd H a (.frz od (.dK (dM m)))) D (.lst [])) ∧ D ≠ a := by
  have hDa : D ≠ a := fun c => by rw [c, upd_same] at hD; cases hD
  exact ⟨⟨SameB.put.trans (.of (same_upd hD)), by rw [upd_ne (Ne.symm hDa), upd_same], [], by rw [upd_same]; rfl, .nil⟩, hDa⟩
theorem PvT.next {H H1 H4 : Hp} {a : Addr} {od : Obj} {m l : List (Str × Str)} {D T : Addr} {i : Nat} {k v : Str} (p : PvT H a od m l D i H1) (s : Same H1 H4) (hDa : D ≠ a) (hD : H D = none) (g : l[i]? = some (k, v)) (few : l.length ≤ 1000) (hT : H4 T = none) :
    ∃ acc, (upd H4 T (.tup [.str k, .str v])) D = some (.lst acc) ∧ acc.length < sizeLine ∧ PvT H a od m l D (i + 1) (upd (upd H4 T (.tup [.str k, .str v])) D (.lst (acc ++ [.ref T]))) := by
  have tk : l.take (i + 1) = l.take i ++ [(k, v)] := by rw [List.take_succ, g]; rfl
  obtain ⟨ps, e1, pp⟩ := p.at'
  have s2 : Same H1 (upd H4 T (.tup [.str k, .str v])) := s.trans (same_upd hT)
  have eD := s2 _ _ e1
  have len := paired_len pp
  refine ⟨_, eD, ?_, ?_, ?_, ps ++ [T], ?_, ?_⟩
  · rw [List.length_map, len]
    exact small1000 (Nat.le_trans (List.length_take_le' _ _) few)
  · intro b u nb e
    have hb : b ≠ D := fun c => by rw [c, hD] at e; cases e
    rw [upd_ne hb]
    exact s2 _ _ (p.same b u nb e)
  · rw [upd_ne (Ne.symm hDa)]
    exact s2 _ _ p.frz
  · rw [upd_same, List.map_append]; rfl
  · rw [tk]
    have hne : ∀ (q : Addr) (xs : List V), (upd H4 T (.tup [.str k, .str v])) q = some (.tup xs) → (upd (upd H4 T (.tup [.str k, .str v])) D (.lst (ps.map V.ref ++ [.ref T]))) q = some (.tup xs) := fun q xs e => by
      rw [upd_ne (fun c => by rw [c, eD] at e; cases e)]; exact e
    exact paired_snoc (x := T) (y := (k, v)) (F := fun (q : Addr) (y : Str × Str) => (upd (upd H4 T (.tup [.str k, .str v])) D (.lst (ps.map V.ref ++ [.ref T]))) q = some (.tup [.str y.1, .str y.2])) (hne _ _ upd_same) (paired_mono (fun x y e => hne _ _ (s2 _ _ e)) pp)
/-- what dict(..) of such a list asks -/
theorem PvT.dict {K : PySem.W.Frag} {H H1 : Hp} {a : Addr} {od : Obj} {m l : List (Str × Str)} {D : Addr} {n : Nat} (p : PvT H a od m l D n H1) (hn : l.length ≤ n) (hDa : D ≠ a) (u : HO) (n' : (l.map (·.1)).Nodup) :
    ∃ ps : List Addr, SqL K (upd H1 a (.dK (dM m))) D (ps.map V.ref) ∧ Paired (fun p kv => SqT K (upd H1 a (.dK (dM m))) p [kV kv.1, kv.2]) ps (dM l) := by
  obtain ⟨ps, e1, pp⟩ := p.at'
  rw [List.take_of_length_le hn] at pp
  refine ⟨ps, SqL.of (by rw [upd_ne hDa]; exact e1), ?_⟩
  unfold dM
  refine paired_map (F := fun (p : Addr) (kv : Key × V) => SqT K (upd H1 a (.dK (dM m))) p [kV kv.1, kv.2]) (paired_mono (fun x y e => ?_) pp)
  exact SqT.of (by rw [upd_ne (fun c => by rw [c, p.frz] at e; cases e)]; exact e)
end MB

set_option Elab.async false
set_option linter.all false
set_option maxRecDepth 100000
set_option maxHeartbeats 4000000
namespace MB
open PySem L2 PyProof.Rows XL GD DM
/-! ### what is no map -/
def shOk (d : PyData) : Bool := d.showable && (decide (d.depth ≤ 64) && (decide (d.shown.length ≤ 100) && PyData.strOk d.shown))
theorem shOk_of {d : PyData} (e : shOk d = true) : d.showable = true ∧ d.depth ≤ 64 ∧ d.shown.length ≤ sizeLine ∧ PyData.strOk d.shown = true := by
  unfold shOk at e
  rw [Bool.and_eq_true, Bool.and_eq_true, Bool.and_eq_true] at e
  have q : d.shown.length ≤ 100 := of_decide_eq_true e.2.2.1
  exact ⟨e.1, of_decide_eq_true e.2.1, Nat.le_of_lt (small1000 (by omega)), e.2.2.2⟩
/-- refused, and shown as a short text -/
def Odd (K : PySem.W.Frag) (H : Hp) (v : V) : Prop := MV H v false ∧ ∃ z : Str, Shows K H v z ∧ PyData.strOk z = true
theorem Odd.same {K : PySem.W.Frag} {H H' : Hp} {v : V} (s : Same H H') : Odd K H v → Odd K H' v := fun ⟨h, z, e, k⟩ => ⟨h.same s, z, e.same s, k⟩
theorem shows_dat {K : PySem.W.Frag} {H : Hp} {v : V} {d : PyData} (e : shOk d = true) (h : ∀ H', Same H H' → RV K H' v d) : ∃ z : Str, Shows K H v z ∧ PyData.strOk z = true := by
  obtain ⟨e1, e2, e3, e4⟩ := shOk_of e
  exact ⟨d.shown, fun H' Q s q => .inl ⟨v, d, rfl, h H' s, e1, e2, e3, q⟩, e4⟩
theorem shows_dct {K : PySem.W.Frag} {H : Hp} {a : Addr} {kvs : List (Key × V)} {ds : List PyData} (h : H a = some (.dK kvs)) (e : shOk (dictD kvs ds) = true) (hf : ∀ H', Same H H' → FlAll K H' (kvs.map (·.2)) ds) : ∃ z : Str, Shows K H (.ref a) z ∧ PyData.strOk z = true := by
  obtain ⟨e1, e2, e3, e4⟩ := shOk_of e
  exact ⟨_, fun H' Q s q => .inr ⟨a, kvs, ds, rfl, s _ _ h, hf H' s, e1, e2, e3, q⟩, e4⟩
theorem short {s : Str} (h : decide (s.length ≤ 100) = true) : s.length ≤ sizeLine := Nat.le_of_lt (small1000 (show s.length ≤ 1000 by have := of_decide_eq_true h; omega))
section
variable {K : PySem.W.Frag} {H : Hp} {a b : Addr}
theorem odd_non : Odd K H .non := ⟨.no .non, shows_dat (d := .none) (by decide +kernel) fun H' s => .dat .non rfl⟩
theorem odd_int : Odd K H (.int 5) := ⟨.no (.int 5), shows_dat (d := .int 5) (by decide +kernel) fun H' s => .dat (.int 5) rfl⟩
theorem odd_lst (h : H a = some (.lst [])) : Odd K H (.ref a) := ⟨.no (.lst h), shows_dat (d := .list []) (by decide +kernel) fun H' s => .dat (.lst (SqL.of (s _ _ h)) .nil) rfl⟩
theorem dd1 {k : Key} {v : V} {o : Option Str} (h : H a = some (.dK [(k, v)])) (hk : keyFit k) (hv : SV H v o) : DD H a [(k, v)] [o] where
  at' := h
  vals := .cons hv .nil
  keys := by simp
  fit := fun p hp => by
    rw [List.mem_singleton.mp hp]; exact hk
  few := show 1 ≤ 1000 from by decide
theorem odd_d1 (h : H a = some (.dK [(Sum.inr ("A" : Str), .str ("a" : Str))])) : Odd K H (.ref a) :=
  ⟨.odd (dd1 h (short (by decide +kernel)) (.str _ (short (by decide +kernel)))) (by decide +kernel), shows_dct (ds := [.str ("a" : Str)]) h (by decide +kernel) fun H' s => .cons (.str _) .nil⟩
theorem odd_d2 (h : H a = some (.dK [(Sum.inr ("a" : Str), .non)])) : Odd K H (.ref a) :=
  ⟨.odd (dd1 h (short (by decide +kernel)) .non) (by decide +kernel), shows_dct (ds := [.none]) h (by decide +kernel) fun H' s => .cons .non .nil⟩
theorem odd_d3 (h : H a = some (.dK [(Sum.inl 5, .str ("a" : Str))])) : Odd K H (.ref a) :=
  ⟨.odd (dd1 h True.intro (.str _ (short (by decide +kernel)))) (by decide +kernel), shows_dct (ds := [.str ("a" : Str)]) h (by decide +kernel) fun H' s => .cons (.str _) .nil⟩
def TW : List (Str × Str) := [("a", "b"), ("c", "b")]
theorem mm_TW : MM TW := ⟨nodupB (by decide +kernel), fun p hp => by
  have q := List.all_eq_true.mp (show TW.all (fun p => mkS p.1 && mkS p.2) = true by decide +kernel) p hp
  rwa [Bool.and_eq_true] at q, by decide⟩
theorem odd_d4 (h : H a = some (.dK [(Sum.inr ("a" : Str), .str ("b" : Str)), (Sum.inr ("c" : Str), .str ("b" : Str))])) : Odd K H (.ref a) :=
  ⟨.map TW h mm_TW ⟨fun z => Bool.noConfusion z, fun n => by
    obtain ⟨n1, _⟩ := List.nodup_cons.mp (show (("b" : Str) :: [("b" : Str)]).Nodup from n)
    exact absurd (List.mem_singleton.mpr rfl) n1⟩, shows_dct (ds := [.str ("b" : Str), .str ("b" : Str)]) h (by decide +kernel) fun H' s => .cons (.str _) (.cons (.str _) .nil)⟩
theorem odd_d5 (h : H a = some (.dK [(Sum.inr ("a" : Str), .ref b)])) (hb : H b = some (.tup [.str ("b" : Str)])) : Odd K H (.ref a) :=
  ⟨.odd (dd1 h (short (by decide +kernel)) (.tup hb)) (by show ((mkS ("a" : Str) && false) && true) = false; rw [Bool.and_false]; rfl), by
    have e : shOk (dictD [((Sum.inr ("a" : Str) : Key), V.ref b)] [.tuple [.str ("b" : Str)]]) = true := by
      show shOk (.dict [(.str ("a" : Str), .tuple [.str ("b" : Str)])]) = true
      decide +kernel
    exact shows_dct (ds := [.tuple [.str ("b" : Str)]]) h e fun H' s => .cons (.tup (SqT.of (s _ _ hb)) (.cons (.str _) .nil)) .nil⟩
/-- an empty dict, shown -/
theorem shows_emp (h : H a = some (.dK [])) : Shows K H (.ref a) ("{}" : Str) := by
  have e : (PyData.dict []).shown = ("{}" : Str) := by decide +kernel
  have k := shOk_of (d := .dict []) (by decide +kernel)
  intro H' Q s q
  refine .inl ⟨.ref a, .dict [], rfl, .emp (s _ _ h), k.1, k.2.1, k.2.2.1, ?_⟩
  rw [e]
  exact q
/-- what is told of a value, as a list -/
def tellD (z : Str) : PyData := .list [.str ("map" : Str), .str z]
theorem dp_tell {p : Addr} {z : Str} (h : H p = some (.lst [.str ("map" : Str), .str z])) : Dp K H (.ref p) (tellD z) := .lst (SqL.of h) (.cons (.str _) (.cons (.str _) .nil))
theorem go_nil : GO [] := ⟨⟨List.nodup_nil, (fun p hp => by cases hp), by decide⟩, List.nodup_nil⟩
end
/-! ### what the law's readings need besides -/
theorem sqlP {K : PySem.W.Frag} {H H' : Hp} {p a : Addr} {xs : List V} (np : H p = none) (h : SqL K H a xs) (s : SameB p H H') : SqL K H' a xs := by
  rcases h with (h | ⟨o, h⟩) | h
  · exact .inl (.inl (s _ _ (ne_of_none h np) h))
  · exact .inl (.inr ⟨o, s _ _ (ne_of_none h np) h⟩)
  · exact .inr h
theorem sqlU {K : PySem.W.Frag} {H : Hp} {o a : Addr} {xs : List V} {kvs : List (Key × V)} {u : HO} (h : SqL K H a xs) (e : H o = some (.dK kvs)) : SqL K (upd H o u) a xs := by
  rcases h with (h | ⟨b, h⟩) | h
  · exact .inl (.inl (by rw [upd_ne (fun c => by rw [c, e] at h; cases h)]; exact h))
  · exact .inl (.inr ⟨b, by rw [upd_ne (fun c => by rw [c, e] at h; cases h)]; exact h⟩)
  · exact .inr h
theorem notAt {H : Hp} {p q : Addr} (h : PoolAt H p) (n : H q = none) : q ≠ p := fun c => by
  obtain ⟨o, e⟩ := h.there
  rw [c, e] at n
  cases n
abbrev NMV : List V := [.str ("a" : Str), .str ("b" : Str), .str ("c1" : Str), .str ("zz" : Str), .str ("m" : Str), .str ("q" : Str), .str ("abcdefgh" : Str)]
abbrev IMV : List V := [.str ("b" : Str), .str ("a" : Str), .str ("x" : Str), .str ("y" : Str), .str ("zz" : Str), .str ("q" : Str), .str ("m" : Str)]
abbrev JMV : List V := [.str ("r" : Str), .str ("s" : Str), .str ("t" : Str), .str ("a" : Str), .str ("b" : Str), .str ("zz" : Str), .str ("m" : Str)]
theorem nmv : NMV = NM.map V.str := rfl
theorem imv : IMV = IM.map V.str := rfl
theorem jmv : JMV = JM.map V.str := rfl
theorem dM_get {m : List (Str × Str)} {i : Nat} {k : Key} {v : V} (h : (dM m)[i]? = some (k, v)) : ∃ q, m[i]? = some q ∧ k = Sum.inr q.1 ∧ v = .str q.2 := by
  unfold dM at h
  rw [List.getElem?_map] at h
  cases e : m[i]? with
  | none => rw [e] at h; cases h
  | some q => rw [e] at h; cases h; exact ⟨q, rfl, rfl, rfl⟩
theorem comp_get {m m2 : List (Str × Str)} {i : Nat} {q : Str × Str} {u : Str} (gi : m[i]? = some q) (h : lk m2 q.2 = some u) : (comp m m2)[i]? = some (q.1, u) := by
  unfold comp
  rw [List.getElem?_map, gi]
  show some (q.1, (lk m2 q.2).getD q.2) = some (q.1, u)
  rw [h]; rfl
theorem flip_get {m : List (Str × Str)} {i : Nat} {q : Str × Str} (gi : m[i]? = some q) : (flip m)[i]? = some (q.2, q.1) := by
  unfold MB.flip
  rw [List.getElem?_map, gi]; rfl
theorem idm_get {l : List Str} {i : Nat} {s : Str} (gi : l[i]? = some s) : (idm l)[i]? = some (s, s) := by
  unfold idm
  rw [List.getElem?_map, gi]; rfl
theorem map_get {α β : Type} {f : α → β} {l : List α} {i : Nat} {x : α} (gi : l[i]? = some x) : (l.map f)[i]? = some (f x) := by
  rw [List.getElem?_map, gi]; rfl
theorem get_frz {H : Hp} {a : Addr} {od : Obj} {m : List (Str × Str)} {k v : Str} (e : H a = some (.frz od (.dK (dM m)))) (h : lk m k = some v) : DGet H a (.str k) (some (.str v)) :=
  .inl ⟨dM m, Sum.inr k, .inr ⟨od, e⟩, rfl, by rw [valV_dM, h]; rfl⟩
theorem get_dk {H : Hp} {a : Addr} {m : List (Str × Str)} {k v : Str} (e : H a = some (.dK (dM m))) (h : lk m k = some v) : DGet H a (.str k) (some (.str v)) :=
  .inl ⟨dM m, Sum.inr k, .inl e, rfl, by rw [valV_dM, h]; rfl⟩
theorem comp_len (m m2 : List (Str × Str)) : (comp m m2).length = m.length := by unfold comp; rw [List.length_map]
theorem idm_len (l : List Str) : (idm l).length = l.length := by unfold idm; rw [List.length_map]
theorem dM_len (m : List (Str × Str)) : (dM m).length = m.length := by unfold dM; rw [List.length_map]
theorem comp_nil (m : List (Str × Str)) : comp [] m = [] := rfl
/-- a heap behind a locked dict's walk, and what was made of it -/
theorem back_same {H H' : Hp} {a p : Addr} {o u : HO} (s : SameB a H H') (e : H a = some o) (n : (upd H' a o) p = none) : Same H (upd (upd H' a o) p u) := (s.back e).trans (same_upd n)
/-! ### lists of texts, and what is told, compared -/
theorem dp_strs {K : PySem.W.Frag} {H : Hp} : ∀ bs : List Str, DpAll K H (bs.map V.str) (bs.map PyData.str)
  | [] => .nil
  | b :: r => .cons (.str b) (dp_strs r)
theorem lay_strs : ∀ bs : List Str, (∀ b ∈ bs, PyData.strOk b = true) → PyData.canLayAll0 (bs.map PyData.str) = true
  | [], _ => rfl
  | b :: r, h => by
    show (PyData.strOk b && PyData.canLayAll0 (r.map PyData.str)) = true
    rw [h b List.mem_cons_self, lay_strs r fun c hc => h c (List.mem_cons_of_mem _ hc)]
    rfl
theorem depth_strs : ∀ bs : List Str, PyData.depthAll (bs.map PyData.str) = 0
  | [] => rfl
  | _ :: r => by
    show max 0 (PyData.depthAll (r.map PyData.str)) = 0
    rw [depth_strs r]
    rfl
theorem shaped_strs (bs : List Str) (h : ∀ b ∈ bs, PyData.strOk b = true) : SeqAt.shaped (.list (bs.map PyData.str)) = true := by
  unfold SeqAt.shaped
  rw [show PyData.canLay0 (.list (bs.map PyData.str)) = true from lay_strs bs h, show PyData.depth (.list (bs.map PyData.str)) = 1 from congrArg (· + 1) (depth_strs bs)]
  rfl
theorem ok_map : PyData.strOk ("map" : Str) = true := by decide +kernel
theorem lay_tell {z : Str} (k : PyData.strOk z = true) : PyData.canLay0 (tellD z) = true := by
  show (PyData.strOk ("map" : Str) && (PyData.strOk z && true)) = true
  rw [k, ok_map]; rfl
theorem shaped_tell {z : Str} (k : PyData.strOk z = true) : SeqAt.shaped (tellD z) = true := by
  unfold SeqAt.shaped
  rw [lay_tell k, show PyData.depth (tellD z) = 1 from rfl]; rfl
theorem shaped_tells {z : Str} (k : PyData.strOk z = true) : SeqAt.shaped (.list [tellD z, tellD z]) = true := by
  unfold SeqAt.shaped
  rw [show PyData.canLay0 (.list [tellD z, tellD z]) = (PyData.canLay0 (tellD z) && (PyData.canLay0 (tellD z) && true)) from rfl, lay_tell k, show PyData.depth (.list [tellD z, tellD z]) = 2 from rfl]; rfl
theorem eqv_tell (z : Str) : PyData.eqv (tellD z) (tellD z) = true := by
  show ((("map" : Str) == ("map" : Str)) && ((z == z) && true)) = true
  rw [beq_self_eq_true, beq_self_eq_true]; rfl
theorem eqv_tells (z : Str) : PyData.eqv (.list [tellD z, tellD z]) (.list [tellD z, tellD z]) = true := by
  show (PyData.eqv (tellD z) (tellD z) && (PyData.eqv (tellD z) (tellD z) && true)) = true
  rw [eqv_tell]; rfl
theorem dp_tells {K : PySem.W.Frag} {H : Hp} {p r1 r2 : Addr} {z : Str} (h : H p = some (.lst [.ref r1, .ref r2])) (h1 : H r1 = some (.lst [.str ("map" : Str), .str z])) (h2 : H r2 = some (.lst [.str ("map" : Str), .str z])) : Dp K H (.ref p) (.list [tellD z, tellD z]) :=
  .lst (SqL.of h) (.cons (dp_tell h1) (.cons (dp_tell h2) .nil))
theorem eqv_nil {bs : List Str} (n : bs ≠ []) : PyData.eqv (.list (bs.map PyData.str)) (.list []) = false := by
  cases bs with
  | nil => exact absurd rfl n
  | cons b r => rfl
theorem ok_NM : ∀ s ∈ NM, PyData.strOk s = true := allB (by decide +kernel)
theorem hasAll_nil {m : List (Str × Str)} (n : m ≠ []) : hasAll m [] = false := by
  cases m with
  | nil => exact absurd rfl n
  | cons b r => rfl
/-- the values that are no maps, one by one -/
structure OddsAt (K : PySem.W.Frag) (H : Hp) (W : Addr) (l d1 d2 d3 d4 d5 : Addr) : Prop where
  at' : H W = some (.lst [.non, .int 5, .ref l, .ref d1, .ref d2, .ref d3, .ref d4, .ref d5])
  odd : ∀ (i : Nat) (x : V), [V.non, V.int 5, V.ref l, V.ref d1, V.ref d2, V.ref d3, V.ref d4, V.ref d5][i]? = some x → Odd K H x
theorem odds_mk {K : PySem.W.Frag} {H : Hp} {W l d1 d2 d3 d4 d5 t : Addr} (e : H W = some (.lst [.non, .int 5, .ref l, .ref d1, .ref d2, .ref d3, .ref d4, .ref d5])) (h0 : H l = some (.lst [])) (h1 : H d1 = some (.dK [(Sum.inr ("A" : Str), .str ("a" : Str))])) (h2 : H d2 = some (.dK [(Sum.inr ("a" : Str), .non)]))
    (h3 : H d3 = some (.dK [(Sum.inl 5, .str ("a" : Str))])) (h4 : H d4 = some (.dK [(Sum.inr ("a" : Str), .str ("b" : Str)), (Sum.inr ("c" : Str), .str ("b" : Str))])) (h5 : H d5 = some (.dK [(Sum.inr ("a" : Str), .ref t)])) (h6 : H t = some (.tup [.str ("b" : Str)])) : OddsAt K H W l d1 d2 d3 d4 d5 where
  at' := e
  odd := fun i x q => match i, q with
    | 0, q => by cases q; exact odd_non
    | 1, q => by cases q; exact odd_int
    | 2, q => by cases q; exact odd_lst h0
    | 3, q => by cases q; exact odd_d1 h1
    | 4, q => by cases q; exact odd_d2 h2
    | 5, q => by cases q; exact odd_d3 h3
    | 6, q => by cases q; exact odd_d4 h4
    | 7, q => by cases q; exact odd_d5 h5 h6
    | _ + 8, q => by cases q
theorem merge2 : mergeK [] [((Sum.inr ("a" : Str) : Key), V.str ("b" : Str)), (Sum.inr ("c" : Str), V.str ("b" : Str))] = [(Sum.inr ("a" : Str), .str ("b" : Str)), (Sum.inr ("c" : Str), .str ("b" : Str))] := mergeK_nil mm_TW.keys
theorem merge1 {k : Key} {v : V} : mergeK [] [(k, v)] = [(k, v)] := rfl
theorem OddsAt.same {K : PySem.W.Frag} {H H' : Hp} {W l d1 d2 d3 d4 d5 : Addr} (s : Same H H') (h : OddsAt K H W l d1 d2 d3 d4 d5) : OddsAt K H' W l d1 d2 d3 d4 d5 := ⟨s _ _ h.at', fun i x q => (h.odd i x q).same s⟩
theorem same_upd2 {H : Hp} {p : Addr} {o o2 : HO} (h : H p = none) : Same H (upd (upd H p o) p o2) := fun b x e => by
  rw [upd_ne (ne_of_none e h), upd_ne (ne_of_none e h)]
  exact e
theorem same_upd3 {H : Hp} {p q : Addr} {o o1 o2 : HO} (h : H p = none) (h2 : (upd H p o) q = none) : Same H (upd (upd (upd H p o) q o1) p o2) := fun b x e => by
  rw [upd_ne (ne_of_none e h)]
  exact same_upd h2 _ _ (same_upd h _ _ e)
end MB

set_option Elab.async false
set_option linter.all false
set_option maxRecDepth 100000
set_option maxHeartbeats 4000000
set_option pp.maxSteps 1200
namespace MB
open PySem L2 PyProof.Rows XL GD DM
/-! ### the law -/
structure LawG (P : Program) (w : World) (K : PySem.W.Frag) (mg : Str → Option Value) (base : Heap) (C fPool fDraw fMixed fBack fThen fTold : Addr) (dPool dDraw dMixed dBack dThen dTold : FuncData) : Prop where
  gPool : mg "_law_pool" = some (.ref fPool)
  gDraw : mg "_law_draw" = some (.ref fDraw)
  gMixed : mg "_law_mixed" = some (.ref fMixed)
  gBack : mg "backwards" = some (.ref fBack)
  gThen : mg "then" = some (.ref fThen)
  gTold : mg "_law_told" = some (.ref fTold)
  kPool : PySem.W.keepIn K (.ref fPool) = true
  kDraw : PySem.W.keepIn K (.ref fDraw) = true
  kMixed : PySem.W.keepIn K (.ref fMixed) = true
  kBack : PySem.W.keepIn K (.ref fBack) = true
  kThen : PySem.W.keepIn K (.ref fThen) = true
  kTold : PySem.W.keepIn K (.ref fTold) = true
  bPool : Binds K dPool ["_law_script", "_law_k"] []
  bDraw : Binds K dDraw ["_law_pool_here", "_law_many"] []
  bMixed : Binds K dMixed ["_law_pool_here", "_law_things"] []
  bBack : Binds K dBack ["first"] []
  bThen : Binds K dThen ["first", "second"] []
  bTold : Binds K dTold ["_law_door", "_law_one", "_law_two"] []
  GPool : FnOk P w K mg base CX0 1 fPool dPool ["_law_script", "_law_k"] (spPool K)
  GDraw : FnOk P w K mg base CX0 1 fDraw dDraw ["_law_pool_here", "_law_many"] spDraw
  GMixed : FnOk P w K mg base CX0 2 fMixed dMixed ["_law_pool_here", "_law_things"] (spMixed K)
  GBack : FnOk P w K mg base (L2.CX P w) 5 fBack dBack ["first"] (spBack C)
  GThen : FnOk P w K mg base (L2.CX P w) 5 fThen dThen ["first", "second"] (spThen C)
  GTold : FnG P w K mg base CX0 6 fTold dTold ["_law_door", "_law_one", "_law_two"] (spTold K)
def spLaw (K : PySem.W.Frag) : Sp := fun vs H Q _ => ∃ (a : Addr) (ns : List Int), vs = [.ref a] ∧ SqL K H a (ns.map V.int) ∧ ns.length ≤ 63 ∧ ∀ H', Q (.bl true) H'
theorem scL : FnScope ["_law_script", "_law_k", "_law_pool_here", "_law_marks", "_law_one", "_law_images", "_law_two", "_law_due", "_law_same", "_law_odd", "_law_mark", "_law_door"] ["_law_script"] (defScope sLaw) := ⟨rfl, rfl, rfl, by decide +kernel, rfl, by decide +kernel, by decide +kernel⟩
section
variable {P : Program} {w : World} {K : PySem.W.Frag} {mg : Str → Option Value} {base : Heap}
theorem ok_law {f C fPool fDraw fMixed fBack fThen fTold : Addr} {fd dPool dDraw dMixed dBack dThen dTold : FuncData} (F : Fun K "law" "law" sLaw f fd) (T : Txt mg) (G : LawG P w K mg base C fPool fDraw fMixed fBack fThen fTold dPool dDraw dMixed dBack dThen dTold) :
    FnG P w K mg base CX0 7 f fd ["_law_script"] (spLaw K) := by
  refine ok_guard F scL (fun vs H Q E h => ?_) (fun cdv A outer s H vs Q E hgd hr h => ?_)
  · obtain ⟨a, ns, rfl, _⟩ := h
    rfl
  · obtain ⟨a, ns, rfl, hS, hl, q⟩ := h
    have hr1 := hr.mono (show 1 ≤ 6 by decide)
    have hr2 := hr.mono (show 2 ≤ 6 by decide)
    have hr5 := hr.mono (show 5 ≤ 6 by decide)
    have hu := hu_of hr
    have hu0 : (A.deeper (envOfC "law" (defScope sLaw) s.heap.objs.size f cdv)).units < cLine := by have := hr.un; omega
    have rr : ∀ X : Cx, X.A.guards = A.guards → X.A.units = (A.deeper (envOfC "law" (defScope sLaw) s.heap.objs.size f cdv)).units → X.K = K → CallR X (.builtin "repr") (rReprA K) := fun X e e1 e2 => e2 ▸ call_reprA (by rw [e]; exact hgd) (by rw [e1]; have := hr.un; omega)
    refine ⟨_, PSs.nox (pss_cons (ps_for PassesOwn.never rfl (pi_range1 (by rfl) T.range (pa_cons (pe_callB (call_max2 rfl) (by rfl) T.max boot_max (pa_cons pe_int (pa_cons (pe_callB (call_min2 rfl) (by rfl) T.min boot_min (pa_cons (pe_callB call_len_seq (by rfl) T.len PySem.boot_len (pa_cons (pv 0) pa_nil)) (pa_cons pe_int pa_nil))) pa_nil))) pa_nil)) (pg_name (i := 1) scL.nd rfl (Or.inl rfl)) (pss_cons (ps_set (i := 2) scL.nd rfl (Or.inl rfl) (pe_call G.GPool hr1 (by rfl) G.gPool G.kPool G.bPool .nil pass0 (pa_cons (pv 0) (pa_cons (pv 1) pa_nil))))
        (pss_cons (ps_set (i := 3) scL.nd rfl (Or.inl rfl) (pe_slice sl_list (pe_lst (pa_cons pe_str (pa_cons pe_str (pa_cons pe_str (pa_cons pe_str (pa_cons pe_str (pa_cons pe_str (pa_cons pe_str pa_nil)))))))) po_none (po_some (pe_call G.GDraw hr1 (by rfl) G.gDraw G.kDraw G.bDraw .nil pass0 (pa_cons (pv 2) (pa_cons pe_int pa_nil))))))
        (pss_cons (ps_set (i := 4) scL.nd rfl (Or.inr rfl) (pe_dictZip rfl (by rfl) T.dict (by rfl) T.zip (pa_cons (pv 3) (pa_cons (pe_call G.GMixed hr2 (by rfl) G.gMixed G.kMixed G.bMixed .nil pass0 (pa_cons (pv 2) (pa_cons (pe_lst (pa_cons pe_str (pa_cons pe_str (pa_cons pe_str (pa_cons pe_str (pa_cons pe_str (pa_cons pe_str (pa_cons pe_str pa_nil)))))))) pa_nil))) pa_nil))))
        (pss_cons (ps_set (i := 5) scL.nd rfl (Or.inl rfl) (pe_call G.GMixed hr2 (by rfl) G.gMixed G.kMixed G.bMixed .nil pass0 (pa_cons (pv 2) (pa_cons (pe_lst (pa_cons pe_str (pa_cons pe_str (pa_cons pe_str (pa_cons pe_str (pa_cons pe_str (pa_cons pe_str (pa_cons pe_str pa_nil)))))))) pa_nil))))
        (pss_cons (ps_set (i := 6) scL.nd rfl (Or.inr rfl) (pe_dictZip rfl (by rfl) T.dict (by rfl) T.zip (pa_cons (pe_call G.GMixed hr2 (by rfl) G.gMixed G.kMixed G.bMixed .nil pass0 (pa_cons (pv 2) (pa_cons (pe_listVals rfl (pv 4) (by rfl) T.list) pa_nil))) (pa_cons (pv 5) pa_nil))))
        (pss_cons (ps_set (i := 7) scL.nd rfl (Or.inl rfl) (pe_callTy (call_dictP rfl) (by rfl) T.dict boot_dict (pa_cons (pe_lock (pe_lc (own := [("_law_mark", 10)]) (g := gName 10) (tt := tYes) rfl scL.nd (pi_keys (pv 4)) (blkOk_by (N := ["_law_script", "_law_k", "_law_pool_here", "_law_marks", "_law_one", "_law_images", "_law_two", "_law_due", "_law_same", "_law_odd", "_law_mark", "_law_door"]) (sc := defScope sLaw) (by decide +kernel)) (fun _ _ _ _ _ => pg_name (i := 10) scL.nd rfl (Or.inl rfl)) (fun _ _ _ _ _ => pts_nil) (fun _ _ _ _ _ => (pe_tup (pa_cons (pv 10) (pa_cons (pe_dget hu (pv 6) (pe_dget hu (pv 4) (pv 10) (fun _ _ => rfl)) (fun _ _ => rfl)) pa_nil)))))) pa_nil)))
        (pss_cons (ps_if (PW.pt (pw_or (pt_cmpR (op_ne_dictA hu0) (pe_callG hgd G.GTold hr (by rfl) G.gTold G.kTold G.bTold pass0 (pa_cons pe_int (pa_cons (pv 4) (pa_cons (pv 6) pa_nil)))) (pv 7) (nomark _)) (pw_or1 (pt_cmpR (op_ne_dictA hu0) (pe_call G.GBack hr5 (by rfl) G.gBack G.kBack G.bBack .nil passL (pa_cons (pv 4) pa_nil)) (pe_callTy (call_dictP rfl) (by rfl) T.dict boot_dict (pa_cons (pe_lock (pe_lc (own := [("_law_mark", 10)]) (g := gName 10) (tt := tYes) rfl scL.nd (pi_keys (pv 4)) (blkOk_by (N := ["_law_script", "_law_k", "_law_pool_here", "_law_marks", "_law_one", "_law_images", "_law_two", "_law_due", "_law_same", "_law_odd", "_law_mark", "_law_door"]) (sc := defScope sLaw) (by decide +kernel)) (fun _ _ _ _ _ => pg_name (i := 10) scL.nd rfl (Or.inl rfl)) (fun _ _ _ _ _ => pts_nil) (fun _ _ _ _ _ => (pe_tup (pa_cons (pe_dget hu (pv 4) (pv 10) (fun _ _ => rfl)) (pa_cons (pv 10) pa_nil)))))) pa_nil)) (nomark _))))) (pss_one (ps_ret pe_bl)) pss_nil)
        (pss_cons (ps_if (pt_cmpR (op_ne_dictA hu0) (pe_call G.GBack hr5 (by rfl) G.gBack G.kBack G.bBack .nil passL (pa_cons (pe_call G.GBack hr5 (by rfl) G.gBack G.kBack G.bBack .nil passL (pa_cons (pv 6) pa_nil)) pa_nil)) (pv 6) (nomark _)) (pss_one (ps_ret pe_bl)) pss_nil)
        (pss_cons (ps_set (i := 8) scL.nd rfl (Or.inl rfl) (pe_callTy (call_dictP rfl) (by rfl) T.dict boot_dict (pa_cons (pe_lock (pe_lc (own := [("_law_mark", 10)]) (g := gName 10) (tt := tYes) rfl scL.nd (pi_keys (pv 4)) (blkOk_by (N := ["_law_script", "_law_k", "_law_pool_here", "_law_marks", "_law_one", "_law_images", "_law_two", "_law_due", "_law_same", "_law_odd", "_law_mark", "_law_door"]) (sc := defScope sLaw) (by decide +kernel)) (fun _ _ _ _ _ => pg_name (i := 10) scL.nd rfl (Or.inl rfl)) (fun _ _ _ _ _ => pts_nil) (fun _ _ _ _ _ => (pe_tup (pa_cons (pv 10) (pa_cons (pv 10) pa_nil)))))) pa_nil)))
        (pss_cons (ps_if (pt_cmpR (op_ne_dictA hu0) (pe_callG hgd G.GTold hr (by rfl) G.gTold G.kTold G.bTold pass0 (pa_cons pe_int (pa_cons (pv 4) (pa_cons (pe_call G.GBack hr5 (by rfl) G.gBack G.kBack G.bBack .nil passL (pa_cons (pv 4) pa_nil)) pa_nil)))) (pv 8) (nomark _)) (pss_one (ps_ret pe_bl)) pss_nil)
        (pss_cons (ps_if (pt_cmpR (op_ne_dictA hu0) (pe_call G.GThen hr5 (by rfl) G.gThen G.kThen G.bThen .nil passL (pa_cons (pe_call G.GBack hr5 (by rfl) G.gBack G.kBack G.bBack .nil passL (pa_cons (pv 4) pa_nil)) (pa_cons (pv 4) pa_nil))) (pe_callTy (call_dictP rfl) (by rfl) T.dict boot_dict (pa_cons (pe_lock (pe_lc (own := [("_law_mark", 10)]) (g := gName 10) (tt := tYes) rfl scL.nd (pi_values (pv 4)) (blkOk_by (N := ["_law_script", "_law_k", "_law_pool_here", "_law_marks", "_law_one", "_law_images", "_law_two", "_law_due", "_law_same", "_law_odd", "_law_mark", "_law_door"]) (sc := defScope sLaw) (by decide +kernel)) (fun _ _ _ _ _ => pg_name (i := 10) scL.nd rfl (Or.inl rfl)) (fun _ _ _ _ _ => pts_nil) (fun _ _ _ _ _ => (pe_tup (pa_cons (pv 10) (pa_cons (pv 10) pa_nil)))))) pa_nil)) (nomark _)) (pss_one (ps_ret pe_bl)) pss_nil)
        (pss_cons (ps_for PassesOwn.never rfl (pi_list (pe_lst (pa_cons pe_non (pa_cons pe_int (pa_cons (pe_lst pa_nil) (pa_cons (pe_disp (pps_cons pe_str pe_str pps_nil) rfl rfl (by simp) (by decide)) (pa_cons (pe_disp (pps_cons pe_str pe_non pps_nil) rfl rfl (by simp) (by decide)) (pa_cons (pe_disp (pps_cons pe_int pe_str pps_nil) rfl rfl (by simp) (by decide)) (pa_cons (pe_disp (pps_cons pe_str pe_str (pps_cons pe_str pe_str pps_nil)) rfl rfl (by simp) (by decide)) (pa_cons (pe_disp (pps_cons pe_str (pe_tup (pa_cons pe_str pa_nil)) pps_nil) rfl rfl (by simp) (by decide)) pa_nil)))))))))) (pg_name (i := 9) scL.nd rfl (Or.inr rfl)) (pss_cons (ps_if (pt_cmpR (op_neD hr.units) (pe_lc (own := [("_law_door", 11)]) (g := gName 11) (tt := tYes) rfl scL.nd (pi_tup (pe_tup (pa_cons pe_int (pa_cons pe_int pa_nil)))) (blkOk_by (N := ["_law_script", "_law_k", "_law_pool_here", "_law_marks", "_law_one", "_law_images", "_law_two", "_law_due", "_law_same", "_law_odd", "_law_mark", "_law_door"]) (sc := defScope sLaw) (by decide +kernel)) (fun _ _ _ _ _ => pg_name (i := 11) scL.nd rfl (Or.inl rfl)) (fun _ _ _ _ _ => pts_nil) (fun _ _ _ _ _ => (pe_callG hgd G.GTold hr (by rfl) G.gTold G.kTold G.bTold pass0 (pa_cons (pv 11) (pa_cons (pv 9) (pa_cons pe_non pa_nil)))))) (pe_op op_rep (pe_lst (pa_cons (pe_lst (pa_cons pe_str (pa_cons (pe_callB (rr _ rfl rfl rfl) (by rfl) T.repr boot_repr (pa_cons (pv 9) pa_nil)) pa_nil))) pa_nil)) pe_int) (nomark _)) (pss_one (ps_ret pe_bl)) pss_nil) (pss_one (ps_if (pt_cmpR (op_neD hr.units) (pe_callG hgd G.GTold hr (by rfl) G.gTold G.kTold G.bTold pass0 (pa_cons pe_int (pa_cons pe_dnewK (pa_cons (pv 9) pa_nil)))) (pe_lst (pa_cons pe_str (pa_cons (pe_callB (rr _ rfl rfl rfl) (by rfl) T.repr boot_repr (pa_cons (pv 9) pa_nil)) pa_nil))) (nomark _)) (pss_one (ps_ret pe_bl)) pss_nil))))
        (pss_cons (ps_if (PW.pt (pw_and (pt_cmpR (op_neD hr.units) (pv 3) (pe_lst pa_nil) (nomark _)) (pw_and1 (pt_cmpR (op_neD hr.units) (pe_callG hgd G.GTold hr (by rfl) G.gTold G.kTold G.bTold pass0 (pa_cons pe_int (pa_cons (pv 4) (pa_cons pe_dnewK pa_nil)))) (pe_lst (pa_cons pe_str (pa_cons pe_str pa_nil))) (nomark _))))) (pss_one (ps_ret pe_bl)) pss_nil)
        (pss_cons (ps_expr (pe_dclear (pv 4)))
        (pss_one (ps_if (pt_cmpR (op_ne_dictA hu0) (pe_call G.GThen hr5 (by rfl) G.gThen G.kThen G.bThen .nil passL (pa_cons (pv 4) (pa_cons (pv 6) pa_nil))) pe_dnewK (nomark _)) (pss_one (ps_ret pe_bl)) pss_nil)))))))))))))))))
      (pss_one (ps_ret pe_bl))), ?_⟩
    refine ⟨.ref a, rfl, a, ns.map V.int, rfl, .inl hS, _, 8, rfl, 1, _, rfl, _, rfl, ?_, ?_, ?_⟩
    · rw [List.length_map]; split <;> split <;> omega
    · rw [List.length_map]; split <;> split <;> omega
    generalize hj : (if (if (8 : Int) < ((ns.map V.int).length : Int) then (8 : Int) else ((ns.map V.int).length : Int)) > 1 then (if (8 : Int) < ((ns.map V.int).length : Int) then (8 : Int) else ((ns.map V.int).length : Int)) else 1) = j
    have hj8 : j ≤ 8 := by rw [← hj]; split <;> split <;> omega
    refine for_range (lo := 0) (n := j.toNat) (fun i σ H' => ∃ o1 o2 o3 o4 o5 o6 o7 o8 o9 o10 o11 : Option V, σ = [some (.ref a), o1, o2, o3, o4, o5, o6, o7, o8, o9, o10, o11] ∧ SqL K H' a (ns.map V.int)) ⟨none, none, none, none, none, none, none, none, none, none, none, rfl, hS⟩ ?_ ?_
    · rintro i σ H0 hi ⟨o1, o2, o3, o4, o5, o6, o7, o8, o9, o10, o11, rfl, hS0⟩
      -- the pool
      refine ⟨_, rfl, _, rfl, a, ns, i, (by rw [Int.zero_add]; rfl), hS0, by omega, fun H1 p s1 np pool1 => ?_⟩
      -- the marks
      refine ⟨(by show 7 ≤ sizeLine; decide), fun L hL => ?_⟩
      have nLp : L ≠ p := notAt pool1 hL
      refine ⟨_, rfl, p, 8, rfl, pool1.same (same_upd hL), by decide, by decide, fun c x y c0 c1 x0 y0 y1 => ?_⟩
      obtain ⟨c, rfl⟩ : ∃ c' : Nat, c = (c' : Int) := ⟨c.toNat, by omega⟩
      have c7 : c ≤ 7 := by omega
      refine ⟨c, rfl, L, NMV, rfl, SqL.of (by rw [upd_ne nLp]; exact upd_same), fun M nM => ?_⟩
      rw [cutTake NMV c (by show c ≤ 7; omega), nmv, ← List.map_take]
      have pack : ∃ H3, H3 = upd (upd (upd H1 L (.lst NMV)) p (.lst [.int x, .int y])) M (.lst ((NM.take c).map V.str)) ∧ SameB p H0 H3 ∧ PoolAt H3 p ∧ H3 M = some (.lst ((NM.take c).map V.str)) ∧ M ≠ p := by
        have nM2 : M ≠ p := fun e => by rw [e, upd_same] at nM; cases nM
        exact ⟨_, rfl, ((SameB.of (s1.trans (same_upd hL))).trans SameB.put).trans (.of (same_upd nM)), (PoolAt.put x0 y0 y1).same (same_upd nM), upd_same, nM2⟩
      obtain ⟨H3, hH3, sb3, pool3, eM3, nMp⟩ := pack
      rw [← hH3]
      clear hH3 nM hL pool1
      -- one
      refine ⟨_, rfl, _, rfl, (by show 7 ≤ sizeLine; decide), fun L2 hL2 => ?_⟩
      have nL2p : L2 ≠ p := notAt pool3 hL2
      refine ⟨p, L2, IMV, rfl, pool3.same (same_upd hL2), SqL.of upd_same, nL2p, (by show 7 ≤ 100; decide), fun H4 I1 ys sb4 pool4 nI1 eI1 pm1 => ?_⟩
      obtain ⟨l1, rfl, qm1⟩ := perm_strs (l := IM) pm1
      refine ⟨M, I1, (NM.take c).map fun s => (Sum.inr s : Key), l1.map V.str, rfl, SqL.of ?_, SqL.of eI1, fun o no => ?_⟩
      · rw [List.map_map]
        exact sb4 _ _ nMp (same_upd hL2 _ _ eM3)
      rw [show (((NM.take c).map fun s => (Sum.inr s : Key)).zip (l1.map V.str)) = dM ((NM.take c).zip l1) from zip_dM _ _]
      have len1 : l1.length = 7 := qm1.length_eq
      have len0 : (NM.take c).length = c := by rw [List.length_take]; exact Nat.min_eq_left c7
      have nk0 : (NM.take c).Nodup := nd_NM.sublist (List.take_sublist _ _)
      have g1 : GO ((NM.take c).zip l1) := go_zip nk0 (qm1.nodup_iff.mpr nd_IM) (fun s hs => mk_NM s (List.mem_of_mem_take hs)) (fun s hs => mk_IM s (qm1.mem_iff.mp hs)) (by omega) (by omega)
      have km : ((NM.take c).zip l1).map (·.1) = NM.take c := zip_keys (by omega)
      have kk : ((NM.take c).zip l1).length = c := by rw [List.length_zip]; omega
      generalize (NM.take c).zip l1 = m1 at g1 km kk ⊢
      rw [mergeK_nil g1.mm.keys]
      have pack : ∃ H5, H5 = upd H4 o (.dK (dM m1)) ∧ SameB p H0 H5 ∧ PoolAt H5 p ∧ H5 M = some (.lst ((NM.take c).map V.str)) ∧ H5 o = some (.dK (dM m1)) ∧ o ≠ p := by
        have e1 := sb4 _ _ nMp (same_upd (o := .lst IMV) hL2 _ _ eM3)
        exact ⟨_, rfl, ((sb3.trans (.of (same_upd hL2))).trans sb4).trans (.of (same_upd no)), pool4.same (same_upd no), same_upd no _ _ e1, upd_same, notAt pool4 no⟩
      obtain ⟨H5, hH5, sb5, pool5, eM5, eo5, nop⟩ := pack
      rw [← hH5]
      clear hH5 no eI1 nI1 pool4 sb4 hL2 nL2p eM3 pool3 sb3 len1 pm1 qm1
      -- the images
      refine ⟨_, rfl, (by show 7 ≤ sizeLine; decide), fun L3 hL3 => ?_⟩
      have nL3p : L3 ≠ p := notAt pool5 hL3
      refine ⟨p, L3, JMV, rfl, pool5.same (same_upd hL3), SqL.of upd_same, nL3p, (by show 7 ≤ 100; decide), fun H6 J1 ys sb6 pool6 nJ1 eJ1 pm2 => ?_⟩
      obtain ⟨l2, rfl, qm2⟩ := perm_strs (l := JM) pm2
      have len2 : l2.length = 7 := qm2.length_eq
      have nJ1p : J1 ≠ p := notAt (pool5.same (same_upd hL3)) nJ1
      have eM6 := sb6 _ _ nMp (same_upd (o := .lst JMV) hL3 _ _ eM5)
      have eo6 := sb6 _ _ nop (same_upd (o := .lst JMV) hL3 _ _ eo5)
      have sb06 := (sb5.trans (.of (same_upd (o := .lst JMV) hL3))).trans sb6
      -- two
      refine ⟨_, rfl, _, rfl, o, dM m1, rfl, eo6, fun L4 hL4 => ?_⟩
      have nL4p : L4 ≠ p := notAt pool6 hL4
      rw [dM_vals]
      refine ⟨p, L4, (m1.map (·.2)).map V.str, rfl, pool6.same (same_upd hL4), SqL.of upd_same, nL4p, (by rw [List.length_map, List.length_map, kk]; omega), fun H7 K1 ys sb7 pool7 nK1 eK1 pm3 => ?_⟩
      obtain ⟨l3, rfl, qm3⟩ := perm_strs (l := m1.map (·.2)) pm3
      have len3 : l3.length = c := by rw [qm3.length_eq, List.length_map, kk]
      refine ⟨_, rfl, K1, J1, l3.map fun s => (Sum.inr s : Key), l2.map V.str, rfl, SqL.of ?_, SqL.of (sb7 _ _ nJ1p (same_upd hL4 _ _ eJ1)), fun t nt => ?_⟩
      · rw [List.map_map]
        exact eK1
      rw [show ((l3.map fun s => (Sum.inr s : Key)).zip (l2.map V.str)) = dM (l3.zip l2) from zip_dM _ _]
      have g2 : GO (l3.zip l2) := go_zip (qm3.nodup_iff.mpr g1.vals) (qm2.nodup_iff.mpr nd_JM) (fun s hs => by
        obtain ⟨p, hp, rfl⟩ := List.mem_map.mp (qm3.mem_iff.mp hs)
        exact (g1.mm.marks p hp).2) (fun s hs => mk_JM s (qm2.mem_iff.mp hs)) (by omega) (by omega)
      have hA : hasAll m1 (l3.zip l2) = true := hasAll_of fun s hs => by
        rw [zip_keys (by omega)]
        exact qm3.mem_iff.mpr hs
      generalize l3.zip l2 = m2 at g2 hA ⊢
      rw [mergeK_nil g2.mm.keys]
      have pack : ∃ H9, H9 = upd H7 t (.dK (dM m2)) ∧ SameB p H0 H9 ∧ H9 M = some (.lst ((NM.take c).map V.str)) ∧ H9 o = some (.dK (dM m1)) ∧ H9 t = some (.dK (dM m2)) ∧ t ≠ o := by
        have e1 := sb7 _ _ nMp (same_upd (o := .lst ((m1.map (·.2)).map V.str)) hL4 _ _ eM6)
        have e2 := sb7 _ _ nop (same_upd (o := .lst ((m1.map (·.2)).map V.str)) hL4 _ _ eo6)
        exact ⟨_, rfl, ((sb06.trans (.of (same_upd hL4))).trans sb7).trans (.of (same_upd nt)), same_upd nt _ _ e1, same_upd nt _ _ e2, upd_same, fun e => by rw [e, e2] at nt; cases nt⟩
      obtain ⟨H9, hH9, sb9, eM9, eo9, et9, nto⟩ := pack
      rw [← hH9]
      clear hH9 nt eK1 nK1 pool7 sb7 nL4p hL4 sb06 eo6 eM6 nJ1p len2 len3 qm2 pm2 qm3 pm3 eJ1 nJ1 pool6 sb6 nL3p hL3 nop eo5 eM5 pool5 sb5 nMp s1 nLp
      -- due
      refine ⟨o, _, eo9, trivial, fun od => ?_⟩
      refine ⟨_, rfl, o, od, rfl, .inl ⟨dM m1, upd_same, fun D hD => ?_⟩⟩
      obtain ⟨p0, hDo⟩ := PvT.zero (l := comp m1 m2) eo9 hD
      have hDn : H9 D = none := by rw [upd_ne hDo] at hD; exact hD
      refine lc_it (walk_keys (kvs := dM m1)) (PvT H9 o od m1 (comp m1 m2) D) p0 (fun _ _ _ p => p.frz) ?_ ?_
      · rintro i x Hx Hy hi pv ⟨rfl, k, v, hk, rfl⟩
        obtain ⟨qq, gi, rfl, rfl⟩ := dM_get hk
        obtain ⟨u, hu2⟩ : ∃ u, lk m2 qq.2 = some u := Option.isSome_iff_exists.mp ((List.all_eq_true.mp hA) qq.2 (List.mem_map.mpr ⟨qq, List.mem_of_getElem? gi, rfl⟩))
        refine ⟨rfl, ?_⟩
        refine ⟨_, rfl, _, rfl, _, rfl, _, rfl, o, .str qq.2, rfl, get_frz pv.frz (lk_get g1.mm.keys (List.mem_of_getElem? gi)), t, .str u, rfl, get_dk (pv.same _ _ nto et9) hu2, (by show 2 ≤ sizeLine; decide), fun T hT => ?_⟩
        exact pv.next (Same.refl _) hDo hDn (comp_get gi hu2) (by rw [comp_len]; exact g1.mm.few) hT
      · intro Hx pv
        refine ⟨pv.frz, ?_⟩
        obtain ⟨ps, d1, d2⟩ := PvT.dict (K := K) pv (by rw [comp_len, dM_len]; exact Nat.le_refl _) hDo (.lst []) (by rw [comp_keys]; exact g1.mm.keys)
        refine ⟨D, ps, dM (comp m1 m2), rfl, d1, d2, fun R nR => ?_⟩
        rw [mergeK_nil (by rw [comp_keys]; exact g1.mm.keys)]
        have pack : ∃ H10, H10 = upd (upd Hx o (.dK (dM m1))) R (.dK (dM (comp m1 m2))) ∧ Same H9 H10 ∧ H10 R = some (.dK (dM (comp m1 m2))) ∧ H9 R = none :=
          ⟨_, rfl, back_same pv.same eo9 nR, upd_same, (pv.same.back eo9).free nR⟩
        obtain ⟨H10, hHo, sH10, eR, nR⟩ := pack
        rw [← hHo]
        clear hHo nR d1 d2 pv p0 hD hDn hDo
        -- told(1, one, two) != due
        refine ⟨_, rfl, _, rfl, 1, .ref o, .ref t, rfl, .both ⟨o, rfl, sH10 _ _ eo9, g1⟩ ⟨t, rfl, sH10 _ _ et9, g2⟩ (fun z => by rw [hA] at z; cases z) fun _ => ⟨fun e => nto (V.ref.inj e).symm, fun H11 R1 sH11 nR1 eR1 => ?_⟩⟩
        refine ⟨_, rfl, R1, R, _, _, rfl, rfl, eR1, sH11 _ _ eR, rfl, same_dM (by rw [comp_keys]; exact g1.mm.keys), false, rfl, iteF ?_⟩
        have s11 := sH10.trans sH11
        clear eR1 nR1 sH10 sH11
        -- backwards(one) != ..
        refine ⟨_, rfl, .ref o, rfl, .inl ⟨o, m1, rfl, s11 _ _ eo9, g1, fun H12 R2 sH12 nR2 eR2 => ?_⟩⟩
        have eo12 := sH12 _ _ (s11 _ _ eo9)
        refine ⟨o, _, eo12, trivial, fun od => ?_⟩
        refine ⟨_, rfl, o, od, rfl, .inl ⟨dM m1, upd_same, fun D hD => ?_⟩⟩
        obtain ⟨p0, hDo⟩ := PvT.zero (l := MB.flip m1) eo12 hD
        have hDn : H12 D = none := by rw [upd_ne hDo] at hD; exact hD
        refine lc_it (walk_keys (kvs := dM m1)) (PvT H12 o od m1 (MB.flip m1) D) p0 (fun _ _ _ p => p.frz) ?_ ?_
        · rintro i x Hx Hy hi pv ⟨rfl, k, v, hk, rfl⟩
          obtain ⟨qq, gi, rfl, rfl⟩ := dM_get hk
          refine ⟨rfl, ?_⟩
          refine ⟨_, rfl, _, rfl, o, .str qq.2, rfl, get_frz pv.frz (lk_get g1.mm.keys (List.mem_of_getElem? gi)), _, rfl, (by show 2 ≤ sizeLine; decide), fun T hT => ?_⟩
          exact pv.next (Same.refl _) hDo hDn (flip_get gi) (by rw [flip_len]; exact g1.mm.few) hT
        · intro Hx pv
          refine ⟨pv.frz, ?_⟩
          obtain ⟨ps, d1, d2⟩ := PvT.dict (K := K) pv (by rw [flip_len, dM_len]; exact Nat.le_refl _) hDo (.lst []) (by rw [flip_keys]; exact g1.vals)
          refine ⟨D, ps, dM (MB.flip m1), rfl, d1, d2, fun R3 nR => ?_⟩
          rw [mergeK_nil (by rw [flip_keys]; exact g1.vals)]
          have pack : ∃ H13, H13 = upd (upd Hx o (.dK (dM m1))) R3 (.dK (dM (MB.flip m1))) ∧ Same H12 H13 ∧ H13 R3 = some (.dK (dM (MB.flip m1))) ∧ H12 R3 = none :=
            ⟨_, rfl, back_same pv.same eo12 nR, upd_same, (pv.same.back eo12).free nR⟩
          obtain ⟨H13, hHo, sH13, eR3, nR3⟩ := pack
          rw [← hHo]
          clear hHo nR d1 d2 pv p0 hD hDn hDo
          refine ⟨R2, R3, _, _, rfl, rfl, sH13 _ _ eR2, eR3, rfl, same_dM (by rw [flip_keys]; exact g1.vals), false, rfl, iteF ?_⟩
          have s13 := (s11.trans sH12).trans sH13
          clear eR3 eR2 nR2 nR3 sH12 sH13 eo12 s11
          -- backwards(backwards(two)) != two
          refine ⟨_, rfl, .ref t, rfl, .inl ⟨t, m2, rfl, s13 _ _ et9, g2, fun H14 R4 sH14 nR4 eR4 => ?_⟩⟩
          refine ⟨.ref R4, rfl, .inl ⟨R4, MB.flip m2, rfl, eR4, g2.flip, fun H15 R5 sH15 nR5 eR5 => ?_⟩⟩
          rw [flip_flip] at eR5
          have s15 := (s13.trans sH14).trans sH15
          refine ⟨_, rfl, R5, t, _, _, rfl, rfl, eR5, s15 _ _ et9, rfl, same_dM g2.mm.keys, false, rfl, iteF ?_⟩
          clear eR5 nR5 eR4 nR4 sH14 sH15 s13
          -- same
          have eo15 := s15 _ _ eo9
          refine ⟨o, _, eo15, trivial, fun od => ?_⟩
          refine ⟨_, rfl, o, od, rfl, .inl ⟨dM m1, upd_same, fun D hD => ?_⟩⟩
          obtain ⟨p0, hDo⟩ := PvT.zero (l := idm (m1.map Prod.fst)) eo15 hD
          have hDn : H15 D = none := by rw [upd_ne hDo] at hD; exact hD
          refine lc_it (walk_keys (kvs := dM m1)) (PvT H15 o od m1 (idm (m1.map Prod.fst)) D) p0 (fun _ _ _ p => p.frz) ?_ ?_
          · rintro i x Hx Hy hi pv ⟨rfl, k, v, hk, rfl⟩
            obtain ⟨qq, gi, rfl, rfl⟩ := dM_get hk
            refine ⟨rfl, ?_⟩
            refine ⟨_, rfl, _, rfl, (by show 2 ≤ sizeLine; decide), fun T hT => ?_⟩
            exact pv.next (Same.refl _) hDo hDn (idm_get (map_get gi)) (by rw [idm_len, List.length_map]; exact g1.mm.few) hT
          · intro Hx pv
            refine ⟨pv.frz, ?_⟩
            obtain ⟨ps, d1, d2⟩ := PvT.dict (K := K) pv (by rw [idm_len, List.length_map, dM_len]; exact Nat.le_refl _) hDo (.lst []) (by rw [idm_keys]; exact g1.mm.keys)
            refine ⟨D, ps, dM (idm (m1.map Prod.fst)), rfl, d1, d2, fun R6 nR => ?_⟩
            rw [mergeK_nil (by rw [idm_keys]; exact g1.mm.keys)]
            have pack : ∃ H16, H16 = upd (upd Hx o (.dK (dM m1))) R6 (.dK (dM (idm (m1.map Prod.fst)))) ∧ Same H15 H16 ∧ H16 R6 = some (.dK (dM (idm (m1.map Prod.fst)))) ∧ H15 R6 = none :=
              ⟨_, rfl, back_same pv.same eo15 nR, upd_same, (pv.same.back eo15).free nR⟩
            obtain ⟨H16, hHo, sH16, eR6, nR6⟩ := pack
            rw [← hHo]
            clear hHo nR d1 d2 pv p0 hD hDn hDo
            -- told(1, one, backwards(one)) != same
            refine ⟨_, rfl, _, rfl, .ref o, rfl, .inl ⟨o, m1, rfl, sH16 _ _ eo15, g1, fun H17 R7 sH17 nR7 eR7 => ?_⟩⟩
            have eo17 := sH17 _ _ (sH16 _ _ eo15)
            refine ⟨1, .ref o, .ref R7, rfl, .both ⟨o, rfl, eo17, g1⟩ ⟨R7, rfl, eR7, g1.flip⟩ (fun z => by rw [hasAll_flip] at z; cases z) fun _ => ⟨fun e => (by rw [← V.ref.inj e, sH16 _ _ eo15] at nR7; cases nR7), fun H18 R8 sH18 nR8 eR8 => ?_⟩⟩
            rw [comp_flip g1] at eR8
            refine ⟨_, rfl, R8, R6, _, _, rfl, rfl, eR8, sH18 _ _ (sH17 _ _ eR6), rfl, same_dM (by rw [idm_keys]; exact g1.mm.keys), false, rfl, iteF ?_⟩
            have s18 := ((s15.trans sH16).trans sH17).trans sH18
            clear eR8 nR8 eR7 nR7 sH18 sH17 eo17 eR6 nR6 sH16 eo15 s15
            -- then(backwards(one), one) != ..
            have eo18 := s18 _ _ eo9
            refine ⟨_, rfl, .ref o, rfl, .inl ⟨o, m1, rfl, eo18, g1, fun H19 R9 sH19 nR9 eR9 => ?_⟩⟩
            have eo19 := sH19 _ _ eo18
            refine ⟨_, rfl, .ref R9, .ref o, rfl, .both ⟨R9, rfl, eR9, g1.flip⟩ ⟨o, rfl, eo19, g1⟩ (fun z => by rw [hasAll_flip'] at z; cases z) fun _ => ⟨fun e => (by rw [V.ref.inj e, eo18] at nR9; cases nR9), fun H20 R10 sH20 nR10 eR10 => ?_⟩⟩
            rw [comp_flip' g1] at eR10
            have eo20 := sH20 _ _ eo19
            refine ⟨o, _, eo20, trivial, fun od => ?_⟩
            refine ⟨_, rfl, o, od, dM m1, rfl, upd_same, fun D hD => ?_⟩
            obtain ⟨p0, hDo⟩ := PvT.zero (l := idm (m1.map Prod.snd)) eo20 hD
            have hDn : H20 D = none := by rw [upd_ne hDo] at hD; exact hD
            refine lc_it (walk_values (kvs := dM m1)) (PvT H20 o od m1 (idm (m1.map Prod.snd)) D) p0 (fun _ _ _ p => p.frz) ?_ ?_
            · rintro i x Hx Hy hi pv ⟨rfl, k, hk⟩
              obtain ⟨qq, gi, rfl, rfl⟩ := dM_get hk
              refine ⟨rfl, ?_⟩
              refine ⟨_, rfl, _, rfl, (by show 2 ≤ sizeLine; decide), fun T hT => ?_⟩
              exact pv.next (Same.refl _) hDo hDn (idm_get (map_get gi)) (by rw [idm_len, List.length_map]; exact g1.mm.few) hT
            · intro Hx pv
              refine ⟨pv.frz, ?_⟩
              obtain ⟨ps, d1, d2⟩ := PvT.dict (K := K) pv (by rw [idm_len, List.length_map, dM_len]; exact Nat.le_refl _) hDo (.lst []) (by rw [idm_keys]; exact g1.vals)
              refine ⟨D, ps, dM (idm (m1.map Prod.snd)), rfl, d1, d2, fun R11 nR => ?_⟩
              rw [mergeK_nil (by rw [idm_keys]; exact g1.vals)]
              have pack : ∃ H21, H21 = upd (upd Hx o (.dK (dM m1))) R11 (.dK (dM (idm (m1.map Prod.snd)))) ∧ Same H20 H21 ∧ H21 R11 = some (.dK (dM (idm (m1.map Prod.snd)))) ∧ H20 R11 = none :=
                ⟨_, rfl, back_same pv.same eo20 nR, upd_same, (pv.same.back eo20).free nR⟩
              obtain ⟨H21, hHo, sH21, eR11, nR11⟩ := pack
              rw [← hHo]
              clear hHo nR d1 d2 pv p0 hD hDn hDo
              refine ⟨R10, R11, _, _, rfl, rfl, sH21 _ _ eR10, eR11, rfl, same_dM (by rw [idm_keys]; exact g1.vals), false, rfl, iteF ?_⟩
              have s21 := ((s18.trans sH19).trans sH20).trans sH21
              clear eR11 nR11 eR10 nR10 eR9 nR9 sH21 eo20 sH20 eo19 sH19 eo18 s18
              -- what is no map
              refine ⟨(by show 0 ≤ sizeLine; decide), fun l hl0 d1 hd1 => ⟨upd_same, [(Sum.inr ("A" : Str), .str ("a" : Str))], rfl, (by show 1 ≤ 15; decide), fun d2 hd2 => ⟨upd_same, [(Sum.inr ("a" : Str), .non)], rfl, (by show 1 ≤ 15; decide), fun d3 hd3 => ⟨upd_same, [(Sum.inl 5, .str ("a" : Str))], rfl, (by show 1 ≤ 15; decide), fun d4 hd4 => ⟨upd_same, [(Sum.inr ("a" : Str), .str ("b" : Str)), (Sum.inr ("c" : Str), .str ("b" : Str))], rfl, (by show 2 ≤ 15; decide), fun d5 hd5 => ?_⟩⟩⟩⟩⟩
              refine ⟨(by show 1 ≤ sizeLine; decide), fun t1 ht1 => ⟨?_, [(Sum.inr ("a" : Str), .ref t1)], rfl, (by show 1 ≤ 15; decide), (by show 8 ≤ sizeLine; decide), fun W nW => ?_⟩⟩
              · exact same_upd ht1 _ _ upd_same
              have nt5 : t1 ≠ d5 := fun e => by rw [e, upd_same] at ht1; cases ht1
              have k6 := same_upd (o := .lst [.non, .int 5, .ref l, .ref d1, .ref d2, .ref d3, .ref d4, .ref d5]) nW
              have k5 := (same_upd3 (o := .dK []) (o1 := .tup [.str ("b" : Str)]) (o2 := .dK (mergeK [] [(Sum.inr ("a" : Str), .ref t1)])) hd5 ht1).trans k6
              have k4 := (same_upd2 (o := .dK []) (o2 := .dK (mergeK [] [(Sum.inr ("a" : Str), .str ("b" : Str)), (Sum.inr ("c" : Str), .str ("b" : Str))])) hd4).trans k5
              have k3 := (same_upd2 (o := .dK []) (o2 := .dK (mergeK [] [(Sum.inl 5, .str ("a" : Str))])) hd3).trans k4
              have k2 := (same_upd2 (o := .dK []) (o2 := .dK (mergeK [] [(Sum.inr ("a" : Str), .non)])) hd2).trans k3
              have k1 := (same_upd2 (o := .dK []) (o2 := .dK (mergeK [] [(Sum.inr ("A" : Str), .str ("a" : Str))])) hd1).trans k2
              have k0 := (same_upd (o := .lst []) hl0).trans k1
              have od0 := odds_mk (K := K) (t := t1) upd_same (k1 _ _ upd_same) (k2 _ _ upd_same) (k3 _ _ upd_same) (k4 _ _ upd_same) ((k5 _ _ upd_same).trans (congrArg (fun z => some (HO.dK z)) merge2)) (k6 _ _ upd_same) (k6 _ _ (by rw [upd_ne nt5]; exact upd_same))
              refine ⟨W, rfl, ⟨_, SqL.of upd_same⟩, ?_⟩
              refine for_list (K := K) (a := W) (xs := [.non, .int 5, .ref l, .ref d1, .ref d2, .ref d3, .ref d4, .ref d5]) (fun _ σ H' => ∃ o1 o9 o10 o11 : Option V, σ = [some (.ref a), o1, some (.ref p), some (.ref M), some (.ref o), some (.ref J1), some (.ref t), some (.ref R), some (.ref R6), o9, o10, o11] ∧ Same H21 H' ∧ OddsAt K H' W l d1 d2 d3 d4 d5) ⟨_, _, _, _, rfl, k0, od0⟩ (fun _ σ H' _ ⟨_, _, _, _, _, _, od⟩ => SqL.of od.at') ?_ ?_
              · rintro i2 x σ H22 hx ⟨o1', o9, o10, o11, rfl, s22, od⟩
                obtain ⟨hMV, z, hz, kz⟩ := od.odd i2 x hx
                refine ⟨(by show 2 ≤ sizeLine; decide), fun T hT => ⟨T, rfl, ⟨_, SqT.of upd_same⟩, fun D hD => ?_⟩⟩
                refine lc_tup (K := K) (a := T) (xs := [.int 0, .int 1]) (fun j H' => Same H22 H' ∧ H' T = some (.tup [.int 0, .int 1]) ∧ ∃ rs : List Addr, rs.length = j ∧ H' D = some (.lst (rs.map V.ref)) ∧ ∀ r ∈ rs, H' r = some (.lst [.str ("map" : Str), .str z])) ⟨(same_upd hT).trans (same_upd hD), same_upd hD _ _ upd_same, [], rfl, upd_same, fun r hr => by cases hr⟩ (fun j H' _ h => SqT.of h.2.1) ?_ ?_
                · rintro j y H23 hy ⟨s23, eT, rs, lr, eD, hrs⟩
                  have hj2 : j < 2 := (List.getElem?_eq_some_iff.mp hy).1
                  have nD22 : H22 D = none := (same_upd hT).free hD
                  have fin : ∀ (Hn : Hp) (r : Addr), Same H23 Hn → H23 r = none → Hn r = some (.lst [.str ("map" : Str), .str z]) → ∃ acc, Hn D = some (.lst acc) ∧ acc.length < sizeLine ∧ (Same H22 (upd Hn D (.lst (acc ++ [.ref r]))) ∧ (upd Hn D (.lst (acc ++ [.ref r]))) T = some (.tup [.int 0, .int 1]) ∧ ∃ rs : List Addr, rs.length = j + 1 ∧ (upd Hn D (.lst (acc ++ [.ref r]))) D = some (.lst (rs.map V.ref)) ∧ ∀ r' ∈ rs, (upd Hn D (.lst (acc ++ [.ref r]))) r' = some (.lst [.str ("map" : Str), .str z])) := fun Hn r s n e => by
                    have eDn := s _ _ eD
                    have eTn := s _ _ eT
                    refine ⟨_, eDn, by rw [List.length_map, lr]; exact small1000 (by omega), fun b u eb => ?_, ?_, rs ++ [r], by rw [List.length_append, lr]; rfl, by rw [upd_same, List.map_append]; rfl, fun r' hr' => ?_⟩
                    · rw [upd_ne (ne_of_none eb nD22)]
                      exact s _ _ (s23 _ _ eb)
                    · rw [upd_ne (fun c => by rw [c, eDn] at eTn; cases eTn)]
                      exact eTn
                    · have er' : Hn r' = some (.lst [.str ("map" : Str), .str z]) := by
                        rcases List.mem_append.mp hr' with q | q
                        · exact s _ _ (hrs _ q)
                        · rw [List.mem_singleton.mp q]; exact e
                      rw [upd_ne (fun c => ?_)]
                      · exact er'
                      · rw [c, eDn] at er'
                        have e1 := HO.lst.inj (Option.some.inj er')
                        cases rs with
                        | nil => cases e1
                        | cons a b => cases e1
                  refine ⟨rfl, ?_⟩
                  match j, hy, fin with
                  | 0, hy, fin =>
                    cases hy
                    exact ⟨_, rfl, _, rfl, 0, x, .non, rfl, .backBad (hMV.same s23) ⟨z, hz.same s23, fun Hn r s n e => fin Hn r s n e⟩⟩
                  | 1, hy, fin =>
                    cases hy
                    exact ⟨_, rfl, _, rfl, 1, x, .non, rfl, .first (hMV.same s23) ⟨z, hz.same s23, fun Hn r s n e => fin Hn r s n e⟩⟩
                  | _ + 2, hy, _ => cases hy
                · rintro H23 ⟨s23, eT, rs, lr, eD, hrs⟩
                  obtain ⟨r1, r2, rfl⟩ : ∃ r1 r2, rs = [r1, r2] := by
                    match rs, lr with
                    | [r1, r2], _ => exact ⟨r1, r2, rfl⟩
                  refine ⟨_, rfl, hz _ _ s23 ⟨(by show 2 ≤ sizeLine; decide), fun u hu => ⟨(by show 1 ≤ sizeLine; decide), fun w hw => ⟨w, 2, [.ref u], rfl, rfl, upd_same, (by decide), (by decide), (by show 1 * 2 ≤ sizeLine; decide), fun v hv => ?_⟩⟩⟩⟩
                  have kv := same_upd (o := .lst (List.replicate (2 : Int).toNat [V.ref u]).flatten) hv
                  have kw := (same_upd (o := .lst [.ref u]) hw).trans kv
                  have ku := (same_upd (o := .lst [.str ("map" : Str), .str z]) hu).trans kw
                  refine ⟨.list [tellD z, tellD z], .list [tellD z, tellD z], dp_tells (ku _ _ eD) (ku _ _ (hrs _ List.mem_cons_self)) (ku _ _ (hrs _ (List.mem_cons_of_mem _ List.mem_cons_self))), dp_tells upd_same (kw _ _ upd_same) (kw _ _ upd_same), shaped_tells kz, shaped_tells kz, false, (by rw [eqv_tells]; rfl), iteF ?_⟩
                  have s24 := s23.trans ku
                  refine fun e he => ⟨_, rfl, 1, .ref e, x, rfl, .second ⟨e, rfl, upd_same, go_nil⟩ (hMV.same (s24.trans (same_upd he))) ⟨z, hz.same (s24.trans (same_upd he)), fun Hn r s n er => ?_⟩⟩
                  have s25 := (s24.trans (same_upd (o := .dK []) he)).trans s
                  refine ⟨_, rfl, hz _ _ s25 ⟨(by show 2 ≤ sizeLine; decide), fun u2 hu2 => ⟨tellD z, tellD z, dp_tell (same_upd hu2 _ _ er), dp_tell upd_same, shaped_tell kz, shaped_tell kz, false, (by rw [eqv_tell]; rfl), iteF ?_⟩⟩⟩
                  have s26 := s25.trans (same_upd (o := .lst [.str ("map" : Str), .str z]) hu2)
                  exact ⟨_, _, _, _, rfl, s22.trans s26, od.same s26⟩
              · rintro σ H22 ⟨o1', o9, o10, o11, rfl, s22, _⟩
                have s922 := s21.trans s22
                clear od0 k0 k1 k2 k3 k4 k5 k6 nt5 nW ht1 hd5 hd4 hd3 hd2 hd1 hl0
                refine ⟨_, rfl, (by show 0 ≤ sizeLine; decide), fun e he => ?_⟩
                have s9e := s922.trans (same_upd (o := .lst []) he)
                refine ⟨.list ((NM.take c).map PyData.str), .list [], .lst (SqL.of (s9e _ _ eM9)) (dp_strs _), .lst (SqL.of upd_same) .nil, shaped_strs _ (fun b hb => ok_NM b (List.mem_of_mem_take hb)), rfl, ?_⟩
                by_cases hc : NM.take c = []
                · refine ⟨false, (by rw [hc]; rfl), iteF (iteF ?_)⟩
                  have eoX := s9e _ _ eo9
                  refine ⟨_, rfl, .inr (.inr (.inl ⟨rfl, .inl ⟨_, eoX⟩⟩)), o, dM m1, rfl, rfl, eoX, ?_⟩
                  refine ⟨_, rfl, _, rfl, .ref o, .ref t, rfl, .both ⟨o, rfl, upd_same, go_nil⟩ ⟨t, rfl, (by rw [upd_ne nto]; exact s9e _ _ et9), g2⟩ (fun z => by cases z) fun _ => ⟨fun e => nto (V.ref.inj e).symm, fun Hp R20 s20 n20 e20 => ?_⟩⟩
                  refine fun e3 he3 => ⟨R20, e3, [], [], rfl, rfl, same_upd he3 _ _ e20, upd_same, rfl, (fun p hp => by cases hp), false, rfl, iteF ?_⟩
                  exact ⟨_, _, _, _, _, _, _, _, _, _, _, rfl, (same_upd he3).seq (s20.seq (sqlU (s9e.seq (sqlP np hS0 sb9)) eoX))⟩
                · refine ⟨true, (by rw [eqv_nil hc]; rfl), iteT ?_⟩
                  refine ⟨_, rfl, fun e2 he2 => ?_⟩
                  have s9f := s9e.trans (same_upd (o := .dK []) he2)
                  have ne : m1 ≠ [] := fun z => hc (by rw [← km, z]; rfl)
                  refine ⟨1, .ref o, .ref e2, rfl, .both ⟨o, rfl, s9f _ _ eo9, g1⟩ ⟨e2, rfl, upd_same, go_nil⟩ (fun _ => ⟨("{}" : Str), shows_emp upd_same, fun Hn r s n er => ?_⟩) (fun z => by rw [hasAll_nil ne] at z; cases z)⟩
                  have s9g := s9f.trans s
                  have kz : PyData.strOk ("{}" : Str) = true := by decide +kernel
                  refine ⟨(by show 2 ≤ sizeLine; decide), fun u2 hu2 => ⟨tellD "{}", tellD "{}", dp_tell (same_upd hu2 _ _ er), dp_tell upd_same, shaped_tell kz, shaped_tell kz, false, (by rw [eqv_tell]; rfl), iteF ?_⟩⟩
                  have s9h := s9g.trans (same_upd (o := .lst [.str ("map" : Str), .str ("{}" : Str)]) hu2)
                  have eoX := s9h _ _ eo9
                  refine ⟨_, rfl, .inr (.inr (.inl ⟨rfl, .inl ⟨_, eoX⟩⟩)), o, dM m1, rfl, rfl, eoX, ?_⟩
                  refine ⟨_, rfl, _, rfl, .ref o, .ref t, rfl, .both ⟨o, rfl, upd_same, go_nil⟩ ⟨t, rfl, (by rw [upd_ne nto]; exact s9h _ _ et9), g2⟩ (fun z => by cases z) fun _ => ⟨fun e => nto (V.ref.inj e).symm, fun Hp R20 s20 n20 e20 => ?_⟩⟩
                  refine fun e3 he3 => ⟨R20, e3, [], [], rfl, rfl, same_upd he3 _ _ e20, upd_same, rfl, (fun p hp => by cases hp), false, rfl, iteF ?_⟩
                  exact ⟨_, _, _, _, _, _, _, _, _, _, _, rfl, (same_upd he3).seq (s20.seq (sqlU (s9h.seq (sqlP np hS0 sb9)) eoX))⟩
    · rintro σ H' ⟨o1, o2, o3, o4, o5, o6, o7, o8, o9, o10, o11, rfl, hS'⟩
      exact q _
end
end MB

set_option Elab.async false
set_option linter.all false
set_option maxRecDepth 100000
set_option maxHeartbeats 4000000
namespace MB
open PySem L2 PyProof.Rows XL GD DM
/-! ### what the top has written -/
/-- all that is asked of the error's class, but for its __init__ -/
def mapB (K : PySem.W.Frag) (C fI : Addr) : Bool := xcB K C && (decide (PySem.W.typeIn K (.ref C) = some (.type "type")) && (decide (PySem.W.exmOne K (.ref C) (.ref C) = some true) && (decide (PySem.W.takerIn K C "value" = some none) && (decide (PySem.W.findIn K (.ref C) "__init__" = some (some (.ref fI))) && (decide (PySem.W.typeIn K (.ref fI) = some (.type "function")) && decide (PySem.W.findIn K (.ref C) "value" = some none))))))
structure MapE (K : PySem.W.Frag) (C fI : Addr) : Prop where
  T : XC K C
  tC : PySem.W.typeIn K (.ref C) = some (.type "type")
  te : PySem.W.exmOne K (.ref C) (.ref C) = some true
  hno : PySem.W.findIn K (.ref C) "value" = some none
  I : XI K C fI "value"
theorem mape_mk {K : PySem.W.Frag} {C fI : Addr} {oc : Value} {od : Option Addr} {doc pm : Value} {an : Option Addr} {cdv ct : Value} {osl : Array (Option Value)} {qual : Str} {p1 p2 q1 q2 q3 q4 : Pos} (iC : PySem.W.findIn K (.ref C) "__init__" = some (some (.ref fI))) (b : mapB K C fI = true)
    (l : K.lookup fI = some ⟨oc, od, .func (PySem.W.fnOf "__init__" qual (xA "value" p1 p2) (xB "value" q1 q2 q3 q4) (xS "value") .none .none doc pm an cdv ct), osl⟩) (c : PySem.W.codeIn K cdv qual = true) : MapE K C fI := by
  unfold mapB at b
  simp only [Bool.and_eq_true, decide_eq_true_eq] at b
  obtain ⟨b1, b2, b3, b4, b5, b6, b7⟩ := b
  exact ⟨xc_of b1, b2, b3, b7, ⟨.inl rfl, b4, b5, b6, oc, od, doc, pm, an, cdv, ct, osl, qual, p1, p2, q1, q2, q3, q4, l, c⟩⟩
theorem all_mk {l : PySem.W.OpenLaw} {w : World} {K : PySem.W.Frag} {h : Heap} {mg : Str → Option Value} {fa C fI f1 f2 f3 f4 f5 f6 f7 f8 f9 f10 f11 f12 : Addr} (X : K.In h) (G : h.Ns mainGlobals mg) (hfa : mg "law" = some (.ref fa)) (E : MapE K C fI)
    {od1 od2 od3 od4 od5 od6 od7 od8 od9 od10 od11 od12 an1 an2 an3 an4 an5 an6 an7 an8 an9 an10 an11 an12 : Option Addr} {sl1 sl2 sl3 sl4 sl5 sl6 sl7 sl8 sl9 sl10 sl11 sl12 : Array (Option Value)} {oc1 oc2 oc3 oc4 oc5 oc6 oc7 oc8 oc9 oc10 oc11 oc12 kV1 kV2 kV3 kV4 kV5 kV6 kV7 kV8 kV9 kV10 kV11 kV12 dc1 dc2 dc3 dc4 dc5 dc6 dc7 dc8 dc9 dc10 dc11 dc12 pm1 pm2 pm3 pm4 pm5 pm6 pm7 pm8 pm9 pm10 pm11 pm12 cd1 cd2 cd3 cd4 cd5 cd6 cd7 cd8 cd9 cd10 cd11 cd12 ct1 ct2 ct3 ct4 ct5 ct6 ct7 ct8 ct9 ct10 ct11 ct12 : Value} {t1 t2 t3 : Tok}
    (a1 : PySem.W.nsIn K mainGlobals "is_mark" = some (some (.ref f1))) (l1 : K.lookup f1 = some ⟨oc1, od1, .func (PySem.W.fnOf "is_mark" "is_mark" (defArgs sMark) (defBody sMark) (defScope sMark) .none kV1 dc1 pm1 an1 cd1 ct1), sl1⟩) (c1 : PySem.W.codeIn K cd1 "is_mark" = true) (k1 : PySem.W.keepIn K (.ref f1) = true)
    (a2 : PySem.W.nsIn K mainGlobals "is_spelled" = some (some (.ref f2))) (l2 : K.lookup f2 = some ⟨oc2, od2, .func (PySem.W.fnOf "is_spelled" "is_spelled" (defArgs sSpelled) (defBody sSpelled) (defScope sSpelled) .none kV2 dc2 pm2 an2 cd2 ct2), sl2⟩) (c2 : PySem.W.codeIn K cd2 "is_spelled" = true) (k2 : PySem.W.keepIn K (.ref f2) = true)
    (a3 : PySem.W.nsIn K mainGlobals "is_dict_of_marks" = some (some (.ref f3))) (l3 : K.lookup f3 = some ⟨oc3, od3, .func (PySem.W.fnOf "is_dict_of_marks" "is_dict_of_marks" (defArgs sDict) (defBody sDict) (defScope sDict) .none kV3 dc3 pm3 an3 cd3 ct3), sl3⟩) (c3 : PySem.W.codeIn K cd3 "is_dict_of_marks" = true) (k3 : PySem.W.keepIn K (.ref f3) = true)
    (a4 : PySem.W.nsIn K mainGlobals "are_different" = some (some (.ref f4))) (l4 : K.lookup f4 = some ⟨oc4, od4, .func (PySem.W.fnOf "are_different" "are_different" (defArgs sDiff) (defBody sDiff) (defScope sDiff) .none kV4 dc4 pm4 an4 cd4 ct4), sl4⟩) (c4 : PySem.W.codeIn K cd4 "are_different" = true) (k4 : PySem.W.keepIn K (.ref f4) = true)
    (a5 : PySem.W.nsIn K mainGlobals "then" = some (some (.ref f5))) (l5 : K.lookup f5 = some ⟨oc5, od5, .func (PySem.W.fnOf "then" "then" (defArgs sThen) (defBody sThen) (defScope sThen) .none kV5 dc5 pm5 an5 cd5 ct5), sl5⟩) (c5 : PySem.W.codeIn K cd5 "then" = true) (k5 : PySem.W.keepIn K (.ref f5) = true)
    (a6 : PySem.W.nsIn K mainGlobals "backwards" = some (some (.ref f6))) (l6 : K.lookup f6 = some ⟨oc6, od6, .func (PySem.W.fnOf "backwards" "backwards" (defArgs sBack) (defBody sBack) (defScope sBack) .none kV6 dc6 pm6 an6 cd6 ct6), sl6⟩) (c6 : PySem.W.codeIn K cd6 "backwards" = true) (k6 : PySem.W.keepIn K (.ref f6) = true)
    (a7 : PySem.W.nsIn K mainGlobals "check_map" = some (some (.ref f7))) (l7 : K.lookup f7 = some ⟨oc7, od7, .func (PySem.W.fnOf "check_map" "check_map" (defArgs sCheck) (defBody sCheck) (defScope sCheck) .none kV7 dc7 pm7 an7 cd7 ct7), sl7⟩) (c7 : PySem.W.codeIn K cd7 "check_map" = true) (k7 : PySem.W.keepIn K (.ref f7) = true)
    (a8 : PySem.W.nsIn K mainGlobals "_law_pool" = some (some (.ref f8))) (l8 : K.lookup f8 = some ⟨oc8, od8, .func (PySem.W.fnOf "_law_pool" "_law_pool" (defArgs sPool) (defBody sPool) (defScope sPool) .none kV8 dc8 pm8 an8 cd8 ct8), sl8⟩) (c8 : PySem.W.codeIn K cd8 "_law_pool" = true) (k8 : PySem.W.keepIn K (.ref f8) = true)
    (a9 : PySem.W.nsIn K mainGlobals "_law_draw" = some (some (.ref f9))) (l9 : K.lookup f9 = some ⟨oc9, od9, .func (PySem.W.fnOf "_law_draw" "_law_draw" (defArgs sDraw) (defBody sDraw) (defScope sDraw) .none kV9 dc9 pm9 an9 cd9 ct9), sl9⟩) (c9 : PySem.W.codeIn K cd9 "_law_draw" = true) (k9 : PySem.W.keepIn K (.ref f9) = true)
    (a10 : PySem.W.nsIn K mainGlobals "_law_mixed" = some (some (.ref f10))) (l10 : K.lookup f10 = some ⟨oc10, od10, .func (PySem.W.fnOf "_law_mixed" "_law_mixed" (defArgs sMixed) (defBody sMixed) (defScope sMixed) .none kV10 dc10 pm10 an10 cd10 ct10), sl10⟩) (c10 : PySem.W.codeIn K cd10 "_law_mixed" = true) (k10 : PySem.W.keepIn K (.ref f10) = true)
    (a11 : PySem.W.nsIn K mainGlobals "_law_told" = some (some (.ref f11))) (l11 : K.lookup f11 = some ⟨oc11, od11, .func (PySem.W.fnOf "_law_told" "_law_told" (defArgs sTold) (defBody sTold) (defScope sTold) .none kV11 dc11 pm11 an11 cd11 ct11), sl11⟩) (c11 : PySem.W.codeIn K cd11 "_law_told" = true) (k11 : PySem.W.keepIn K (.ref f11) = true)
    (a12 : PySem.W.nsIn K mainGlobals "law" = some (some (.ref f12))) (l12 : K.lookup f12 = some ⟨oc12, od12, .func (PySem.W.fnOf "law" "law" (defArgs sLaw) (defBody sLaw) (defScope sLaw) .none kV12 dc12 pm12 an12 cd12 ct12), sl12⟩) (c12 : PySem.W.codeIn K cd12 "law" = true) (k12 : PySem.W.keepIn K (.ref f12) = true)
    (z1 : PySem.W.nsIn K mainGlobals "isinstance" = some none)
    (z2 : PySem.W.nsIn K mainGlobals "str" = some none)
    (z3 : PySem.W.nsIn K mainGlobals "dict" = some none)
    (z4 : PySem.W.nsIn K mainGlobals "int" = some none)
    (z5 : PySem.W.nsIn K mainGlobals "len" = some none)
    (z6 : PySem.W.nsIn K mainGlobals "all" = some none)
    (z7 : PySem.W.nsIn K mainGlobals "abs" = some none)
    (z8 : PySem.W.nsIn K mainGlobals "sum" = some none)
    (z9 : PySem.W.nsIn K mainGlobals "list" = some none)
    (z10 : PySem.W.nsIn K mainGlobals "set" = some none)
    (z11 : PySem.W.nsIn K mainGlobals "zip" = some none)
    (z12 : PySem.W.nsIn K mainGlobals "range" = some none)
    (z13 : PySem.W.nsIn K mainGlobals "repr" = some none)
    (z14 : PySem.W.nsIn K mainGlobals "max" = some none)
    (z15 : PySem.W.nsIn K mainGlobals "min" = some none)
    (v1 : PySem.W.nsIn K mainGlobals "LETTERS" = some (some (.str LT t1)))
    (v2 : PySem.W.nsIn K mainGlobals "LETTERS_AND_DIGITS" = some (some (.str LD t2)))
    (v3 : PySem.W.nsIn K mainGlobals "LONGEST_WORD" = some (some (.int 8 t3)))
    (mC : PySem.W.nsIn K mainGlobals "BadMap" = some (some (.ref C))) :
    ∃ fd : FuncData, (∀ (s : Shared) (v : Value), BindsTo s fd ⟨[v], []⟩ [("_law_script", v)]) ∧ ∀ base : Heap, K.In base → base.Ns mainGlobals mg → FnG l.prog w K mg base CX0 7 fa fd ["_law_script"] (spLaw K) := by
  have e := hfa.symm.trans (PySem.W.mg_of X G a12)
  cases e
  have F1 := fun_mk (st := sMark) l1 c1 k1
  have b1 := F1.binds (ps := ["value"]) fun _ _ _ _ _ _ us hl => match us, hl with | [_], _ => rfl
  have g1 := PySem.W.mg_of X G a1
  have F2 := fun_mk (st := sSpelled) l2 c2 k2
  have b2 := F2.binds (ps := ["value", "characters", "least", "most"]) fun _ _ _ _ _ _ us hl => match us, hl with | [_, _, _, _], _ => rfl
  have g2 := PySem.W.mg_of X G a2
  have F3 := fun_mk (st := sDict) l3 c3 k3
  have b3 := F3.binds (ps := ["value"]) fun _ _ _ _ _ _ us hl => match us, hl with | [_], _ => rfl
  have g3 := PySem.W.mg_of X G a3
  have F4 := fun_mk (st := sDiff) l4 c4 k4
  have b4 := F4.binds (ps := ["worths"]) fun _ _ _ _ _ _ us hl => match us, hl with | [_], _ => rfl
  have g4 := PySem.W.mg_of X G a4
  have F5 := fun_mk (st := sThen) l5 c5 k5
  have b5 := F5.binds (ps := ["first", "second"]) fun _ _ _ _ _ _ us hl => match us, hl with | [_, _], _ => rfl
  have g5 := PySem.W.mg_of X G a5
  have F6 := fun_mk (st := sBack) l6 c6 k6
  have b6 := F6.binds (ps := ["first"]) fun _ _ _ _ _ _ us hl => match us, hl with | [_], _ => rfl
  have g6 := PySem.W.mg_of X G a6
  have F7 := fun_mk (st := sCheck) l7 c7 k7
  have b7 := F7.binds (ps := ["value"]) fun _ _ _ _ _ _ us hl => match us, hl with | [_], _ => rfl
  have g7 := PySem.W.mg_of X G a7
  have F8 := fun_mk (st := sPool) l8 c8 k8
  have b8 := F8.binds (ps := ["_law_script", "_law_k"]) fun _ _ _ _ _ _ us hl => match us, hl with | [_, _], _ => rfl
  have g8 := PySem.W.mg_of X G a8
  have F9 := fun_mk (st := sDraw) l9 c9 k9
  have b9 := F9.binds (ps := ["_law_pool_here", "_law_many"]) fun _ _ _ _ _ _ us hl => match us, hl with | [_, _], _ => rfl
  have g9 := PySem.W.mg_of X G a9
  have F10 := fun_mk (st := sMixed) l10 c10 k10
  have b10 := F10.binds (ps := ["_law_pool_here", "_law_things"]) fun _ _ _ _ _ _ us hl => match us, hl with | [_, _], _ => rfl
  have g10 := PySem.W.mg_of X G a10
  have F11 := fun_mk (st := sTold) l11 c11 k11
  have b11 := F11.binds (ps := ["_law_door", "_law_one", "_law_two"]) fun _ _ _ _ _ _ us hl => match us, hl with | [_, _, _], _ => rfl
  have g11 := PySem.W.mg_of X G a11
  have F12 := fun_mk (st := sLaw) l12 c12 k12
  have gC := PySem.W.mg_of X G mC
  refine ⟨PySem.W.fnOf "law" "law" (defArgs sLaw) (defBody sLaw) (defScope sLaw) .none kV12 dc12 pm12 an12 cd12 ct12, fun s v => .of_eq rfl, fun base _ _ => ?_⟩
  have T : Txt mg := ⟨PySem.W.mg_none_of X G z1, PySem.W.mg_none_of X G z2, PySem.W.mg_none_of X G z3, PySem.W.mg_none_of X G z4, PySem.W.mg_none_of X G z5, PySem.W.mg_none_of X G z6, PySem.W.mg_none_of X G z7, PySem.W.mg_none_of X G z8, PySem.W.mg_none_of X G z9, PySem.W.mg_none_of X G z10, PySem.W.mg_none_of X G z11, PySem.W.mg_none_of X G z12, PySem.W.mg_none_of X G z13, PySem.W.mg_none_of X G z14, PySem.W.mg_none_of X G z15, ⟨t1, PySem.W.mg_of X G v1⟩, ⟨t2, PySem.W.mg_of X G v2⟩, ⟨t3, PySem.W.mg_of X G v3⟩⟩
  have GM := ok_mark (P := l.prog) (w := w) (base := base) F1 F2 b2 g2 T
  have GDi := ok_dict F3 F1.kp b1 g1 GM T
  have GDf := ok_diff (P := l.prog) (w := w) (base := base) F4 T
  have GC := ok_check F7 F3.kp b3 g3 GDi F4.kp b4 g4 GDf E.T E.tC E.I gC T
  have GB := ok_back F6 F7.kp b7 g7 GC
  have GT := ok_then F5 F7.kp b7 g7 GC E.T E.tC E.I gC T
  have GDr := ok_draw (P := l.prog) (w := w) (base := base) F9 T
  have GMx := ok_mixed F10 F9.kp b9 g9 GDr T
  have GTo := ok_told F11 F6.kp b6 g6 GB F5.kp b5 g5 GT E.T E.hno E.te gC T.repr
  exact ok_law F12 T ⟨g8, g9, g10, g6, g5, g11, F8.kp, F9.kp, F10.kp, F6.kp, F5.kp, F11.kp, b8, b9, b10, b6, b5, b11, ok_pool F8 T, GDr, GMx, GB, GT, GTo⟩
end MB
open PySem PySem.W PyProof.Rows
set_option maxRecDepth 100000 in
set_option maxHeartbeats 0 in
theorem PySem.Challenge.cw_samebytes_k15_maps_one_after_the_other_holds : PySem.Challenge.rw_samebytes_k15_maps_one_after_the_other.Holds := by
  w_on; o_law; k_head; (case hw => w_witness2)
  k_fill
  refine GD.walk_guard (l := PySem.Challenge.rw_samebytes_k15_maps_one_after_the_other) (n := 63) (k := 7) (x := "_law_script") (sp := fun w => MB.spLaw _) rfl (by decide) rfl ⟨rfl, by decide, by decide⟩ (fun w h Y => PySem.W.kIn_of Y) ?F (fun w H a ns hl _ hS => ⟨a, ns, rfl, hS, hl, fun _ => rfl⟩)
  case F =>
    intro w mg fa h KX G hmg
    refine' MB.all_mk KX G hmg ?E ?a1 ?l1 ?c1 ?k1 ?a2 ?l2 ?c2 ?k2 ?a3 ?l3 ?c3 ?k3 ?a4 ?l4 ?c4 ?k4 ?a5 ?l5 ?c5 ?k5 ?a6 ?l6 ?c6 ?k6 ?a7 ?l7 ?c7 ?k7 ?a8 ?l8 ?c8 ?k8 ?a9 ?l9 ?c9 ?k9 ?a10 ?l10 ?c10 ?k10 ?a11 ?l11 ?c11 ?k11 ?a12 ?l12 ?c12 ?k12 ?z1 ?z2 ?z3 ?z4 ?z5 ?z6 ?z7 ?z8 ?z9 ?z10 ?z11 ?z12 ?z13 ?z14 ?z15 ?v1 ?v2 ?v3 ?mC
    (case mC => k_is)
    case E =>
      refine' MB.mape_mk ?xei ?xeb ?xel ?xec
      (case xei => k_is); (case xel => k_is); (case xec => k_is); (case xeb => kernel_rfl)
    (case a1 => k_is); (case l1 => k_is); (case c1 => k_is); (case k1 => k_is); (case a2 => k_is); (case l2 => k_is)
    (case c2 => k_is); (case k2 => k_is); (case a3 => k_is); (case l3 => k_is); (case c3 => k_is); (case k3 => k_is)
    (case a4 => k_is); (case l4 => k_is); (case c4 => k_is); (case k4 => k_is); (case a5 => k_is); (case l5 => k_is)
    (case c5 => k_is); (case k5 => k_is); (case a6 => k_is); (case l6 => k_is); (case c6 => k_is); (case k6 => k_is)
    (case a7 => k_is); (case l7 => k_is); (case c7 => k_is); (case k7 => k_is); (case a8 => k_is); (case l8 => k_is)
    (case c8 => k_is); (case k8 => k_is); (case a9 => k_is); (case l9 => k_is); (case c9 => k_is); (case k9 => k_is)
    (case a10 => k_is); (case l10 => k_is); (case c10 => k_is); (case k10 => k_is); (case a11 => k_is); (case l11 => k_is)
    (case c11 => k_is); (case k11 => k_is); (case a12 => k_is); (case l12 => k_is); (case c12 => k_is); (case k12 => k_is)
    (case z1 => k_is); (case z2 => k_is); (case z3 => k_is); (case z4 => k_is); (case z5 => k_is); (case z6 => k_is)
    (case z7 => k_is); (case z8 => k_is); (case z9 => k_is); (case z10 => k_is); (case z11 => k_is); (case z12 => k_is)
    (case z13 => k_is); (case z14 => k_is); (case z15 => k_is); (case v1 => k_is); (case v2 => k_is); (case v3 => k_is)

