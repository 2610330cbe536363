import PyProof.Rows.All
import Wide.All
import OpenK.AllK
import Wide.FinOn
import HandS.ForMost
import HandS.IsInst
import HandS.Style
import HandS.Walk
import PySem.Challenge.RW_samebytes_k01_marks_names_and_worths
set_option Elab.async false
set_option linter.all false
set_option maxRecDepth 100000
set_option maxHeartbeats 4000000
namespace SB
open PySem L2 PyProof.Rows
/-! ### data: what a value is, as far as the program asks -/
inductive Dt where
  | non | bl (b : Bool) | int (i : Int) | str (s : Str) | tup (ds : List Dt) | lst | dct
def tyN : Dt → String
  | .non => "NoneType" | .bl _ => "bool" | .int _ => "int" | .str _ => "str" | .tup _ => "tuple" | .lst => "list" | .dct => "dict"
mutual
inductive DA (K : PySem.W.Frag) (H : Hp) : V → Dt → Prop
  | non : DA K H .non .non
  | bl (b : Bool) : DA K H (.bl b) (.bl b)
  | int (i : Int) : DA K H (.int i) (.int i)
  | str (x : Str) : DA K H (.str x) (.str x)
  | tup {a : Addr} {xs : List V} {ds : List Dt} : H a = some (.tup xs) → DAs K H xs ds → DA K H (.ref a) (.tup ds)
  | lst {a : Addr} {xs : List V} : H a = some (.lst xs) → DA K H (.ref a) .lst
  | dct {a : Addr} {kvs : List (Key × V)} : H a = some (.dK kvs) → DA K H (.ref a) .dct
inductive DAs (K : PySem.W.Frag) (H : Hp) : List V → List Dt → Prop
  | nil : DAs K H [] []
  | cons {v : V} {vs : List V} {d : Dt} {ds : List Dt} : DA K H v d → DAs K H vs ds → DAs K H (v :: vs) (d :: ds)
end
mutual
theorem DA.same {K : PySem.W.Frag} {H H' : Hp} (s : Same H H') : ∀ {v : V} {d : Dt}, DA K H v d → DA K H' v d
  | _, _, .non => .non
  | _, _, .bl b => .bl b
  | _, _, .int i => .int i
  | _, _, .str x => .str x
  | _, _, .tup h t => .tup (s _ _ h) (DAs.same s t)
  | _, _, .lst h => .lst (s _ _ h)
  | _, _, .dct h => .dct (s _ _ h)
theorem DAs.same {K : PySem.W.Frag} {H H' : Hp} (s : Same H H') : ∀ {v : List V} {d : List Dt}, DAs K H v d → DAs K H' v d
  | _, _, .nil => .nil
  | _, _, .cons a b => .cons (DA.same s a) (DAs.same s b)
end
theorem DA.ty {K : PySem.W.Frag} {H : Hp} {v : V} {d : Dt} (h : DA K H v d) : TyX K H v (.type (tyN d)) := by
  cases h with
  | non => exact .base .non
  | bl b => exact .base (.bl b)
  | int i => exact .base (.int i)
  | str x => exact .base (.str x)
  | tup h _ => exact .base (.tup h)
  | lst h => exact .base (.lst h)
  | dct h => exact .base (.dK h)
mutual
def dOk : Dt → Prop
  | .str s => s.length ≤ sizeLine
  | .tup ds => dsOk ds
  | _ => True
def dsOk : List Dt → Prop
  | [] => True
  | d :: ds => dOk d ∧ dsOk ds
end
def isS : Dt → Bool | .str _ => true | _ => false
def isI : Dt → Bool | .int _ => true | .bl _ => true | _ => false
def isB : Dt → Bool | .bl _ => true | _ => false
def isT : Dt → Bool | .tup _ => true | _ => false
theorem kS {K : PySem.W.Frag} : ∀ d : Dt, PySem.W.kitOne K (.type (tyN d)) (.type "str") = some (isS d)
  | .non => kit_ty (show kitB "NoneType" "str" = some false by decide +kernel)
  | .bl _ => kit_ty (show kitB "bool" "str" = some false by decide +kernel)
  | .int _ => kit_ty (show kitB "int" "str" = some false by decide +kernel)
  | .str _ => kit_ty (show kitB "str" "str" = some true by decide +kernel)
  | .tup _ => kit_ty (show kitB "tuple" "str" = some false by decide +kernel)
  | .lst => kit_ty (show kitB "list" "str" = some false by decide +kernel)
  | .dct => kit_ty (show kitB "dict" "str" = some false by decide +kernel)
theorem kI {K : PySem.W.Frag} : ∀ d : Dt, PySem.W.kitOne K (.type (tyN d)) (.type "int") = some (isI d)
  | .non => kit_ty (show kitB "NoneType" "int" = some false by decide +kernel)
  | .bl _ => kit_ty (show kitB "bool" "int" = some true by decide +kernel)
  | .int _ => kit_ty (show kitB "int" "int" = some true by decide +kernel)
  | .str _ => kit_ty (show kitB "str" "int" = some false by decide +kernel)
  | .tup _ => kit_ty (show kitB "tuple" "int" = some false by decide +kernel)
  | .lst => kit_ty (show kitB "list" "int" = some false by decide +kernel)
  | .dct => kit_ty (show kitB "dict" "int" = some false by decide +kernel)
theorem kB {K : PySem.W.Frag} : ∀ d : Dt, PySem.W.kitOne K (.type (tyN d)) (.type "bool") = some (isB d)
  | .non => kit_ty (show kitB "NoneType" "bool" = some false by decide +kernel)
  | .bl _ => kit_ty (show kitB "bool" "bool" = some true by decide +kernel)
  | .int _ => kit_ty (show kitB "int" "bool" = some false by decide +kernel)
  | .str _ => kit_ty (show kitB "str" "bool" = some false by decide +kernel)
  | .tup _ => kit_ty (show kitB "tuple" "bool" = some false by decide +kernel)
  | .lst => kit_ty (show kitB "list" "bool" = some false by decide +kernel)
  | .dct => kit_ty (show kitB "dict" "bool" = some false by decide +kernel)
theorem kT {K : PySem.W.Frag} : ∀ d : Dt, PySem.W.kitOne K (.type (tyN d)) (.type "tuple") = some (isT d)
  | .non => kit_ty (show kitB "NoneType" "tuple" = some false by decide +kernel)
  | .bl _ => kit_ty (show kitB "bool" "tuple" = some false by decide +kernel)
  | .int _ => kit_ty (show kitB "int" "tuple" = some false by decide +kernel)
  | .str _ => kit_ty (show kitB "str" "tuple" = some false by decide +kernel)
  | .tup _ => kit_ty (show kitB "tuple" "tuple" = some true by decide +kernel)
  | .lst => kit_ty (show kitB "list" "tuple" = some false by decide +kernel)
  | .dct => kit_ty (show kitB "dict" "tuple" = some false by decide +kernel)
theorem same_upd {H : Hp} {p : Addr} {o : HO} (h : H p = none) : Same H (upd H p o) := fun b x e => by
  rw [upd_ne (ne_of_none e h)]
  exact e
/-! ### the mirror -/
def LT : Str := "abcdefghijklmnopqrstuvwxyz"
def LD : Str := "abcdefghijklmnopqrstuvwxyz0123456789"
def TEN30 : Int := 1000000000000000000000000000000
def made (s cs : Str) : Bool := s.cps.toList.all fun c => decide (c ∈ cs.cps.toList)
def spelled (s cs : Str) (l m : Int) : Bool := decide (l ≤ (s.length : Int)) && (decide ((s.length : Int) ≤ m) && made s cs)
def headIn (s cs : Str) : Bool := match s.cps[0]? with | some c => decide (c ∈ cs.cps.toList) | none => false
def dSpelled (d : Dt) (cs : Str) (l m : Int) : Bool := match d with | .str s => spelled s cs l m | _ => false
def dMark (d : Dt) : Bool := match d with | .str s => spelled s LD 1 8 && headIn s LT | _ => false
def dName (d : Dt) : Bool := dSpelled d LT 1 8
def dNum (d : Dt) : Bool := isI d && !isB d
def dPlain (d : Dt) : Bool := match d with | .int i => decide (-TEN30 < i) && decide (i < TEN30) | .str s => spelled s LD 0 20 | _ => false
def dPair (d : Dt) : Bool := match d with | .tup ds => decide (ds.length = 2) | _ => false
def dRef (d : Dt) : Bool := match d with | .tup [.str z, y] => decide (z = ("at" : Str)) && dMark y | _ => false
def dWorth (d : Dt) : Bool := dPlain d || dRef d
/-! ### the text by places -/
def top (i : Nat) : Stmt := PySem.Challenge.pw_samebytes_k01_marks_names_and_worths.main.body.getD i (.Pass ⟨0, 0, 0, 0⟩)
abbrev sMark : Stmt := top 6
abbrev sName : Stmt := top 7
abbrev sPlain : Stmt := top 8
abbrev sWorth : Stmt := top 9
abbrev sSpelled : Stmt := top 10
abbrev sNumber : Stmt := top 11
abbrev sPair : Stmt := top 12
abbrev sRefe : Stmt := top 13
abbrev sPool : Stmt := top 15
abbrev sDraw : Stmt := top 16
abbrev sText : Stmt := top 17
abbrev sMade : Stmt := top 18
abbrev sDue : Stmt := top 19
abbrev sRefs : Stmt := top 20
abbrev sLaw : Stmt := top 21
/-- what the top has of names -/
structure Txt (mg : Str → Option Value) : Prop where
  isi : mg "isinstance" = none
  str : mg "str" = none
  int : mg "int" = none
  bool : mg "bool" = none
  tuple : mg "tuple" = none
  len : mg "len" = none
  all : mg "all" = none
  abs : mg "abs" = none
  sum : mg "sum" = none
  min : mg "min" = none
  max : mg "max" = none
  range : mg "range" = none
  lt : ∃ t, mg "LETTERS" = some (.str LT t)
  ld : ∃ t, mg "LETTERS_AND_DIGITS" = some (.str LD t)
  lw : ∃ t, mg "LONGEST_WORD" = some (.int 8 t)
  lx : ∃ t, mg "LONGEST_TEXT" = some (.int 20 t)
  ft : ∃ t, mg "FIRST_TOO_GREAT" = some (.int TEN30 t)
theorem all_map {α : Type} (l : List α) (f : α → Bool) : (l.map f).all id = l.all f := by
  rw [List.all_map]; rfl
section
variable {P : Program} {w : World} {K : PySem.W.Frag} {mg : Str → Option Value} {base : Heap}
/-! ### is_spelled -/
def spSpelled (K : PySem.W.Frag) : Sp := fun vs H Q _ => ∃ (v : V) (d : Dt) (cs : Str) (l m : Int), vs = [v, .str cs, .int l, .int m] ∧ DA K H v d ∧ 0 ≤ m ∧ m ≤ 1000 ∧
  dOk d ∧ ∀ H', Same H H' → Q (.bl (dSpelled d cs l m)) H'
theorem scSp : FnScope ["value", "characters", "least", "most", "sign"] ["value", "characters", "least", "most"] (defScope sSpelled) := ⟨rfl, rfl, rfl, by decide +kernel, rfl, by decide +kernel, by decide +kernel⟩
theorem ok_spelled {f : Addr} {fd : FuncData} (F : Fun K "is_spelled" "is_spelled" sSpelled f fd) (T : Txt mg) : FnOk P w K mg base CX0 1 f fd ["value", "characters", "least", "most"] (spSpelled K) := by
  refine F.ok scSp (fun vs H Q E h => ?_) (fun cdv A outer s H vs Q E hr h => ?_)
  · obtain ⟨v, d, cs, l, m, rfl, _⟩ := h
    rfl
  · obtain ⟨v, d, cs, l, m, rfl, hd, hm0, hm1, hz, q⟩ := h
    refine ⟨_, pss_one (ps_ret (pe_and (pe_callB call_isi (by rfl) T.isi boot_isinstance (pa_cons (pv 0) (pa_cons (pe_bltn (v := .ty "str") (by rfl) T.str boot_str rfl) pa_nil)))
      (pe_and (pe_chain op_le op_le (pv 2) (pe_callB call_len_str (by rfl) T.len PySem.boot_len (pa_cons (pv 0) pa_nil)) (pv 3))
      (pe_one (pe_callB (cr_all rfl) (by rfl) T.all (by decide +kernel) (pa_cons
        (pe_lc (own := [("sign", 4)]) (g := gName 4) (tt := tYes) rfl scSp.nd (pi_str (pv 0)) (blkOk_by (N := ["value", "characters", "least", "most", "sign"]) (sc := defScope sSpelled) (by decide +kernel))
          (fun _ _ _ _ _ => pg_name (i := 4) scSp.nd rfl (Or.inl rfl)) (fun _ _ _ _ _ => pts_nil) (fun _ _ _ _ _ => pe_cmpR op_in_sign (pv 4) (pv 1) rfl)) pa_nil)))))), ?_⟩
    refine ⟨_, rfl, v, .ty "str", .type (tyN d), .type "str", isS d, rfl, .ty _, hd.ty, kS d, isS d, rfl, ?_⟩
    cases hd with
    | str z =>
      refine iteT ?_
      have hz' : z.length ≤ sizeLine := hz
      refine ⟨_, rfl, _, rfl, z, rfl, hz', l, (z.length : Int), rfl, rfl, decide (l ≤ (z.length : Int)), rfl, ?_⟩
      refine ite2 (fun e1 => ?_) (fun e1 => ?_)
      · refine ⟨_, rfl, (z.length : Int), m, rfl, rfl, decide ((z.length : Int) ≤ m), rfl, ?_⟩
        have e1' : decide (l ≤ (z.length : Int)) = true := e1
        refine ite2 (fun e2 => ?_) (fun e2 => ?_)
        · refine ⟨_, rfl, z, rfl, fun D hD => ?_⟩
          refine lc_it (walk_str (z := z)) (fun i H' => Same H H' ∧ H' D = some (.lst ((z.cps.toList.take i).map fun c => V.bl (decide (c ∈ cs.cps.toList)))) ) ?_ (fun _ _ _ _ => trivial) ?_ ?_
          · exact ⟨same_upd hD, by rw [upd_same]; rfl⟩
          · rintro i x H1 H2 hi ⟨s1, e3⟩ ⟨rfl, c, hc, rfl⟩
            refine ⟨rfl, ?_⟩
            refine ⟨_, rfl, _, rfl, c, cs, rfl, rfl, _, e3, ?_, ?_, ?_⟩
            · rw [List.length_map]
              have := (Int.ofNat_le.mp (show (z.length : Int) ≤ (1000 : Nat) from Int.le_trans (of_decide_eq_true e2) hm1))
              have hzl : z.length = z.cps.size := rfl
              refine small1000 (Nat.le_trans (List.length_take_le _ _) ?_)
              omega
            · exact fun b o e => by rw [upd_ne (ne_of_none e hD)]; exact s1 b o e
            · rw [upd_same]
              have hc' : z.cps.toList[i]? = some c := by rw [Array.getElem?_toList]; exact hc
              rw [List.take_add_one, hc', List.map_append]
              rfl
          · rintro H1 ⟨s1, e3⟩
            refine ⟨D, (z.cps.toList.take z.cps.size).map fun c => decide (c ∈ cs.cps.toList), rfl, SqL.of (by rw [e3, List.map_map]; rfl), ?_⟩
            rw [all_map, List.take_of_length_le (by rw [Array.length_toList]; exact Nat.le_refl _)]
            have er : dSpelled (.str z) cs l m = z.cps.toList.all fun c => decide (c ∈ cs.cps.toList) := by
              show (decide _ && (decide _ && made z cs)) = _
              rw [e1, e2]
              rfl
            rw [← er]
            exact q H1 s1
        · have er : dSpelled (.str z) cs l m = false := by
            show (decide _ && (decide _ && made z cs)) = _
            rw [Bool.eq_false_iff.mpr e2]
            simp
          have := q H (Same.refl H)
          rw [er] at this
          exact this
      · have er : dSpelled (.str z) cs l m = false := by
          show (decide _ && (decide _ && made z cs)) = _
          rw [Bool.eq_false_iff.mpr e1]
          simp
        have := q H (Same.refl H)
        rw [er] at this
        refine ⟨false, rfl, ?_⟩
        exact iteF this
    | _ => exact iteF (q H (Same.refl H))
end
end SB

set_option Elab.async false
set_option linter.all false
set_option maxRecDepth 100000
set_option maxHeartbeats 4000000
namespace SB
open PySem L2 PyProof.Rows
section
variable {P : Program} {w : World} {K : PySem.W.Frag} {mg : Str → Option Value} {base : Heap}
/-- a test of one value, whatever it is -/
def spP (K : PySem.W.Frag) (g : Dt → Bool) : Sp := fun vs H Q _ => ∃ (v : V) (d : Dt), vs = [v] ∧ DA K H v d ∧ dOk d ∧ ∀ H', Same H H' → Q (.bl (g d)) H'
theorem sc1 {st : Stmt} (h : FnScope ["value"] ["value"] (defScope st)) : FnScope ["value"] ["value"] (defScope st) := h
/-! ### is_number -/
theorem scNu : FnScope ["value"] ["value"] (defScope sNumber) := ⟨rfl, rfl, rfl, by decide +kernel, rfl, by decide +kernel, by decide +kernel⟩
theorem ok_number {f : Addr} {fd : FuncData} (F : Fun K "is_number" "is_number" sNumber f fd) (T : Txt mg) : FnOk P w K mg base CX0 1 f fd ["value"] (spP K dNum) := by
  refine F.ok scNu (fun vs H Q E h => ?_) (fun cdv A outer s H vs Q E hr h => ?_)
  · obtain ⟨v, d, rfl, _⟩ := h
    rfl
  · obtain ⟨v, d, rfl, hd, ho, q⟩ := h
    refine ⟨_, pss_one (ps_ret (pe_and (pe_callB call_isi (by rfl) T.isi boot_isinstance (pa_cons (pv 0) (pa_cons (pe_bltn (v := .ty "int") (by rfl) T.int boot_int rfl) pa_nil)))
      (pe_one (pe_not (pe_callB call_isi (by rfl) T.isi boot_isinstance (pa_cons (pv 0) (pa_cons (pe_bltn (v := .ty "bool") (by rfl) T.bool boot_bool rfl) pa_nil))))))), ?_⟩
    refine ⟨_, rfl, v, .ty "int", .type (tyN d), .type "int", isI d, rfl, .ty _, hd.ty, kI d, isI d, rfl, ?_⟩
    have q' := q H (Same.refl H)
    refine ite2 (fun e => ?_) (fun e => ?_)
    · refine ⟨_, rfl, v, .ty "bool", .type (tyN d), .type "bool", isB d, rfl, .ty _, hd.ty, kB d, isB d, rfl, ?_⟩
      unfold dNum at q'
      rw [e] at q'
      exact q'
    · unfold dNum at q'
      rw [Bool.eq_false_iff.mpr e] at q'
      exact q'
/-! ### is_pair -/
theorem scPr : FnScope ["value"] ["value"] (defScope sPair) := ⟨rfl, rfl, rfl, by decide +kernel, rfl, by decide +kernel, by decide +kernel⟩
theorem DAs.len {H : Hp} : ∀ {xs : List V} {ds : List Dt}, DAs K H xs ds → xs.length = ds.length
  | _, _, .nil => rfl
  | _, _, .cons _ t => by rw [List.length_cons, List.length_cons, DAs.len t]
theorem ok_pair {f : Addr} {fd : FuncData} (F : Fun K "is_pair" "is_pair" sPair f fd) (T : Txt mg) : FnOk P w K mg base CX0 1 f fd ["value"] (spP K dPair) := by
  refine F.ok scPr (fun vs H Q E h => ?_) (fun cdv A outer s H vs Q E hr h => ?_)
  · obtain ⟨v, d, rfl, _⟩ := h
    rfl
  · obtain ⟨v, d, rfl, hd, ho, q⟩ := h
    refine ⟨_, pss_one (ps_ret (pe_and (pe_callB call_isi (by rfl) T.isi boot_isinstance (pa_cons (pv 0) (pa_cons (pe_bltn (v := .ty "tuple") (by rfl) T.tuple boot_tuple rfl) pa_nil)))
      (pe_one (pe_cmpR op_eq (pe_callB call_len_seq (by rfl) T.len PySem.boot_len (pa_cons (pv 0) pa_nil)) pe_int (nomark _))))), ?_⟩
    refine ⟨_, rfl, v, .ty "tuple", .type (tyN d), .type "tuple", isT d, rfl, .ty _, hd.ty, kT d, isT d, rfl, ?_⟩
    have q' := q H (Same.refl H)
    cases hd with
    | @tup a xs ds h1 h2 =>
      refine iteT ?_
      refine ⟨_, rfl, a, xs, rfl, .inr (SqT.of h1), rfl, ?_⟩
      have e : decide (V.int (xs.length : Int) = V.int 2) = dPair (.tup ds) := by
        show _ = decide (ds.length = 2)
        rw [h2.len]
        by_cases z : ds.length = 2
        · rw [z]; rfl
        · rw [decide_eq_false z]
          exact decide_eq_false fun y => z (by have := V.int.inj y; omega)
      rw [e]
      exact q'
    | _ => exact iteF q'
/-! ### is_mark -/
theorem scMk : FnScope ["value"] ["value"] (defScope sMark) := ⟨rfl, rfl, rfl, by decide +kernel, rfl, by decide +kernel, by decide +kernel⟩
theorem ok_mark {f fS : Addr} {fd fdS : FuncData} (F : Fun K "is_mark" "is_mark" sMark f fd) (FS : Fun K "is_spelled" "is_spelled" sSpelled fS fdS) (bS : Binds K fdS ["value", "characters", "least", "most"] []) (gS : mg "is_spelled" = some (.ref fS)) (T : Txt mg) :
    FnOk P w K mg base CX0 2 f fd ["value"] (spP K dMark) := by
  have GS : FnOk P w K mg base CX0 1 fS fdS ["value", "characters", "least", "most"] (spSpelled K) := ok_spelled FS T
  obtain ⟨t1, g1⟩ := T.ld
  obtain ⟨t2, g2⟩ := T.lw
  obtain ⟨t3, g3⟩ := T.lt
  refine F.ok scMk (fun vs H Q E h => ?_) (fun cdv A outer s H vs Q E hr h => ?_)
  · obtain ⟨v, d, rfl, _⟩ := h
    rfl
  · obtain ⟨v, d, rfl, hd, ho, q⟩ := h
    refine ⟨_, pss_one (ps_ret (pe_and (pe_call GS hr (by rfl) gS FS.kp bS .nil pass0 (pa_cons (pv 0) (pa_cons (pe_glob (v := .str LD) (by rfl) g1 ⟨_, rfl⟩) (pa_cons pe_int (pa_cons (pe_glob (v := .int 8) (by rfl) g2 ⟨_, rfl⟩) pa_nil)))))
      (pe_one (pe_cmpR op_in_sign (pe_item_str (pv 0) pe_int (fun _ _ => rfl)) (pe_glob (v := .str LT) (by rfl) g3 ⟨_, rfl⟩) rfl)))), ?_⟩
    refine ⟨_, rfl, v, d, LD, 1, 8, rfl, hd, by decide, by decide, ho, fun H1 s1 => ⟨_, rfl, ?_⟩⟩
    have q' := q H1 s1
    cases hd with
    | str z =>
      refine ite2 (fun e => ?_) (fun e => ?_)
      · have hl : decide ((1 : Int) ≤ (z.length : Int)) = true := by
          have e' : (decide ((1 : Int) ≤ (z.length : Int)) && (decide ((z.length : Int) ≤ 8) && made z LD)) = true := e
          rw [Bool.and_eq_true] at e'
          exact e'.1
        have hl' := of_decide_eq_true hl
        have hzl : z.length = z.cps.size := rfl
        have h0 : 0 < z.cps.size := by omega
        refine ⟨_, rfl, z, 0, z.cps[0], rfl, rfl, Int.le_refl _, by decide, by omega, ?_, z.cps[0], LT, rfl, rfl, ?_⟩
        · exact Array.getElem?_eq_getElem h0
        · have e2 : dMark (.str z) = decide (z.cps[0] ∈ LT.cps.toList) := by
            show (spelled z LD 1 8 && headIn z LT) = _
            have e3 : spelled z LD 1 8 = true := e
            have e4 : headIn z LT = decide (z.cps[0] ∈ LT.cps.toList) := by
              unfold headIn
              rw [Array.getElem?_eq_getElem h0]
            rw [e3, e4]
            rfl
          rw [e2] at q'
          exact q'
      · have e2 : dMark (.str z) = false := by
          show (spelled z LD 1 8 && headIn z LT) = false
          have e3 : spelled z LD 1 8 = false := Bool.eq_false_iff.mpr e
          rw [e3]
          rfl
        rw [e2] at q'
        exact q'
    | _ => exact iteF q'
/-! ### is_name -/
theorem scNm : FnScope ["value"] ["value"] (defScope sName) := ⟨rfl, rfl, rfl, by decide +kernel, rfl, by decide +kernel, by decide +kernel⟩
theorem ok_name {f fS : Addr} {fd fdS : FuncData} (F : Fun K "is_name" "is_name" sName f fd) (FS : Fun K "is_spelled" "is_spelled" sSpelled fS fdS) (bS : Binds K fdS ["value", "characters", "least", "most"] []) (gS : mg "is_spelled" = some (.ref fS)) (T : Txt mg) :
    FnOk P w K mg base CX0 2 f fd ["value"] (spP K dName) := by
  have GS : FnOk P w K mg base CX0 1 fS fdS ["value", "characters", "least", "most"] (spSpelled K) := ok_spelled FS T
  obtain ⟨t2, g2⟩ := T.lw
  obtain ⟨t3, g3⟩ := T.lt
  refine F.ok scNm (fun vs H Q E h => ?_) (fun cdv A outer s H vs Q E hr h => ?_)
  · obtain ⟨v, d, rfl, _⟩ := h
    rfl
  · obtain ⟨v, d, rfl, hd, ho, q⟩ := h
    refine ⟨_, pss_one (ps_ret (pe_call GS hr (by rfl) gS FS.kp bS .nil pass0 (pa_cons (pv 0) (pa_cons (pe_glob (v := .str LT) (by rfl) g3 ⟨_, rfl⟩) (pa_cons pe_int (pa_cons (pe_glob (v := .int 8) (by rfl) g2 ⟨_, rfl⟩) pa_nil)))))), ?_⟩
    exact ⟨_, rfl, v, d, LT, 1, 8, rfl, hd, by decide, by decide, ho, fun H1 s1 => q H1 s1⟩
/-! ### is_plain -/
theorem scPl : FnScope ["value"] ["value"] (defScope sPlain) := ⟨rfl, rfl, rfl, by decide +kernel, rfl, by decide +kernel, by decide +kernel⟩
theorem ok_plain {f fS fN : Addr} {fd fdS fdN : FuncData} (F : Fun K "is_plain" "is_plain" sPlain f fd) (FS : Fun K "is_spelled" "is_spelled" sSpelled fS fdS) (bS : Binds K fdS ["value", "characters", "least", "most"] []) (gS : mg "is_spelled" = some (.ref fS))
    (FN : Fun K "is_number" "is_number" sNumber fN fdN) (bN : Binds K fdN ["value"] []) (gN : mg "is_number" = some (.ref fN)) (T : Txt mg) :
    FnOk P w K mg base CX0 2 f fd ["value"] (spP K dPlain) := by
  have GS : FnOk P w K mg base CX0 1 fS fdS ["value", "characters", "least", "most"] (spSpelled K) := ok_spelled FS T
  have GN : FnOk P w K mg base CX0 1 fN fdN ["value"] (spP K dNum) := ok_number FN T
  obtain ⟨t1, g1⟩ := T.ld
  obtain ⟨t2, g2⟩ := T.lx
  obtain ⟨t3, g3⟩ := T.ft
  refine F.ok scPl (fun vs H Q E h => ?_) (fun cdv A outer s H vs Q E hr h => ?_)
  · obtain ⟨v, d, rfl, _⟩ := h
    rfl
  · obtain ⟨v, d, rfl, hd, ho, q⟩ := h
    refine ⟨_, pss_cons (ps_if (pt_val (pe_call GN hr (by rfl) gN FN.kp bN .nil pass0 (pa_cons (pv 0) pa_nil)))
        (pss_one (ps_ret (pe_chain op_lt op_lt (pe_un un_neg (pe_glob (v := .int TEN30) (by rfl) g3 ⟨_, rfl⟩)) (pv 0) (pe_glob (v := .int TEN30) (by rfl) g3 ⟨_, rfl⟩)))) pss_nil)
      (pss_one (ps_ret (pe_call GS hr (by rfl) gS FS.kp bS .nil pass0 (pa_cons (pv 0) (pa_cons (pe_glob (v := .str LD) (by rfl) g1 ⟨_, rfl⟩) (pa_cons pe_int (pa_cons (pe_glob (v := .int 20) (by rfl) g2 ⟨_, rfl⟩) pa_nil))))))), ?_⟩
    refine ⟨_, rfl, v, d, rfl, hd, ho, fun H1 s1 => ⟨_, rfl, ?_⟩⟩
    have rest : dNum d = false → dPlain d = dSpelled d LD 0 20 := fun e => by
      cases d <;> first | rfl | (exact absurd e (by decide)) | cases e
    refine ite2 (fun e => ?_) (fun e => ?_)
    · cases hd with
      | int i =>
        refine ⟨TEN30, rfl, _, rfl, -TEN30, i, rfl, rfl, decide (-TEN30 < i), rfl, ?_⟩
        have q' : Q (.bl (decide (-TEN30 < i) && decide (i < TEN30))) H1 := q H1 s1
        refine ite2 (fun e1 => ?_) (fun e1 => ?_)
        · rw [e1] at q'
          exact ⟨i, TEN30, rfl, rfl, q'⟩
        · rw [Bool.eq_false_iff.mpr e1] at q'
          exact q'
      | _ => exact absurd (show false = true from e) Bool.false_ne_true
    · refine ⟨_, rfl, v, d, LD, 0, 20, rfl, hd.same s1, by decide, by decide, ho, fun H2 s2 => ?_⟩
      have q' := q H2 (s1.trans s2)
      rw [rest (Bool.eq_false_iff.mpr e)] at q'
      exact q'
/-! ### is_reference -/
theorem scRf : FnScope ["value"] ["value"] (defScope sRefe) := ⟨rfl, rfl, rfl, by decide +kernel, rfl, by decide +kernel, by decide +kernel⟩
theorem ok_refe {f fM fP fS : Addr} {fd fdM fdP fdS : FuncData} (F : Fun K "is_reference" "is_reference" sRefe f fd) (FS : Fun K "is_spelled" "is_spelled" sSpelled fS fdS) (bS : Binds K fdS ["value", "characters", "least", "most"] []) (gS : mg "is_spelled" = some (.ref fS))
    (FM : Fun K "is_mark" "is_mark" sMark fM fdM) (bM : Binds K fdM ["value"] []) (gM : mg "is_mark" = some (.ref fM)) (FP : Fun K "is_pair" "is_pair" sPair fP fdP) (bP : Binds K fdP ["value"] []) (gP : mg "is_pair" = some (.ref fP)) (T : Txt mg) :
    FnOk P w K mg base CX0 3 f fd ["value"] (spP K dRef) := by
  have GM : FnOk P w K mg base CX0 2 fM fdM ["value"] (spP K dMark) := ok_mark FM FS bS gS T
  have GP : FnOk P w K mg base CX0 1 fP fdP ["value"] (spP K dPair) := ok_pair FP T
  refine F.ok scRf (fun vs H Q E h => ?_) (fun cdv A outer s H vs Q E hr h => ?_)
  · obtain ⟨v, d, rfl, _⟩ := h
    rfl
  · obtain ⟨v, d, rfl, hd, ho, q⟩ := h
    refine ⟨_, pss_one (ps_ret (pe_and (pe_call GP (hr.mono (by decide)) (by rfl) gP FP.kp bP .nil pass0 (pa_cons (pv 0) pa_nil))
      (pe_and (pe_callB call_isi (by rfl) T.isi boot_isinstance (pa_cons (pe_ix ix_tup (pv 0) pe_int (fun _ _ => rfl)) (pa_cons (pe_bltn (v := .ty "str") (by rfl) T.str boot_str rfl) pa_nil)))
      (pe_and (pe_cmpR op_eq (pe_ix ix_tup (pv 0) pe_int (fun _ _ => rfl)) pe_str (nomark _))
      (pe_one (pe_call GM hr (by rfl) gM FM.kp bM .nil pass0 (pa_cons (pe_ix ix_tup (pv 0) pe_int (fun _ _ => rfl)) pa_nil))))))), ?_⟩
    refine ⟨_, rfl, v, d, rfl, hd, ho, fun H1 s1 => ⟨_, rfl, ?_⟩⟩
    have q' := q H1 s1
    have hd1 := hd.same s1
    refine ite2 (fun e => ?_) (fun e => ?_)
    · cases hd1 with
      | @tup a xs ds h1 h2 =>
        have el : ds.length = 2 := of_decide_eq_true e
        cases h2 with
        | nil => exact absurd el (by decide)
        | @cons x xr d1 dr k1 kr =>
          cases kr with
          | nil => exact absurd (show 1 = 2 from el) (by decide)
          | @cons y yr d2 dr2 k2 kr2 =>
            cases kr2 with
            | cons _ _ => exact absurd el (by rw [List.length_cons, List.length_cons, List.length_cons]; omega)
            | nil =>
              have o2 : dOk d2 := ho.2.1
              refine ⟨_, rfl, a, _, 0, x, rfl, rfl, SqT.of h1, atI_nat (j := 0) rfl, x, .ty "str", .type (tyN d1), .type "str", isS d1, rfl, .ty _, k1.ty, kS d1, isS d1, rfl, ?_⟩
              cases k1 with
              | str z =>
                refine iteT ?_
                refine ⟨_, rfl, a, _, 0, _, rfl, rfl, SqT.of h1, atI_nat (j := 0) rfl, rfl, _, rfl, ?_⟩
                have er : dRef (.tup [.str z, d2]) = (decide (z = ("at" : Str)) && dMark d2) := rfl
                rw [er] at q'
                refine ite2 (fun e3 => ?_) (fun e3 => ?_)
                · have e4 : z = ("at" : Str) := V.str.inj (of_decide_eq_true e3)
                  refine ⟨_, rfl, a, _, 1, y, rfl, rfl, SqT.of h1, atI_nat (j := 1) rfl, y, d2, rfl, k2, o2, fun H2 s2 => ?_⟩
                  have q2 := q H2 (s1.trans s2)
                  rw [er, decide_eq_true e4] at q2
                  exact q2
                · have e4 : ¬ z = ("at" : Str) := fun z' => e3 (decide_eq_true (congrArg V.str z'))
                  rw [decide_eq_false e4] at q'
                  exact q'
              | _ => exact iteF q'
      | _ => exact absurd (show false = true from e) Bool.false_ne_true
    · have er : dRef d = false := by
        cases d with
        | tup ds =>
          match ds with
          | [] => rfl
          | [a] => cases a <;> rfl
          | [_, _] => exact absurd rfl e
          | a :: _ :: _ :: _ => cases a <;> rfl
        | _ => rfl
      rw [er] at q'
      exact q'
/-! ### is_worth -/
theorem scWo : FnScope ["value"] ["value"] (defScope sWorth) := ⟨rfl, rfl, rfl, by decide +kernel, rfl, by decide +kernel, by decide +kernel⟩
theorem ok_worth {f fP fR : Addr} {fd fdP fdR : FuncData} (F : Fun K "is_worth" "is_worth" sWorth f fd) (kP : PySem.W.keepIn K (.ref fP) = true) (bP : Binds K fdP ["value"] []) (gP : mg "is_plain" = some (.ref fP)) (GP : FnOk P w K mg base CX0 2 fP fdP ["value"] (spP K dPlain))
    (kR : PySem.W.keepIn K (.ref fR) = true) (bR : Binds K fdR ["value"] []) (gR : mg "is_reference" = some (.ref fR)) (GR : FnOk P w K mg base CX0 3 fR fdR ["value"] (spP K dRef)) :
    FnOk P w K mg base CX0 4 f fd ["value"] (spP K dWorth) := by
  refine F.ok scWo (fun vs H Q E h => ?_) (fun cdv A outer s H vs Q E hr h => ?_)
  · obtain ⟨v, d, rfl, _⟩ := h
    rfl
  · obtain ⟨v, d, rfl, hd, ho, q⟩ := h
    refine ⟨_, pss_one (ps_ret (pe_or (pe_call GP (hr.mono (by decide)) (by rfl) gP kP bP .nil pass0 (pa_cons (pv 0) pa_nil)) (pe_one (pe_call GR hr (by rfl) gR kR bR .nil pass0 (pa_cons (pv 0) pa_nil))))), ?_⟩
    refine ⟨_, rfl, v, d, rfl, hd, ho, fun H1 s1 => ⟨_, rfl, ?_⟩⟩
    refine ite2 (fun e => ?_) (fun e => ?_)
    · have q' := q H1 s1
      unfold dWorth at q'
      rw [e] at q'
      exact q'
    · refine ⟨_, rfl, v, d, rfl, hd.same s1, ho, fun H2 s2 => ?_⟩
      have q' := q H2 (s1.trans s2)
      unfold dWorth at q'
      rw [Bool.eq_false_iff.mpr e] at q'
      exact q'
end
end SB

set_option Elab.async false
set_option linter.all false
set_option maxRecDepth 100000
set_option maxHeartbeats 4000000
namespace SB
open PySem L2 PyProof.Rows
section
variable {P : Program} {w : World} {K : PySem.W.Frag} {mg : Str → Option Value} {base : Heap}
/-! ### the law's pool of numbers, and a draw of it: bounds alone -/
def PoolAt (H : Hp) (p : Addr) : Prop := ∃ x y : Int, H p = some (.lst [.int x, .int y]) ∧ 0 ≤ x ∧ 0 ≤ y ∧ y < 2147483648
theorem emod_pos {a b : Int} (h : 0 < b) : 0 ≤ a % b ∧ a % b < b := ⟨Int.emod_nonneg a (by omega), Int.emod_lt_of_pos a h⟩
theorem cut_map (ns : List Int) (lo hi : Option Int) : ∃ ms : List Int, cutV (ns.map V.int) lo hi = ms.map V.int := by
  unfold cutV
  rw [← List.map_drop, ← List.map_take]
  exact ⟨_, rfl⟩
def spPool (K : PySem.W.Frag) : Sp := fun vs H Q _ => ∃ (a : Addr) (ns : List Int) (k : Nat), vs = [.ref a, .int (k : Int)] ∧ SqL K H a (ns.map V.int) ∧ k ≤ 1000 ∧
  ∀ H' p, Same H H' → H p = none → PoolAt H' p → Q (.ref p) H'
theorem scPo : FnScope ["_law_script", "_law_k", "_law_cell", "_law_great", "_law_small", "_law_mixed"] ["_law_script", "_law_k"] (defScope sPool) := ⟨rfl, rfl, rfl, by decide +kernel, rfl, by decide +kernel, by decide +kernel⟩
theorem ok_pool {f : Addr} {fd : FuncData} (F : Fun K "_law_pool" "_law_pool" sPool f fd) (T : Txt mg) : FnOk P w K mg base CX0 1 f fd ["_law_script", "_law_k"] (spPool K) := by
  refine F.ok scPo (fun vs H Q E h => ?_) (fun cdv A outer s H vs Q E hr h => ?_)
  · obtain ⟨a, ns, k, rfl, _⟩ := h
    rfl
  · obtain ⟨a, ns, k, rfl, hS, hk, q⟩ := h
    refine ⟨_, pss_cons (ps_set (i := 2) scPo.nd rfl (Or.inl rfl) (pe_op op_add (pe_op op_mul pe_int (pe_callB (cr_sum rfl) (by rfl) T.sum boot_sum (pa_cons (pe_slice sl_list (pv 0) po_none (po_some pe_int)) pa_nil))) (pv 1)))
      (pss_cons (ps_if (pt_cmpR op_lt (pv 1) (pe_callB call_len_seq (by rfl) T.len PySem.boot_len (pa_cons (pv 0) pa_nil)) (nomark _)) (pss_one (ps_set (i := 2) scPo.nd rfl (Or.inl rfl) (pe_ix ix_list (pv 0) (pv 1) (fun _ _ => rfl)))) pss_nil)
      (pss_cons (ps_set (i := 3) scPo.nd rfl (Or.inl rfl) (pe_callB call_abs (by rfl) T.abs boot_abs (pa_cons (pe_callTy call_int1 (by rfl) T.int boot_int (pa_cons (pv 2) pa_nil)) pa_nil)))
      (pss_cons (ps_set (i := 4) scPo.nd rfl (Or.inl rfl) (pe_op op_mod (pe_callTy call_int1 (by rfl) T.int boot_int (pa_cons (pv 3) pa_nil)) pe_int))
      (pss_cons (ps_set (i := 5) scPo.nd rfl (Or.inl rfl) (pe_op op_mod (pe_callTy call_int1 (by rfl) T.int boot_int (pa_cons
          (pe_op op_mul (pe_op op_add (pe_op op_add (pe_op op_add (pv 4) (pe_op op_mul (pe_op op_mul pe_int (pv 1)) (pv 1))) (pe_op op_mul pe_int (pv 1))) pe_int) pe_int) pa_nil)) pe_int))
      (pss_one (ps_ret (pe_lst (pa_cons (pe_op op_mul (pv 3) (pe_callTy call_int1 (by rfl) T.int boot_int (pa_cons (pe_cmpR op_ge (pv 3) (pe_op op_pow pe_int pe_int) (nomark _)) pa_nil)))
        (pa_cons (pe_op op_mod (pe_callTy call_int1 (by rfl) T.int boot_int (pa_cons (pe_op op_mul (pv 5) (pv 5)) pa_nil)) pe_int) pa_nil))))))))), ?_⟩
    refine ⟨.ref a, rfl, 63, rfl, a, ns.map V.int, rfl, hS, fun c hc => ?_⟩
    obtain ⟨ms, em⟩ := cut_map ns none (some 63)
    refine ⟨c, ms, rfl, SqL.of (by rw [upd_same, em]), 11, ms.sum, rfl, rfl, .inl ⟨by decide, by decide⟩, _, rfl, _, _, rfl, rfl, ?_⟩
    have s1 : Same H (upd H c (.lst (cutV (ns.map V.int) none (some 63)))) := same_upd hc
    refine ⟨_, rfl, _, rfl, a, ns.map V.int, rfl, .inl (s1.seq hS), (k : Int), _, rfl, rfl, _, rfl, ?_⟩
    have k1 : (k : Int) ≤ 1000 := by omega
    have k0 : (0 : Int) ≤ (k : Int) := by omega
    refine ite2 (fun e => ?_) (fun e => ?_)
    · have hl : k < ns.length := by
        have := of_decide_eq_true e
        rw [List.length_map] at this
        omega
      refine ⟨_, rfl, _, rfl, a, ns.map V.int, (k : Int), .int ns[k], rfl, rfl, s1.seq hS, atI_nat (by rw [List.getElem?_map, List.getElem?_eq_getElem hl]; rfl), ?_⟩
      refine ⟨_, rfl, .inl ⟨_, rfl, _, rfl, ?_⟩⟩
      generalize hg : (if ns[k] < 0 then -ns[k] else ns[k]) = g
      have g0 : 0 ≤ g := by rw [← hg]; split <;> omega
      refine ⟨_, rfl, .inl ⟨_, rfl, _, _, rfl, rfl, (by show (0 : Int) < 2147483629; decide), ?_⟩⟩
      refine ⟨_, rfl, _, rfl, _, _, rfl, rfl, .inl ⟨by decide, by decide⟩, _, rfl, _, _, rfl, rfl, .inr ⟨by omega, by omega⟩, _, _, rfl, rfl, _, rfl, _, _, rfl, rfl, .inl ⟨by decide, by decide⟩, _, _, rfl, rfl, _, _, rfl, rfl, _, _, rfl, rfl, .inr ⟨by decide, by decide⟩,
        .inl ⟨_, rfl, _, _, rfl, rfl, (by show (0 : Int) < 2147483647; decide), ?_⟩⟩
      have hm := emod_pos (a := (g % 2147483629 + 7919 * ↑k * ↑k + 31 * ↑k + 17) * 48271) (b := 2147483647) (by decide)
      refine ⟨_, rfl, _, rfl, _, _, rfl, rfl, ⟨by decide, by decide, by decide⟩, _, _, rfl, rfl, .inr ⟨_, rfl, _, _, rfl, rfl, .inr ⟨by split <;> decide, by split <;> decide⟩, _, rfl, _, rfl, _, _, rfl, rfl, .inl ⟨by omega, by omega⟩,
        .inl ⟨_, rfl, _, _, rfl, rfl, (by show (0 : Int) < 2147483629; decide), (by show 2 ≤ sizeLine; decide), fun p hp => ?_⟩⟩⟩
      refine q _ p (s1.trans (same_upd hp)) (s1.free hp) ⟨_, _, upd_same, Int.mul_nonneg g0 (by split <;> decide), (emod_pos (by decide)).1, Int.lt_trans (emod_pos (by decide)).2 (by decide)⟩
    · refine ⟨_, rfl, .inl ⟨_, rfl, _, rfl, ?_⟩⟩
      generalize hg : (if 11 * ms.sum + ↑k < 0 then -(11 * ms.sum + ↑k) else 11 * ms.sum + ↑k) = g
      have g0 : 0 ≤ g := by rw [← hg]; split <;> omega
      refine ⟨_, rfl, .inl ⟨_, rfl, _, _, rfl, rfl, (by show (0 : Int) < 2147483629; decide), ?_⟩⟩
      refine ⟨_, rfl, _, rfl, _, _, rfl, rfl, .inl ⟨by decide, by decide⟩, _, rfl, _, _, rfl, rfl, .inr ⟨by omega, by omega⟩, _, _, rfl, rfl, _, rfl, _, _, rfl, rfl, .inl ⟨by decide, by decide⟩, _, _, rfl, rfl, _, _, rfl, rfl, _, _, rfl, rfl, .inr ⟨by decide, by decide⟩,
        .inl ⟨_, rfl, _, _, rfl, rfl, (by show (0 : Int) < 2147483647; decide), ?_⟩⟩
      have hm := emod_pos (a := (g % 2147483629 + 7919 * ↑k * ↑k + 31 * ↑k + 17) * 48271) (b := 2147483647) (by decide)
      refine ⟨_, rfl, _, rfl, _, _, rfl, rfl, ⟨by decide, by decide, by decide⟩, _, _, rfl, rfl, .inr ⟨_, rfl, _, _, rfl, rfl, .inr ⟨by split <;> decide, by split <;> decide⟩, _, rfl, _, rfl, _, _, rfl, rfl, .inl ⟨by omega, by omega⟩,
        .inl ⟨_, rfl, _, _, rfl, rfl, (by show (0 : Int) < 2147483629; decide), (by show 2 ≤ sizeLine; decide), fun p hp => ?_⟩⟩⟩
      refine q _ p (s1.trans (same_upd hp)) (s1.free hp) ⟨_, _, upd_same, Int.mul_nonneg g0 (by split <;> decide), (emod_pos (by decide)).1, Int.lt_trans (emod_pos (by decide)).2 (by decide)⟩
/-! ### a draw -/
def spDraw : Sp := fun vs H Q _ => ∃ (p : Addr) (n : Int), vs = [.ref p, .int n] ∧ PoolAt H p ∧ 0 < n ∧ n < 1073741824 ∧
  ∀ (c x y : Int), 0 ≤ c → c < n → 0 ≤ x → 0 ≤ y → y < 2147483648 → Q (.int c) (upd H p (.lst [.int x, .int y]))
theorem scDr : FnScope ["_law_pool_here", "_law_many", "_law_found"] ["_law_pool_here", "_law_many"] (defScope sDraw) := ⟨rfl, rfl, rfl, by decide +kernel, rfl, by decide +kernel, by decide +kernel⟩
theorem fmod_b {a b : Int} (hb : 0 < b) : 0 ≤ a.fmod b ∧ a.fmod b < b := ⟨Int.fmod_nonneg_of_pos a hb, Int.fmod_lt_of_pos a hb⟩
theorem ok_draw {f : Addr} {fd : FuncData} (F : Fun K "_law_draw" "_law_draw" sDraw f fd) (T : Txt mg) : FnOk P w K mg base CX0 1 f fd ["_law_pool_here", "_law_many"] spDraw := by
  refine F.ok scDr (fun vs H Q E h => ?_) (fun cdv A outer s H vs Q E hr h => ?_)
  · obtain ⟨p, n, rfl, _⟩ := h
    rfl
  · obtain ⟨p, n, rfl, ⟨x, y, hp, hx, hy, hy2⟩, n0, n1, q⟩ := h
    refine ⟨_, pss_cons (ps_if (pt_cmpR op_gt (pe_ix ix_list (pv 0) pe_int (fun _ _ => rfl)) pe_int (nomark _))
        (pss_cons (ps_set (i := 2) scDr.nd rfl (Or.inl rfl) (pe_op op_modN (pe_callTy call_int1 (by rfl) T.int boot_int (pa_cons (pe_ix ix_list (pv 0) pe_int (fun _ _ => rfl)) pa_nil)) (pv 1)))
        (pss_cons (ps_asg (pe_op op_fdivN (pe_ix ix_list (pv 0) pe_int (fun _ _ => rfl)) (pv 1)) (pg_sub (pv 0) pe_int set_list))
        (pss_one (ps_ret (pv 2))))) pss_nil)
      (pss_cons (ps_asg (pe_op op_mod (pe_callTy call_int1 (by rfl) T.int boot_int (pa_cons (pe_op op_add (pe_op op_mul (pe_ix ix_list (pv 0) pe_int (fun _ _ => rfl)) pe_int) pe_int) pa_nil)) pe_int) (pg_sub (pv 0) pe_int set_list))
      (pss_one (ps_ret (pe_op op_modN (pe_callTy call_int1 (by rfl) T.int boot_int (pa_cons
        (pe_op op_fdiv (pe_op op_mod (pe_callTy call_int1 (by rfl) T.int boot_int (pa_cons (pe_op op_mul (pe_ix ix_list (pv 0) pe_int (fun _ _ => rfl)) (pe_ix ix_list (pv 0) pe_int (fun _ _ => rfl))) pa_nil)) pe_int) pe_int) pa_nil)) (pv 1))))), ?_⟩
    refine ⟨_, rfl, p, _, 0, .int x, rfl, rfl, SqL.of hp, atI_nat (j := 0) rfl, x, 0, rfl, rfl, _, rfl, ?_⟩
    refine ite2 (fun e => ?_) (fun e => ?_)
    · refine ⟨_, rfl, p, _, 0, .int x, rfl, rfl, SqL.of hp, atI_nat (j := 0) rfl, .inl ⟨_, rfl, _, rfl, x, n, rfl, rfl, (by show n ≠ 0; omega), ?_⟩⟩
      refine ⟨_, rfl, p, _, 0, .int x, rfl, rfl, SqL.of hp, atI_nat (j := 0) rfl, _, rfl, x, n, rfl, rfl, (by show n ≠ 0 ∧ n.natAbs < 1073741824; omega), ?_⟩
      refine ⟨_, rfl, p, _, 0, 0, rfl, rfl, hp, rfl, _, rfl, ?_⟩
      have f1 := fmod_b (a := x) n0
      exact q _ _ y f1.1 f1.2 (Int.fdiv_nonneg hx (by omega)) hy hy2
    · refine ⟨_, rfl, p, _, 1, .int y, rfl, rfl, SqL.of hp, atI_nat (j := 1) rfl, y, 48271, rfl, rfl, .inr ⟨by decide, by decide⟩, _, _, rfl, rfl, .inl ⟨_, rfl, _, _, rfl, rfl, (by show (0 : Int) < 2147483647; decide), ?_⟩⟩
      have hm := emod_pos (a := y * 48271 + 11) (b := 2147483647) (by decide)
      refine ⟨_, rfl, p, _, 1, 1, rfl, rfl, hp, rfl, ?_⟩
      have hp2 : upd H p (.lst [.int x, .int ((y * 48271 + 11) % 2147483647)]) p = some (.lst [.int x, .int ((y * 48271 + 11) % 2147483647)]) := upd_same
      refine ⟨_, rfl, p, _, 1, .int ((y * 48271 + 11) % 2147483647), rfl, rfl, SqL.of hp2, atI_nat (j := 1) rfl, _, rfl, p, _, 1, .int ((y * 48271 + 11) % 2147483647), rfl, rfl, SqL.of hp2, atI_nat (j := 1) rfl, ((y * 48271 + 11) % 2147483647), ((y * 48271 + 11) % 2147483647), rfl, rfl, .inl ⟨by omega, by omega⟩,
        .inl ⟨_, rfl, _, _, rfl, rfl, (by show (0 : Int) < 2147483629; decide), _, _, rfl, rfl, ⟨by decide, by decide⟩, .inl ⟨_, rfl, _, rfl, _, n, rfl, rfl, (by show n ≠ 0; omega), ?_⟩⟩⟩
      have f1 := fmod_b (a := ((y * 48271 + 11) % 2147483647) * ((y * 48271 + 11) % 2147483647) % 2147483629 / 16) n0
      exact q _ _ ((y * 48271 + 11) % 2147483647) f1.1 f1.2 hx hm.1 (by omega)
end
end SB

set_option Elab.async false
set_option linter.all false
set_option maxRecDepth 100000
set_option maxHeartbeats 4000000
namespace SB
open PySem L2 PyProof.Rows
section
variable {P : Program} {w : World} {K : PySem.W.Frag} {mg : Str → Option Value} {base : Heap}
/-! ### data that is compared -/
theorem DpAll.bls {H : Hp} : ∀ bs : List Bool, DpAll K H (bs.map V.bl) (bs.map PyData.bool)
  | [] => .nil
  | b :: r => .cons (.bl b) (DpAll.bls r)
theorem DpAll.strs {H : Hp} : ∀ bs : List Str, DpAll K H (bs.map V.str) (bs.map PyData.str)
  | [] => .nil
  | b :: r => .cons (.str b) (DpAll.strs r)
theorem lay_bls : ∀ bs : List Bool, PyData.canLayAll0 (bs.map PyData.bool) = true
  | [] => rfl
  | _ :: r => lay_bls r
theorem depth_bls : ∀ bs : List Bool, PyData.depthAll (bs.map PyData.bool) = 0
  | [] => rfl
  | _ :: r => by
    show max 0 (PyData.depthAll (r.map PyData.bool)) = 0
    rw [depth_bls r]
    rfl
theorem shaped_bls (bs : List Bool) : SeqAt.shaped (.list (bs.map PyData.bool)) = true := by
  unfold SeqAt.shaped
  rw [show PyData.canLay0 (.list (bs.map PyData.bool)) = true from lay_bls bs, show PyData.depth (.list (bs.map PyData.bool)) = 1 from congrArg (· + 1) (depth_bls bs)]
  rfl
theorem lay_strs : ∀ bs : List Str, (∀ b ∈ bs, PyData.strOk b = true) → PyData.canLayAll0 (bs.map PyData.str) = true
  | [], _ => rfl
  | b :: r, h => by
    show (PyData.strOk b && PyData.canLayAll0 (r.map PyData.str)) = true
    rw [h b List.mem_cons_self, lay_strs r fun c hc => h c (List.mem_cons_of_mem _ hc)]
    rfl
theorem depth_strs : ∀ bs : List Str, PyData.depthAll (bs.map PyData.str) = 0
  | [] => rfl
  | _ :: r => by
    show max 0 (PyData.depthAll (r.map PyData.str)) = 0
    rw [depth_strs r]
    rfl
theorem shaped_strs (bs : List Str) (h : ∀ b ∈ bs, PyData.strOk b = true) : SeqAt.shaped (.list (bs.map PyData.str)) = true := by
  unfold SeqAt.shaped
  rw [show PyData.canLay0 (.list (bs.map PyData.str)) = true from lay_strs bs h, show PyData.depth (.list (bs.map PyData.str)) = 1 from congrArg (· + 1) (depth_strs bs)]
  rfl
theorem eqv_bls : ∀ as bs : List Bool, PyData.eqvAll (as.map PyData.bool) (bs.map PyData.bool) = decide (as = bs)
  | [], [] => rfl
  | a :: r, [] => rfl
  | [], b :: r => rfl
  | a :: r, b :: q => by
    show ((a == b) && PyData.eqvAll (r.map PyData.bool) (q.map PyData.bool)) = _
    rw [eqv_bls r q]
    cases a <;> cases b <;> simp
/-! ### _law_is_made -/
def txtOk (z : Str) : Prop := z.length ≤ 1000 ∧ ∀ c ∈ z.cps.toList, c < 128
def spMade (K : PySem.W.Frag) : Sp := fun vs H Q _ => ∃ (z cs : Str), vs = [.str z, .str cs] ∧ txtOk z ∧ ∀ H', Same H H' → Q (.bl (made z cs)) H'
theorem scMa : FnScope ["_law_text_here", "_law_signs", "_law_sign"] ["_law_text_here", "_law_signs"] (defScope sMade) := ⟨rfl, rfl, rfl, by decide +kernel, rfl, by decide +kernel, by decide +kernel⟩
def outs (z cs : Str) (i : Nat) : List Str := ((z.cps.toList.take i).filter fun c => !decide (c ∈ cs.cps.toList)).map fun c => ⟨#[c]⟩
theorem ok_made {f : Addr} {fd : FuncData} (F : Fun K "_law_is_made" "_law_is_made" sMade f fd) (T : Txt mg) : FnOk P w K mg base CX0 1 f fd ["_law_text_here", "_law_signs"] (spMade K) := by
  refine F.ok scMa (fun vs H Q E h => ?_) (fun cdv A outer s H vs Q E hr h => ?_)
  · obtain ⟨z, cs, rfl, _⟩ := h
    rfl
  · obtain ⟨z, cs, rfl, ⟨hz, hc⟩, q⟩ := h
    refine ⟨_, pss_one (ps_ret (pe_cmpR (op_eqD hr.units)
        (pe_lc (own := [("_law_sign", 2)]) (g := gName 2) rfl scMa.nd (pi_str (pv 0)) (blkOk_by (N := ["_law_text_here", "_law_signs", "_law_sign"]) (sc := defScope sMade) (by decide +kernel))
          (fun _ _ _ _ _ => pg_name (i := 2) scMa.nd rfl (Or.inl rfl)) (fun _ _ _ _ _ => pts_one (pt_cmpR op_notIn_sign (pv 2) (pv 1) rfl)) (fun _ _ _ _ _ => pv 2)) (pe_lst pa_nil) (nomark _))), ?_⟩
    have hzl : z.length = z.cps.size := rfl
    refine ⟨_, rfl, z, rfl, fun D hD => ?_⟩
    refine lc_it (walk_str (z := z)) (fun i H' => Same H H' ∧ H' D = some (.lst ((outs z cs i).map V.str))) ⟨same_upd hD, by rw [upd_same]; rfl⟩ (fun _ _ _ _ => trivial) ?_ ?_
    · rintro i x H1 H2 hi ⟨s1, e3⟩ ⟨rfl, c, hc1, rfl⟩
      have hc' : z.cps.toList[i]? = some c := by rw [Array.getElem?_toList]; exact hc1
      refine ⟨rfl, _, rfl, _, rfl, c, cs, rfl, rfl, _, rfl, ?_⟩
      refine ite2 (fun e => ?_) (fun e => ?_)
      · refine ⟨_, rfl, _, e3, ?_, ?_, ?_⟩
        · rw [List.length_map]
          unfold outs
          rw [List.length_map]
          refine small1000 (Nat.le_trans (List.length_filter_le _ _) (Nat.le_trans (List.length_take_le _ _) ?_))
          omega
        · exact fun b o e => by rw [upd_ne (ne_of_none e hD)]; exact s1 b o e
        · rw [upd_same]
          have eo : outs z cs (i + 1) = outs z cs i ++ [⟨#[c]⟩] := by
            unfold outs
            rw [List.take_add_one, hc', List.filter_append, List.map_append]
            have ef : [c].filter (fun c => !decide (c ∈ cs.cps.toList)) = [c] := by
              rw [List.filter_cons_of_pos (p := fun c => !decide (c ∈ cs.cps.toList)) e]
              rfl
            show _ ++ List.map _ ([c].filter (fun c => !decide (c ∈ cs.cps.toList))) = _
            rw [ef]
            rfl
          rw [eo, List.map_append]
          rfl
      · refine ⟨s1, ?_⟩
        have eo : outs z cs (i + 1) = outs z cs i := by
          unfold outs
          rw [List.take_add_one, hc', List.filter_append, List.map_append]
          have ef : [c].filter (fun c => !decide (c ∈ cs.cps.toList)) = [] := by
            rw [List.filter_cons_of_neg (p := fun c => !decide (c ∈ cs.cps.toList)) e]
            rfl
          show _ ++ List.map _ ([c].filter (fun c => !decide (c ∈ cs.cps.toList))) = _
          rw [ef]
          show _ ++ [] = _
          rw [List.append_nil]
        rw [eo]
        exact e3
    · rintro H1 ⟨s1, e3⟩
      refine ⟨Nat.zero_le _, fun p hp => ?_⟩
      have eD : upd H1 p (.lst []) D = some (.lst ((outs z cs z.cps.size).map V.str)) := by rw [upd_ne (ne_of_none e3 hp)]; exact e3
      refine ⟨.list ((outs z cs z.cps.size).map PyData.str), .list [], .lst (SqL.of eD) (DpAll.strs _), .lst (SqL.of upd_same) .nil, shaped_strs _ ?_, rfl, ?_⟩
      · intro b hb
        unfold outs at hb
        obtain ⟨c, hc1, rfl⟩ := List.mem_map.mp hb
        have h1 := (List.mem_of_mem_take (List.mem_filter.mp hc1).1)
        have h2 := hc c h1
        show (#[c] : Array Nat).all (fun x => decide (x < 0x110000)) = true
        simp
        omega
      · have er : PyData.eqv (.list ((outs z cs z.cps.size).map PyData.str)) (.list []) = made z cs := by
          show PyData.eqvAll _ [] = _
          unfold outs made
          rw [List.take_of_length_le (by rw [Array.length_toList]; exact Nat.le_refl _)]
          rw [Bool.eq_iff_iff, List.all_eq_true]
          constructor
          · intro h c hc
            cases hf : z.cps.toList.filter (fun c => !decide (c ∈ cs.cps.toList)) with
            | nil =>
              have := List.filter_eq_nil_iff.mp hf c hc
              simpa using this
            | cons a r =>
              rw [hf] at h
              exact absurd (show false = true from h) Bool.false_ne_true
          · intro h
            have : z.cps.toList.filter (fun c => !decide (c ∈ cs.cps.toList)) = [] := List.filter_eq_nil_iff.mpr fun c hc => by simpa using h c hc
            rw [this]
            rfl
        rw [er]
        exact q _ (s1.trans (same_upd hp))
end
end SB

set_option Elab.async false
set_option linter.all false
set_option maxRecDepth 100000
set_option maxHeartbeats 4000000
namespace SB
open PySem L2 PyProof.Rows
/-- x is not True, x is not False: x an int or a truth value -/
def rNotK : R2 := fun x y H Q => ∃ b : Bool, y = .bl b ∧ ((∃ i, x = .int i ∧ Q (.bl true) H) ∨ ∃ a, x = .bl a ∧ Q (.bl (!decide (a = b))) H)
theorem op_notK {X : Cx} : OpR X (compareOp .IsNot) rNotK := by
  intro pins s σ H x y v u Q I rx ry h
  obtain ⟨b, rfl, h | h⟩ := h
  · obtain ⟨i, rfl, q⟩ := h
    cases (show u = Value.bool b from ry)
    obtain ⟨t, rfl⟩ := (show ∃ t, v = Value.int i t from rx)
    exact PySem.wpAny_isNot_other rfl (fun z => nomatch z) ⟨.bl true, H, I, rfl, q⟩
  · obtain ⟨a, rfl, q⟩ := h
    exact op_notBl pins s σ H _ _ v u Q I rx ry ⟨a, b, rfl, rfl, q⟩
section
variable {P : Program} {w : World} {K : PySem.W.Frag} {mg : Str → Option Value} {base : Heap}
/-! ### _law_due -/
mutual
def dT : Dt → Prop
  | .str s => txtOk s
  | .tup ds => dsT ds
  | _ => True
def dsT : List Dt → Prop
  | [] => True
  | d :: ds => dT d ∧ dsT ds
end
mutual
theorem dT.ok : ∀ {d : Dt}, dT d → dOk d
  | .str s, h => Nat.le_of_lt (small1000 h.1)
  | .tup ds, h => dsT.ok h
  | .non, _ => trivial
  | .bl _, _ => trivial
  | .int _, _ => trivial
  | .lst, _ => trivial
  | .dct, _ => trivial
theorem dsT.ok : ∀ {ds : List Dt}, dsT ds → dsOk ds
  | [], _ => trivial
  | _ :: _, h => ⟨dT.ok h.1, dsT.ok h.2⟩
end
def DueAt (H : Hp) (p : Addr) (d : Dt) : Prop := H p = some (.lst [.bl (dMark d), .bl (dName d), .bl (dPlain d)])
def spDue (K : PySem.W.Frag) : Sp := fun vs H Q _ => ∃ (v : V) (d : Dt), vs = [v] ∧ DA K H v d ∧ dT d ∧ ∀ H' p, Same H H' → DueAt H' p d → Q (.ref p) H'
theorem scDu : FnScope ["_law_thing", "_law_letters", "_law_digits", "_law_both", "_law_short", "_law_mark"] ["_law_thing"] (defScope sDue) := ⟨rfl, rfl, rfl, by decide +kernel, rfl, by decide +kernel, by decide +kernel⟩
def DG : Str := "0123456789"
theorem ltdg : LT ++ DG = LD := by decide +kernel
theorem ten30 : (10 : Int) ^ (30 : Int).toNat = TEN30 := by decide +kernel
def short (z : Str) : Bool := decide ((1 : Int) ≤ (z.length : Int)) && decide ((z.length : Int) ≤ 8)
theorem due_mark (z : Str) : dMark (.str z) = (short z && (made z LD && headIn z LT)) := by
  show (decide _ && (decide _ && made z LD) && headIn z LT) = _
  unfold short
  cases decide ((1 : Int) ≤ (z.length : Int)) <;> cases decide ((z.length : Int) ≤ 8) <;> cases made z LD <;> rfl
theorem due_name (z : Str) : dName (.str z) = (short z && made z LT) := by
  show (decide _ && (decide _ && made z LT)) = _
  unfold short
  cases decide ((1 : Int) ≤ (z.length : Int)) <;> cases decide ((z.length : Int) ≤ 8) <;> rfl
theorem due_plain (z : Str) : dPlain (.str z) = (made z LD && decide ((z.length : Int) ≤ 20)) := by
  show (decide ((0 : Int) ≤ (z.length : Int)) && (decide ((z.length : Int) ≤ 20) && made z LD)) = _
  rw [decide_eq_true (show (0 : Int) ≤ (z.length : Int) by omega)]
  cases decide ((z.length : Int) ≤ 20) <;> cases made z LD <;> rfl
theorem ok_due {f fM : Addr} {fd fdM : FuncData} (F : Fun K "_law_due" "_law_due" sDue f fd) (FM : Fun K "_law_is_made" "_law_is_made" sMade fM fdM) (bM : Binds K fdM ["_law_text_here", "_law_signs"] []) (gM : mg "_law_is_made" = some (.ref fM)) (T : Txt mg) :
    FnOk P w K mg base CX0 2 f fd ["_law_thing"] (spDue K) := by
  have GM : FnOk P w K mg base CX0 1 fM fdM ["_law_text_here", "_law_signs"] (spMade K) := ok_made FM T
  refine F.ok scDu (fun vs H Q E h => ?_) (fun cdv A outer s H vs Q E hr h => ?_)
  · obtain ⟨v, d, rfl, _⟩ := h
    rfl
  · obtain ⟨v, d, rfl, hd, ho, qq⟩ := h
    refine ⟨_, pss_cons (ps_asg (pe_tup (pa_cons (pe_str (x := LT)) (pa_cons (pe_str (x := DG)) pa_nil))) (pg_tup (by rfl) (pgs_cons (pg_name (i := 1) scDu.nd rfl (Or.inl rfl)) (pgs_cons (pg_name (i := 2) scDu.nd rfl (Or.inl rfl)) pgs_nil))))
      (pss_cons (ps_if (pt_val (pe_callB call_isi (by rfl) T.isi boot_isinstance (pa_cons (pv 0) (pa_cons (pe_bltn (v := .ty "str") (by rfl) T.str boot_str rfl) pa_nil))))
        (pss_cons (ps_par (i := 3) (j := 4) (by rfl) scDu.nd rfl rfl (by decide) rfl rfl (pa_cons (pe_call GM hr (by rfl) gM FM.kp bM .nil pass0 (pa_cons (pv 0) (pa_cons (pe_op op_add_str (pv 1) (pv 2)) pa_nil)))
            (pa_cons (pe_chain op_le op_le pe_int (pe_callB call_len_str (by rfl) T.len PySem.boot_len (pa_cons (pv 0) pa_nil)) pe_int) pa_nil)) (by rfl))
        (pss_cons (ps_set (i := 5) scDu.nd rfl (Or.inl rfl) (pe_and (pv 4) (pe_and (pv 3) (pe_one (pe_cmpR op_in_sign (pe_item_str (pv 0) pe_int (fun _ _ => rfl)) (pv 1) rfl)))))
        (pss_one (ps_ret (pe_lst (pa_cons (pv 5) (pa_cons (pe_and (pv 4) (pe_one (pe_call GM hr (by rfl) gM FM.kp bM .nil pass0 (pa_cons (pv 0) (pa_cons (pv 1) pa_nil)))))
          (pa_cons (pe_and (pv 3) (pe_one (pe_cmpR op_le (pe_callB call_len_str (by rfl) T.len PySem.boot_len (pa_cons (pv 0) pa_nil)) pe_int (nomark _)))) pa_nil)))))))) pss_nil)
      (pss_cons (ps_if (PW.pt (pw_and (pt_val (pe_callB call_isi (by rfl) T.isi boot_isinstance (pa_cons (pv 0) (pa_cons (pe_bltn (v := .ty "int") (by rfl) T.int boot_int rfl) pa_nil))))
          (pw_and (pt_cmpR op_notK (pv 0) pe_bl (nomark _)) (pw_and1 (pt_cmpR op_notK (pv 0) pe_bl (nomark _))))))
        (pss_one (ps_ret (pe_lst (pa_cons pe_bl (pa_cons pe_bl (pa_cons (pe_chain op_lt op_lt (pe_un un_neg (pe_op op_pow pe_int pe_int)) (pv 0) (pe_op op_pow pe_int pe_int)) pa_nil)))))) pss_nil)
      (pss_one (ps_ret (pe_lst (pa_cons pe_bl (pa_cons pe_bl (pa_cons pe_bl pa_nil)))))))), ?_⟩
    refine ⟨(by show 2 ≤ sizeLine; decide), fun t0 ht0 => ?_⟩
    refine ⟨t0, [.str LT, .str DG], rfl, SqT.of upd_same, rfl, .str LT, [.str DG], rfl, .str DG, [], rfl, rfl, ?_⟩
    have q : ∀ H' p, Same (upd H t0 (.tup [.str LT, .str DG])) H' → DueAt H' p d → Q (.ref p) H' := fun H' p s2 e => qq H' p ((same_upd ht0).trans s2) e
    replace hd := hd.same (same_upd (o := .tup [.str LT, .str DG]) ht0)
    generalize upd H t0 (.tup [.str LT, .str DG]) = H0 at hd q ⊢
    refine ⟨_, rfl, v, .ty "str", .type (tyN d), .type "str", isS d, rfl, .ty _, hd.ty, kS d, isS d, rfl, ?_⟩
    cases hd with
    | str z =>
      refine iteT ?_
      have hz : txtOk z := ho
      have hzs : z.length ≤ sizeLine := Nat.le_of_lt (small1000 hz.1)
      have hzl : z.length = z.cps.size := rfl
      refine ⟨_, rfl, _, rfl, _, rfl, LT, DG, rfl, rfl, (by decide +kernel), ?_⟩
      rw [ltdg]
      refine ⟨z, LD, rfl, hz, fun H1 s1 => ?_⟩
      refine ⟨_, rfl, z, rfl, hzs, 1, _, rfl, rfl, _, rfl, ?_⟩
      have after : ∀ (b : Bool), b = short z → ∀ X : Prop, X → X := fun _ _ _ x => x
      have fin : ∀ (sh : Bool), sh = short z → ∀ (H2 : Hp) (p : Addr), Same H0 H2 → H2 p = some (.lst [.bl (sh && (made z LD && headIn z LT)), .bl (sh && made z LT), .bl (made z LD && decide ((z.length : Int) ≤ 20))]) → Q (.ref p) H2 := by
        intro sh e H2 p s2 ep
        refine q H2 p s2 ?_
        unfold DueAt
        rw [due_mark, due_name, due_plain, ← e]
        exact ep
      refine ite2 (fun e1 => ?_) (fun e1 => ?_)
      · refine ⟨_, _, rfl, rfl, _, _, rfl, ?_⟩
        have esh : short z = decide ((z.length : Int) ≤ 8) := by unfold short; rw [e1]; rfl
        refine ⟨_, rfl, _, rfl, ?_⟩
        refine ite2 (fun e2 => ?_) (fun e2 => ?_)
        · refine ⟨_, rfl, _, rfl, ?_⟩
          refine ite2 (fun e3 => ?_) (fun e3 => ?_)
          · have h1 := of_decide_eq_true e1
            have h0 : 0 < z.cps.size := by omega
            refine ⟨_, rfl, z, 0, z.cps[0], rfl, rfl, Int.le_refl _, by decide, by omega, Array.getElem?_eq_getElem h0, _, rfl, z.cps[0], LT, rfl, rfl, ?_⟩
            have e4 : headIn z LT = decide (z.cps[0] ∈ LT.cps.toList) := by
              unfold headIn
              rw [Array.getElem?_eq_getElem h0]
            refine ⟨_, rfl, _, rfl, _, rfl, ?_⟩
            refine ite2 (fun e5 => ?_) (fun e5 => absurd e2 e5)
            refine ⟨_, rfl, _, rfl, z, LT, rfl, hz, fun H2 s2 => ?_⟩
            refine ⟨_, rfl, _, rfl, ?_⟩
            refine ite2 (fun e6 => ?_) (fun e6 => absurd e3 e6)
            refine ⟨_, rfl, z, rfl, hzs, _, 20, rfl, rfl, (by show 3 ≤ sizeLine; decide), fun p hp => ?_⟩
            refine fin true (by rw [esh]; exact e2.symm) _ p ((s1.trans s2).trans (same_upd hp)) ?_
            rw [upd_same, e4, e3]
            rfl
          · refine ⟨_, rfl, _, rfl, _, rfl, ?_⟩
            refine ite2 (fun e5 => ?_) (fun e5 => absurd e2 e5)
            refine ⟨_, rfl, _, rfl, z, LT, rfl, hz, fun H2 s2 => ?_⟩
            refine ⟨_, rfl, _, rfl, ?_⟩
            refine ite2 (fun e6 => absurd e6 e3) (fun e6 => ?_)
            refine ⟨(by show 3 ≤ sizeLine; decide), fun p hp => ?_⟩
            refine fin true (by rw [esh]; exact e2.symm) _ p ((s1.trans s2).trans (same_upd hp)) ?_
            rw [upd_same, Bool.eq_false_iff.mpr e3]
            rfl
        · have e2' := Bool.eq_false_iff.mpr e2
          refine ⟨_, rfl, _, rfl, _, rfl, ?_⟩
          refine ite2 (fun e5 => absurd e5 e2) (fun e5 => ?_)
          refine ⟨_, rfl, _, rfl, ?_⟩
          refine ite2 (fun e6 => ?_) (fun e6 => ?_)
          · refine ⟨_, rfl, z, rfl, hzs, _, 20, rfl, rfl, (by show 3 ≤ sizeLine; decide), fun p hp => ?_⟩
            refine fin false (by rw [esh]; exact e2'.symm) _ p (s1.trans (same_upd hp)) ?_
            rw [upd_same, e6]
            rfl
          · refine ⟨(by show 3 ≤ sizeLine; decide), fun p hp => ?_⟩
            refine fin false (by rw [esh]; exact e2'.symm) _ p (s1.trans (same_upd hp)) ?_
            rw [upd_same, Bool.eq_false_iff.mpr e6]
            rfl
      · have esh : short z = false := by unfold short; rw [Bool.eq_false_iff.mpr e1]; rfl
        refine ⟨_, _, rfl, _, rfl, false, rfl, iteF ?_⟩
        refine ⟨_, rfl, _, rfl, false, rfl, iteF ?_⟩
        refine ⟨_, rfl, _, rfl, ?_⟩
        refine ite2 (fun e6 => ?_) (fun e6 => ?_)
        · refine ⟨_, rfl, z, rfl, hzs, _, 20, rfl, rfl, (by show 3 ≤ sizeLine; decide), fun p hp => ?_⟩
          refine fin false esh.symm _ p (s1.trans (same_upd hp)) ?_
          rw [upd_same, e6]
          rfl
        · refine ⟨(by show 3 ≤ sizeLine; decide), fun p hp => ?_⟩
          refine fin false esh.symm _ p (s1.trans (same_upd hp)) ?_
          rw [upd_same, Bool.eq_false_iff.mpr e6]
          rfl
    | int i =>
      refine iteF ?_
      refine ⟨_, rfl, _, .ty "int", .type "int", .type "int", true, rfl, .ty _, .base (.int i), kI (.int i), true, rfl, iteT ?_⟩
      refine ⟨_, rfl, true, rfl, .inl ⟨i, rfl, true, rfl, iteT ?_⟩⟩
      refine ⟨_, rfl, false, rfl, .inl ⟨i, rfl, true, rfl, ?_⟩⟩
      refine ⟨10, 30, rfl, rfl, ⟨by decide, by decide, by decide⟩, _, rfl, _, rfl, _, i, rfl, rfl, _, rfl, ?_⟩
      have q' : ∀ p, H0 p = none → _ := fun p hp => q (upd H0 p _) p (same_upd hp) (show DueAt (upd H0 p (.lst [.bl false, .bl false, .bl (decide (-TEN30 < i) && decide (i < TEN30))])) p (.int i) from upd_same)
      rw [ten30]
      refine ite2 (fun e1 => ?_) (fun e1 => ?_)
      · refine ⟨10, 30, rfl, rfl, ⟨by decide, by decide, by decide⟩, _, _, rfl, rfl, (by show 3 ≤ sizeLine; decide), fun p hp => ?_⟩
        have := q' p hp
        rw [e1] at this
        rw [ten30]
        exact this
      · refine ⟨(by show 3 ≤ sizeLine; decide), fun p hp => ?_⟩
        have := q' p hp
        rw [Bool.eq_false_iff.mpr e1] at this
        exact this
    | bl b =>
      refine iteF ?_
      refine ⟨_, rfl, _, .ty "int", .type "bool", .type "int", true, rfl, .ty _, .base (.bl b), kI (.bl b), true, rfl, iteT ?_⟩
      have last : ∀ p, H0 p = none → Q (.ref p) (upd H0 p (.lst [.bl false, .bl false, .bl false])) := fun p hp => q (upd H0 p _) p (same_upd hp) (show DueAt (upd H0 p (.lst [.bl false, .bl false, .bl false])) p (.bl b) from upd_same)
      cases b with
      | true =>
        refine ⟨_, rfl, true, rfl, .inr ⟨true, rfl, false, rfl, iteF ?_⟩⟩
        exact ⟨(by show 3 ≤ sizeLine; decide), last⟩
      | false =>
        refine ⟨_, rfl, true, rfl, .inr ⟨false, rfl, true, rfl, iteT ?_⟩⟩
        refine ⟨_, rfl, false, rfl, .inr ⟨false, rfl, false, rfl, ?_⟩⟩
        exact ⟨(by show 3 ≤ sizeLine; decide), last⟩
    | non =>
      refine iteF ?_
      refine ⟨_, rfl, _, .ty "int", .type (tyN .non), .type "int", false, rfl, .ty _, .base .non, kI .non, false, rfl, iteF ?_⟩
      exact ⟨(by show 3 ≤ sizeLine; decide), fun p hp => q (upd H0 p _) p (same_upd hp) (show DueAt (upd H0 p (.lst [.bl false, .bl false, .bl false])) p .non from upd_same)⟩
    | @tup a xs ds h1 h2 =>
      refine iteF ?_
      refine ⟨_, rfl, _, .ty "int", .type (tyN (.tup ds)), .type "int", false, rfl, .ty _, .base (.tup h1), kI (.tup ds), false, rfl, iteF ?_⟩
      exact ⟨(by show 3 ≤ sizeLine; decide), fun p hp => q (upd H0 p _) p (same_upd hp) (show DueAt (upd H0 p (.lst [.bl false, .bl false, .bl false])) p (.tup ds) from upd_same)⟩
    | lst h1 =>
      refine iteF ?_
      refine ⟨_, rfl, _, .ty "int", .type (tyN .lst), .type "int", false, rfl, .ty _, .base (.lst h1), kI .lst, false, rfl, iteF ?_⟩
      exact ⟨(by show 3 ≤ sizeLine; decide), fun p hp => q (upd H0 p _) p (same_upd hp) (show DueAt (upd H0 p (.lst [.bl false, .bl false, .bl false])) p .lst from upd_same)⟩
    | dct h1 =>
      refine iteF ?_
      refine ⟨_, rfl, _, .ty "int", .type (tyN .dct), .type "int", false, rfl, .ty _, .base (.dK h1), kI .dct, false, rfl, iteF ?_⟩
      exact ⟨(by show 3 ≤ sizeLine; decide), fun p hp => q (upd H0 p _) p (same_upd hp) (show DueAt (upd H0 p (.lst [.bl false, .bl false, .bl false])) p .dct from upd_same)⟩
end
end SB

set_option Elab.async false
set_option linter.all false
set_option maxRecDepth 100000
set_option maxHeartbeats 4000000
namespace SB
open PySem L2 PyProof.Rows
section
variable {P : Program} {w : World} {K : PySem.W.Frag} {mg : Str → Option Value} {base : Heap}
/-! ### a drawn text -/
def Keep1 (p : Addr) (H H' : Hp) : Prop := ∀ b o, H b = some o → b ≠ p → H' b = some o
theorem Keep1.refl (p : Addr) (H : Hp) : Keep1 p H H := fun _ _ h _ => h
theorem Keep1.trans {p : Addr} {H H1 H2 : Hp} (a : Keep1 p H H1) (b : Keep1 p H1 H2) : Keep1 p H H2 := fun c o h n => b c o (a c o h n) n
theorem Keep1.put {p : Addr} {H : Hp} {o : HO} : Keep1 p H (upd H p o) := fun b u h n => by rw [upd_ne n]; exact h
theorem keep1_of {p : Addr} {H H' : Hp} (s : Same H H') : Keep1 p H H' := fun b o h _ => s b o h
theorem Keep1.free {p q : Addr} {H H' : Hp} (k : Keep1 p H H') (hp : H' p ≠ none) (h : H' q = none) : H q = none := by
  cases e : H q with
  | none => rfl
  | some o =>
    by_cases n : q = p
    · subst n; exact absurd h hp
    · rw [k q o e n] at h; cases h
theorem PoolAt.some {H : Hp} {p : Addr} (h : PoolAt H p) : H p ≠ none := by
  obtain ⟨x, y, e, _⟩ := h
  rw [e]; exact fun z => nomatch z
theorem poolPut {H : Hp} {p : Addr} {x y : Int} (hx : 0 ≤ x) (hy : 0 ≤ y) (hy2 : y < 2147483648) : PoolAt (upd H p (.lst [.int x, .int y])) p := ⟨x, y, upd_same, hx, hy, hy2⟩
theorem PoolAt.new {H : Hp} {p q : Addr} {o : HO} (h : PoolAt H p) (hq : H q = none) : PoolAt (upd H q o) p := by
  obtain ⟨x, y, e, r⟩ := h
  exact ⟨x, y, by rw [upd_ne (ne_of_none e hq)]; exact e, r⟩
theorem atI_int (xs : List Int) (c : Int) (h0 : 0 ≤ c) (h1 : c < (xs.length : Int)) : ∃ v, v ∈ xs ∧ atI (xs.map V.int) c = some (.int v) := by
  have hl : c.toNat < xs.length := by omega
  refine ⟨xs[c.toNat], List.getElem_mem hl, ?_⟩
  have := atI_nat (xs := xs.map V.int) (j := c.toNat) (v := .int xs[c.toNat]) (by rw [List.getElem?_map, List.getElem?_eq_getElem hl]; rfl)
  rwa [Int.toNat_of_nonneg h0] at this
def signOk (c : Nat) : Prop := c ≠ 116 ∧ c < 128
def textOk (z : Str) : Prop := txtOk z ∧ z.length ≤ 100 ∧ ∀ c ∈ z.cps.toList, signOk c
theorem textOk.at {z : Str} (h : textOk z) : z ≠ ("at" : Str) := by
  rintro rfl
  exact (h.2.2 116 (by decide +kernel)).1 rfl
def SG : Str := "09_AZ-'"
def AB : Str := "abz"
def sgCheck (s : Str) : Bool := decide (3 ≤ s.length) && (decide (s.length ≤ 10) && s.cps.toList.all fun c => decide (c ≠ 116) && decide (c < 128))
theorem sg_ok : ∀ i : _root_.Fin 8, sgCheck (AB ++ cutS SG none (some (i.val : Int))) = true := by decide +kernel
theorem join_codes {e : Str} (he : e = ⟨#[]⟩) : ∀ ss : List Str, (Str.join e ss).cps.toList = ss.flatMap fun s => s.cps.toList := by
  subst he
  intro ss
  induction ss with
  | nil => rfl
  | cons x r ih =>
    cases r with
    | nil =>
      show x.cps.toList = _
      simp
    | cons y q =>
      show ((x.cps ++ #[]) ++ (Str.join ⟨#[]⟩ (y :: q)).cps).toList = _
      rw [Array.toList_append, Array.toList_append, ih]
      simp
def oneSign (s : Str) : Prop := ∃ c, s = ⟨#[c]⟩ ∧ signOk c
theorem flat_len : ∀ ss : List Str, (∀ s ∈ ss, oneSign s) → (ss.flatMap fun s => s.cps.toList).length = ss.length
  | [], _ => rfl
  | s :: r, h => by
    obtain ⟨c, rfl, _⟩ := h s List.mem_cons_self
    rw [List.flatMap_cons, List.length_append, flat_len r fun x hx => h x (List.mem_cons_of_mem _ hx)]
    show 1 + r.length = r.length + 1
    omega
theorem sum_len : ∀ ss : List Str, (∀ s ∈ ss, oneSign s) → (ss.map (·.length)).sum = ss.length
  | [], _ => rfl
  | s :: r, h => by
    obtain ⟨c, rfl, _⟩ := h s List.mem_cons_self
    rw [List.map_cons, List.sum_cons, sum_len r fun x hx => h x (List.mem_cons_of_mem _ hx)]
    show 1 + r.length = r.length + 1
    omega
theorem join_ok {e : Str} (he : e = ⟨#[]⟩) {ss : List Str} (h : ∀ s ∈ ss, oneSign s) (hl : ss.length ≤ 30) : textOk (Txt.join e ss) := by
  rw [TL.join_eq]
  have ec := join_codes he ss
  have el : (Str.join e ss).length = ss.length := by
    show (Str.join e ss).cps.size = _
    rw [← Array.length_toList, ec, flat_len ss h]
  have hs : ∀ c ∈ (Str.join e ss).cps.toList, signOk c := by
    intro c hc
    rw [ec] at hc
    obtain ⟨s, hs, hc⟩ := List.mem_flatMap.mp hc
    obtain ⟨d, rfl, hd⟩ := h s hs
    have : c = d := by simpa using hc
    rw [this]; exact hd
  exact ⟨⟨by omega, fun c hc => (hs c hc).2⟩, by omega, hs⟩
def spText : Sp := fun vs H Q _ => ∃ (p : Addr), vs = [.ref p] ∧ PoolAt H p ∧ ∀ H' z, textOk z → Keep1 p H H' → PoolAt H' p → Q (.str z) H'
theorem scTx : FnScope ["_law_pool_here", "_law_size", "_law_signs", "_law_turn"] ["_law_pool_here"] (defScope sText) := ⟨rfl, rfl, rfl, by decide +kernel, rfl, by decide +kernel, by decide +kernel⟩
theorem ok_text {f fD : Addr} {fd fdD : FuncData} (F : Fun K "_law_text" "_law_text" sText f fd) (FD : Fun K "_law_draw" "_law_draw" sDraw fD fdD) (bD : Binds K fdD ["_law_pool_here", "_law_many"] []) (gD : mg "_law_draw" = some (.ref fD)) (T : Txt mg) :
    FnOk P w K mg base CX0 2 f fd ["_law_pool_here"] spText := by
  have GD : FnOk P w K mg base CX0 1 fD fdD ["_law_pool_here", "_law_many"] spDraw := ok_draw FD T
  refine F.ok scTx (fun vs H Q E h => ?_) (fun cdv A outer s H vs Q E hr h => ?_)
  · obtain ⟨p, rfl, _⟩ := h
    rfl
  · obtain ⟨p, rfl, hp, q⟩ := h
    refine ⟨_, pss_cons (ps_set (i := 1) scTx.nd rfl (Or.inl rfl) (pe_ix ix_list (pe_lst (pa_cons (pe_call GD hr (by rfl) gD FD.kp bD .nil pass0 (pa_cons (pv 0) (pa_cons pe_int pa_nil)))
        (pa_cons (pe_op op_add pe_int (pe_call GD hr (by rfl) gD FD.kp bD .nil pass0 (pa_cons (pv 0) (pa_cons pe_int pa_nil))))
        (pa_cons (pe_op op_add pe_int (pe_call GD hr (by rfl) gD FD.kp bD .nil pass0 (pa_cons (pv 0) (pa_cons pe_int pa_nil)))) pa_nil))))
        (pe_call GD hr (by rfl) gD FD.kp bD .nil pass0 (pa_cons (pv 0) (pa_cons pe_int pa_nil))) (fun _ _ => rfl)))
      (pss_cons (ps_set (i := 2) scTx.nd rfl (Or.inr rfl) (pe_op op_add_str (pe_str (x := AB)) (pe_slice sl_str (pe_str (x := SG)) po_none (po_some (pe_call GD hr (by rfl) gD FD.kp bD .nil pass0 (pa_cons (pv 0) (pa_cons pe_int pa_nil)))))))
      (pss_one (ps_ret (pe_join pe_str (pe_lc (own := [("_law_turn", 3)]) (g := gName 3) (tt := tYes) rfl scTx.nd (pi_range1 rfl T.range (pa_cons (pv 1) pa_nil))
          (blkOk_by (N := ["_law_pool_here", "_law_size", "_law_signs", "_law_turn"]) (sc := defScope sText) (by decide +kernel))
          (fun _ _ _ _ _ => pg_name (i := 3) scTx.nd rfl (Or.inl rfl)) (fun _ _ _ _ _ => pts_nil)
          (fun _ _ _ _ _ => pe_item_str (pv 2) (pe_call GD hr (by rfl) gD FD.kp bD .nil pass0 (pa_cons (pv 0) (pa_cons (pe_callB call_len_str (by rfl) T.len PySem.boot_len (pa_cons (pv 2) pa_nil)) pa_nil))) (fun _ _ => rfl))))))), ?_⟩
    refine ⟨_, rfl, p, 3, rfl, hp, by decide, by decide, fun c1 x1 y1 a1 b1 x10 y10 y11 => ?_⟩
    refine ⟨_, rfl, p, 3, rfl, poolPut x10 y10 y11, by decide, by decide, fun c2 x2 y2 a2 b2 x20 y20 y21 => ?_⟩
    refine ⟨7, c2, rfl, rfl, _, rfl, p, 3, rfl, poolPut x20 y20 y21, by decide, by decide, fun c3 x3 y3 a3 b3 x30 y30 y31 => ?_⟩
    refine ⟨19, c3, rfl, rfl, (by show 3 ≤ sizeLine; decide), fun D hD => ?_⟩
    have k3 : Keep1 p H (upd (upd (upd H p (.lst [.int x1, .int y1])) p (.lst [.int x2, .int y2])) p (.lst [.int x3, .int y3])) := (Keep1.put.trans Keep1.put).trans Keep1.put
    have p3 := poolPut (H := upd (upd H p (.lst [.int x1, .int y1])) p (.lst [.int x2, .int y2])) (p := p) x30 y30 y31
    generalize upd (upd (upd H p (.lst [.int x1, .int y1])) p (.lst [.int x2, .int y2])) p (.lst [.int x3, .int y3]) = H3 at hD k3 p3 ⊢
    have nD : D ≠ p := fun e => p3.some (e ▸ hD)
    refine ⟨_, rfl, p, 3, rfl, p3.new hD, by decide, by decide, fun c4 x4 y4 a4 b4 x40 y40 y41 => ?_⟩
    obtain ⟨sz, hsz, ea⟩ := atI_int [c1, 7 + c2, 19 + c3] c4 a4 b4
    have hsz2 : 0 ≤ sz ∧ sz ≤ 21 := by
      rcases List.mem_cons.mp hsz with rfl | h
      · omega
      · rcases List.mem_cons.mp h with rfl | h
        · omega
        · rcases List.mem_cons.mp h with rfl | h
          · omega
          · cases h
    have k4 : Keep1 p H (upd (upd H3 D (.lst [V.int c1, V.int (7 + c2), V.int (19 + c3)])) p (.lst [.int x4, .int y4])) := (k3.trans (keep1_of (same_upd hD))).trans Keep1.put
    refine ⟨D, [c1, 7 + c2, 19 + c3].map V.int, c4, .int sz, rfl, rfl, SqL.of (by rw [upd_ne nD]; exact upd_same), ea, ?_⟩
    have p4 := poolPut (H := upd H3 D (.lst [V.int c1, V.int (7 + c2), V.int (19 + c3)])) (p := p) x40 y40 y41
    refine ⟨_, rfl, p, 8, rfl, p4, by decide, by decide, fun c5 x5 y5 a5 b5 x50 y50 y51 => ?_⟩
    have k5 := k4.trans (Keep1.put (p := p) (o := .lst [.int x5, .int y5]))
    have p5 := poolPut (H := upd (upd H3 D (.lst [V.int c1, V.int (7 + c2), V.int (19 + c3)])) p (.lst [.int x4, .int y4])) (p := p) x50 y50 y51
    refine ⟨c5, rfl, SG, rfl, (by decide +kernel), ?_⟩
    have hg : sgCheck (AB ++ cutS SG none (some c5)) = true := by
      have := sg_ok ⟨c5.toNat, by omega⟩
      rw [show (((⟨c5.toNat, by omega⟩ : _root_.Fin 8).val : Nat) : Int) = c5 by show (c5.toNat : Int) = c5; omega] at this
      exact this
    unfold sgCheck at hg
    rw [Bool.and_eq_true, Bool.and_eq_true, List.all_eq_true] at hg
    obtain ⟨g1, g2, g3⟩ := hg
    have g1 := of_decide_eq_true g1
    have g2 := of_decide_eq_true g2
    have hcut : AB.length + (cutS SG none (some c5)).length ≤ sizeLine := by
      have e : (AB ++ cutS SG none (some c5)).length = AB.length + (cutS SG none (some c5)).length := Array.size_append ..
      rw [← e]
      exact Nat.le_of_lt (small1000 (by omega))
    refine ⟨AB, _, rfl, rfl, hcut, ?_⟩
    have g3' : ∀ c ∈ (AB ++ cutS SG none (some c5)).cps.toList, signOk c := fun c hc => by
      have := g3 c hc
      rw [Bool.and_eq_true] at this
      exact ⟨of_decide_eq_true this.1, of_decide_eq_true this.2⟩
    generalize AB ++ cutS SG none (some c5) = sg at g1 g2 g3' ⊢
    generalize upd (upd (upd H3 D (.lst [V.int c1, V.int (7 + c2), V.int (19 + c3)])) p (.lst [.int x4, .int y4])) p (.lst [.int x5, .int y5]) = H5 at k5 p5 ⊢
    refine ⟨⟨_, rfl⟩, _, rfl, sz, rfl, by omega, by omega, fun D2 hD2 => ?_⟩
    have nD2 : D2 ≠ p := fun e => p5.some (e ▸ hD2)
    refine lc_range (lo := 0) (n := sz.toNat) (fun i H' => Keep1 p H5 H' ∧ PoolAt H' p ∧ ∃ ss : List Str, ss.length = i ∧ (∀ s ∈ ss, oneSign s) ∧ H' D2 = some (.lst (ss.map V.str))) ?_ ?_ ?_
    · exact ⟨keep1_of (same_upd hD2), p5.new hD2, [], rfl, (fun s hs => nomatch hs), upd_same⟩
    · rintro i H6 hi ⟨k6, p6, ss, els, hss, e6⟩
      refine ⟨rfl, ?_⟩
      refine ⟨_, rfl, _, rfl, _, rfl, sg, rfl, Nat.le_of_lt (small1000 (by omega)), p, _, rfl, p6, by omega, by omega, fun c x y ca cb x0 y0 y1 => ?_⟩
      have hcl : c.toNat < sg.cps.size := by
        have : sg.length = sg.cps.size := rfl
        omega
      refine ⟨sg, c, sg.cps[c.toNat], rfl, rfl, ca, by omega, cb, Array.getElem?_eq_getElem hcl, _, (by rw [upd_ne nD2]; exact e6), ?_, ?_, ?_, ss ++ [⟨#[sg.cps[c.toNat]]⟩], ?_, ?_, ?_⟩
      · rw [List.length_map]
        exact small1000 (by omega)
      · intro b o e nb
        have nb2 : b ≠ D2 := fun z => by rw [z, hD2] at e; cases e
        rw [upd_ne nb2, upd_ne nb]
        exact k6 b o e nb
      · exact ⟨x, y, by rw [upd_ne nD2.symm]; exact upd_same, x0, y0, y1⟩
      · rw [List.length_append, els]
        rfl
      · intro s hs
        rcases List.mem_append.mp hs with hs | hs
        · exact hss s hs
        · have : s = ⟨#[sg.cps[c.toNat]]⟩ := by simpa using hs
          exact ⟨_, this, g3' _ (by rw [Array.mem_toList_iff]; exact Array.getElem_mem hcl)⟩
      · rw [upd_same, List.map_append]
        rfl
    · rintro H6 ⟨k6, p6, ss, els, hss, e6⟩
      refine ⟨_, D2, ss, rfl, rfl, .inl (SqL.of e6), ?_, ?_⟩
      · rw [sum_len ss hss]
        have : (Str.ofString "").length = 0 := by decide +kernel
        show ss.length + ss.length * (Str.ofString "").length ≤ 16777216
        rw [this]
        omega
      · exact q H6 _ (join_ok (by decide +kernel) hss (by omega)) (k5.trans k6) p6
/-! ### _law_references -/
def spRefs : Sp := fun vs H Q _ => ∃ z : Str, vs = [.str z] ∧ txtOk z ∧ z ≠ ("at" : Str) ∧ ∀ H', Same H H' → Q (.bl true) H'
theorem scRs : FnScope ["_law_text_here", "_law_mark", "_law_found"] ["_law_text_here"] (defScope sRefs) := ⟨rfl, rfl, rfl, by decide +kernel, rfl, by decide +kernel, by decide +kernel⟩
theorem ok_refs {f fM fW : Addr} {fd fdM fdW : FuncData} (F : Fun K "_law_references" "_law_references" sRefs f fd) (kM : PySem.W.keepIn K (.ref fM) = true) (bM : Binds K fdM ["value"] []) (gM : mg "is_mark" = some (.ref fM)) (GM : FnOk P w K mg base CX0 2 fM fdM ["value"] (spP K dMark))
    (kW : PySem.W.keepIn K (.ref fW) = true) (bW : Binds K fdW ["value"] []) (gW : mg "is_worth" = some (.ref fW)) (GW : FnOk P w K mg base CX0 4 fW fdW ["value"] (spP K dWorth)) :
    FnOk P w K mg base CX0 5 f fd ["_law_text_here"] spRefs := by
  refine F.ok scRs (fun vs H Q E h => ?_) (fun cdv A outer s H vs Q E hr h => ?_)
  · obtain ⟨z, rfl, _⟩ := h
    rfl
  · obtain ⟨z, rfl, hz, hat, q⟩ := h
    have hzs : z.length ≤ sizeLine := Nat.le_of_lt (small1000 hz.1)
    have hl2 : ("at" : Str).length ≤ sizeLine := by decide +kernel
    have hl3 : ("to" : Str).length ≤ sizeLine := by decide +kernel
    refine ⟨_, pss_cons (ps_set (i := 1) scRs.nd rfl (Or.inl rfl) (pe_lst (pa_cons (pe_call GM (hr.mono (by decide)) (by rfl) gM kM bM .nil pass0 (pa_cons (pv 0) pa_nil)) pa_nil)))
      (pss_cons (ps_set (i := 2) scRs.nd rfl (Or.inl rfl) (pe_and (pe_cmpR (op_eqD hr.units) (pe_lst (pa_cons (pe_call GW hr (by rfl) gW kW bW .nil pass0 (pa_cons (pe_tup (pa_cons pe_str (pa_cons (pv 0) pa_nil))) pa_nil)) pa_nil)) (pv 1) (nomark _))
        (pe_and (pe_not (pe_call GW hr (by rfl) gW kW bW .nil pass0 (pa_cons (pe_tup (pa_cons pe_str (pa_cons (pv 0) (pa_cons pe_int pa_nil)))) pa_nil)))
        (pe_one (pe_not (pe_call GW hr (by rfl) gW kW bW .nil pass0 (pa_cons (pe_lst (pa_cons pe_str (pa_cons (pv 0) pa_nil))) pa_nil)))))))
      (pss_one (ps_ret (pe_and (pv 2) (pe_and (pe_not (pe_call GW hr (by rfl) gW kW bW .nil pass0 (pa_cons (pe_tup (pa_cons pe_str (pa_cons (pv 0) pa_nil))) pa_nil)))
        (pe_and (pe_not (pe_call GW hr (by rfl) gW kW bW .nil pass0 (pa_cons (pe_tup (pa_cons (pv 0) (pa_cons pe_str pa_nil))) pa_nil)))
        (pe_one (pe_not (pe_call GW hr (by rfl) gW kW bW .nil pass0 (pa_cons (pe_tup (pa_cons pe_str pa_nil)) pa_nil)))))))))), ?_⟩
    refine ⟨_, rfl, .str z, .str z, rfl, .str z, hzs, fun H1 s1 => ⟨(by show 1 ≤ sizeLine; decide), fun m hm => ?_⟩⟩
    have s2 : Same H (upd H1 m (.lst [.bl (dMark (.str z))])) := s1.trans (same_upd hm)
    refine ⟨_, rfl, (by show 2 ≤ sizeLine; decide), fun t ht => ?_⟩
    refine ⟨_, .tup [.str ("at" : Str), .str z], rfl, .tup upd_same (.cons (.str _) (.cons (.str z) .nil)), ⟨hl2, hzs, trivial⟩, fun H3 s3 => ⟨(by show 1 ≤ sizeLine; decide), fun m2 hm2 => ?_⟩⟩
    have s3' : Same (upd H1 m (.lst [.bl (dMark (.str z))])) H3 := (same_upd ht).trans s3
    have em : H3 m = some (.lst [.bl (dMark (.str z))]) := s3' _ _ upd_same
    have ew : dWorth (.tup [.str ("at" : Str), .str z]) = dMark (.str z) := by
      show (false || (decide (("at" : Str) = ("at" : Str)) && dMark (.str z))) = _
      rw [decide_eq_true rfl]
      rfl
    rw [ew]
    refine ⟨_, rfl, .list ([dMark (.str z)].map PyData.bool), .list ([dMark (.str z)].map PyData.bool), .lst (SqL.of upd_same) (DpAll.bls [dMark (.str z)]), .lst (SqL.of (by rw [upd_ne (ne_of_none em hm2)]; exact em)) (DpAll.bls [dMark (.str z)]), shaped_bls _, shaped_bls _, true, ?_, ?_⟩
    · rw [show PyData.eqv (.list ([dMark (.str z)].map PyData.bool)) (.list ([dMark (.str z)].map PyData.bool)) = decide ([dMark (.str z)] = [dMark (.str z)]) from eqv_bls _ _, decide_eq_true rfl]
    refine iteT ?_
    refine ⟨_, rfl, (by show 3 ≤ sizeLine; decide), fun t3 ht3 => ?_⟩
    refine ⟨_, .tup [.str ("at" : Str), .str z, .int 1], rfl, .tup upd_same (.cons (.str _) (.cons (.str z) (.cons (.int 1) .nil))), ⟨hl2, hzs, trivial, trivial⟩, fun H4 s4 => ⟨false, rfl, true, rfl, iteT ?_⟩⟩
    refine ⟨_, rfl, (by show 2 ≤ sizeLine; decide), fun t4 ht4 => ?_⟩
    refine ⟨_, .lst, rfl, .lst upd_same, trivial, fun H5 s5 => ⟨false, rfl, ?_⟩⟩
    refine ⟨_, rfl, true, rfl, iteT ?_⟩
    refine ⟨_, rfl, (by show 2 ≤ sizeLine; decide), fun t5 ht5 => ?_⟩
    refine ⟨_, .tup [.str ("to" : Str), .str z], rfl, .tup upd_same (.cons (.str _) (.cons (.str z) .nil)), ⟨hl3, hzs, trivial⟩, fun H6 s6 => ⟨false, ?_, true, rfl, iteT ?_⟩⟩
    · have e : dWorth (.tup [.str ("to" : Str), .str z]) = false := by
        show (false || (decide (("to" : Str) = ("at" : Str)) && dMark (.str z))) = _
        rw [show decide (("to" : Str) = ("at" : Str)) = false by decide +kernel]
        rfl
      rw [e]
    refine ⟨_, rfl, (by show 2 ≤ sizeLine; decide), fun t6 ht6 => ?_⟩
    refine ⟨_, .tup [.str z, .str ("at" : Str)], rfl, .tup upd_same (.cons (.str z) (.cons (.str _) .nil)), ⟨hzs, hl2, trivial⟩, fun H7 s7 => ⟨false, ?_, true, rfl, iteT ?_⟩⟩
    · have e : dWorth (.tup [.str z, .str ("at" : Str)]) = false := by
        show (false || (decide (z = ("at" : Str)) && dMark (.str ("at" : Str)))) = _
        rw [decide_eq_false hat]
        rfl
      rw [e]
    refine ⟨(by show 1 ≤ sizeLine; decide), fun t7 ht7 => ?_⟩
    refine ⟨_, .tup [.str ("at" : Str)], rfl, .tup upd_same (.cons (.str _) .nil), ⟨hl2, trivial⟩, fun H8 s8 => ⟨false, rfl, ?_⟩⟩
    refine q H8 ?_
    exact (((((((((((s2.trans s3').trans (same_upd hm2)).trans (same_upd ht3)).trans s4).trans (same_upd ht4)).trans s5).trans (same_upd ht5)).trans s6).trans (same_upd ht6)).trans s7).trans (same_upd ht7)).trans s8
end
end SB

set_option Elab.async false
set_option linter.all false
set_option maxRecDepth 100000
set_option maxHeartbeats 4000000
namespace SB
open PySem L2 PyProof.Rows
/-! ### a call by keywords alone -/
section
variable {X : Cx} {CX : CXT} {k : Nat} {f : Addr} {fd : FuncData} {ps ks : List Str} {sp : Sp} {E : XK} {x : Str} {p pos : Pos} {kws : List Keyword} {tk : TA} {g : List Value → List Value → List Value} {gV : List V → List V → List V}
theorem pe_callK0 (F : FnOk X.prog X.w X.K X.mg X.base CX k f fd ps sp) (hr : Room k X.A) (hg : Gl X x) (hm : X.mg x = some (.ref f)) (hk : PySem.W.keepIn X.K (.ref f) = true) (hb : KBinds X.K fd ps ks g gV) (hx : Passes CX X E) (hkw : PK X kws tk)
    (hall : (backToKw pos (keywordEach kws X.env)).all (·.1.isSome) = true := by rfl) (hks : (backToKw pos (keywordEach kws X.env)).filterMap (·.1) = ks := by rfl) (hdb : (x == ("__debug__" : Str)) = false := by decide)
    (hpl : ((backTo pos (starEach [] X.env)).any (·.1) || (backToKw pos (keywordEach kws X.env)).any (·.1.isNone)) = false := by rfl) :
    PE X (.Call (.Name x p) [] kws pos) (tCallK sp gV E tNil tk) := by
  refine ⟨fun pins s σ H Q I h => ?_⟩
  refine wpAny_Call_Name_kw (ld_glob I hg hm ?_ hdb)
  refine PySem.W.callWith_KW0 (h₀ := X.base) I.ok.mod.kin hk hall ?_ hpl
  refine thn (hkw.run pos pins s σ H _ I h) fun ws s2 ⟨zs, H2, I2, rz, q2⟩ => ⟨I2.kIn, ?_⟩
  rw [hks]
  exact run_fnk (us := []) (vs := []) F hr hb hx I2 .nil rz q2
end
section
variable {P : Program} {w : World} {K : PySem.W.Frag} {mg : Str → Option Value} {base : Heap}
abbrev gK : List Value → List Value → List Value := fun us ws => us ++ ws
abbrev gKV : List V → List V → List V := fun us ws => us ++ ws
theorem sqlPool {p a : Addr} {xs : List V} {H H1 H' : Hp} (np : H p = none) (h : SqL K H a xs) (s : Same H H1) (k : Keep1 p H1 H') : SqL K H' a xs := by
  rcases h with (h | ⟨o, h⟩) | h
  · exact .inl (.inl (k _ _ (s _ _ h) (ne_of_none h np)))
  · exact .inl (.inr ⟨o, k _ _ (s _ _ h) (ne_of_none h np)⟩)
  · exact .inr h
/-- what the law asks of each thing -/
def thOk (d : Dt) : Prop := dT d ∧ dWorth d = dPlain d
def ThAll (K : PySem.W.Frag) (H : Hp) (xs : List V) : Prop := ∀ (i : Nat) (x : V), xs[i]? = some x → ∃ d, DA K H x d ∧ thOk d
theorem ThAll.same {H H' : Hp} {xs : List V} (s : Same H H') (h : ThAll K H xs) : ThAll K H' xs := fun i x e => by
  obtain ⟨d, a, b⟩ := h i x e
  exact ⟨d, a.same s, b⟩
theorem ThAll.nil {H : Hp} : ThAll K H [] := fun i x e => by simp at e
theorem ThAll.cons {H : Hp} {x : V} {xs : List V} {d : Dt} (a : DA K H x d) (b : thOk d) (h : ThAll K H xs) : ThAll K H (x :: xs) := fun i y e => by
  cases i with
  | zero => cases e; exact ⟨d, a, b⟩
  | succ i => exact h i y e
theorem ThAll.append {H : Hp} {xs ys : List V} (a : ThAll K H xs) (b : ThAll K H ys) : ThAll K H (xs ++ ys) := fun i x e => by
  by_cases h : i < xs.length
  · rw [List.getElem?_append_left h] at e
    exact a i x e
  · rw [List.getElem?_append_right (by omega)] at e
    exact b _ x e
theorem th_int (i : Int) : thOk (.int i) := ⟨trivial, by show (dPlain _ || false) = _; rw [Bool.or_false]⟩
theorem th_bl (b : Bool) : thOk (.bl b) := ⟨trivial, rfl⟩
theorem th_non : thOk .non := ⟨trivial, rfl⟩
theorem th_str {z : Str} (h : txtOk z) : thOk (.str z) := ⟨h, by show (dPlain _ || false) = _; rw [Bool.or_false]⟩
def tokC (z : Str) : Bool := decide (z.length ≤ 1000) && z.cps.toList.all fun c => decide (c < 128)
theorem tok_of {z : Str} (h : tokC z = true) : txtOk z := by
  unfold tokC at h
  rw [Bool.and_eq_true, List.all_eq_true] at h
  exact ⟨of_decide_eq_true h.1, fun c hc => of_decide_eq_true (h.2 c hc)⟩
theorem tok_app {z : Str} (h : textOk z) : txtOk (z ++ ("a" : Str)) := by
  have el : (z ++ ("a" : Str)).length = z.length + 1 := Array.size_append ..
  refine ⟨by have := h.2.1; omega, fun c hc => ?_⟩
  have : c ∈ (z.cps ++ ("a" : Str).cps).toList := hc
  rw [Array.toList_append] at this
  rcases List.mem_append.mp this with m | m
  · exact h.1.2 c m
  · exact (tok_of (z := ("a" : Str)) (by decide +kernel)).2 c m
def spLaw (K : PySem.W.Frag) : Sp := fun vs H Q _ => ∃ (a : Addr) (ns : List Int), vs = [.ref a] ∧ SqL K H a (ns.map V.int) ∧ ns.length ≤ 63 ∧ ∀ H', Q (.bl true) H'
structure Defs (P : Program) (w : World) (K : PySem.W.Frag) (mg : Str → Option Value) (base : Heap) (fM fN fP fW fPool fDraw fText fDue fRefs : Addr) (dM dN dP dW dPool dDraw dText dDue dRefs : FuncData) : Prop where
  gM : mg "is_mark" = some (.ref fM)
  gN : mg "is_name" = some (.ref fN)
  gP : mg "is_plain" = some (.ref fP)
  gW : mg "is_worth" = some (.ref fW)
  gPool : mg "_law_pool" = some (.ref fPool)
  gDraw : mg "_law_draw" = some (.ref fDraw)
  gText : mg "_law_text" = some (.ref fText)
  gDue : mg "_law_due" = some (.ref fDue)
  gRefs : mg "_law_references" = some (.ref fRefs)
  kM : PySem.W.keepIn K (.ref fM) = true
  kN : PySem.W.keepIn K (.ref fN) = true
  kP : PySem.W.keepIn K (.ref fP) = true
  kW : PySem.W.keepIn K (.ref fW) = true
  kPool : PySem.W.keepIn K (.ref fPool) = true
  kDraw : PySem.W.keepIn K (.ref fDraw) = true
  kText : PySem.W.keepIn K (.ref fText) = true
  kDue : PySem.W.keepIn K (.ref fDue) = true
  kRefs : PySem.W.keepIn K (.ref fRefs) = true
  bM : Binds K dM ["value"] []
  bN : Binds K dN ["value"] []
  bP : Binds K dP ["value"] []
  bW : Binds K dW ["value"] []
  bPool : Binds K dPool ["_law_script", "_law_k"] []
  bDraw : Binds K dDraw ["_law_pool_here", "_law_many"] []
  bText : Binds K dText ["_law_pool_here"] []
  bDue : Binds K dDue ["_law_thing"] []
  bRefs : Binds K dRefs ["_law_text_here"] []
  qM : KBinds K dM ["value"] ["value"] gK gKV
  qN : KBinds K dN ["value"] ["value"] gK gKV
  qP : KBinds K dP ["value"] ["value"] gK gKV
  qW : KBinds K dW ["value"] ["value"] gK gKV
  GM : FnOk P w K mg base CX0 2 fM dM ["value"] (spP K dMark)
  GN : FnOk P w K mg base CX0 2 fN dN ["value"] (spP K dName)
  GP : FnOk P w K mg base CX0 2 fP dP ["value"] (spP K dPlain)
  GW : FnOk P w K mg base CX0 4 fW dW ["value"] (spP K dWorth)
  GPool : FnOk P w K mg base CX0 1 fPool dPool ["_law_script", "_law_k"] (spPool K)
  GDraw : FnOk P w K mg base CX0 1 fDraw dDraw ["_law_pool_here", "_law_many"] spDraw
  GText : FnOk P w K mg base CX0 2 fText dText ["_law_pool_here"] spText
  GDue : FnOk P w K mg base CX0 2 fDue dDue ["_law_thing"] (spDue K)
  GRefs : FnOk P w K mg base CX0 5 fRefs dRefs ["_law_text_here"] spRefs
abbrev t30 : Int := 10 ^ (30 : Int).toNat
abbrev xs1 (g : Int) (e : Addr) : List V := [.int g, .int (-g), .int t30, .int (t30 - 1), .int (-t30), .int (1 - t30), .int 0, .bl true, .bl false, .non, .ref e]
abbrev xs2 (z : Str) (d l1 t1 : Addr) : List V := [.str z, .str (z ++ ("a" : Str)), .str ("at" : Str), .str ("" : Str), .str ("a1" : Str), .str ("1a" : Str), .ref d, .ref l1, .ref t1]
abbrev xs3 (t2 t3 : Addr) : List V := [.ref t2, .ref t3]
theorem th1 {H : Hp} {g : Int} {e : Addr} (he : H e = some (.tup [])) : ThAll K H (xs1 g e) :=
  .cons (.int _) (th_int _) (.cons (.int _) (th_int _) (.cons (.int _) (th_int _) (.cons (.int _) (th_int _) (.cons (.int _) (th_int _) (.cons (.int _) (th_int _) (.cons (.int _) (th_int _)
    (.cons (.bl _) (th_bl _) (.cons (.bl _) (th_bl _) (.cons .non th_non (.cons (.tup he .nil) ⟨trivial, rfl⟩ .nil))))))))))
theorem th2 {H : Hp} {z : Str} {d l1 t1 : Addr} {xs : List V} (hz : textOk z) (hd : H d = some (.dK [])) (h1 : H l1 = some (.lst xs)) (h2 : H t1 = some (.tup [.str ("a" : Str)])) : ThAll K H (xs2 z d l1 t1) :=
  .cons (.str _) (th_str hz.1) (.cons (.str _) (th_str (tok_app hz)) (.cons (.str _) (th_str (tok_of (by decide +kernel))) (.cons (.str _) (th_str (tok_of (by decide +kernel))) (.cons (.str _) (th_str (tok_of (by decide +kernel)))
    (.cons (.str _) (th_str (tok_of (by decide +kernel))) (.cons (.dct hd) ⟨trivial, rfl⟩ (.cons (.lst h1) ⟨trivial, rfl⟩ (.cons (.tup h2 (.cons (.str _) .nil)) ⟨⟨tok_of (by decide +kernel), trivial⟩, rfl⟩ .nil))))))))
theorem noRef (y : Dt) (h : dMark y = false) : dRef (.tup [.str ("at" : Str), y]) = false := by
  show (decide (("at" : Str) = ("at" : Str)) && dMark y) = false
  rw [h, Bool.and_false]
theorem th3 {H : Hp} {t2 t3 : Addr} (h2 : H t2 = some (.tup [.str ("at" : Str), .int 5])) (h3 : H t3 = some (.tup [.str ("at" : Str), .non])) : ThAll K H (xs3 t2 t3) :=
  .cons (.tup h2 (.cons (.str _) (.cons (.int _) .nil))) ⟨⟨tok_of (by decide +kernel), trivial, trivial⟩, by show (false || dRef _) = false; rw [noRef _ rfl]; rfl⟩
    (.cons (.tup h3 (.cons (.str _) (.cons .non .nil))) ⟨⟨tok_of (by decide +kernel), trivial, trivial⟩, by show (false || dRef _) = false; rw [noRef _ rfl]; rfl⟩ .nil)
theorem scL : FnScope ["_law_script", "_law_k", "_law_pool_here", "_law_great", "_law_text_here", "_law_things", "_law_thing", "_law_due_here"] ["_law_script"] (defScope sLaw) := ⟨rfl, rfl, rfl, by decide +kernel, rfl, by decide +kernel, by decide +kernel⟩
theorem ok_law {f fM fN fP fW fPool fDraw fText fDue fRefs : Addr} {fd dM dN dP dW dPool dDraw dText dDue dRefs : FuncData} (F : Fun K "law" "law" sLaw f fd) (T : Txt mg) (G : Defs P w K mg base fM fN fP fW fPool fDraw fText fDue fRefs dM dN dP dW dPool dDraw dText dDue dRefs) :
    FnOk P w K mg base CX0 6 f fd ["_law_script"] (spLaw K) := by
  refine F.ok scL (fun vs H Q E h => ?_) (fun cdv A outer s H vs Q E hr h => ?_)
  · obtain ⟨a, ns, rfl, _⟩ := h
    rfl
  · obtain ⟨a, ns, rfl, hS, hlen, q⟩ := h
    have hr1 : Room 1 _ := hr.mono (by decide)
    have hr2 : Room 2 _ := hr.mono (by decide)
    have hr4 : Room 4 _ := hr.mono (by decide)
    refine ⟨_, pss_cons (ps_for PassesOwn.never rfl (pi_range1 (by rfl) T.range (pa_cons (pe_callB (call_max2 rfl) (by rfl) T.max boot_max (pa_cons pe_int (pa_cons (pe_callB (call_min2 rfl) (by rfl) T.min boot_min (pa_cons (pe_callB call_len_seq (by rfl) T.len PySem.boot_len (pa_cons (pv 0) pa_nil)) (pa_cons pe_int pa_nil))) pa_nil))) pa_nil)) (pg_name (i := 1) scL.nd rfl (Or.inl rfl)) (pss_cons (ps_set (i := 2) scL.nd rfl (Or.inl rfl) (pe_call G.GPool hr1 (by rfl) G.gPool G.kPool G.bPool .nil pass0 (pa_cons (pv 0) (pa_cons (pv 1) pa_nil))))
        (pss_cons (ps_set (i := 3) scL.nd rfl (Or.inl rfl) (pe_op op_sub (pe_ix ix_list (pe_lst (pa_cons pe_int (pa_cons (pe_op op_pow pe_int pe_int) (pa_cons (pe_op op_pow pe_int pe_int) (pa_cons (pe_op op_pow pe_int pe_int) (pa_cons (pe_op op_pow pe_int pe_int) (pa_cons (pe_op op_pow pe_int pe_int) pa_nil))))))) (pe_call G.GDraw hr1 (by rfl) G.gDraw G.kDraw G.bDraw .nil pass0 (pa_cons (pv 2) (pa_cons pe_int pa_nil))) (fun _ _ => rfl)) (pe_call G.GDraw hr1 (by rfl) G.gDraw G.kDraw G.bDraw .nil pass0 (pa_cons (pv 2) (pa_cons pe_int pa_nil)))))
        (pss_cons (ps_set (i := 4) scL.nd rfl (Or.inl rfl) (pe_call G.GText hr2 (by rfl) G.gText G.kText G.bText .nil pass0 (pa_cons (pv 2) pa_nil)))
        (pss_cons (ps_set (i := 5) scL.nd rfl (Or.inl rfl) (pe_lst (pa_cons (pv 3) (pa_cons (pe_un un_neg (pv 3)) (pa_cons (pe_op op_pow pe_int pe_int) (pa_cons (pe_op op_sub (pe_op op_pow pe_int pe_int) pe_int) (pa_cons (pe_un un_neg (pe_op op_pow pe_int pe_int)) (pa_cons (pe_op op_sub pe_int (pe_op op_pow pe_int pe_int)) (pa_cons pe_int (pa_cons pe_bl (pa_cons pe_bl (pa_cons pe_non (pa_cons (pe_tup pa_nil) pa_nil)))))))))))))
        (pss_cons (ps_set (i := 5) scL.nd rfl (Or.inl rfl) (pe_op op_cat (pv 5) (pe_lst (pa_cons (pv 4) (pa_cons (pe_op op_add_str (pv 4) pe_str) (pa_cons pe_str (pa_cons pe_str (pa_cons pe_str (pa_cons pe_str (pa_cons pe_dnewK (pa_cons (pe_lst (pa_cons pe_str pa_nil)) (pa_cons (pe_tup (pa_cons pe_str pa_nil)) pa_nil))))))))))))
        (pss_cons (ps_for PassesOwn.never rfl (pi_list (pe_op op_cat (pv 5) (pe_lst (pa_cons (pe_tup (pa_cons pe_str (pa_cons pe_int pa_nil))) (pa_cons (pe_tup (pa_cons pe_str (pa_cons pe_non pa_nil))) pa_nil))))) (pg_name (i := 6) scL.nd rfl (Or.inl rfl)) (pss_cons (ps_set (i := 7) scL.nd rfl (Or.inl rfl) (pe_call G.GDue hr2 (by rfl) G.gDue G.kDue G.bDue .nil pass0 (pa_cons (pv 6) pa_nil)))
          (pss_one (ps_if (PW.pt (pw_or (pt_cmpR (op_neD hr.units) (pe_lst (pa_cons (pe_call G.GM hr2 (by rfl) G.gM G.kM G.bM .nil pass0 (pa_cons (pv 6) pa_nil)) (pa_cons (pe_call G.GN hr2 (by rfl) G.gN G.kN G.bN .nil pass0 (pa_cons (pv 6) pa_nil)) (pa_cons (pe_call G.GP hr2 (by rfl) G.gP G.kP G.bP .nil pass0 (pa_cons (pv 6) pa_nil)) pa_nil)))) (pv 7) (nomark _)) (pw_or1 (pt_cmpR op_ne (pe_call G.GW hr4 (by rfl) G.gW G.kW G.bW .nil pass0 (pa_cons (pv 6) pa_nil)) (pe_ix ix_list (pv 7) pe_int (fun _ _ => rfl)) (nomark _))))) (pss_one (ps_ret pe_bl)) pss_nil))))
        (pss_cons (ps_if (PW.pt (pw_or (pt_not (pt_val (pe_call G.GRefs hr (by rfl) G.gRefs G.kRefs G.bRefs .nil pass0 (pa_cons (pv 4) pa_nil)))) (pw_or1 (pt_not (pt_val (pe_call G.GRefs hr (by rfl) G.gRefs G.kRefs G.bRefs .nil pass0 (pa_cons pe_str pa_nil))))))) (pss_one (ps_ret pe_bl)) pss_nil)
        (pss_one (ps_if (PW.pt (pw_or (pt_not (pt_val (pe_call G.GW hr4 (by rfl) G.gW G.kW G.bW .nil pass0 (pa_cons (pe_tup (pa_cons pe_str (pa_cons pe_str pa_nil))) pa_nil)))) (pw_or (pt_val (pe_call G.GW hr4 (by rfl) G.gW G.kW G.bW .nil pass0 (pa_cons (pe_tup (pa_cons pe_str (pa_cons pe_bl pa_nil))) pa_nil))) (pw_or1 (pt_val (pe_call G.GW hr4 (by rfl) G.gW G.kW G.bW .nil pass0 (pa_cons (pe_tup (pa_cons pe_bl (pa_cons pe_str pa_nil))) pa_nil))))))) (pss_one (ps_ret pe_bl)) pss_nil))))))))))
      (pss_one (ps_ret (pe_and (pe_callK0 G.GM hr2 (by rfl) G.gM G.kM G.qM pass0 (pk_cons pe_str pk_nil)) (pe_and (pe_callK0 G.GN hr2 (by rfl) G.gN G.kN G.qN pass0 (pk_cons pe_str pk_nil)) (pe_and (pe_callK0 G.GP hr2 (by rfl) G.gP G.kP G.qP pass0 (pk_cons pe_int pk_nil)) (pe_one (pe_callK0 G.GW hr4 (by rfl) G.gW G.kW G.qW pass0 (pk_cons pe_int pk_nil)))))))), ?_⟩
    have l63 : ns.length ≤ 63 := hlen
    refine ⟨.ref a, rfl, a, ns.map V.int, rfl, .inl hS, _, 8, rfl, 1, _, rfl, _, rfl, ?_, ?_, ?_⟩
    · rw [List.length_map]; split <;> split <;> omega
    · rw [List.length_map]; split <;> split <;> omega
    generalize hj : (if (if (8 : Int) < ((ns.map V.int).length : Int) then (8 : Int) else ((ns.map V.int).length : Int)) > 1 then (if (8 : Int) < ((ns.map V.int).length : Int) then (8 : Int) else ((ns.map V.int).length : Int)) else 1) = j
    have hj8 : j ≤ 8 := by rw [← hj]; split <;> split <;> omega
    refine for_range (lo := 0) (n := j.toNat) (fun i σ H' => ∃ o1 o2 o3 o4 o5 o6 o7 : Option V, σ = [some (.ref a), o1, o2, o3, o4, o5, o6, o7] ∧ SqL K H' a (ns.map V.int)) ⟨none, none, none, none, none, none, none, rfl, hS⟩ ?_ ?_
    · rintro i σ H0 hi ⟨o1, o2, o3, o4, o5, o6, o7, rfl, hS0⟩
      -- the pool
      refine ⟨_, rfl, _, rfl, a, ns, i, (by rw [Int.zero_add]; rfl), hS0, by omega, fun H1 p s1 np pool1 => ?_⟩
      -- great
      refine ⟨10, 9, rfl, rfl, ⟨by decide, by decide, by decide⟩, 10, 28, rfl, rfl, ⟨by decide, by decide, by decide⟩, 10, 29, rfl, rfl, ⟨by decide, by decide, by decide⟩, 10, 30, rfl, rfl, ⟨by decide, by decide, by decide⟩, 10, 31, rfl, rfl, ⟨by decide, by decide, by decide⟩, (by show 6 ≤ sizeLine; decide), fun D hD => ?_⟩
      refine ⟨_, rfl, p, 6, rfl, pool1.new hD, by decide, by decide, fun c x y ca cb x0 y0 y1 => ?_⟩
      have nD : D ≠ p := fun e => pool1.some (e ▸ hD)
      obtain ⟨v, _, ev⟩ := atI_int [10, 10 ^ (9 : Int).toNat, 10 ^ (28 : Int).toNat, 10 ^ (29 : Int).toNat, 10 ^ (30 : Int).toNat, 10 ^ (31 : Int).toNat] c ca cb
      refine ⟨D, [10, 10 ^ (9 : Int).toNat, 10 ^ (28 : Int).toNat, 10 ^ (29 : Int).toNat, 10 ^ (30 : Int).toNat, 10 ^ (31 : Int).toNat].map V.int, c, .int v, rfl, rfl, SqL.of (by rw [upd_ne nD]; exact upd_same), ev, ?_⟩
      refine ⟨_, rfl, p, 3, rfl, poolPut x0 y0 y1, by decide, by decide, fun c' x' y' _ _ x0' y0' y1' => ⟨v, c', rfl, rfl, ?_⟩⟩
      -- the text
      refine ⟨_, rfl, p, rfl, poolPut x0' y0' y1', fun H2 z hz k2 pool2 => ?_⟩
      have hS2 : SqL K H2 a (ns.map V.int) := sqlPool np hS0 s1 (((keep1_of (same_upd hD)).trans (Keep1.put.trans Keep1.put)).trans k2)
      have hzs : z.length ≤ sizeLine := Nat.le_of_lt (small1000 hz.1.1)
      -- the things
      refine ⟨_, rfl, _, rfl, _, rfl, 10, 30, rfl, rfl, ⟨by decide, by decide, by decide⟩, 10, 30, rfl, rfl, ⟨by decide, by decide, by decide⟩, _, 1, rfl, rfl, 10, 30, rfl, rfl, ⟨by decide, by decide, by decide⟩, _, rfl, 10, 30, rfl, rfl, ⟨by decide, by decide, by decide⟩, 1, _, rfl, rfl,
        (by show 0 ≤ sizeLine; decide), fun e he => ?_⟩
      refine ⟨(by show 11 ≤ sizeLine; decide), fun l hl => ?_⟩
      have hza : z.length + ("a" : Str).length ≤ sizeLine := by
        have : ("a" : Str).length = 1 := by decide +kernel
        rw [this]
        exact Nat.le_of_lt (small1000 (by have := hz.2.1; omega))
      refine ⟨_, rfl, _, rfl, _, rfl, z, _, rfl, rfl, hza, fun d hd => ⟨(by show 1 ≤ sizeLine; decide), fun l1 hl1 => ⟨(by show 1 ≤ sizeLine; decide), fun t1 ht1 => ⟨(by show 9 ≤ sizeLine; decide), fun l2 hl2 => ?_⟩⟩⟩⟩
      refine ⟨l, l2, xs1 (v - c') e, xs2 z d l1 t1, rfl, rfl, ?_, upd_same, (by show 20 ≤ sizeLine; decide), fun l3 hl3 => ?_⟩
      · exact ((((same_upd hd).trans (same_upd hl1)).trans (same_upd ht1)).trans (same_upd hl2)) _ _ upd_same
      refine ⟨_, rfl, (by show 2 ≤ sizeLine; decide), fun t2 ht2 => ⟨(by show 2 ≤ sizeLine; decide), fun t3 ht3 => ⟨(by show 2 ≤ sizeLine; decide), fun l4 hl4 => ?_⟩⟩⟩
      refine ⟨l3, l4, xs1 (v - c') e ++ xs2 z d l1 t1, xs3 t2 t3, rfl, rfl, ?_, upd_same, (by show 22 ≤ sizeLine; decide), fun l5 hl5 => ?_⟩
      · exact (((same_upd ht2).trans (same_upd ht3)).trans (same_upd hl4)) _ _ upd_same
      have kl5 := same_upd (o := .lst ((xs1 (v - c') e ++ xs2 z d l1 t1) ++ xs3 t2 t3)) hl5
      have kl4 := (same_upd (o := .lst (xs3 t2 t3)) hl4).trans kl5
      have kt3 := (same_upd (o := .tup [.str ("at" : Str), .non]) ht3).trans kl4
      have kt2 := (same_upd (o := .tup [.str ("at" : Str), .int 5]) ht2).trans kt3
      have kl3 := (same_upd (o := .lst (xs1 (v - c') e ++ xs2 z d l1 t1)) hl3).trans kt2
      have kl2 := (same_upd (o := .lst (xs2 z d l1 t1)) hl2).trans kl3
      have kt1 := (same_upd (o := .tup [.str ("a" : Str)]) ht1).trans kl2
      have kl1 := (same_upd (o := .lst [.str ("a" : Str)]) hl1).trans kt1
      have kd := (same_upd (o := .dK []) hd).trans kl1
      have kl := (same_upd (o := .lst (xs1 (v - c') e)) hl).trans kd
      have ke := (same_upd (o := .tup []) he).trans kl
      have thA := ThAll.append (ThAll.append (th1 (K := K) (g := v - c') (kl _ _ (upd_same (H := H2) (a := e) (o := .tup [])))) (th2 (K := K) hz (kl1 _ _ upd_same) (kt1 _ _ upd_same) (kl2 _ _ upd_same))) (th3 (K := K) (kt3 _ _ upd_same) (kl4 _ _ upd_same))
      have hS5 := ke.seq hS2
      refine ⟨l5, rfl, ⟨_, SqL.of upd_same⟩, ?_⟩
      refine for_list (K := K) (a := l5) (xs := (xs1 (v - c') e ++ xs2 z d l1 t1) ++ xs3 t2 t3) (fun i2 σ H' => ∃ o6 o7 : Option V, σ = [some (.ref a), some (.int (0 + (i : Int))), some (.ref p), some (.int (v - c')), some (.str z), some (.ref l3), o6, o7] ∧
          H' l5 = some (.lst ((xs1 (v - c') e ++ xs2 z d l1 t1) ++ xs3 t2 t3)) ∧ ThAll K H' ((xs1 (v - c') e ++ xs2 z d l1 t1) ++ xs3 t2 t3) ∧ SqL K H' a (ns.map V.int)) ⟨_, _, rfl, upd_same, thA, hS5⟩ (fun _ _ _ _ ⟨_, _, _, e, _⟩ => SqL.of e) ?_ ?_
      · rintro i2 x σ H3 hi2 ⟨o6, o7, rfl, e6, th6, hS6⟩
        obtain ⟨d', da, ok⟩ := th6 i2 x hi2
        refine ⟨_, rfl, x, d', rfl, da, ok.1, fun H4 pd s4 due => ?_⟩
        have dk := ok.1.ok
        have da4 := da.same s4
        refine ⟨_, rfl, x, d', rfl, da4, dk, fun H5 s5 => ⟨_, rfl, x, d', rfl, da4.same s5, dk, fun H6 s6 => ⟨_, rfl, x, d', rfl, da4.same (s5.trans s6), dk, fun H7 s7 => ⟨(by show 3 ≤ sizeLine; decide), fun m hm => ?_⟩⟩⟩⟩
        have s47 := (s5.trans s6).trans s7
        have due7 : H7 pd = some (.lst ([dMark d', dName d', dPlain d'].map V.bl)) := s47 _ _ due
        have due8 := same_upd (o := .lst ([dMark d', dName d', dPlain d'].map V.bl)) hm _ _ due7
        refine ⟨_, rfl, .list ([dMark d', dName d', dPlain d'].map PyData.bool), .list ([dMark d', dName d', dPlain d'].map PyData.bool), .lst (SqL.of upd_same) (DpAll.bls [dMark d', dName d', dPlain d']), .lst (SqL.of due8) (DpAll.bls [dMark d', dName d', dPlain d']), shaped_bls _, shaped_bls _, false, ?_, ?_⟩
        · rw [show PyData.eqv (.list ([dMark d', dName d', dPlain d'].map PyData.bool)) (.list ([dMark d', dName d', dPlain d'].map PyData.bool)) = decide ([dMark d', dName d', dPlain d'] = [dMark d', dName d', dPlain d']) from eqv_bls _ _, decide_eq_true rfl]
          rfl
        refine iteF ?_
        have s48 := s47.trans (same_upd (o := .lst ([dMark d', dName d', dPlain d'].map V.bl)) hm)
        refine ⟨_, rfl, x, d', rfl, da4.same s48, dk, fun H8 s8 => ?_⟩
        have due9 : H8 pd = some (.lst [.bl (dMark d'), .bl (dName d'), .bl (dPlain d')]) := s8 _ _ due8
        refine ⟨_, rfl, pd, _, 2, .bl (dPlain d'), rfl, rfl, SqL.of due9, atI_nat (j := 2) rfl, rfl, false, ?_, iteF ?_⟩
        · rw [ok.2, decide_eq_true rfl]
          rfl
        have s38 := s4.trans (s48.trans s8)
        exact ⟨_, _, rfl, s38 _ _ e6, th6.same s38, s38.seq hS6⟩
      · rintro σ H3 ⟨o6, o7, rfl, e6, th6, hS6⟩
        refine ⟨_, rfl, z, rfl, hz.1, hz.at, fun H4 s4 => ⟨true, rfl, iteF ?_⟩⟩
        refine ⟨("a1" : Str), rfl, tok_of (by decide +kernel), (by decide +kernel), fun H5 s5 => ⟨true, rfl, iteF ?_⟩⟩
        have hat : ("at" : Str).length ≤ sizeLine := by decide +kernel
        have ha : ("a" : Str).length ≤ sizeLine := by decide +kernel
        refine ⟨(by show 2 ≤ sizeLine; decide), fun u1 hu1 => ⟨.ref u1, .tup [.str ("at" : Str), .str ("a" : Str)], rfl, .tup upd_same (.cons (.str _) (.cons (.str _) .nil)), ⟨hat, ha, trivial⟩, fun H6 s6 => ⟨true, congrArg V.bl (by decide +kernel), iteF ?_⟩⟩⟩
        refine ⟨(by show 2 ≤ sizeLine; decide), fun u2 hu2 => ⟨.ref u2, .tup [.str ("at" : Str), .bl true], rfl, .tup upd_same (.cons (.str _) (.cons (.bl _) .nil)), ⟨hat, trivial, trivial⟩, fun H7 s7 => ⟨false, congrArg V.bl (by show (false || dRef _) = false; rw [noRef _ rfl]; rfl), iteF ?_⟩⟩⟩
        refine ⟨(by show 2 ≤ sizeLine; decide), fun u3 hu3 => ⟨.ref u3, .tup [.bl true, .str ("a" : Str)], rfl, .tup upd_same (.cons (.bl _) (.cons (.str _) .nil)), ⟨trivial, ha, trivial⟩, fun H8 s8 => ⟨false, rfl, iteF ?_⟩⟩⟩
        exact ⟨_, _, _, _, _, _, _, rfl, ((((((s4.trans s5).trans (same_upd hu1)).trans s6).trans (same_upd hu2)).trans s7).trans ((same_upd hu3).trans s8)).seq hS6⟩
    · rintro σ H' ⟨o1, o2, o3, o4, o5, o6, o7, rfl, hS'⟩
      have m1 : dMark (.str ("a" : Str)) = true := by decide +kernel
      have m2 : dName (.str ("a" : Str)) = true := by decide +kernel
      have m3 : dPlain (.int 1) = true := by decide +kernel
      have m4 : dWorth (.int 1) = true := by decide +kernel
      have ha : dOk (.str ("a" : Str)) := by show ("a" : Str).length ≤ sizeLine; decide +kernel
      refine ⟨.str ("a" : Str), .str ("a" : Str), rfl, .str _, ha, fun H1 s1 => ⟨true, congrArg V.bl m1, iteT ?_⟩⟩
      refine ⟨.str ("a" : Str), .str ("a" : Str), rfl, .str _, ha, fun H2 s2 => ⟨true, congrArg V.bl m2, iteT ?_⟩⟩
      refine ⟨.int 1, .int 1, rfl, .int _, trivial, fun H3 s3 => ⟨true, congrArg V.bl m3, iteT ?_⟩⟩
      refine ⟨.int 1, .int 1, rfl, .int _, trivial, fun H4 s4 => ?_⟩
      rw [m4]
      exact q _
end
end SB

set_option Elab.async false
set_option linter.all false
set_option maxRecDepth 100000
set_option maxHeartbeats 4000000
namespace SB
open PySem L2 PyProof.Rows
/-- one parameter, given by its name or by its place -/
theorem kb1 {K : PySem.W.Frag} {x qual : Str} {st : Stmt} {f : Addr} {fd : FuncData} {p : Str} (F : Fun K x qual st f fd)
    (h : ∀ (kV doc pm : Value) (an : Option Addr) (cdv ct : Value), (∀ v, bindArgs (PySem.W.fnOf x qual (defArgs st) (defBody st) (defScope st) .none kV doc pm an cdv ct) ⟨[], [(p, v)]⟩ = pure [(p, v)]) ∧ (∀ v, bindArgs (PySem.W.fnOf x qual (defArgs st) (defBody st) (defScope st) .none kV doc pm an cdv ct) ⟨[v], []⟩ = pure [(p, v)])) :
    KBinds K fd [p] [p] gK gKV := by
  obtain ⟨oc, od, kV, doc, pm, an, cdv, ct, osl, rfl, lk, hcd⟩ := F.ex
  obtain ⟨h1, h2⟩ := h kV doc pm an cdv ct
  refine ⟨fun s us ws _ hl => ?_, fun r q => r.append q⟩
  match us, ws, hl with
  | [], [v], _ => exact .of_eq (h1 v)
  | [v], [], _ => exact .of_eq (h2 v)
  | [], [], hl => cases hl
  | [], _ :: _ :: _, hl => exact absurd (Nat.succ.inj hl) (Nat.succ_ne_zero _)
  | _ :: _ :: _, _, hl => exact absurd (Nat.succ.inj hl) (Nat.succ_ne_zero _)
  | [_], _ :: _, hl => exact absurd (Nat.succ.inj hl) (Nat.succ_ne_zero _)
theorem all_mk {l : PySem.W.OpenLaw} {w : World} {K : PySem.W.Frag} {h : Heap} {mg : Str → Option Value} {fa f1 f2 f3 f4 f5 f6 f7 f8 f9 f10 f11 f12 f13 f14 f15 : Addr} (X : K.In h) (G : h.Ns mainGlobals mg) (hfa : mg "law" = some (.ref fa))
    {od1 od2 od3 od4 od5 od6 od7 od8 od9 od10 od11 od12 od13 od14 od15 an1 an2 an3 an4 an5 an6 an7 an8 an9 an10 an11 an12 an13 an14 an15 : Option Addr} {sl1 sl2 sl3 sl4 sl5 sl6 sl7 sl8 sl9 sl10 sl11 sl12 sl13 sl14 sl15 : Array (Option Value)} {oc1 oc2 oc3 oc4 oc5 oc6 oc7 oc8 oc9 oc10 oc11 oc12 oc13 oc14 oc15 kV1 kV2 kV3 kV4 kV5 kV6 kV7 kV8 kV9 kV10 kV11 kV12 kV13 kV14 kV15 dc1 dc2 dc3 dc4 dc5 dc6 dc7 dc8 dc9 dc10 dc11 dc12 dc13 dc14 dc15 pm1 pm2 pm3 pm4 pm5 pm6 pm7 pm8 pm9 pm10 pm11 pm12 pm13 pm14 pm15 cd1 cd2 cd3 cd4 cd5 cd6 cd7 cd8 cd9 cd10 cd11 cd12 cd13 cd14 cd15 ct1 ct2 ct3 ct4 ct5 ct6 ct7 ct8 ct9 ct10 ct11 ct12 ct13 ct14 ct15 : Value} {t1 t2 t3 t4 t5 : Tok}
    (a1 : PySem.W.nsIn K mainGlobals "is_mark" = some (some (.ref f1))) (l1 : K.lookup f1 = some ⟨oc1, od1, .func (PySem.W.fnOf "is_mark" "is_mark" (defArgs sMark) (defBody sMark) (defScope sMark) .none kV1 dc1 pm1 an1 cd1 ct1), sl1⟩) (c1 : PySem.W.codeIn K cd1 "is_mark" = true) (k1 : PySem.W.keepIn K (.ref f1) = true)
    (a2 : PySem.W.nsIn K mainGlobals "is_name" = some (some (.ref f2))) (l2 : K.lookup f2 = some ⟨oc2, od2, .func (PySem.W.fnOf "is_name" "is_name" (defArgs sName) (defBody sName) (defScope sName) .none kV2 dc2 pm2 an2 cd2 ct2), sl2⟩) (c2 : PySem.W.codeIn K cd2 "is_name" = true) (k2 : PySem.W.keepIn K (.ref f2) = true)
    (a3 : PySem.W.nsIn K mainGlobals "is_plain" = some (some (.ref f3))) (l3 : K.lookup f3 = some ⟨oc3, od3, .func (PySem.W.fnOf "is_plain" "is_plain" (defArgs sPlain) (defBody sPlain) (defScope sPlain) .none kV3 dc3 pm3 an3 cd3 ct3), sl3⟩) (c3 : PySem.W.codeIn K cd3 "is_plain" = true) (k3 : PySem.W.keepIn K (.ref f3) = true)
    (a4 : PySem.W.nsIn K mainGlobals "is_worth" = some (some (.ref f4))) (l4 : K.lookup f4 = some ⟨oc4, od4, .func (PySem.W.fnOf "is_worth" "is_worth" (defArgs sWorth) (defBody sWorth) (defScope sWorth) .none kV4 dc4 pm4 an4 cd4 ct4), sl4⟩) (c4 : PySem.W.codeIn K cd4 "is_worth" = true) (k4 : PySem.W.keepIn K (.ref f4) = true)
    (a5 : PySem.W.nsIn K mainGlobals "is_spelled" = some (some (.ref f5))) (l5 : K.lookup f5 = some ⟨oc5, od5, .func (PySem.W.fnOf "is_spelled" "is_spelled" (defArgs sSpelled) (defBody sSpelled) (defScope sSpelled) .none kV5 dc5 pm5 an5 cd5 ct5), sl5⟩) (c5 : PySem.W.codeIn K cd5 "is_spelled" = true) (k5 : PySem.W.keepIn K (.ref f5) = true)
    (a6 : PySem.W.nsIn K mainGlobals "is_number" = some (some (.ref f6))) (l6 : K.lookup f6 = some ⟨oc6, od6, .func (PySem.W.fnOf "is_number" "is_number" (defArgs sNumber) (defBody sNumber) (defScope sNumber) .none kV6 dc6 pm6 an6 cd6 ct6), sl6⟩) (c6 : PySem.W.codeIn K cd6 "is_number" = true) (k6 : PySem.W.keepIn K (.ref f6) = true)
    (a7 : PySem.W.nsIn K mainGlobals "is_pair" = some (some (.ref f7))) (l7 : K.lookup f7 = some ⟨oc7, od7, .func (PySem.W.fnOf "is_pair" "is_pair" (defArgs sPair) (defBody sPair) (defScope sPair) .none kV7 dc7 pm7 an7 cd7 ct7), sl7⟩) (c7 : PySem.W.codeIn K cd7 "is_pair" = true) (k7 : PySem.W.keepIn K (.ref f7) = true)
    (a8 : PySem.W.nsIn K mainGlobals "is_reference" = some (some (.ref f8))) (l8 : K.lookup f8 = some ⟨oc8, od8, .func (PySem.W.fnOf "is_reference" "is_reference" (defArgs sRefe) (defBody sRefe) (defScope sRefe) .none kV8 dc8 pm8 an8 cd8 ct8), sl8⟩) (c8 : PySem.W.codeIn K cd8 "is_reference" = true) (k8 : PySem.W.keepIn K (.ref f8) = true)
    (a9 : PySem.W.nsIn K mainGlobals "_law_pool" = some (some (.ref f9))) (l9 : K.lookup f9 = some ⟨oc9, od9, .func (PySem.W.fnOf "_law_pool" "_law_pool" (defArgs sPool) (defBody sPool) (defScope sPool) .none kV9 dc9 pm9 an9 cd9 ct9), sl9⟩) (c9 : PySem.W.codeIn K cd9 "_law_pool" = true) (k9 : PySem.W.keepIn K (.ref f9) = true)
    (a10 : PySem.W.nsIn K mainGlobals "_law_draw" = some (some (.ref f10))) (l10 : K.lookup f10 = some ⟨oc10, od10, .func (PySem.W.fnOf "_law_draw" "_law_draw" (defArgs sDraw) (defBody sDraw) (defScope sDraw) .none kV10 dc10 pm10 an10 cd10 ct10), sl10⟩) (c10 : PySem.W.codeIn K cd10 "_law_draw" = true) (k10 : PySem.W.keepIn K (.ref f10) = true)
    (a11 : PySem.W.nsIn K mainGlobals "_law_text" = some (some (.ref f11))) (l11 : K.lookup f11 = some ⟨oc11, od11, .func (PySem.W.fnOf "_law_text" "_law_text" (defArgs sText) (defBody sText) (defScope sText) .none kV11 dc11 pm11 an11 cd11 ct11), sl11⟩) (c11 : PySem.W.codeIn K cd11 "_law_text" = true) (k11 : PySem.W.keepIn K (.ref f11) = true)
    (a12 : PySem.W.nsIn K mainGlobals "_law_is_made" = some (some (.ref f12))) (l12 : K.lookup f12 = some ⟨oc12, od12, .func (PySem.W.fnOf "_law_is_made" "_law_is_made" (defArgs sMade) (defBody sMade) (defScope sMade) .none kV12 dc12 pm12 an12 cd12 ct12), sl12⟩) (c12 : PySem.W.codeIn K cd12 "_law_is_made" = true) (k12 : PySem.W.keepIn K (.ref f12) = true)
    (a13 : PySem.W.nsIn K mainGlobals "_law_due" = some (some (.ref f13))) (l13 : K.lookup f13 = some ⟨oc13, od13, .func (PySem.W.fnOf "_law_due" "_law_due" (defArgs sDue) (defBody sDue) (defScope sDue) .none kV13 dc13 pm13 an13 cd13 ct13), sl13⟩) (c13 : PySem.W.codeIn K cd13 "_law_due" = true) (k13 : PySem.W.keepIn K (.ref f13) = true)
    (a14 : PySem.W.nsIn K mainGlobals "_law_references" = some (some (.ref f14))) (l14 : K.lookup f14 = some ⟨oc14, od14, .func (PySem.W.fnOf "_law_references" "_law_references" (defArgs sRefs) (defBody sRefs) (defScope sRefs) .none kV14 dc14 pm14 an14 cd14 ct14), sl14⟩) (c14 : PySem.W.codeIn K cd14 "_law_references" = true) (k14 : PySem.W.keepIn K (.ref f14) = true)
    (a15 : PySem.W.nsIn K mainGlobals "law" = some (some (.ref f15))) (l15 : K.lookup f15 = some ⟨oc15, od15, .func (PySem.W.fnOf "law" "law" (defArgs sLaw) (defBody sLaw) (defScope sLaw) .none kV15 dc15 pm15 an15 cd15 ct15), sl15⟩) (c15 : PySem.W.codeIn K cd15 "law" = true) (k15 : PySem.W.keepIn K (.ref f15) = true)
    (z1 : PySem.W.nsIn K mainGlobals "isinstance" = some none)
    (z2 : PySem.W.nsIn K mainGlobals "str" = some none)
    (z3 : PySem.W.nsIn K mainGlobals "int" = some none)
    (z4 : PySem.W.nsIn K mainGlobals "bool" = some none)
    (z5 : PySem.W.nsIn K mainGlobals "tuple" = some none)
    (z6 : PySem.W.nsIn K mainGlobals "len" = some none)
    (z7 : PySem.W.nsIn K mainGlobals "all" = some none)
    (z8 : PySem.W.nsIn K mainGlobals "abs" = some none)
    (z9 : PySem.W.nsIn K mainGlobals "sum" = some none)
    (z10 : PySem.W.nsIn K mainGlobals "min" = some none)
    (z11 : PySem.W.nsIn K mainGlobals "max" = some none)
    (z12 : PySem.W.nsIn K mainGlobals "range" = some none)
    (v1 : PySem.W.nsIn K mainGlobals "LETTERS" = some (some (.str LT t1)))
    (v2 : PySem.W.nsIn K mainGlobals "LETTERS_AND_DIGITS" = some (some (.str LD t2)))
    (v3 : PySem.W.nsIn K mainGlobals "LONGEST_WORD" = some (some (.int 8 t3)))
    (v4 : PySem.W.nsIn K mainGlobals "LONGEST_TEXT" = some (some (.int 20 t4)))
    (v5 : PySem.W.nsIn K mainGlobals "FIRST_TOO_GREAT" = some (some (.int TEN30 t5))) :
    ∃ fd : FuncData, (∀ (s : Shared) (v : Value), BindsTo s fd ⟨[v], []⟩ [("_law_script", v)]) ∧ ∀ base : Heap, K.In base → base.Ns mainGlobals mg → FnOk l.prog w K mg base CX0 6 fa fd ["_law_script"] (spLaw K) := by
  have e := hfa.symm.trans (PySem.W.mg_of X G a15)
  cases e
  have F1 := fun_mk (st := sMark) l1 c1 k1
  have b1 := F1.binds (ps := ["value"]) fun _ _ _ _ _ _ us hl => match us, hl with | [_], _ => rfl
  have g1 := PySem.W.mg_of X G a1
  have F2 := fun_mk (st := sName) l2 c2 k2
  have b2 := F2.binds (ps := ["value"]) fun _ _ _ _ _ _ us hl => match us, hl with | [_], _ => rfl
  have g2 := PySem.W.mg_of X G a2
  have F3 := fun_mk (st := sPlain) l3 c3 k3
  have b3 := F3.binds (ps := ["value"]) fun _ _ _ _ _ _ us hl => match us, hl with | [_], _ => rfl
  have g3 := PySem.W.mg_of X G a3
  have F4 := fun_mk (st := sWorth) l4 c4 k4
  have b4 := F4.binds (ps := ["value"]) fun _ _ _ _ _ _ us hl => match us, hl with | [_], _ => rfl
  have g4 := PySem.W.mg_of X G a4
  have F5 := fun_mk (st := sSpelled) l5 c5 k5
  have b5 := F5.binds (ps := ["value", "characters", "least", "most"]) fun _ _ _ _ _ _ us hl => match us, hl with | [_, _, _, _], _ => rfl
  have g5 := PySem.W.mg_of X G a5
  have F6 := fun_mk (st := sNumber) l6 c6 k6
  have b6 := F6.binds (ps := ["value"]) fun _ _ _ _ _ _ us hl => match us, hl with | [_], _ => rfl
  have g6 := PySem.W.mg_of X G a6
  have F7 := fun_mk (st := sPair) l7 c7 k7
  have b7 := F7.binds (ps := ["value"]) fun _ _ _ _ _ _ us hl => match us, hl with | [_], _ => rfl
  have g7 := PySem.W.mg_of X G a7
  have F8 := fun_mk (st := sRefe) l8 c8 k8
  have b8 := F8.binds (ps := ["value"]) fun _ _ _ _ _ _ us hl => match us, hl with | [_], _ => rfl
  have g8 := PySem.W.mg_of X G a8
  have F9 := fun_mk (st := sPool) l9 c9 k9
  have b9 := F9.binds (ps := ["_law_script", "_law_k"]) fun _ _ _ _ _ _ us hl => match us, hl with | [_, _], _ => rfl
  have g9 := PySem.W.mg_of X G a9
  have F10 := fun_mk (st := sDraw) l10 c10 k10
  have b10 := F10.binds (ps := ["_law_pool_here", "_law_many"]) fun _ _ _ _ _ _ us hl => match us, hl with | [_, _], _ => rfl
  have g10 := PySem.W.mg_of X G a10
  have F11 := fun_mk (st := sText) l11 c11 k11
  have b11 := F11.binds (ps := ["_law_pool_here"]) fun _ _ _ _ _ _ us hl => match us, hl with | [_], _ => rfl
  have g11 := PySem.W.mg_of X G a11
  have F12 := fun_mk (st := sMade) l12 c12 k12
  have b12 := F12.binds (ps := ["_law_text_here", "_law_signs"]) fun _ _ _ _ _ _ us hl => match us, hl with | [_, _], _ => rfl
  have g12 := PySem.W.mg_of X G a12
  have F13 := fun_mk (st := sDue) l13 c13 k13
  have b13 := F13.binds (ps := ["_law_thing"]) fun _ _ _ _ _ _ us hl => match us, hl with | [_], _ => rfl
  have g13 := PySem.W.mg_of X G a13
  have F14 := fun_mk (st := sRefs) l14 c14 k14
  have b14 := F14.binds (ps := ["_law_text_here"]) fun _ _ _ _ _ _ us hl => match us, hl with | [_], _ => rfl
  have g14 := PySem.W.mg_of X G a14
  have F15 := fun_mk (st := sLaw) l15 c15 k15
  refine ⟨PySem.W.fnOf "law" "law" (defArgs sLaw) (defBody sLaw) (defScope sLaw) .none kV15 dc15 pm15 an15 cd15 ct15, fun s v => .of_eq rfl, fun base _ _ => ?_⟩
  have T : Txt mg := ⟨PySem.W.mg_none_of X G z1, PySem.W.mg_none_of X G z2, PySem.W.mg_none_of X G z3, PySem.W.mg_none_of X G z4, PySem.W.mg_none_of X G z5, PySem.W.mg_none_of X G z6, PySem.W.mg_none_of X G z7, PySem.W.mg_none_of X G z8, PySem.W.mg_none_of X G z9, PySem.W.mg_none_of X G z10, PySem.W.mg_none_of X G z11, PySem.W.mg_none_of X G z12,
    ⟨_, PySem.W.mg_of X G v1⟩, ⟨_, PySem.W.mg_of X G v2⟩, ⟨_, PySem.W.mg_of X G v3⟩, ⟨_, PySem.W.mg_of X G v4⟩, ⟨_, PySem.W.mg_of X G v5⟩⟩
  have GM := ok_mark (P := l.prog) (w := w) (base := base) F1 F5 b5 g5 T
  have GP := ok_plain (P := l.prog) (w := w) (base := base) F3 F5 b5 g5 F6 b6 g6 T
  have GR := ok_refe (P := l.prog) (w := w) (base := base) F8 F5 b5 g5 F1 b1 g1 F7 b7 g7 T
  have GW := ok_worth (P := l.prog) (w := w) (base := base) F4 F3.kp b3 g3 GP F8.kp b8 g8 GR
  exact ok_law F15 T ⟨g1, g2, g3, g4, g9, g10, g11, g13, g14, F1.kp, F2.kp, F3.kp, F4.kp, F9.kp, F10.kp, F11.kp, F13.kp, F14.kp, b1, b2, b3, b4, b9, b10, b11, b13, b14, kb1 F1 fun _ _ _ _ _ _ => ⟨fun _ => rfl, fun _ => rfl⟩, kb1 F2 fun _ _ _ _ _ _ => ⟨fun _ => rfl, fun _ => rfl⟩, kb1 F3 fun _ _ _ _ _ _ => ⟨fun _ => rfl, fun _ => rfl⟩, kb1 F4 fun _ _ _ _ _ _ => ⟨fun _ => rfl, fun _ => rfl⟩,
    GM, ok_name F2 F5 b5 g5 T, GP, GW, ok_pool F9 T, ok_draw F10 T, ok_text F11 F10 b10 g10 T, ok_due F13 F12 b12 g12 T, ok_refs F14 F1.kp b1 g1 GM F4.kp b4 g4 GW⟩
end SB
open PySem PySem.W PyProof.Rows
set_option maxRecDepth 100000 in
set_option maxHeartbeats 0 in
theorem PySem.Challenge.cw_samebytes_k01_marks_names_and_worths_holds : PySem.Challenge.rw_samebytes_k01_marks_names_and_worths.Holds := by
  w_on; o_law; k_head; (case hw => w_witness2)
  k_fill
  refine L2.walk_of (l := PySem.Challenge.rw_samebytes_k01_marks_names_and_worths) (n := 63) (k := 6) (x := "_law_script") (CX := fun _ => L2.CX0) (sp := fun w => SB.spLaw _) rfl (by decide) rfl ⟨rfl, by decide, by decide⟩ (fun w h Y => PySem.W.kIn_of Y) ?F ((fun _ _ a ns hl _ hS => ⟨a, ns, rfl, hS, hl, fun _ => rfl⟩)) (fun _ _ _ _ _ h => h)
  case F =>
    intro w mg fa h KX G hmg
    refine' SB.all_mk KX G hmg ?a1 ?l1 ?c1 ?k1 ?a2 ?l2 ?c2 ?k2 ?a3 ?l3 ?c3 ?k3 ?a4 ?l4 ?c4 ?k4 ?a5 ?l5 ?c5 ?k5 ?a6 ?l6 ?c6 ?k6 ?a7 ?l7 ?c7 ?k7 ?a8 ?l8 ?c8 ?k8 ?a9 ?l9 ?c9 ?k9 ?a10 ?l10 ?c10 ?k10 ?a11 ?l11 ?c11 ?k11 ?a12 ?l12 ?c12 ?k12 ?a13 ?l13 ?c13 ?k13 ?a14 ?l14 ?c14 ?k14 ?a15 ?l15 ?c15 ?k15 ?z1 ?z2 ?z3 ?z4 ?z5 ?z6 ?z7 ?z8 ?z9 ?z10 ?z11 ?z12 ?v1 ?v2 ?v3 ?v4 ?v5
    (case a1 => k_is); (case l1 => k_is); (case c1 => k_is); (case k1 => k_is); (case a2 => k_is); (case l2 => k_is)
    (case c2 => k_is); (case k2 => k_is); (case a3 => k_is); (case l3 => k_is); (case c3 => k_is); (case k3 => k_is)
    (case a4 => k_is); (case l4 => k_is); (case c4 => k_is); (case k4 => k_is); (case a5 => k_is); (case l5 => k_is)
    (case c5 => k_is); (case k5 => k_is); (case a6 => k_is); (case l6 => k_is); (case c6 => k_is); (case k6 => k_is)
    (case a7 => k_is); (case l7 => k_is); (case c7 => k_is); (case k7 => k_is); (case a8 => k_is); (case l8 => k_is)
    (case c8 => k_is); (case k8 => k_is); (case a9 => k_is); (case l9 => k_is); (case c9 => k_is); (case k9 => k_is)
    (case a10 => k_is); (case l10 => k_is); (case c10 => k_is); (case k10 => k_is); (case a11 => k_is); (case l11 => k_is)
    (case c11 => k_is); (case k11 => k_is); (case a12 => k_is); (case l12 => k_is); (case c12 => k_is); (case k12 => k_is)
    (case a13 => k_is); (case l13 => k_is); (case c13 => k_is); (case k13 => k_is); (case a14 => k_is); (case l14 => k_is)
    (case c14 => k_is); (case k14 => k_is); (case a15 => k_is); (case l15 => k_is); (case c15 => k_is); (case k15 => k_is)
    (case z1 => k_is); (case z2 => k_is); (case z3 => k_is); (case z4 => k_is); (case z5 => k_is); (case z6 => k_is)
    (case z7 => k_is); (case z8 => k_is); (case z9 => k_is); (case z10 => k_is); (case z11 => k_is); (case z12 => k_is)
    (case v1 => k_is); (case v2 => k_is); (case v3 => k_is); (case v4 => k_is); (case v5 => k_is)

