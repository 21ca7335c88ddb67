import PyProof.Rows.All
import Wide.All
import OpenK.AllK
import Wide.FinOn
import PyProof.EqAt
import PyProof.EqKinds
import PyProof.TupleCall
import PyProof.ReprRoads
import PyProof.CallStr
import KE.KExcIs
import KE.DataEq
import KE.KEqDict
import HandS.ForMost
import HandS.Exc
import HandS.ExcOwn
import HandS.ExcInit
import HandS.ExcValue
import HandS.ExcField
import HandS.IsInst
import HandS.Defaults
import HandS.Wide
import HandS.Style
import KE.KxText
import PySem.Challenge.RW_leftfirst_k54_errors_created
set_option Elab.async false
set_option linter.all false
set_option maxRecDepth 100000
set_option maxHeartbeats 2000000
namespace K54
open PySem PySem.Spec PyProof.Rows
open L2

/-! own exceptions as values -/
section
variable {X : Cx} {pins : List (Addr × Obj)} {σ : L2.St} {H : Hp} {s : Shared}

/-- C(), C an own exception class without own __init__ -/
theorem pe_exc0 {C : Addr} {bmB : List Value} {B newId initId : String} {x : Str} {p pos : Pos}
    (F : ExcBaseFacts B newId initId bmB) (q : PySem.W.excIn X.K C bmB newId = true) (gC : X.mg x = some (.ref C))
    (kC : PySem.W.keepIn X.K (.ref C) = true) (hg : Gl X x) (hdb : (x == ("__debug__" : Str)) = false := by decide) :
    PE X (.Call (.Name x p) [] [] pos) (fun _ H Q => ∀ a, H a = none → Q (.ref a) (upd H a (ExO (.ref C) a))) := by
  constructor
  intro pins s σ H Q I h
  apply wpAny_Call_Name_kw
  apply ld_glob I hg gC _ hdb
  apply PySem.W.callWith_K0 I.kIn kC
  obtain ⟨bm, N, nm, qn, bs, hdct, sn, sub, ab, col, dd, k0, k1, k2, k3, k5, mN, hC, hN, hni, T⟩ := exc_obj I.kIn q
  refine wpAny_call_exc_subT F T hC hN hni (fun h' a hm => ?_) (Nat.zero_le _)
  have hn : H a = none := I.hok.gone hm.new
  obtain ⟨t, ht, _, _⟩ := hm.there
  exact ⟨.ref a, _, I.laidN hm.keeps hm.new hn (exO_ok ht ⟨rfl, rfl⟩ rfl rfl rfl (show 4 < 6 by decide)), rfl, h a hn⟩

/-- an exception object of the class at C stands at a -/
def IsE (H : Hp) (a C : Addr) : Prop := H a = some (ExO (.ref C) a) ∨ ∃ dx fs, H a = some (exo a C (some dx)) ∧ H dx = some (exd dx fs)
theorem IsE.mono {H H' : Hp} {a C : Addr} (k : Same H H') (h : IsE H a C) : IsE H' a C := by
  rcases h with h | ⟨dx, fs, h1, h2⟩
  · exact .inl (k _ _ h)
  · exact .inr ⟨dx, fs, k _ _ h1, k _ _ h2⟩
theorem IsE.inst {a C : Addr} (I : Inv X pins σ H s) (h : IsE H a C) : ∃ ox od, PySem.W.InstAt s.heap a ox C od := by
  rcases h with h | ⟨dx, fs, h1, h2⟩
  · have z : ObjOk X.prog X.w H s.heap a (ExO (.ref C) a) := I.hok a _ h
    obtain ⟨⟨oe, vs, e, hz, d, _⟩, _, _⟩ := z
    exact ⟨oe, none, e, hz.1, by unfold PySem.W.notCls; rw [d] <;> rfl, by rw [hz.2]; exact True.intro⟩
  · obtain ⟨t1, e⟩ := exo_at I.hok h1
    obtain ⟨mA, ⟨od, es, ep, ho, _⟩, _⟩ := exd_at I.hok h2
    exact ⟨_, some od, e, rfl, rfl, ho⟩

/-- what a class must say for isinstance -/
structure ExK (K : PySem.W.Frag) (C : Addr) : Prop where
  hcl : (PySem.W.clsIn K C).isSome = true
  hga : PySem.W.findIn K (.ref C) "__getattribute__" = some (some (.builtin "BaseException.__getattribute__"))
  hgt : PySem.W.findIn K (.ref C) "__getattr__" = some none
  hsub : PySem.W.subIn K (.ref C) (.type "BaseException") = some true
  ha : PySem.W.findIn K (.ref C) "__class__" = some (some (.builtin "object.__class__"))
  hm : PySem.W.mroIn K C (.type "object") = some true
  hn : PySem.W.specialIn K (.builtin "object.__class__") "__get__" = some (some (.builtin "getset_descriptor.__get__"))
  ht : PySem.W.takesIn K (.builtin "object.__class__") = some true
def rIsX (K : PySem.W.Frag) : List V → Hp → VK → Prop := fun xs H Q => ∃ (a C : Addr) (c : V) (cv : Value) (b : Bool),
  xs = [.ref a, c] ∧ IsE H a C ∧ ExK K C ∧ ClsV c cv ∧ PySem.W.kitOne K (.ref C) cv = some b ∧ Q (.bl b) H
theorem call_isX : CallR X (.builtin "isinstance") (rIsX X.K) := by
  intro pins s σ H xs us Q I r h
  obtain ⟨a, C, c, cv, b, rfl, hE, T, hcv, e, q⟩ := h
  obtain ⟨u1, u2, rfl, r1, r2⟩ := vals2 r
  obtain ⟨ox, od, J⟩ := hE.inst I
  have e2 := hcv.eq r2
  subst e2
  cases (show u1 = Value.ref a from r1)
  exact PySem.W.kia_one (PySem.W.kitx_exc T.hcl T.hga T.hgt T.hsub T.ha T.hn T.ht T.hm) I.kIn J e (fun z => nomatch z) fun tk => ⟨.bl b, H, I.tok tk, rfl, q⟩
def rIsXT (K : PySem.W.Frag) : List V → Hp → VK → Prop := fun xs H Q => ∃ (a C tp : Addr) (cs : List V) (us : List Value) (b : Bool),
  xs = [.ref a, .ref tp] ∧ IsE H a C ∧ ExK K C ∧ H tp = some (.tup cs) ∧ Paired ClsV cs us ∧ PySem.W.kitAny K (.ref C) us = some b ∧ Q (.bl b) H
theorem call_isXT : CallR X (.builtin "isinstance") (rIsXT X.K) := by
  intro pins s σ H xs us Q I r h
  obtain ⟨a, C, tp, cs, ws, b, rfl, hE, T, hT, k, e, q⟩ := h
  obtain ⟨u1, u2, rfl, r1, r2⟩ := vals2 r
  obtain ⟨ox, od, J⟩ := hE.inst I
  cases (show u1 = Value.ref a from r1)
  cases (show u2 = Value.ref tp from r2)
  have z : ObjOk X.prog X.w H s.heap tp (.tup cs) := I.hok tp _ hT
  obtain ⟨_, its, rv, o, h1, h2, n, h3⟩ := z
  have e3 := ClsV.all k rv
  subst e3
  obtain ⟨oc, od', dt, sl⟩ := o
  simp only at h2 h3
  subst h2 h3
  exact PySem.W.kia_tup (PySem.W.kitx_exc T.hcl T.hga T.hgt T.hsub T.ha T.hn T.ht T.hm) I.kIn J h1 e (fun z => nomatch z) fun tk => ⟨.bl b, H, I.tok tk, rfl, q⟩
end
end K54
set_option Elab.async false
set_option linter.all false
set_option maxRecDepth 100000
set_option maxHeartbeats 2000000
namespace K54
open PySem PySem.Spec PyProof.Rows
open L2

/-! the field of an exception held as a value -/
section
variable {X : Cx} {pins : List (Addr × Obj)} {σ : L2.St} {H : Hp} {s : Shared}
def tXv (K : PySem.W.Frag) (f : Str) (te : TE) : TE := fun σ H Q => te σ H fun x H1 => ∃ (a C dx : Addr) (fs : List (Str × V)) (v : V),
  x = .ref a ∧ XfC K C ∧ PySem.W.findIn K (.ref C) f = some none ∧ H1 a = some (exo a C (some dx)) ∧ H1 dx = some (exd dx fs) ∧ fs.lookup f = some v ∧ Q v H1
theorem pe_xv {e : Expr} {te : TE} {pos : Pos} {n : Str} (he : PE X e te) (hb : attributeBase e n X.env (eval e X.env) = eval e X.env := by rfl) :
    PE X (.Attribute e n pos) (tXv X.K n te) := by
  constructor
  intro pins s σ H Q I h
  apply attr_of hb
  apply thn (he.run pins s σ H _ I h)
  rintro u s1 ⟨x, H1, I1, rx, a, C, dx, fs, v, ex, T, hno, ea, ed, l, q⟩
  subst ex
  obtain rfl : u = Value.ref a := rx
  obtain ⟨t1, ho⟩ := exo_at I1.hok ea
  obtain ⟨mA, hns, hr⟩ := exd_at I1.hok ed
  obtain ⟨od, hod, hl⟩ := lookIn_ns hns
  obtain ⟨w, hu, ru⟩ := RelO.some_of (v := v) (o := mA n) (by rw [← l]; exact hr n)
  have J : PySem.W.InstAt s1.heap a _ C (some od) := ⟨ho, rfl, rfl, hod⟩
  exact HandSPX.exc_get I1.kIn J T.ga T.gg T.exC (PySem.W.findObj_own T.hdC hno rfl (by rw [hl, hu])) (handed_of ru) ⟨v, H1, I1.tok _, ru, q⟩
end

end K54
set_option Elab.async false
set_option linter.all false
set_option maxRecDepth 100000
set_option maxHeartbeats 2000000
namespace PySem
namespace K54X
open PySem.W PySem.Calls PyProof.Rows PySem.HandSPX
open Builtin Builtin.ObjectAttr

section
variable {prog : Program} {w : World} {M : Model} {A : Around} {E : Value → Shared → Prop} {R : Result → Shared → Prop} {h : Heap} {g : Array GenState} {d : Drawn} {t : Nat} {os : OsState}
variable {nm q : Str} {C N : Addr} {bs bm bmB : List Value} {hdct : Bool} {sn : List Str} {sub : List Value} {ab : Bool} {col : Option Bool} {dd : Option Addr} {k0 k1 k2 k3 k5 : Option Value} {B newId initId : String}

/-- C(f = v), nothing by position, C an own exception class with an own __init__: the object, then __init__ -/
theorem kw_has (F : ExcBaseFacts B newId initId bmB) (hT : ∀ X : String, bm.contains (.type X) = bmB.contains (.type X)) (C : Addr) : (Value.ref C :: bm).contains (.type B) = true := by
  rw [List.contains_cons, hT, F.hasB]
  simp
theorem kw_check_new (F : ExcBaseFacts B newId initId bmB) (hT : ∀ X : String, bm.contains (.type X) = bmB.contains (.type X)) {f : Str} {v : Value} {Q : Unit → Shared → Prop}
    (hC : h.get? C = some (excClassObj nm q C N bs bm hdct sn sub ab col dd k0 k1 k2 k3 k5 newId))
    (hq : Q () ⟨h, g, d, t, os⟩) : wpAny M A (checkBuiltinCall newId ⟨[.ref C], [(f, v)]⟩) Q E ⟨h, g, d, t, os⟩ := by
  have hin := kw_has F hT C
  have hstar := F.noStar
  simp only [checkBuiltinCall, F.newKind, F.newSplit, F.newRow]
  repeat (first
    | refine wpAny_loadPart_at hC ?_
    | (refine wpAny_isSubtype_exc hC ?_; simp only [hin])
    | refine wpAny_staticBase_exc hC ?_
    | refine wpAny_madeBy_exc hC ?_
    | simp only [bne_self_eq_false, Bool.false_eq_true, if_false]
    | wp_step)
  exact hq
theorem kw_new (F : ExcBaseFacts B newId initId bmB) (hT : ∀ X : String, bm.contains (.type X) = bmB.contains (.type X)) {f : Str} {v : Value}
    (hC : h.get? C = some (excClassObj nm q C N bs bm hdct sn sub ab col dd k0 k1 k2 k3 k5 newId))
    (hq : R (.ok (.ret (.ref (h.objs.size + 1)))) ⟨(h.push (kdv_tup [])).push (excO C h.objs.size), g, d, t, os⟩) :
    codeAny (model prog w) A (.builtin newId ⟨[.ref C], [(f, v)]⟩) R ⟨h, g, d, t, os⟩ := by
  have hends := F.ends
  have hin := kw_has F hT C
  have hA : (Value.ref C :: bm).contains (.type "AttributeError") = false := by
    rw [List.contains_cons, hT, F.noAttr]
    rfl
  have hN : (Value.ref C :: bm).contains (.type "NameError") = false := by
    rw [List.contains_cons, hT, F.noName]
    rfl
  apply codeAny_builtinAt F.entry
  unfold Builtin.«BaseException.__new__»
  refine PySem.wpAt_bind ?_
  show wpAt _ _ _ (stack >>= _) _ _ _
  refine PySem.wpAt_bind ?_
  refine wpAt_stack ?_
  intro p below
  apply wpAt_of_wpAny
  wp_walk
  apply wpAt_of_wpAny
  rw [F.owner]
  repeat (first
    | with_reducible refine wpAny_madeHere_exc F.canon hC ?_
    | with_reducible refine wpAny_loadPart_at hC ?_
    | (with_reducible refine wpAny_isSubtype_exc hC ?_; simp only [hin, hA, hN])
    | wp_step)
  show R _ _
  rw [Heap.size_push]
  exact hq
theorem kw_typ {M : Model} {f : Str} {v : Value} {Q : Unit → Shared → Prop} (hC : h.get? C = some (excClassObj nm q C N bs bm hdct sn sub ab col dd k0 k1 k2 k3 k5 newId))
    (hq : Q () ⟨h, g, d, t, os⟩) : wpAny M A (checkBuiltinCall "type.__call__" ⟨[.ref C], [(f, v)]⟩) Q E ⟨h, g, d, t, os⟩ := by
  have s1 := tc_sub
  have s2 : (⟨h, g, d, t, os⟩ : Shared).TypeIs (.ref C) "type" := ⟨_, hC, rfl⟩
  simp only [checkBuiltinCall, tc_kind, tc_split]
  repeat (any_goals (first
    | assumption
    | with_reducible refine wpAny_loadPart_at hC ?_
    | with_reducible refine wpAny_onRaise ?_
    | with_reducible refine wpAny_map ?_
    | wp_step))
theorem kw_make (F : ExcBaseFacts B newId initId bmB) (hT : ∀ X : String, bm.contains (.type X) = bmB.contains (.type X)) {f : Str} {v : Value} {fI : Addr} {Q : Fin → Shared → Prop}
    (hC : h.get? C = some (excClassObj nm q C N bs bm hdct sn sub ab col dd k0 k1 k2 k3 k5 newId))
    (hi : Looks (model prog w) h (typeLookup (.ref C) "__init__") (some (.ref fI))) (hb : ∀ self, Looks (model prog w) h (bindSpecial (.ref fI) self) (.ref fI, [self]))
    (hq : codeAny (model prog w) A (.call (.ref fI) ⟨[.ref (h.objs.size + 1)], [(f, v)]⟩)
      (fun r s' => match r with | .ok (.ret v) => v = .none ∧ Q (.done (.ret (.ref (h.objs.size + 1)))) s' | .ok _ => False | .error e => E e s')
      ⟨(h.push (kdv_tup [])).push (excO C h.objs.size), g, d, t, os⟩) :
    wpAny (model prog w) A (Builtin.«type.__call__» ⟨[.ref C], [(f, v)]⟩) Q E ⟨h, g, d, t, os⟩ := by
  repeat (first
    | with_reducible refine wpAny_loadPart_at hC ?_
    | with_reducible refine wpAny_madeBy_exc hC ?_
    | wp_step)
  apply codeAny_call_builtin_code (Code.quiet_builtin _ F.quiet)
  apply kw_check_new F hT hC
  apply kw_new F hT hC
  show wpAny _ _ _ _ _ _
  have kp : ∀ b o, h.get? b = some o → ((h.push (kdv_tup [])).push (excO C h.objs.size)).get? b = some o := by
    intro b o e
    exact Heap.get?_push_of_some _ (Heap.get?_push_of_some _ e)
  have c1 := kp _ _ hC
  have x1 : ((h.push (kdv_tup [])).push (excO C h.objs.size)).get? (h.objs.size + 1) = some (excO C h.objs.size) := by heap_get
  have m1 : (Value.ref C :: bm).contains (.ref C) = true := by simp
  have i1 := hi.keeps kp
  have b1 := (hb (.ref (h.objs.size + 1))).keeps kp
  unfold isInstance
  repeat (first
    | with_reducible refine wpAny_loadPart_at x1 ?_
    | (with_reducible refine wpAny_isSubtype_exc c1 ?_; simp only [m1])
    | wp_step)
  show wpAny _ _ (typeLookup (.ref C) _) _ _ _
  refine i1.at ?_
  refine wpAny_holding (wpAny_bind (b1.at ?_))
  refine wpAny_bind (wpAny_call (codeAny_mono hq ?_))
  intro r s' z
  rcases r with e | (v | _ | _ | _) <;> first | exact z | exact z.elim | skip
  obtain ⟨rfl, z⟩ := z
  first
    | exact wpAny_pure (wpAny_pure z)
    | (wp_walk; exact z)
theorem kw_own (F : ExcBaseFacts B newId initId bmB) (hT : ∀ X : String, bm.contains (.type X) = bmB.contains (.type X)) {f : Str} {v : Value} {fI : Addr}
    (hC : h.get? C = some (excClassObj nm q C N bs bm hdct sn sub ab col dd k0 k1 k2 k3 k5 newId))
    (hi : Looks (model prog w) h (typeLookup (.ref C) "__init__") (some (.ref fI))) (hb : ∀ self, Looks (model prog w) h (bindSpecial (.ref fI) self) (.ref fI, [self]))
    (hq : codeAny (model prog w) (A.under (.builtin "type.__call__" ⟨[.ref C], [(f, v)]⟩)) (.call (.ref fI) ⟨[.ref (h.objs.size + 1)], [(f, v)]⟩) (InitBack (h.objs.size + 1) R)
      ⟨(h.push (kdv_tup [])).push (excO C h.objs.size), g, d, t, os⟩) :
    codeAny (model prog w) A (.call (.ref C) ⟨[], [(f, v)]⟩) R ⟨h, g, d, t, os⟩ := by
  have f1 := tc_lookup
  have f2 := tc_bind (.ref C)
  have ty : (⟨h, g, d, t, os⟩ : Shared).TypeIs (.ref C) "type" := ⟨_, hC, rfl⟩
  apply codeAny_of_tree
  show wpAny _ _ (callAny (.ref C) _) _ _ _
  repeat (any_goals (first
    | assumption
    | with_reducible refine wpAny_loadPart_at hC ?_
    | wp_step))
  refine ⟨rfl, ?_⟩
  apply codeAny_call_builtin_at (Code.quiet_builtin _ (by decide +kernel)) entry_typeCall
  apply kw_typ hC
  apply kw_make F hT hC hi hb
  refine codeAny_mono hq ?_
  intro r s' z
  rcases r with e | (v | _ | _ | _) <;> exact z
end
end K54X
end PySem
set_option Elab.async false
set_option linter.all false
set_option maxRecDepth 100000
set_option maxHeartbeats 2000000
namespace K54
open PySem PySem.Spec PyProof.Rows
open L2

/-! an own exception with an own __init__, made as a value -/
section
variable {X : Cx} {pins : List (Addr × Obj)} {σ : L2.St} {H : Hp} {s : Shared}
variable {x : Str} {C fI : Addr} {k : Nat} {fd : FuncData} {ps : List Str} {sp : Sp}
/-- the object is laid, __init__ runs -/
theorem run_exv {us ws : List Value} {kw : List (Str × Value)} {vs : List V} {Q : VK} (T : OexC X.K C) (iC : PySem.W.findIn X.K (.ref C) "__init__" = some (some (.ref fI)))
    (tI : PySem.W.typeIn X.K (.ref fI) = some (.type "function")) (F : FnOk X.prog X.w X.K X.mg X.base CX0 k fI fd ps sp) (hr : Room (k + 1) X.A)
    (hkw : kw = [] ∨ (us = [] ∧ ∃ f v, kw = [(f, v)])) (hus : us.length ≤ 1000) (I : Inv X pins σ H s)
    (hb : ∀ (s' : Shared) (a : Addr), X.K.In s'.heap → BindsTo s' fd ⟨.ref a :: us, kw⟩ (ps.zip (.ref a :: ws))) (r : Vals vs ws)
    (h : ∀ a, H a = none → sp (.ref a :: vs) (upd H a (exo a C none)) (fun v H2 => v = .non ∧ Q (.ref a) H2) E0) :
    wpAny (model X.prog X.w) X.A (call (.ref C) us kw) (EP X pins σ Q) X.xe s := by
  obtain ⟨nm, q, N, bs, bm, sn, sub, ab, col, dd, k0, k1, k2, k3, k5, hC, hbm⟩ := T.cls
  obtain ⟨hp, g, dr, tk, os⟩ := s
  have sz : hp.objs.size ≤ hp.objs.size + 1 := Nat.le_succ _
  have fr : H (hp.objs.size + 1) = none := I.hok.fresh sz
  have hq := h _ fr
  have kp : ∀ b o, hp.get? b = some o → ((hp.push (PySem.W.kdv_tup us)).push (PySem.HandSPX.excO C hp.objs.size)).get? b = some o := by
    intro b o e
    exact Heap.get?_push_of_some _ (Heap.get?_push_of_some _ e)
  have at1 : ((hp.push (PySem.W.kdv_tup us)).push (PySem.HandSPX.excO C hp.objs.size)).get? (hp.objs.size + 1) = some (PySem.HandSPX.excO C hp.objs.size) := by heap_get
  have I2 : Inv X pins σ (upd H (hp.objs.size + 1) (exo (hp.objs.size + 1) C none)) ⟨(hp.push (PySem.W.kdv_tup us)).push (PySem.HandSPX.excO C hp.objs.size), g, dr, tk, os⟩ :=
    I.laid (t' := tk) (a := hp.objs.size + 1) (o := exo (hp.objs.size + 1) C none) kp sz (exo_ok at1)
  have run : codeAny (model X.prog X.w) (X.A.under (.builtin "type.__call__" ⟨.ref C :: us, kw⟩)) (.call (.ref fI) ⟨.ref (hp.objs.size + 1) :: us, kw⟩)
      (PySem.W.InitBack (hp.objs.size + 1) fun r s' => match r with
        | .ok (.ret v) => EP X pins σ Q v s'
        | .ok _ => False
        | .error e => X.xe e s')
      ⟨(hp.push (PySem.W.kdv_tup us)).push (PySem.HandSPX.excO C hp.objs.size), g, dr, tk, os⟩ := by
    refine codeAny_mono (F.run _ X.stack _ _ ⟨.ref (hp.objs.size + 1) :: us, kw⟩ (.ref (hp.objs.size + 1) :: ws) (.ref (hp.objs.size + 1) :: vs) _ _ (hr.make C us kw) (I2.env0.make C us kw) (hb _ _ I2.kIn) (.cons rfl r) hq) ?_
    intro r s' z
    cases r with
    | error e => exact False.elim z
    | ok fl =>
      cases fl with
      | ret u =>
        obtain ⟨v, H3, I3, rv, ev, q3⟩ := I2.after z
        subst ev
        exact ⟨rv, .ref (hp.objs.size + 1), H3, I3, rfl, q3⟩
      | next => exact False.elim z
      | brk => exact False.elim z
      | cont => exact False.elim z
  have cont := fun Y : String => PySem.HandSPX.refsVE_contains Y bm hbm
  have hus2 : us.length ≤ sizeLine := by
    rw [sizeLine_eq]
    omega
  rcases hkw with rfl | ⟨rfl, f, v, rfl⟩
  · exact wpAny_call (PySem.HandSPX.call_own PySem.F.excBase_ValueError cont (I.kIn _ _ hC) (PySem.W.looks_findIn I.kIn iC) (fun self => PySem.W.bind_fn I.kIn self tI) hus2 run)
  · exact wpAny_call (PySem.K54X.kw_own PySem.F.excBase_ValueError cont (I.kIn _ _ hC) (PySem.W.looks_findIn I.kIn iC) (fun self => PySem.W.bind_fn I.kIn self tI) run)

/-- C(e): the reading -/
def tExv (C : Addr) (sp : Sp) (te : TE) : TE := fun σ H Q => te σ H fun v H1 => ∃ v', [v] = [v'] ∧ ∀ a, H1 a = none → sp [.ref a, v'] (upd H1 a (exo a C none)) (fun z H2 => z = .non ∧ Q (.ref a) H2) E0
theorem pe_exv {e : Expr} {te : TE} {p pos : Pos} (T : OexC X.K C) (iC : PySem.W.findIn X.K (.ref C) "__init__" = some (some (.ref fI)))
    (tI : PySem.W.typeIn X.K (.ref fI) = some (.type "function")) (F : FnOk X.prog X.w X.K X.mg X.base CX0 k fI fd ps sp) (hr : Room (k + 1) X.A)
    (hb : ∀ (s' : Shared) (a : Addr) (u : Value), X.K.In s'.heap → BindsTo s' fd ⟨[.ref a, u], []⟩ (ps.zip [.ref a, u]))
    (hg : Gl X x) (hm : X.mg x = some (.ref C)) (he : PE X e te) (hdb : (x == ("__debug__" : Str)) = false := by decide)
    (hst : starEach [e] X.env = (false, eval e X.env) :: starEach [] X.env := by rfl) : PE X (.Call (.Name x p) [e] [] pos) (tExv C sp te) := by
  constructor
  intro pins s σ H Q I h
  apply wpAny_Call_Name_kw
  apply ld_glob I hg hm _ hdb
  have ha : PA X [e] (tCons te tNil) := pa_cons he pa_nil hst
  refine PySem.W.callWith_K (h₀ := X.base) I.ok.mod.kin T.kC (thn (ha.run pos pins s σ H (fun vs H1 => ∃ v, vs = [v] ∧ ∀ a, H1 a = none → sp [.ref a, v] (upd H1 a (exo a C none)) (fun z H2 => z = .non ∧ Q (.ref a) H2) E0) I h) ?_) hst (by rfl)
  rintro us s1 ⟨vs, H1, I1, r1, v, rfl, q⟩
  refine ⟨I1.kIn, ?_⟩
  obtain ⟨u, rfl, ru⟩ := vals1 r1
  exact run_exv T iC tI F hr (.inl rfl) (by show 1 ≤ 1000; decide) I1 (fun s' a kx => hb s' a u kx) (.cons ru .nil) q
/-- C(): the parameter's default is dv -/
def tExv0 (C : Addr) (sp : Sp) (dv : V) : TE := fun _ H Q => ∀ a, H a = none → sp [.ref a, dv] (upd H a (exo a C none)) (fun z H2 => z = .non ∧ Q (.ref a) H2) E0
theorem pe_exv0 {p pos : Pos} {dv : V} {du : Value} (T : OexC X.K C) (iC : PySem.W.findIn X.K (.ref C) "__init__" = some (some (.ref fI)))
    (tI : PySem.W.typeIn X.K (.ref fI) = some (.type "function")) (F : FnOk X.prog X.w X.K X.mg X.base CX0 k fI fd ps sp) (hr : Room (k + 1) X.A)
    (hb : ∀ (s' : Shared) (a : Addr), X.K.In s'.heap → BindsTo s' fd ⟨[.ref a], []⟩ (ps.zip [.ref a, du])) (rd : RelV dv du)
    (hg : Gl X x) (hm : X.mg x = some (.ref C)) (hdb : (x == ("__debug__" : Str)) = false := by decide) : PE X (.Call (.Name x p) [] [] pos) (tExv0 C sp dv) := by
  constructor
  intro pins s σ H Q I h
  apply wpAny_Call_Name_kw
  apply ld_glob I hg hm _ hdb
  apply PySem.W.callWith_K0 I.kIn T.kC
  exact run_exv T iC tI F hr (.inl rfl) (Nat.zero_le _) I (fun s' a kx => hb s' a kx) (.cons rd .nil) h
/-- C(f = e) -/
theorem pe_exvK {e : Expr} {te : TE} {f : Str} {p pos kpos : Pos} (T : OexC X.K C) (iC : PySem.W.findIn X.K (.ref C) "__init__" = some (some (.ref fI)))
    (tI : PySem.W.typeIn X.K (.ref fI) = some (.type "function")) (F : FnOk X.prog X.w X.K X.mg X.base CX0 k fI fd ps sp) (hr : Room (k + 1) X.A)
    (hb : ∀ (s' : Shared) (a : Addr) (u : Value), X.K.In s'.heap → BindsTo s' fd ⟨[.ref a], [(f, u)]⟩ (ps.zip [.ref a, u]))
    (hg : Gl X x) (hm : X.mg x = some (.ref C)) (he : PE X e te) (hdb : (x == ("__debug__" : Str)) = false := by decide)
    (hall : (backToKw pos (keywordEach [⟨some f, e, kpos⟩] X.env)).all (·.1.isSome) = true := by rfl)
    (hks : (backToKw pos (keywordEach [⟨some f, e, kpos⟩] X.env)).filterMap (·.1) = [f] := by rfl)
    (hpl : ((backTo pos (starEach [] X.env)).any (·.1) || (backToKw pos (keywordEach [⟨some f, e, kpos⟩] X.env)).any (·.1.isNone)) = false := by rfl) :
    PE X (.Call (.Name x p) [] [⟨some f, e, kpos⟩] pos) (tExv C sp te) := by
  constructor
  intro pins s σ H Q I h
  apply wpAny_Call_Name_kw
  apply ld_glob I hg hm _ hdb
  have hkw : PK X [⟨some f, e, kpos⟩] (tCons te tNil) := pk_cons he pk_nil
  refine PySem.W.callWith_KW0 (h₀ := X.base) I.ok.mod.kin T.kC hall ?_ hpl
  refine thn (hkw.run pos pins s σ H (fun vs H1 => ∃ v, vs = [v] ∧ ∀ a, H1 a = none → sp [.ref a, v] (upd H1 a (exo a C none)) (fun z H2 => z = .non ∧ Q (.ref a) H2) E0) I h) ?_
  rintro us s1 ⟨vs, H1, I1, r1, v, rfl, q⟩
  refine ⟨I1.kIn, ?_⟩
  rw [hks]
  obtain ⟨u, rfl, ru⟩ := vals1 r1
  exact run_exv T iC tI F hr (.inr ⟨rfl, f, u, rfl⟩) (Nat.zero_le _) I1 (fun s' a kx => hb s' a u kx) (.cons ru .nil) q
end

/-! ### the text by places -/
def topK (i : Nat) : Stmt := PySem.Challenge.pw_leftfirst_k54_errors_created.main.body.getD i (.Pass ⟨0, 0, 0, 0⟩)
abbrev sMissing : Stmt := topK 15
abbrev sInit : Stmt := inClass sMissing 0
abbrev sMixed : Stmt := topK 17
abbrev sCell : Stmt := topK 18
abbrev sTake : Stmt := topK 19
abbrev sKinds : Stmt := topK 20
abbrev sBare : Stmt := topK 21
abbrev sTold : Stmt := topK 22
abbrev sAllG : Stmt := topK 23
abbrev sMisG : Stmt := topK 24
abbrev sLaw : Stmt := topK 25
end K54
set_option Elab.async false
set_option linter.all false
set_option maxRecDepth 100000
set_option maxHeartbeats 2000000
namespace K54
open PySem PySem.Spec PyProof.Rows
open L2

def cnames : List Str := ["InvalidAnswers", "InvalidAssignment", "InvalidCode", "InvalidCondition", "InvalidKind", "InvalidMachine", "InvalidName", "InvalidNames", "InvalidNumber", "InvalidStrength", "InvalidText", "TooLarge", "HasIf", "Missing", "LeftFirstError"]
def badT : List Value := [.type "TypeError", .type "LookupError", .type "ArithmeticError", .type "RuntimeError", .type "AttributeError"]
def bmV : List Value := [.type "ValueError", .type "Exception", .type "BaseException", .type "object"]
def bnames : List Str := ["isinstance", "enumerate", "range", "len", "str", "all", "any", "min", "max", "int", "ValueError", "TypeError", "LookupError", "ArithmeticError", "RuntimeError", "AttributeError"]
/-- what the top has written of the classes: class i stands at cs i -/
structure Txt (K : PySem.W.Frag) (mg : Str → Option Value) (cs : Nat → Addr) (fI : Addr) : Prop where
  g : ∀ (i : Nat) (x : Str), cnames[i]? = some x → mg x = some (.ref (cs i))
  exk : ∀ i, i < 15 → ExK K (cs i)
  exi : ∀ i, i < 15 → i ≠ 13 → PySem.W.excIn K (cs i) bmV "ValueError.__new__" = true
  kp : ∀ i, i < 15 → PySem.W.keepIn K (.ref (cs i)) = true
  kit : ∀ i j, i < 15 → j < 14 → PySem.W.kitOne K (.ref (cs i)) (.ref (cs j)) = some (i == j)
  kitL : ∀ i, i < 15 → PySem.W.kitOne K (.ref (cs i)) (.ref (cs 14)) = some true
  kitV : ∀ i, i < 15 → PySem.W.kitOne K (.ref (cs i)) (.type "ValueError") = some true
  kitT : ∀ i, i < 15 → PySem.W.kitAny K (.ref (cs i)) badT = some false
  oex : OexC K (cs 13)
  xfc : XfC K (cs 13)
  noN : PySem.W.findIn K (.ref (cs 13)) "name" = some none
  iC : PySem.W.findIn K (.ref (cs 13)) "__init__" = some (some (.ref fI))
  tI : PySem.W.typeIn K (.ref fI) = some (.type "function")
  b : ∀ x : Str, x ∈ bnames → mg x = none
theorem Txt.isi {K : PySem.W.Frag} {mg : Str → Option Value} {cs : Nat → Addr} {fI : Addr} (T : Txt K mg cs fI) : mg "isinstance" = none := T.b _ (by decide)

/-- the answers of kinds for an exception of class i -/
def kb (i : Nat) : List Bool := [i == 0, i == 1, i == 2, i == 3, i == 4, i == 5, i == 6, i == 7, i == 8, i == 9, i == 10, i == 11, i == 12, i == 13]
def spKinds (cs : Nat → Addr) : Sp := fun vs H Q _ => ∃ (a : Addr) (i : Nat), vs = [.ref a] ∧ i < 15 ∧ IsE H a (cs i) ∧
  ∀ H' p, Same H H' → H' p = some (.lst ((kb i).map V.bl)) → Q (.ref p) H'

section
variable {P : Program} {w : World} {K : PySem.W.Frag} {mg : Str → Option Value} {base : Heap} {cs : Nat → Addr} {fI : Addr}
theorem scKinds : FnScope ["error", "found"] ["error"] (defScope sKinds) := ⟨rfl, rfl, rfl, by decide +kernel, rfl, by decide +kernel, by decide +kernel⟩
/-- isinstance(error, class j): its rule and its reading -/
theorem pe_is {X : Cx} (T : Txt X.K X.mg cs fI) (j : Nat) {x y : Str} {p1 p2 p3 pos : Pos} {i : Nat} (hN : X.N[i]? = some y) (hv : Vis X.env.scope y) (hg : Gl X "isinstance") (hgx : Gl X x) (hx : cnames[j]? = some x)
    (hd : (y == ("__debug__" : Str)) = false := by decide) (hcd : (y == ("__classdict__" : Str)) = false := by decide) (hdx : (x == ("__debug__" : Str)) = false := by decide)
    (hst : starEach [.Name y p2, .Name x p3] X.env = (false, eval (.Name y p2) X.env) :: starEach [.Name x p3] X.env := by rfl)
    (hst2 : starEach [.Name x p3] X.env = (false, eval (.Name x p3) X.env) :: starEach [] X.env := by rfl)
    (hpl : (backTo pos (starEach [.Name x p3] X.env)).any (·.1) = false := by rfl) :
    PE X (.Call (.Name "isinstance" p1) [.Name y p2, .Name x p3] [] pos) (fun σ H Q => ∃ a k, σ[i]? = some (some (.ref a)) ∧ k < 15 ∧ IsE H a (cs k) ∧ Q (.bl (j == 14 || k == j)) H) := by
  have h := pe_callB (pos := pos) (p := p1) call_isX hg T.isi (by decide +kernel : bootBuiltins "isinstance" = some (.builtin "isinstance")) (pa_cons (pe_var (pos := p2) hN hv hd hcd) (pa_cons (pe_glob (pos := p3) hgx (T.g j x hx) (v := .ref (cs j)) rfl hdx) pa_nil hst2) hst) (by decide) (by decide) hst hpl
  constructor
  intro pins s σ H Q I q
  obtain ⟨a, k, e1, e2, e3, e4⟩ := q
  have hj : j < 15 := by
    have z := (List.getElem?_eq_some_iff.mp hx).1
    exact z
  refine h.run pins s σ H Q I ⟨_, e1, a, cs k, _, _, j == 14 || k == j, rfl, e3, T.exk k e2, .own (cs j), ?_, e4⟩
  by_cases c : j = 14
  · subst c
    exact T.kitL k e2
  · have c2 : (j == 14) = false := by simpa using c
    rw [c2, T.kit k j e2 (by omega)]
    rfl
theorem same_upd {H : Hp} {b : Addr} {o : HO} (n : H b = none) : Same H (upd H b o) := by
  intro c u e
  rw [upd_ne (ne_of_none e n)]
  exact e
theorem small_len {n : Nat} (h : n ≤ 1000) : n ≤ sizeLine := Nat.le_of_lt (small1000 h)
/-- found + [..], found in slot i -/
theorem cat_rd {t : TA} {σ : L2.St} {H : Hp} {Q : VK} {i : Nat} {p : Addr} {xs : List V} (ys : List V) (e1 : σ[i]? = some (some (.ref p))) (hp : H p = some (.lst xs)) (hz : xs.length + ys.length ≤ 1000)
    (ht : ∀ R : List V → Hp → Prop, R ys H → t σ H R) (k : ∀ H' q, Same H H' → H' q = some (.lst (xs ++ ys)) → Q (.ref q) H') : tOp rCat (tVar i) (tLst t) σ H Q := by
  refine ⟨_, e1, ht _ ⟨small_len (by omega), fun b nb => ?_⟩⟩
  refine ⟨p, b, xs, ys, rfl, rfl, same_upd nb _ _ hp, upd_same, small_len hz, fun q nq => k _ q ?_ upd_same⟩
  exact (same_upd nb).trans (same_upd nq)
theorem ok_kinds {f : Addr} {fd : FuncData} (F : Fun K "_law_kinds" "_law_kinds" sKinds f fd) (T : Txt K mg cs fI) : FnOk P w K mg base CX0 1 f fd ["error"] (spKinds cs) := by
  refine F.ok scKinds (fun vs H Q E h => ?_) (fun cdv A outer s H vs Q E hr h => ?_)
  · obtain ⟨a, i, rfl, _⟩ := h
    rfl
  · obtain ⟨a, i, rfl, hi, hE, k⟩ := h
    refine ⟨_, pss_cons (ps_set (i := 1) scKinds.nd rfl (Or.inl rfl) (pe_lst (pa_cons (pe_is T 0 (i := 0) rfl (Or.inl rfl) rfl rfl rfl) (pa_cons (pe_is T 1 (i := 0) rfl (Or.inl rfl) rfl rfl rfl) pa_nil))))
      (pss_cons (ps_set (i := 1) scKinds.nd rfl (Or.inl rfl) (pe_op op_cat (pv 1) (pe_lst (pa_cons (pe_is T 2 (i := 0) rfl (Or.inl rfl) rfl rfl rfl) pa_nil))))
      (pss_cons (ps_set (i := 1) scKinds.nd rfl (Or.inl rfl) (pe_op op_cat (pv 1) (pe_lst (pa_cons (pe_is T 3 (i := 0) rfl (Or.inl rfl) rfl rfl rfl) (pa_cons (pe_is T 4 (i := 0) rfl (Or.inl rfl) rfl rfl rfl) pa_nil)))))
      (pss_cons (ps_set (i := 1) scKinds.nd rfl (Or.inl rfl) (pe_op op_cat (pv 1) (pe_lst (pa_cons (pe_is T 5 (i := 0) rfl (Or.inl rfl) rfl rfl rfl) pa_nil))))
      (pss_cons (ps_set (i := 1) scKinds.nd rfl (Or.inl rfl) (pe_op op_cat (pv 1) (pe_lst (pa_cons (pe_is T 6 (i := 0) rfl (Or.inl rfl) rfl rfl rfl) (pa_cons (pe_is T 7 (i := 0) rfl (Or.inl rfl) rfl rfl rfl) pa_nil)))))
      (pss_cons (ps_set (i := 1) scKinds.nd rfl (Or.inl rfl) (pe_op op_cat (pv 1) (pe_lst (pa_cons (pe_is T 8 (i := 0) rfl (Or.inl rfl) rfl rfl rfl) pa_nil))))
      (pss_cons (ps_set (i := 1) scKinds.nd rfl (Or.inl rfl) (pe_op op_cat (pv 1) (pe_lst (pa_cons (pe_is T 9 (i := 0) rfl (Or.inl rfl) rfl rfl rfl) (pa_cons (pe_is T 10 (i := 0) rfl (Or.inl rfl) rfl rfl rfl) pa_nil)))))
      (pss_cons (ps_set (i := 1) scKinds.nd rfl (Or.inl rfl) (pe_op op_cat (pv 1) (pe_lst (pa_cons (pe_is T 11 (i := 0) rfl (Or.inl rfl) rfl rfl rfl) pa_nil))))
      (pss_one (ps_ret (pe_op op_cat (pv 1) (pe_lst (pa_cons (pe_is T 12 (i := 0) rfl (Or.inl rfl) rfl rfl rfl) (pa_cons (pe_is T 13 (i := 0) rfl (Or.inl rfl) rfl rfl rfl) pa_nil))))))))))))), ?_⟩
    -- the first list
    refine ⟨a, i, rfl, hi, hE, a, i, rfl, hi, hE, (by show 2 ≤ sizeLine; decide), fun p0 n0 => ?_⟩
    have e0 := same_upd (o := .lst [.bl (0 == 14 || i == 0), .bl (1 == 14 || i == 1)]) n0
    refine cat_rd [.bl (i == 2)] rfl upd_same (Nat.le_of_ble_eq_true rfl) (fun R r => ⟨a, i, rfl, hi, hE.mono e0, r⟩) fun H1 p1 s1 h1 => ?_
    have e1 := e0.trans s1
    refine cat_rd [.bl (i == 3), .bl (i == 4)] rfl h1 (Nat.le_of_ble_eq_true rfl) (fun R r => ⟨a, i, rfl, hi, hE.mono e1, a, i, rfl, hi, hE.mono e1, r⟩) fun H2 p2 s2 h2 => ?_
    have e2 := e1.trans s2
    refine cat_rd [.bl (i == 5)] rfl h2 (Nat.le_of_ble_eq_true rfl) (fun R r => ⟨a, i, rfl, hi, hE.mono e2, r⟩) fun H3 p3 s3 h3 => ?_
    have e3 := e2.trans s3
    refine cat_rd [.bl (i == 6), .bl (i == 7)] rfl h3 (Nat.le_of_ble_eq_true rfl) (fun R r => ⟨a, i, rfl, hi, hE.mono e3, a, i, rfl, hi, hE.mono e3, r⟩) fun H4 p4 s4 h4 => ?_
    have e4 := e3.trans s4
    refine cat_rd [.bl (i == 8)] rfl h4 (Nat.le_of_ble_eq_true rfl) (fun R r => ⟨a, i, rfl, hi, hE.mono e4, r⟩) fun H5 p5 s5 h5 => ?_
    have e5 := e4.trans s5
    refine cat_rd [.bl (i == 9), .bl (i == 10)] rfl h5 (Nat.le_of_ble_eq_true rfl) (fun R r => ⟨a, i, rfl, hi, hE.mono e5, a, i, rfl, hi, hE.mono e5, r⟩) fun H6 p6 s6 h6 => ?_
    have e6 := e5.trans s6
    refine cat_rd [.bl (i == 11)] rfl h6 (Nat.le_of_ble_eq_true rfl) (fun R r => ⟨a, i, rfl, hi, hE.mono e6, r⟩) fun H7 p7 s7 h7 => ?_
    have e7 := e6.trans s7
    refine cat_rd [.bl (i == 12), .bl (i == 13)] rfl h7 (Nat.le_of_ble_eq_true rfl) (fun R r => ⟨a, i, rfl, hi, hE.mono e7, a, i, rfl, hi, hE.mono e7, r⟩) fun H8 p8 s8 h8 => ?_
    exact k H8 p8 (e7.trans s8) h8
end
end K54
set_option Elab.async false
set_option linter.all false
set_option maxRecDepth 100000
set_option maxHeartbeats 2000000
namespace K54
open PySem PySem.Spec PyProof.Rows
open L2

/-- the objects as are exceptions of the classes 0, 1, .. -/
def Ex (cs : Nat → Addr) (H : Hp) (as : List Addr) : Prop := ∀ j a, as[j]? = some a → IsE H a (cs j)
theorem Ex.nil {cs : Nat → Addr} {H : Hp} : Ex cs H [] := fun j a e => by simp at e
theorem Ex.mono {cs : Nat → Addr} {H H' : Hp} {as : List Addr} (h : Ex cs H as) (s : Same H H') : Ex cs H' as := fun j a e => (h j a e).mono s
theorem Ex.snoc {cs : Nat → Addr} {H H' : Hp} {as : List Addr} {a : Addr} (h : Ex cs H as) (s : Same H H') (e : IsE H' a (cs as.length)) : Ex cs H' (as ++ [a]) := by
  intro j b q
  by_cases c : j < as.length
  · rw [List.getElem?_append_left c] at q
    exact (h j b q).mono s
  · rw [List.getElem?_append_right (by omega)] at q
    have z : j - as.length = 0 := by
      cases w : j - as.length with
      | zero => rfl
      | succ n =>
        rw [w] at q
        simp at q
    rw [z] at q
    have e1 : a = b := by simpa using q
    have e2 : j = as.length := by omega
    rw [← e1, e2]
    exact e

section
variable {P : Program} {w : World} {K : PySem.W.Frag} {mg : Str → Option Value} {base : Heap} {cs : Nat → Addr} {fI : Addr}
/-- class j, made -/
def tMk (cs : Nat → Addr) (j : Nat) : TE := fun _ H Q => ∀ H' a, Same H H' → IsE H' a (cs j) → Q (.ref a) H'
theorem pe_mk {X : Cx} (T : Txt X.K X.mg cs fI) (j : Nat) {x : Str} {p pos : Pos} (hx : cnames[j]? = some x) (hj : j ≠ 13) (hg : Gl X x) (hdb : (x == ("__debug__" : Str)) = false := by decide) :
    PE X (.Call (.Name x p) [] [] pos) (tMk cs j) := by
  have hj2 : j < 15 := (List.getElem?_eq_some_iff.mp hx).1
  have h := pe_exc0 (p := p) (pos := pos) PySem.F.excBase_ValueError (T.exi j hj2 hj) (T.g j x hx) (T.kp j hj2) hg hdb
  exact ⟨fun pins s σ H Q I q => h.run pins s σ H Q I fun a n => q _ a (same_upd n) (.inl upd_same)⟩
theorem pe_mkS {X : Cx} (T : Txt X.K X.mg cs fI) (j : Nat) {x m : Str} {c : Nat} {p p2 pos : Pos} (hx : cnames[j]? = some x) (hj : j ≠ 13) (hg : Gl X x) (hdb : (x == ("__debug__" : Str)) = false := by decide) :
    PE X (.Call (.Name x p) [.Constant (.str m) c p2] [] pos) (tMk cs j) := by
  have hj2 : j < 15 := (List.getElem?_eq_some_iff.mp hx).1
  have h := pe_exc1 (p := p) (pos := pos) PySem.F.excBase_ValueError (T.exi j hj2 hj) (T.g j x hx) (T.kp j hj2) hg (pe_str (x := m) (j := c) (pos := p2)) rfl hdb
  exact ⟨fun pins s σ H Q I q => h.run pins s σ H Q I fun a n => q _ a (same_upd n) (.inl upd_same)⟩
/-- class j, made with what slot i holds -/
def tMk1 (cs : Nat → Addr) (j i : Nat) : TE := fun σ H Q => ∃ v, σ[i]? = some (some v) ∧ ∀ H' a, Same H H' → IsE H' a (cs j) → Q (.ref a) H'
theorem pe_mk1 {X : Cx} (T : Txt X.K X.mg cs fI) (j : Nat) {i : Nat} {x y : Str} {p p2 pos : Pos} (hN : X.N[i]? = some y) (hv : Vis X.env.scope y) (hx : cnames[j]? = some x) (hj : j ≠ 13) (hg : Gl X x) (hdb : (x == ("__debug__" : Str)) = false := by decide)
    (hd : (y == ("__debug__" : Str)) = false := by decide) (hcd : (y == ("__classdict__" : Str)) = false := by decide)
    (hst : starEach [.Name y p2] X.env = (false, eval (.Name y p2) X.env) :: starEach [] X.env := by rfl) : PE X (.Call (.Name x p) [.Name y p2] [] pos) (tMk1 cs j i) := by
  have hj2 : j < 15 := (List.getElem?_eq_some_iff.mp hx).1
  have h := pe_exc1 (p := p) (pos := pos) PySem.F.excBase_ValueError (T.exi j hj2 hj) (T.g j x hx) (T.kp j hj2) hg (pe_var (pos := p2) hN hv hd hcd) hst hdb
  exact ⟨fun pins s σ H Q I ⟨v, e, q⟩ => h.run pins s σ H Q I ⟨v, e, fun a n => q _ a (same_upd n) (.inl upd_same)⟩⟩

/-- thirteen errors, in the classes' order, in a new list -/
def wErr (cs : Nat → Addr) (H : Hp) (Q : VK) : Prop := ∀ H' p as, Same H H' → as.length = 13 → Ex cs H' as → H' p = some (.lst (as.map V.ref)) → Q (.ref p) H'
def spBare (cs : Nat → Addr) : Sp := fun vs H Q _ => vs = [] ∧ wErr cs H Q
def spTold (cs : Nat → Addr) : Sp := fun vs H Q _ => ∃ v, vs = [v] ∧ wErr cs H Q
theorem scBare : FnScope ["found"] [] (defScope sBare) := ⟨rfl, rfl, rfl, by decide +kernel, rfl, by decide +kernel, by decide +kernel⟩
theorem scTold : FnScope ["one", "found"] ["one"] (defScope sTold) := ⟨rfl, rfl, rfl, by decide +kernel, rfl, by decide +kernel, by decide +kernel⟩
/-- found + [..], where the items make objects -/
theorem catM_rd {t : TA} {σ : L2.St} {H : Hp} {Q : VK} {i : Nat} {p : Addr} {xs : List V} (e1 : σ[i]? = some (some (.ref p))) (hp : H p = some (.lst xs))
    (ht : t σ H fun ys H1 => xs.length + ys.length ≤ 1000 ∧ Same H H1 ∧ ∀ H' q, Same H1 H' → H' q = some (.lst (xs ++ ys)) → Q (.ref q) H')
    (mono : ∀ R R' : List V → Hp → Prop, (∀ vs H, R vs H → R' vs H) → t σ H R → t σ H R') : tOp rCat (tVar i) (tLst t) σ H Q := by
  refine ⟨_, e1, mono _ _ (fun ys H1 ⟨hz, s1, k⟩ => ?_) ht⟩
  refine ⟨small_len (by omega), fun b nb => ?_⟩
  refine ⟨p, b, xs, ys, rfl, rfl, same_upd nb _ _ (s1 _ _ hp), upd_same, small_len hz, fun q nq => k _ q ?_ upd_same⟩
  exact (same_upd nb).trans (same_upd nq)
theorem ok_bare {f : Addr} {fd : FuncData} (F : Fun K "_law_bare" "_law_bare" sBare f fd) (T : Txt K mg cs fI) : FnOk P w K mg base CX0 1 f fd [] (spBare cs) := by
  refine F.ok scBare (fun vs H Q E h => ?_) (fun cdv A outer s H vs Q E hr h => ?_)
  · obtain ⟨rfl, _⟩ := h
    rfl
  · obtain ⟨rfl, k⟩ := h
    refine ⟨_, pss_cons (ps_set (i := 0) scBare.nd rfl (Or.inl rfl) (pe_lst (pa_cons (pe_mk T 0 rfl (by decide) rfl) (pa_cons (pe_mk T 1 rfl (by decide) rfl) (pa_cons (pe_mk T 2 rfl (by decide) rfl) (pa_cons (pe_mk T 3 rfl (by decide) rfl) pa_nil))))))
      (pss_cons (ps_set (i := 0) scBare.nd rfl (Or.inl rfl) (pe_op op_cat (pv 0) (pe_lst (pa_cons (pe_mk T 4 rfl (by decide) rfl) (pa_cons (pe_mk T 5 rfl (by decide) rfl) pa_nil)))))
      (pss_cons (ps_set (i := 0) scBare.nd rfl (Or.inl rfl) (pe_op op_cat (pv 0) (pe_lst (pa_cons (pe_mk T 6 rfl (by decide) rfl) (pa_cons (pe_mk T 7 rfl (by decide) rfl) (pa_cons (pe_mk T 8 rfl (by decide) rfl) (pa_cons (pe_mk T 9 rfl (by decide) rfl) (pa_cons (pe_mk T 10 rfl (by decide) rfl) pa_nil))))))))
      (pss_cons (ps_set (i := 0) scBare.nd rfl (Or.inl rfl) (pe_op op_cat (pv 0) (pe_lst (pa_cons (pe_mk T 11 rfl (by decide) rfl) (pa_cons (pe_mk T 12 rfl (by decide) rfl) pa_nil)))))
      (pss_one (ps_ret (pv 0)))))), ?_⟩
    intro H0 a0 s0 i0 H1 a1 s1 i1 H2 a2 s2 i2 H3 a3 s3 i3
    refine ⟨small_len (Nat.le_of_ble_eq_true rfl), fun p0 n0 => ?_⟩
    have x0 := Ex.nil (cs := cs) (H := H)
    have x1 := x0.snoc s0 i0
    have x2 := x1.snoc s1 i1
    have x3 := x2.snoc s2 i2
    have x4 := (x3.snoc s3 i3).mono (same_upd (o := .lst [.ref a0, .ref a1, .ref a2, .ref a3]) n0)
    refine catM_rd rfl upd_same ?_ ?_
    · intro H4 a4 s4 i4 H5 a5 s5 i5
      refine ⟨Nat.le_of_ble_eq_true rfl, s4.trans s5, fun G1 p1 t1 h1 => ?_⟩
      have x5 := x4.snoc s4 i4
      have x6 := (x5.snoc s5 i5).mono t1
      refine catM_rd rfl h1 ?_ ?_
      · intro H6 a6 s6 i6 H7 a7 s7 i7 H8 a8 s8 i8 H9 a9 s9 i9 H10 a10 s10 i10
        have y := (((s6.trans s7).trans s8).trans s9).trans s10
        refine ⟨Nat.le_of_ble_eq_true rfl, y, fun G2 p2 t2 h2 => ?_⟩
        have x11 := (((((x6.snoc s6 i6).snoc s7 i7).snoc s8 i8).snoc s9 i9).snoc s10 i10).mono t2
        refine catM_rd rfl h2 ?_ ?_
        · intro H11 a11 s11 i11 H12 a12 s12 i12
          refine ⟨Nat.le_of_ble_eq_true rfl, s11.trans s12, fun G3 p3 t3 h3 => ?_⟩
          have x13 := ((x11.snoc s11 i11).snoc s12 i12).mono t3
          refine ⟨_, rfl, k G3 p3 _ ?_ rfl x13 h3⟩
          have u0 : Same H (upd H3 p0 (.lst [.ref a0, .ref a1, .ref a2, .ref a3])) := (((s0.trans s1).trans s2).trans s3).trans (same_upd n0)
          exact ((((((u0.trans s4).trans s5).trans t1).trans y).trans t2).trans (s11.trans s12)).trans t3
        · exact fun R R' i q H11 a11 s11 i11 H12 a12 s12 i12 => i _ _ (q H11 a11 s11 i11 H12 a12 s12 i12)
      · exact fun R R' i q H6 a6 s6 i6 H7 a7 s7 i7 H8 a8 s8 i8 H9 a9 s9 i9 H10 a10 s10 i10 => i _ _ (q H6 a6 s6 i6 H7 a7 s7 i7 H8 a8 s8 i8 H9 a9 s9 i9 H10 a10 s10 i10)
    · exact fun R R' i q H4 a4 s4 i4 H5 a5 s5 i5 => i _ _ (q H4 a4 s4 i4 H5 a5 s5 i5)
end
end K54
set_option Elab.async false
set_option linter.all false
set_option maxRecDepth 100000
set_option maxHeartbeats 2000000
namespace K54
open PySem PySem.Spec PyProof.Rows
open L2
section
variable {P : Program} {w : World} {K : PySem.W.Frag} {mg : Str → Option Value} {base : Heap} {cs : Nat → Addr} {fI : Addr}
theorem ok_told {f : Addr} {fd : FuncData} (F : Fun K "_law_told" "_law_told" sTold f fd) (T : Txt K mg cs fI) : FnOk P w K mg base CX0 1 f fd ["one"] (spTold cs) := by
  refine F.ok scTold (fun vs H Q E h => ?_) (fun cdv A outer s H vs Q E hr h => ?_)
  · obtain ⟨v, rfl, _⟩ := h
    rfl
  · obtain ⟨v, rfl, k⟩ := h
    have L : ∀ {x : Str}, (defScope sTold).names.lookup x = some .local → Vis (defScope sTold) x := fun e => Or.inl e
    refine ⟨_, pss_cons (ps_set (i := 1) scTold.nd rfl (Or.inl rfl) (pe_lst (pa_cons (pe_mk1 T 0 (i := 0) rfl (L rfl) rfl (by decide) rfl) (pa_cons (pe_mk1 T 1 (i := 0) rfl (L rfl) rfl (by decide) rfl) (pa_cons (pe_mk1 T 2 (i := 0) rfl (L rfl) rfl (by decide) rfl) pa_nil)))))
      (pss_cons (ps_set (i := 1) scTold.nd rfl (Or.inl rfl) (pe_op op_cat (pv 1) (pe_lst (pa_cons (pe_mk1 T 3 (i := 0) rfl (L rfl) rfl (by decide) rfl) (pa_cons (pe_mk1 T 4 (i := 0) rfl (L rfl) rfl (by decide) rfl) pa_nil)))))
      (pss_cons (ps_set (i := 1) scTold.nd rfl (Or.inl rfl) (pe_op op_cat (pv 1) (pe_lst (pa_cons (pe_mk1 T 5 (i := 0) rfl (L rfl) rfl (by decide) rfl) (pa_cons (pe_mk1 T 6 (i := 0) rfl (L rfl) rfl (by decide) rfl) (pa_cons (pe_mk1 T 7 (i := 0) rfl (L rfl) rfl (by decide) rfl) (pa_cons (pe_mk1 T 8 (i := 0) rfl (L rfl) rfl (by decide) rfl) pa_nil)))))))
      (pss_cons (ps_set (i := 1) scTold.nd rfl (Or.inl rfl) (pe_op op_cat (pv 1) (pe_lst (pa_cons (pe_mk1 T 9 (i := 0) rfl (L rfl) rfl (by decide) rfl) pa_nil))))
      (pss_one (ps_ret (pe_op op_cat (pv 1) (pe_lst (pa_cons (pe_mk1 T 10 (i := 0) rfl (L rfl) rfl (by decide) rfl) (pa_cons (pe_mk1 T 11 (i := 0) rfl (L rfl) rfl (by decide) rfl) (pa_cons (pe_mk1 T 12 (i := 0) rfl (L rfl) rfl (by decide) rfl) pa_nil)))))))))), ?_⟩
    refine ⟨v, rfl, fun H0 a0 s0 i0 => ⟨v, rfl, fun H1 a1 s1 i1 => ⟨v, rfl, fun H2 a2 s2 i2 => ?_⟩⟩⟩
    refine ⟨small_len (Nat.le_of_ble_eq_true rfl), fun p0 n0 => ?_⟩
    have x3 := ((((Ex.nil (cs := cs) (H := H)).snoc s0 i0).snoc s1 i1).snoc s2 i2).mono (same_upd (o := .lst [.ref a0, .ref a1, .ref a2]) n0)
    refine catM_rd rfl upd_same ?_ ?_
    · refine ⟨v, rfl, fun H3 a3 s3 i3 => ⟨v, rfl, fun H4 a4 s4 i4 => ⟨Nat.le_of_ble_eq_true rfl, s3.trans s4, fun G1 p1 t1 h1 => ?_⟩⟩⟩
      have x5 := ((x3.snoc s3 i3).snoc s4 i4).mono t1
      refine catM_rd rfl h1 ?_ ?_
      · refine ⟨v, rfl, fun H5 a5 s5 i5 => ⟨v, rfl, fun H6 a6 s6 i6 => ⟨v, rfl, fun H7 a7 s7 i7 => ⟨v, rfl, fun H8 a8 s8 i8 => ⟨Nat.le_of_ble_eq_true rfl, ((s5.trans s6).trans s7).trans s8, fun G2 p2 t2 h2 => ?_⟩⟩⟩⟩⟩
        have x9 := ((((x5.snoc s5 i5).snoc s6 i6).snoc s7 i7).snoc s8 i8).mono t2
        refine catM_rd rfl h2 ?_ ?_
        · refine ⟨v, rfl, fun H9 a9 s9 i9 => ⟨Nat.le_of_ble_eq_true rfl, s9, fun G3 p3 t3 h3 => ?_⟩⟩
          have x10 := (x9.snoc s9 i9).mono t3
          refine catM_rd rfl h3 ?_ ?_
          · refine ⟨v, rfl, fun H10 a10 s10 i10 => ⟨v, rfl, fun H11 a11 s11 i11 => ⟨v, rfl, fun H12 a12 s12 i12 => ⟨Nat.le_of_ble_eq_true rfl, (s10.trans s11).trans s12, fun G4 p4 t4 h4 => ?_⟩⟩⟩⟩
            have x13 := (((x10.snoc s10 i10).snoc s11 i11).snoc s12 i12).mono t4
            refine k G4 p4 _ ?_ rfl x13 h4
            have u0 : Same H (upd H2 p0 (.lst [.ref a0, .ref a1, .ref a2])) := ((s0.trans s1).trans s2).trans (same_upd n0)
            exact ((((((u0.trans (s3.trans s4)).trans t1).trans (((s5.trans s6).trans s7).trans s8)).trans t2).trans s9).trans t3).trans (((s10.trans s11).trans s12).trans t4)
          · rintro R R' i ⟨v1, e1, q⟩
            refine ⟨v1, e1, fun b1 c1 d1 f1 => ?_⟩
            obtain ⟨v2, e2, q⟩ := q b1 c1 d1 f1
            refine ⟨v2, e2, fun b2 c2 d2 f2 => ?_⟩
            obtain ⟨v3, e3, q⟩ := q b2 c2 d2 f2
            exact ⟨v3, e3, fun b3 c3 d3 f3 => i _ _ (q b3 c3 d3 f3)⟩
        · rintro R R' i ⟨v1, e1, q⟩
          exact ⟨v1, e1, fun b1 c1 d1 f1 => i _ _ (q b1 c1 d1 f1)⟩
      · rintro R R' i ⟨v1, e1, q⟩
        refine ⟨v1, e1, fun b1 c1 d1 f1 => ?_⟩
        obtain ⟨v2, e2, q⟩ := q b1 c1 d1 f1
        refine ⟨v2, e2, fun b2 c2 d2 f2 => ?_⟩
        obtain ⟨v3, e3, q⟩ := q b2 c2 d2 f2
        refine ⟨v3, e3, fun b3 c3 d3 f3 => ?_⟩
        obtain ⟨v4, e4, q⟩ := q b3 c3 d3 f3
        exact ⟨v4, e4, fun b4 c4 d4 f4 => i _ _ (q b4 c4 d4 f4)⟩
    · rintro R R' i ⟨v1, e1, q⟩
      refine ⟨v1, e1, fun b1 c1 d1 f1 => ?_⟩
      obtain ⟨v2, e2, q⟩ := q b1 c1 d1 f1
      exact ⟨v2, e2, fun b2 c2 d2 f2 => i _ _ (q b2 c2 d2 f2)⟩
end
end K54
set_option Elab.async false
set_option linter.all false
set_option maxRecDepth 100000
set_option maxHeartbeats 2000000
namespace K54
open PySem PySem.Spec PyProof.Rows
open L2

/-- != of plain data -/
def rNeP (K : PySem.W.Frag) : R2 := fun x y H Q => ∃ d e, Dp K H x d ∧ Dp K H y e ∧ d.plain = true ∧ e.plain = true ∧ d.depth ≤ 50 ∧ Q (.bl (!PyData.eqv d e)) H
theorem op_neP {X : Cx} (hu : X.A.units + 64 < cLine) : OpR X (compareOp .NotEq) (rNeP X.K) := by
  intro pins s σ H x y v u Q I rx ry h
  obtain ⟨d, e, hd, he, sd, se, dp, q⟩ := h
  obtain ⟨as, r1⟩ := Dp.reads I d x v hd rx
  obtain ⟨bs, r2⟩ := Dp.reads I e y u he ry
  exact PySem.SeqAt.ne_plain r1 r2 sd se (by omega) ⟨.bl _, H, I, rfl, q⟩
theorem dp_bools {K : PySem.W.Frag} {H : Hp} : ∀ bs : List Bool, DpAll K H (bs.map V.bl) (bs.map PyData.bool)
  | [] => .nil
  | b :: bs => .cons (.bl b) (dp_bools bs)
theorem plain_bools : ∀ bs : List Bool, PyData.plainAll (bs.map PyData.bool) = true
  | [] => rfl
  | b :: bs => by
    show (true && PyData.plainAll (bs.map PyData.bool)) = true
    rw [plain_bools bs]
    rfl
theorem depth_bools : ∀ bs : List Bool, PyData.depthAll (bs.map PyData.bool) ≤ 5
  | [] => by simp [PyData.depthAll]
  | b :: bs => by
    have z := depth_bools bs
    simp only [List.map_cons, PyData.depthAll, PyData.depth]
    omega
/-- two lists of the same bools -/
theorem neP_bools {K : PySem.W.Frag} {H : Hp} {Q : VK} {p q : Addr} (bs : List Bool) (h1 : H p = some (.lst (bs.map V.bl))) (h2 : H q = some (.lst (bs.map V.bl))) (k : Q (.bl false) H) : rNeP K (.ref p) (.ref q) H Q := by
  have pl : (PyData.list (bs.map PyData.bool)).plain = true := by
    simp only [PyData.plain]
    exact plain_bools bs
  refine ⟨_, _, .lst (SqL.of h1) (dp_bools bs), .lst (SqL.of h2) (dp_bools bs), pl, pl, ?_, ?_⟩
  · have z := depth_bools bs
    simp only [PyData.depth]
    omega
  · rw [PySem.SeqAt.eqv_refl_plain _ pl]
    exact k

section
variable {P : Program} {w : World} {K : PySem.W.Frag} {mg : Str → Option Value} {base : Heap} {cs : Nat → Addr} {fI : Addr}
/-- isinstance(error, ValueError) -/
theorem pe_isV {X : Cx} (T : Txt X.K X.mg cs fI) {y : Str} {p1 p2 p3 pos : Pos} {i : Nat} (hN : X.N[i]? = some y) (hv : Vis X.env.scope y) (hg : Gl X "isinstance") (hgx : Gl X "ValueError")
    (hd : (y == ("__debug__" : Str)) = false := by decide) (hcd : (y == ("__classdict__" : Str)) = false := by decide) :
    PE X (.Call (.Name "isinstance" p1) [.Name y p2, .Name "ValueError" p3] [] pos) (fun σ H Q => ∃ a k, σ[i]? = some (some (.ref a)) ∧ k < 15 ∧ IsE H a (cs k) ∧ Q (.bl true) H) := by
  have h := pe_callB (pos := pos) (p := p1) call_isX hg T.isi (by decide +kernel : bootBuiltins "isinstance" = some (.builtin "isinstance"))
    (pa_cons (pe_var (pos := p2) hN hv hd hcd) (pa_cons (pe_bltn (pos := p3) (v := .ty "ValueError") hgx (T.b _ (by decide)) (by decide +kernel : bootBuiltins "ValueError" = some (.type "ValueError")) rfl) pa_nil))
  constructor
  intro pins s σ H Q I q
  obtain ⟨a, k, e1, e2, e3, e4⟩ := q
  exact h.run pins s σ H Q I ⟨_, e1, a, cs k, _, _, true, rfl, e3, T.exk k e2, .ty _, T.kitV k e2, e4⟩
/-- isinstance(error, (TypeError, ..)) -/
theorem pe_isT {X : Cx} (T : Txt X.K X.mg cs fI) {y : Str} {p1 p2 p3 p4 p5 p6 p7 tp pos : Pos} {j : Nat} {i : Nat} (hN : X.N[i]? = some y) (hv : Vis X.env.scope y) (hg : Gl X "isinstance") (h1 : Gl X "TypeError") (h2 : Gl X "LookupError") (h3 : Gl X "ArithmeticError") (h4 : Gl X "RuntimeError") (h5 : Gl X "AttributeError")
    (hd : (y == ("__debug__" : Str)) = false := by decide) (hcd : (y == ("__classdict__" : Str)) = false := by decide) :
    PE X (.Call (.Name "isinstance" p1) [.Name y p2, .Tuple [.Name "TypeError" p3, .Name "LookupError" p4, .Name "ArithmeticError" p5, .Name "RuntimeError" p6, .Name "AttributeError" p7] j tp] [] pos)
      (fun σ H Q => ∃ a k, σ[i]? = some (some (.ref a)) ∧ k < 15 ∧ IsE H a (cs k) ∧ ∀ H', Same H H' → Q (.bl false) H') := by
  have h := pe_callB (pos := pos) (p := p1) call_isXT hg T.isi (by decide +kernel : bootBuiltins "isinstance" = some (.builtin "isinstance"))
    (pa_cons (pe_var (pos := p2) hN hv hd hcd) (pa_cons (pe_tup (x1 := j) (pos := tp)
      (pa_cons (pe_bltn (pos := p3) (v := .ty "TypeError") h1 (T.b _ (by decide)) (by decide +kernel : bootBuiltins "TypeError" = some (.type "TypeError")) rfl)
      (pa_cons (pe_bltn (pos := p4) (v := .ty "LookupError") h2 (T.b _ (by decide)) (by decide +kernel : bootBuiltins "LookupError" = some (.type "LookupError")) rfl)
      (pa_cons (pe_bltn (pos := p5) (v := .ty "ArithmeticError") h3 (T.b _ (by decide)) (by decide +kernel : bootBuiltins "ArithmeticError" = some (.type "ArithmeticError")) rfl)
      (pa_cons (pe_bltn (pos := p6) (v := .ty "RuntimeError") h4 (T.b _ (by decide)) (by decide +kernel : bootBuiltins "RuntimeError" = some (.type "RuntimeError")) rfl)
      (pa_cons (pe_bltn (pos := p7) (v := .ty "AttributeError") h5 (T.b _ (by decide)) (by decide +kernel : bootBuiltins "AttributeError" = some (.type "AttributeError")) rfl) pa_nil)))))) pa_nil))
  constructor
  intro pins s σ H Q I q
  obtain ⟨a, k, e1, e2, e3, e4⟩ := q
  refine h.run pins s σ H Q I ⟨_, e1, small_len (Nat.le_of_ble_eq_true rfl), fun p np => ?_⟩
  have s1 := same_upd (o := .tup [.ty "TypeError", .ty "LookupError", .ty "ArithmeticError", .ty "RuntimeError", .ty "AttributeError"]) np
  exact ⟨a, cs k, p, _, _, false, rfl, e3.mono s1, T.exk k e2, upd_same, .cons (.ty _) (.cons (.ty _) (.cons (.ty _) (.cons (.ty _) (.cons (.ty _) .nil)))), T.kitT k e2, e4 _ s1⟩
end
end K54
set_option Elab.async false
set_option linter.all false
set_option maxRecDepth 100000
set_option maxHeartbeats 2000000
namespace K54
open PySem PySem.Spec PyProof.Rows
open L2

/-- for i, x in enumerate(xs): the list stands -/
theorem for_enum {K : PySem.W.Frag} {a : Addr} {xs : List V} {g : TG} {tb : TS} {D : Ends} {σ : L2.St} {H : Hp} (Pv : Nat → L2.St → Hp → Prop) (h0 : Pv 0 σ H)
    (hl : ∀ i σ H, i ≤ xs.length → Pv i σ H → SqL K H a xs)
    (hs : ∀ i x σ H T, xs[i]? = some x → Pv i σ H → H T = none → g (.ref T) σ (upd H T (.tup [.int (i : Nat), x])) fun σ2 H2 => tb { D with nx := Pv (i + 1), ct := Pv (i + 1), bk := D.nx } σ2 H2)
    (hd : ∀ σ H, Pv xs.length σ H → D.nx σ H) :
    ∃ W : Nat → Nat → L2.St → Hp → Prop, (∃ m, W 0 m σ H) ∧ ∀ i m σ H, W i m σ H →
      ((Ite K a).stop i H ∧ D.nx σ H) ∨ ((Ite K a).go i H ∧ ∃ N : L2.St → Hp → Prop, (∀ σ' H', N σ' H' → ∃ m', m' < m ∧ W (i + 1) m' σ' H') ∧
        ∀ x H', (Ite K a).yld i H x H' → g x σ H' fun σ2 H2 => tb { D with nx := N, ct := N, bk := D.nx } σ2 H2) := by
  refine ⟨fun i m σ H => m + i = xs.length ∧ Pv i σ H, ⟨xs.length, rfl, h0⟩, ?_⟩
  rintro i m σ H ⟨em, p⟩
  have hi : i ≤ xs.length := by omega
  have q := hl i σ H hi p
  rcases Nat.lt_or_ge i xs.length with lt | ge
  · have e : xs[i]? = some xs[i] := by simp [lt]
    refine .inr ⟨⟨xs, _, q, e⟩, Pv (i + 1), fun σ' H' p' => ⟨m - 1, by omega, by omega, p'⟩, ?_⟩
    rintro x H' ⟨T, y, rfl, hT, rfl, hy⟩
    exact hs i y σ H T (hy xs q) p hT
  · have e : i = xs.length := by omega
    subst e
    exact .inl ⟨⟨xs, q, Nat.le_refl _⟩, hd σ H p⟩

def spAllG (cs : Nat → Addr) : Sp := fun vs H Q _ => ∃ (p : Addr) (as : List Addr), vs = [.ref p] ∧ as.length = 13 ∧ Ex cs H as ∧ H p = some (.lst (as.map V.ref)) ∧ ∀ H', Same H H' → Q (.bl true) H'
theorem scAllG : FnScope ["errors", "at", "error", "spot"] ["errors"] (defScope sAllG) := ⟨rfl, rfl, rfl, by decide +kernel, rfl, by decide +kernel, by decide +kernel⟩
theorem kb_range : ∀ i : Nat, i < 15 → ((List.range 14).map fun j => V.bl (decide (V.int (i : Nat) = V.int (0 + (j : Nat))))) = (kb i).map V.bl := by decide +kernel

section
variable {P : Program} {w : World} {K : PySem.W.Frag} {mg : Str → Option Value} {base : Heap} {cs : Nat → Addr} {fI : Addr}
/-- [i == spot for spot in range(14)], spot in slot j: the list kb i -/
theorem lc_kb {D : Addr} {Q : VK} {σ : L2.St} {H : Hp} {j : Nat} {te : TE} (i : Nat) (hi : i < 15) (hD : H D = none)
    (he : ∀ (n : Nat) (H' : Hp) (R : VK), Same H H' → R (.bl (decide (V.int (i : Nat) = V.int (0 + (n : Nat))))) H' → te ((wipe σ [j]).set j (some (.int (0 + (n : Nat))))) H' R)
    (hj : wipe ((wipe σ [j])) [j] = wipe σ [j])
    (k : ∀ H', Same H H' → H' D = some (.lst ((kb i).map V.bl)) → Q (.ref D) H') :
    ∃ W : Nat → Nat → Hp → Prop, (∃ m, W 0 m (upd H D (.lst []))) ∧ ∀ i m H, W i m H →
      ((Itr 0 14).stop i H ∧ Q (.ref D) H) ∨ ((Itr 0 14).go i H ∧ ∃ Nx : Hp → Prop, (∀ H', Nx H' → ∃ m', m' < m ∧ W (i + 1) m' H') ∧ ∀ x H', (Itr 0 14).yld i H x H' → gName j x (wipe σ [j]) H' fun σ2 H2 => wipe σ2 [j] = wipe σ [j] ∧ tYes σ2 H2 fun b H3 =>
        if b = true then te σ2 H3 fun y H4 => ∃ acc, H4 D = some (.lst acc) ∧ acc.length < sizeLine ∧ Nx (upd H4 D (.lst (acc ++ [y]))) else Nx H3) := by
  refine lc_range (lo := 0) (n := 14) (Qd := fun H' => Q (.ref D) H') (fun n H' => n ≤ 14 ∧ Same H H' ∧ H' D = some (.lst ((List.range n).map fun j => V.bl (decide (V.int (i : Nat) = V.int (0 + (j : Nat))))))) ⟨Nat.zero_le _, same_upd hD, upd_same⟩ ?_ ?_
  · rintro n H' hn ⟨_, sm, hd⟩
    refine ⟨?_, ?_⟩
    · show wipe ((wipe σ [j]).set j _) [j] = _
      show ((wipe σ [j]).set j _).set j none = _
      rw [List.set_set]
      exact hj
    · unfold tYes
      dsimp only
      rw [if_pos rfl]
      refine he n H' _ sm ?_
      refine ⟨_, hd, ?_, hn, ?_, ?_⟩
      · rw [List.length_map, List.length_range]
        exact small1000 (by omega)
      · intro b o e
        rw [upd_ne (ne_of_none e hD)]
        exact sm b o e
      · rw [upd_same, List.range_succ, List.map_append]
        rfl
  · rintro H' ⟨_, sm, hd⟩
    rw [kb_range i hi] at hd
    exact k H' sm hd
theorem wipe1 (σ : L2.St) (j : Nat) : wipe (wipe σ [j]) [j] = wipe σ [j] := by
  show (σ.set j none).set j none = σ.set j none
  rw [List.set_set]
end
theorem lc14 {Q : VK} {σ : L2.St} {H : Hp} {te : TE} (j i : Nat) (hi : i < 15)
    (he : ∀ (n : Nat) (H' : Hp) (R : VK), Same H H' → R (.bl (decide (V.int (i : Nat) = V.int (0 + (n : Nat))))) H' → te ((wipe σ [j]).set j (some (.int (0 + (n : Nat))))) H' R)
    (k : ∀ H' D, Same H H' → H' D = some (.lst ((kb i).map V.bl)) → Q (.ref D) H') : tLc (iRng1 (tCons (tC (.int 14)) tNil)) (gName j) tYes te [j] σ H Q :=
  ⟨14, rfl, by decide, by decide, fun D hD => lc_kb i hi hD he (wipe1 σ j) fun H' sm h => k H' D sm h⟩
end K54
set_option Elab.async false
set_option linter.all false
set_option maxRecDepth 100000
set_option maxHeartbeats 2000000
namespace K54
open PySem PySem.Spec PyProof.Rows
open L2
section
variable {P : Program} {w : World} {K : PySem.W.Frag} {mg : Str → Option Value} {base : Heap} {cs : Nat → Addr} {fI : Addr}
/-- a def of the module, as others call it -/
structure Def (K : PySem.W.Frag) (mg : Str → Option Value) (x : Str) (f : Addr) (fd : FuncData) (ps : List Str) : Prop where
  g : mg x = some (.ref f)
  k : PySem.W.keepIn K (.ref f) = true
  b : Binds K fd ps []
theorem ok_allG {f fK : Addr} {fd fdK : FuncData} (F : Fun K "_law_all_good" "_law_all_good" sAllG f fd) (T : Txt K mg cs fI) (FK : Fun K "_law_kinds" "_law_kinds" sKinds fK fdK) (DK : Def K mg "_law_kinds" fK fdK ["error"]) :
    FnOk P w K mg base CX0 2 f fd ["errors"] (spAllG cs) := by
  have GK : FnOk P w K mg base CX0 1 fK fdK ["error"] (spKinds cs) := ok_kinds FK T
  refine F.ok scAllG (fun vs H Q E h => ?_) (fun cdv A outer s H vs Q E hr h => ?_)
  · obtain ⟨p, as, rfl, _⟩ := h
    rfl
  · obtain ⟨p, as, rfl, hl, hx, hp, k⟩ := h
    refine ⟨_, pss_cons (ps_for PassesOwn.never rfl (pi_enum rfl (T.b _ (by decide)) (pa_cons (pv 0) pa_nil)) (pg_tup rfl (pgs_cons (pg_name (i := 1) scAllG.nd rfl (Or.inr rfl)) (pgs_cons (pg_name (i := 2) scAllG.nd rfl (Or.inl rfl)) pgs_nil)))
        (pss_cons (ps_if (PW.pt (pw_or (pt_not (pt_val (pe_is T 14 (i := 2) rfl (Or.inl rfl) rfl rfl rfl))) (pw_or1 (pt_not (pt_val (pe_isV T (i := 2) rfl (Or.inl rfl) rfl rfl)))))) (pss_one (ps_ret pe_bl)) pss_nil)
        (pss_cons (ps_if (pt_val (pe_isT T (i := 2) rfl (Or.inl rfl) rfl rfl rfl rfl rfl rfl)) (pss_one (ps_ret pe_bl)) pss_nil)
        (pss_one (ps_if (pt_cmpR (op_neP hr.units) (pe_call GK hr rfl DK.g DK.k DK.b .nil pass0 (pa_cons (pv 2) pa_nil))
          (pe_lc (own := [("spot", 3)]) (g := gName 3) (tt := tYes) rfl scAllG.nd (pi_range1 rfl (T.b _ (by decide)) (pa_cons pe_int pa_nil)) (blkOk_by (N := ["errors", "at", "error", "spot"]) (sc := defScope sAllG) (by decide +kernel))
            (fun _ _ _ _ _ => pg_name (i := 3) scAllG.nd rfl (Or.inl rfl)) (fun _ _ _ _ _ => pts_nil) (fun _ _ _ _ _ => pe_cmpR op_eq (pv 1) (pv 3) (nomark _))) (nomark _)) (pss_one (ps_ret pe_bl)) pss_nil)))))
      (pss_one (ps_ret (pe_cmpR op_eq (pe_callB call_len_seq (by rfl) (T.b _ (by decide)) PySem.boot_len (pa_cons (pv 0) pa_nil)) pe_int (nomark _)))), ?_⟩
    refine ⟨_, rfl, p, _, rfl, SqL.of hp, for_enum (K := K) (a := p) (xs := as.map V.ref) (fun i σ H' => ∃ v1 v2 v3, σ = [some (.ref p), v1, v2, v3] ∧ Same H H') ⟨none, none, none, rfl, Same.refl H⟩
      (fun i σ H' _ ⟨_, _, _, _, sm⟩ => SqL.of (sm _ _ hp)) ?_ ?_⟩
    · rintro i x σ H1 Tp hi ⟨v1, v2, v3, rfl, sm⟩ nT
      have hi2 : i < 13 := by
        have z := (List.getElem?_eq_some_iff.mp hi).1
        rw [List.length_map, hl] at z
        exact z
      obtain ⟨a, ha, rfl⟩ : ∃ a, as[i]? = some a ∧ x = V.ref a := by
        rw [List.getElem?_map] at hi
        cases e : as[i]? with
        | none =>
          rw [e] at hi
          cases hi
        | some a =>
          rw [e] at hi
          exact ⟨a, rfl, (Option.some.inj hi).symm⟩
      have s1 := sm.trans (same_upd (o := .tup [.int (i : Nat), .ref a]) nT)
      have hE := (hx i a ha)
      refine ⟨Tp, _, rfl, SqT.of upd_same, rfl, _, _, rfl, _, _, rfl, rfl, ?_⟩
      refine ⟨a, i, rfl, by omega, hE.mono s1, _, rfl, iteF ?_⟩
      refine ⟨a, i, rfl, by omega, hE.mono s1, _, rfl, iteF ?_⟩
      refine ⟨a, i, rfl, by omega, hE.mono s1, fun H2 s2 => ⟨_, rfl, iteF ?_⟩⟩
      have t2 := s1.trans s2
      refine ⟨_, rfl, a, i, rfl, by omega, hE.mono t2, fun H3 q s3 hq => ?_⟩
      refine lc14 3 i (by omega) (fun n H' R _ r => ⟨_, rfl, _, rfl, rfl, r⟩) fun H4 D s4 h4 => ?_
      refine neP_bools (kb i) (s4 _ _ hq) h4 ⟨_, rfl, iteF ?_⟩
      exact ⟨_, _, _, rfl, (t2.trans s3).trans s4⟩
    · rintro σ H1 ⟨v1, v2, v3, rfl, sm⟩
      refine ⟨_, rfl, p, _, rfl, .inl (SqL.of (sm _ _ hp)), ?_⟩
      refine ⟨rfl, ?_⟩
      have e : decide (V.int (((as.map V.ref).length : Nat) : Int) = V.int 13) = true := by
        rw [List.length_map, hl]
        rfl
      show Q (.bl (decide (V.int (((as.map V.ref).length : Nat) : Int) = V.int 13))) H1
      rw [e]
      exact k H1 sm
end
end K54
set_option Elab.async false
set_option linter.all false
set_option maxRecDepth 100000
set_option maxHeartbeats 2000000
namespace K54
open PySem PySem.Spec PyProof.Rows
open L2
/-- self.name = name -/
def spInit (C : Addr) : Sp := fun vs H Q _ => ∃ (a : Addr) (v : V), vs = [.ref a, v] ∧ H a = some (exo a C none) ∧
  ∀ dx, H dx = none → dx ≠ a → Q .non (upd (upd H dx (exd dx [("name", v)])) a (exo a C (some dx)))
theorem scInit : FnScope ["self", "name"] ["self", "name"] (defScope sInit) := ⟨rfl, rfl, rfl, by decide +kernel, rfl, by decide +kernel, by decide +kernel⟩
abbrev FunI (K : PySem.W.Frag) (f : Addr) (fd : FuncData) : Prop := FunD K "__init__" "Missing.__init__" (defArgs sInit) (defBody sInit) (defScope sInit) [.non] [] f fd
section
variable {P : Program} {w : World} {K : PySem.W.Frag} {mg : Str → Option Value} {base : Heap} {cs : Nat → Addr} {fI : Addr} {fdI : FuncData}
theorem ok_init (F : FunI K fI fdI) (T : Txt K mg cs fI) : FnOk P w K mg base CX0 1 fI fdI ["self", "name"] (spInit (cs 13)) := by
  refine F.ok scInit (fun vs H Q E h => ?_) (fun cdv A outer s H vs Q E hr h => ?_)
  · obtain ⟨a, v, rfl, _⟩ := h
    rfl
  · obtain ⟨a, v, rfl, ha, k⟩ := h
    refine ⟨_, pss_one (ps_ost (pv 0) (pv 1)), ?_⟩
    exact ⟨_, rfl, _, rfl, a, cs 13, rfl, T.oex, T.noN, .inl ⟨ha, k⟩⟩
theorem bind2 (F : FunI K fI fdI) (s : Shared) (a : Addr) (u : Value) (X : K.In s.heap) : BindsTo s fdI ⟨[.ref a, u], []⟩ ((["self", "name"] : List Str).zip [.ref a, u]) := by
  obtain ⟨ds, rd, hb⟩ := F.binds1 (ps := ["self", "name"]) 2 1 (by simp) rfl fun T kV doc pm an cdv ct us its hu hi =>
    match us, its, hu, hi with
    | [_, _], [_], _, _ => ⟨_, rfl, rfl⟩
  cases rd
  exact hb s [.ref a, u] X rfl
theorem bind1 (F : FunI K fI fdI) (s : Shared) (a : Addr) (X : K.In s.heap) : BindsTo s fdI ⟨[.ref a], []⟩ ((["self", "name"] : List Str).zip [.ref a, .none]) := by
  obtain ⟨ds, rd, hb⟩ := F.binds1 (ps := ["self", "name"]) 1 0 (by simp) rfl fun T kV doc pm an cdv ct us its hu hi =>
    match us, its, hu, hi with
    | [_], [_], _, _ => ⟨_, rfl, rfl⟩
  cases rd with
  | cons r1 r2 =>
    cases r2
    cases r1
    exact hb s [.ref a] X rfl
theorem bindK (F : FunI K fI fdI) (s : Shared) (a : Addr) (u : Value) (X : K.In s.heap) : BindsTo s fdI ⟨[.ref a], [("name", u)]⟩ ((["self", "name"] : List Str).zip [.ref a, u]) := by
  obtain ⟨oc, od, dV, kV, doc, pm, an, cdv, ct, osl, rfl, lk, hcd, hD, hK⟩ := F.ex
  rcases hD with ⟨e, _⟩ | ⟨_, T, o, its, m, rfl, lT, oT, rT⟩
  · cases e
  · have l1 : its.length = 1 := rT.length.symm
    obtain ⟨d, rfl⟩ : ∃ d, its = [d] := by
      match its, l1 with
      | [d], _ => exact ⟨d, rfl⟩
    refine BindsTo.of_looks fun M => ?_
    have e : ∃ k, bindArgs (PySem.W.fnOf "__init__" "Missing.__init__" (defArgs sInit) (defBody sInit) (defScope sInit) (.ref T) kV doc pm an cdv ct) ⟨[.ref a], [("name", u)]⟩ = seqItems? (.ref T) >>= k ∧ k (some [d].toArray) = pure ((["self", "name"] : List Str).zip [.ref a, u]) := ⟨_, rfl, rfl⟩
    obtain ⟨k, e1, e2⟩ := e
    rw [e1]
    exact looks_items X lT oT (.of_pure e2)
end
end K54
set_option Elab.async false
set_option linter.all false
set_option maxRecDepth 100000
set_option maxHeartbeats 2000000
namespace K54
open PySem PySem.Spec PyProof.Rows
open L2

/-! data -/
mutual
theorem nodict : ∀ d : PyData, d.plain = true → d.hasDict = false
  | .none, _ => by simp only [PyData.hasDict]
  | .bool _, _ => by simp only [PyData.hasDict]
  | .int _, _ => by simp only [PyData.hasDict]
  | .str _, _ => by simp only [PyData.hasDict]
  | .list xs, h => by
    simp only [PyData.hasDict]
    exact nodicts xs (by simpa [PyData.plain] using h)
  | .tuple xs, h => by
    simp only [PyData.hasDict]
    exact nodicts xs (by simpa [PyData.plain] using h)
  | .dict _, h => by simp [PyData.plain] at h
theorem nodicts : ∀ xs : List PyData, PyData.plainAll xs = true → PyData.hasDictAll xs = false
  | [], _ => by simp only [PyData.hasDictAll]
  | x :: xs, h => by
    have h' : x.plain = true ∧ PyData.plainAll xs = true := by simpa [PyData.plainAll] using h
    simp only [PyData.hasDictAll, nodict x h'.1, nodicts xs h'.2, Bool.or_self]
end

/-- a value that is data: without dicts, or an empty dict, or a dict of one text with a tuple of one int -/
inductive Dz (K : PySem.W.Frag) (H : Hp) : V → PyData → Prop
  | pl {v : V} {d : PyData} (h : Dp K H v d) (p : d.plain = true) : Dz K H v d
  | d0 {a : Addr} (e : H a = some (.dK [])) : Dz K H (.ref a) (.dict [])
  | d1 {a t : Addr} {x : Str} {n : Int} (e : H a = some (.dK [(Sum.inr x, .ref t)])) (et : H t = some (.tup [.int n])) : Dz K H (.ref a) (.dict [(.str x, .tuple [.int n])])
mutual
theorem Dp.mono' {K : PySem.W.Frag} {H H' : Hp} (s : Same H H') : ∀ (d : PyData) (v : V), Dp K H v d → Dp K H' v d
  | .none, _, h => by
    cases h
    exact .non
  | .bool _, _, h => by
    cases h
    exact .bl _
  | .int _, _, h => by
    cases h
    exact .int _
  | .str _, _, h => by
    cases h
    exact .str _
  | .list ds, _, h => by
    cases h with
    | lst q ha => exact .lst (s.seq q) (Dp.monoAll' s ds _ ha)
  | .tuple ds, _, h => by
    cases h with
    | tup q ha =>
      refine .tup ?_ (Dp.monoAll' s ds _ ha)
      rcases q with (q | ⟨o, q⟩) | q
      · exact .inl (.inl (s _ _ q))
      · exact .inl (.inr ⟨o, s _ _ q⟩)
      · exact .inr q
  | .dict _, _, h => by cases h
theorem Dp.monoAll' {K : PySem.W.Frag} {H H' : Hp} (s : Same H H') : ∀ (ds : List PyData) (vs : List V), DpAll K H vs ds → DpAll K H' vs ds
  | [], _, h => by
    cases h
    exact .nil
  | d :: ds, _, h => by
    cases h with
    | cons h1 h2 => exact .cons (Dp.mono' s d _ h1) (Dp.monoAll' s ds _ h2)
end
theorem Dz.mono {K : PySem.W.Frag} {H H' : Hp} {v : V} {d : PyData} (s : Same H H') (h : Dz K H v d) : Dz K H' v d := by
  cases h with
  | pl h p => exact .pl (Dp.mono' s d v h) p
  | d0 e => exact .d0 (s _ _ e)
  | d1 e et => exact .d1 (s _ _ e) (s _ _ et)

section
variable {X : Cx} {pins : List (Addr × Obj)} {σ : L2.St} {H : Hp} {s : Shared}
theorem Dz.reads (I : Inv X pins σ H s) {v : V} {d : PyData} {u : Value} (h : Dz X.K H v d) (r : RelV v u) : ∃ as, Reads s.heap u d as ∧ (d.hasDict = true → sysModules ∉ as) := by
  cases h with
  | pl h p =>
    obtain ⟨as, q⟩ := Dp.reads I d v u h r
    refine ⟨as, q, fun z => ?_⟩
    rw [nodict d p] at z
    cases z
  | @d0 a e =>
    cases (show u = Value.ref a from r)
    have z : ObjOk X.prog X.w H s.heap a (.dK []) := I.hok a _ e
    obtain ⟨_, hs, vs, kv, o, es, ep, h1, h2, h3, _, h5, _⟩ := z
    cases kv
    have e0 : es.toList = [] := by
      generalize es.toList = l at h5
      cases h5
      rfl
    refine ⟨_, Reads.dict (kvs := []) h1 h2.1 h3 (by rw [e0]; exact .nil) (by rw [e0]; exact .nil), fun _ m => ?_⟩
    have m' : sysModules = a := by simpa using m
    rw [m'] at hs
    simp at hs
  | @d1 a t x n e et =>
    cases (show u = Value.ref a from r)
    have z : ObjOk X.prog X.w H s.heap a (.dK [(Sum.inr x, .ref t)]) := I.hok a _ e
    obtain ⟨_, hs, vs, kv, o, es, ep, h1, h2, h3, _, h5, _⟩ := z
    cases kv with
    | @cons _ q _ _ r1 r2 =>
      cases r2
      obtain ⟨qk, qv⟩ := q
      obtain ⟨rk, rv⟩ := r1
      cases (show qv = Value.ref t from rv)
      have rk' : (Sum.inr x : Key) = qk := rk
      subst rk'
      have zt : ObjOk X.prog X.w H s.heap t (.tup [.int n]) := I.hok t _ et
      obtain ⟨_, its, rt, ot, t1, t2, tn, t3⟩ := zt
      cases rt with
      | cons ri rn =>
        cases rn
        obtain ⟨tk, rfl⟩ := ri
        have e0 : ∃ en : DictEntry, es.toList = [en] ∧ keyIs (Sum.inr x) en.key = true ∧ en.val = .ref t := by
          generalize es.toList = l at h5
          cases h5 with
          | cons k1 k2 k3 =>
            cases k3
            exact ⟨_, rfl, k1, k2⟩
        obtain ⟨en, el, ek, ev⟩ := e0
        have ek2 : ∃ tk', en.key = Value.str x tk' := by
          rcases keyIs_shape ek with ⟨i, t', z, _⟩ | ⟨y, t', z, w⟩
          · cases z
          · cases z
            exact ⟨t', w⟩
        obtain ⟨tk', ek2⟩ := ek2
        have rtp : Reads s.heap (.ref t) (.tuple [.int n]) _ := Reads.tuple t1 t2 t3 (.cons (.int n tk) .nil)
        refine ⟨_, Reads.dict (kvs := [(.str x, .tuple [.int n])]) h1 h2.1 h3 (by rw [el]; show ReadsAll _ [en.key] _ _; rw [ek2]; exact .cons (.str x tk') .nil) (by rw [el]; show ReadsAll _ [en.val] _ _; rw [ev]; exact .cons rtp .nil), fun _ m => ?_⟩
        have m' : sysModules = a := by simpa using m
        rw [m'] at hs
        simp at hs

/-- what str gives -/
def strD : PyData → Str
  | .str x => x
  | d => d.shown
def rStr (K : PySem.W.Frag) : List V → Hp → VK → Prop := fun xs H Q => ∃ v d, xs = [v] ∧ Dz K H v d ∧ d.showable = true ∧ d.depth ≤ 50 ∧ d.shown.length ≤ sizeLine ∧ Q (.str (strD d)) H
theorem call_strD (hg : X.A.guards = some []) (hu : X.A.units + 64 < cLine) : CallR X (.type "str") (rStr X.K) := by
  intro pins s σ H xs us Q I r h
  obtain ⟨v, d, rfl, hd, hs, hdp, hz, q⟩ := h
  obtain ⟨u, rfl, rx⟩ := vals1 r
  obtain ⟨as, hr, hm⟩ := hd.reads I rx
  cases hr with
  | none => exact PySem.P.str_of_none ⟨.str _, H, I.tok _, ⟨_, rfl⟩, by simpa [strD, PyData.shown] using q⟩
  | bool b => exact PySem.P.str_of_bool ⟨.str _, H, I.tok _, ⟨_, rfl⟩, by simpa [strD, PyData.shown] using q⟩
  | int i t => exact PySem.P.str_of_int (by simpa [PyData.showable] using hs) ⟨.str _, H, I.tok _, ⟨_, rfl⟩, by simpa [strD, PyData.shown] using q⟩
  | str x t => exact PySem.P.str_of_str ⟨.str _, H, I, ⟨_, rfl⟩, by simpa [strD] using q⟩
  | list h1 h2 h3 h4 =>
    refine str_of_reads (.list h1 h2 h3 h4) hs hm hg (by omega) (fun _ _ e => e) (fun h' u' tk kp => ⟨.str _, H, I.kept (t' := tk) kp, ⟨_, rfl⟩, ?_⟩) hz
    simpa [strD] using q
  | tuple h1 h2 h3 h4 =>
    refine str_of_reads (.tuple h1 h2 h3 h4) hs hm hg (by omega) (fun _ _ e => e) (fun h' u' tk kp => ⟨.str _, H, I.kept (t' := tk) kp, ⟨_, rfl⟩, ?_⟩) hz
    simpa [strD] using q
  | dict h1 h2 h3 h4 h5 =>
    refine str_of_reads (.dict h1 h2 h3 h4 h5) hs hm hg (by omega) (fun _ _ e => e) (fun h' u' tk kp => ⟨.str _, H, I.kept (t' := tk) kp, ⟨_, rfl⟩, ?_⟩) hz
    simpa [strD] using q
end
end K54
set_option Elab.async false
set_option linter.all false
set_option maxRecDepth 100000
set_option maxHeartbeats 2000000
namespace K54
open PySem PySem.Spec PyProof.Rows
open L2
section
variable {X : Cx} {pins : List (Addr × Obj)} {σ : L2.St} {H : Hp} {s : Shared}
/-- != of two dicts of the same pairs -/
def rNeK (K : PySem.W.Frag) : R2 := fun x y H Q => ∃ (a b : Addr) (kvs : List (Key × V)), x = .ref a ∧ y = .ref b ∧ H a = some (.dK kvs) ∧ H b = some (.dK kvs) ∧
  (∀ p ∈ kvs, ∃ d, Dp K H p.2 d ∧ d.plain = true ∧ d.depth ≤ 50) ∧ Q (.bl false) H
theorem kv_get : ∀ {l : List (Key × V)} {m : List (Key × Value)} {p : Key × V}, KV l m → p ∈ l → ∃ (i : Nat) (y : Value), m[i]? = some (p.1, y) ∧ RelV p.2 y
  | [], _, _, _, h => by cases h
  | q :: l, _, p, .cons (b := b) r t, h => by
    rcases List.mem_cons.mp h with e | e
    · subst e
      obtain ⟨bk, bv⟩ := b
      obtain ⟨r1, r2⟩ := r
      have r1' : p.1 = bk := r1
      exact ⟨0, bv, by rw [r1']; rfl, r2⟩
    · obtain ⟨i, y, e1, e2⟩ := kv_get t e
      exact ⟨i + 1, y, e1, e2⟩
theorem kv_hits (I : Inv X pins σ H s) (hu : X.A.units + 64 < cLine) {kvs : List (Key × V)} {kb : List (Key × Value)} (nb : (kb.map (·.1)).Nodup) (rb : KV kvs kb) (hd : ∀ p ∈ kvs, ∃ d, Dp X.K H p.2 d ∧ d.plain = true ∧ d.depth ≤ 50) :
    ∀ {l : List (Key × V)} {ka : List (Key × Value)}, KV l ka → (∀ p ∈ l, p ∈ kvs) → PySem.W.KeqHits X.A.in1 s kb ka true
  | [], _, .nil, _ => .nil
  | p :: l, _, .cons (b := q) r t, h => by
    obtain ⟨d, h1, h2, h3⟩ := hd p (h p List.mem_cons_self)
    obtain ⟨i, y, e1, e2⟩ := kv_get rb (h p List.mem_cons_self)
    obtain ⟨qk, qv⟩ := q
    obtain ⟨rk, rv⟩ := r
    have rk' : p.1 = qk := rk
    obtain ⟨as, ra⟩ := Dp.reads I d p.2 qv h1 rv
    obtain ⟨bs, rb'⟩ := Dp.reads I d p.2 y h1 e2
    have z := PySem.SeqAt.eqAt_plain d d X.A.in1 s qv y as bs ra rb' h2 h2 (by show X.A.units + 1 + _ < _; omega)
    rw [PySem.SeqAt.eqv_refl_plain d h2] at z
    have g : PySem.valueAt kb qk = some y := by
      rw [← rk']
      exact PySem.valueAt_of_get nb e1
    exact PySem.W.KeqHits.hit (e := true) (b := true) g z (kv_hits I hu nb rb hd t fun p' hp => h p' (List.mem_cons_of_mem _ hp))
theorem op_neK (hu : X.A.units + 64 < cLine) : OpR X (compareOp .NotEq) (rNeK X.K) := by
  intro pins s σ H x y v u Q I rx ry h
  obtain ⟨a, b, kvs, rfl, rfl, ha, hb, hd, q⟩ := h
  cases (show v = Value.ref a from rx)
  cases (show u = Value.ref b from ry)
  have za : ObjOk X.prog X.w H s.heap a (.dK kvs) := I.hok a _ ha
  have zb : ObjOk X.prog X.w H s.heap b (.dK kvs) := I.hok b _ hb
  obtain ⟨_, sa, ka, ra, da⟩ := za
  obtain ⟨_, sb, kb, rb, db⟩ := zb
  have nb : (kb.map (·.1)).Nodup := by
    obtain ⟨_, _, _, _, _, _, _, _, n⟩ := db
    exact n
  refine PySem.W.keq_ne (r := true) sa sb da db (by omega) (fun _ => kv_hits I hu nb rb hd ra fun p hp => hp) ?_
  have el : ka.length = kb.length := (Paired.length ra).symm.trans (Paired.length rb)
  rw [el, beq_self_eq_true]
  exact ⟨.bl false, H, I, rfl, q⟩
/-- != of data -/
def rNeA (K : PySem.W.Frag) : R2 := fun x y H Q => rNeP K x y H Q ∨ rNeK K x y H Q
theorem op_neA (hu : X.A.units + 64 < cLine) : OpR X (compareOp .NotEq) (rNeA X.K) := by
  intro pins s σ H x y v u Q I rx ry h
  rcases h with h | h
  · exact op_neP hu pins s σ H x y v u Q I rx ry h
  · exact op_neK hu pins s σ H x y v u Q I rx ry h
theorem Dz.ne {K : PySem.W.Frag} {H : Hp} {v : V} {d : PyData} {Q : VK} (h : Dz K H v d) (dp : d.depth ≤ 50) (k : Q (.bl false) H) : rNeA K v v H Q := by
  cases h with
  | pl h p =>
    refine .inl ⟨d, d, h, h, p, p, dp, ?_⟩
    rw [PySem.SeqAt.eqv_refl_plain d p]
    exact k
  | @d0 a e => exact .inr ⟨a, a, [], rfl, rfl, e, e, (fun p hp => by cases hp), k⟩
  | @d1 a t x n e et =>
    refine .inr ⟨a, a, _, rfl, rfl, e, e, fun p hp => ?_, k⟩
    rw [List.mem_singleton.mp hp]
    refine ⟨_, .tup (SqT.of et) (.cons (.int n) .nil), ?_, ?_⟩
    · simp [PyData.plain, PyData.plainAll]
    · simp [PyData.depth, PyData.depthAll]
end

/-! defs that lean on no guard being under way -/
structure FnG (P : Program) (w : World) (K : PySem.W.Frag) (mg : Str → Option Value) (base : Heap) (k : Nat) (f : Addr) (fd : FuncData) (ps : List Str) (sp : Sp) : Prop where
  len : ∀ vs H Q E, sp vs H Q E → vs.length = ps.length
  run : ∀ (A : Around) (outer : List Env) (s : Shared) (H : Hp) (args : Args) (us : List Value) (vs : List V) (Q : VK) (E : XK), A.guards = some [] → Room k A → Env0 P w K mg base A outer s H → BindsTo s fd args (ps.zip us) →
    Vals vs us → sp vs H Q E → codeAny (model P w) A (.call (.ref f) args) (CR CX0 outer P w H s Q E) s
section
variable {P : Program} {w : World} {K : PySem.W.Frag} {mg : Str → Option Value} {base : Heap}
theorem okG {x qual : Str} {st : Stmt} {f : Addr} {fd : FuncData} {N ps : List Str} {k : Nat} {sp : Sp} (F : Fun K x qual st f fd) (S : FnScope N ps (defScope st)) (len : ∀ vs H Q E, sp vs H Q E → vs.length = ps.length)
    (hbody : ∀ (cdv : Value) (A : Around) (outer : List Env) (s : Shared) (H : Hp) (vs : List V) (Q : VK) (E : XK), A.guards = some [] → Room k (A.deeper (envOfC qual (defScope st) s.heap.objs.size f cdv)) → sp vs H Q E →
      ∃ t, PSs (cxOf CX0 P w K mg base N qual (defScope st) f cdv A outer s H E).nox (defBody st) t ∧ t { nx := fun _ H' => Q .non H', rt := Q } (start N vs) H) : FnG P w K mg base (k + 1) f fd ps sp := by
  obtain ⟨oc, od, kV, doc, pm, an, cdv, ct, osl, rfl, lk, hcd⟩ := F.ex
  refine ⟨len, ?_⟩
  intro A outer s H args us vs Q E hg hr e0 hb rv hsp
  obtain ⟨t, ht, hq⟩ := hbody cdv A outer s H vs Q E hg (hr.deeper _) hsp
  have old : ∀ b o, base.get? b = some o → s.heap.get? b = some o := by
    intro b o e
    exact (e0.bs b o e).1
  have kx := e0.mod.kin.keeps old
  apply codeAny_call_function hr.depth (kx _ _ lk) rfl S.co S.gen rfl (PySem.W.codeRec_of kx hcd)
  apply hb
  apply wpAny_newFunctionEnv_cells S.kind
  · rintro ⟨n, v⟩ hy
    rcases S.par n (List.of_mem_zip hy).1 with q | q
    · exact .inl q
    · exact .inr ⟨q, PySem.W.cellsFrom_some _ _ _ (.inl q)⟩
  · intro env he s1 x1
    subst he
    refine ⟨(e0.mod.nolimit.keeps old).keeps x1.toInCall.keep, codeAny_func ?_⟩
    have I := inv_start (CX := CX0) (N := N) (E := E) S hr.hd e0 (len _ _ _ _ hsp) rv x1
    apply wpAny_mono (ht.nox.run [] s1 (start N vs) H _ I hq)
    · intro fl s' hs
      cases fl with
      | ret u =>
        obtain ⟨v, σ', H', J, r2, q⟩ := hs
        exact ⟨v, H', J.os, J.bare, J.base, J.hok, r2, q⟩
      | next =>
        obtain ⟨σ', H', J, q⟩ := hs
        exact ⟨V.non, H', J.os, J.bare, J.base, J.hok, rfl, q⟩
      | brk =>
        obtain ⟨_, _, _, q⟩ := hs
        exact q.elim
      | cont =>
        obtain ⟨_, _, _, q⟩ := hs
        exact q.elim
    · intro e s' hs
      exact hs
/-- a call of such a def -/
theorem pe_callG {X : Cx} {k : Nat} {f : Addr} {fd : FuncData} {ps : List Str} {sp : Sp} {x : Str} {p pos : Pos} {e : Expr} {es : List Expr} {t : TA} (F : FnG X.prog X.w X.K X.mg X.base k f fd ps sp) (hgd : X.A.guards = some []) (hr : Room k X.A) (hg : Gl X x) (D : Def X.K X.mg x f fd ps) (ha : PA X (e :: es) t)
    (hdb : (x == ("__debug__" : Str)) = false := by decide) (he : starEach (e :: es) X.env = (false, eval e X.env) :: starEach es X.env := by rfl) (hpl : (backTo pos (starEach es X.env)).any (·.1) = false := by rfl) :
    PE X (.Call (.Name x p) (e :: es) [] pos) (tCall sp [] E0 t) := by
  constructor
  intro pins s σ H Q I h
  apply wpAny_Call_Name_kw
  apply ld_glob I hg D.g _ hdb
  refine PySem.W.callWith_K (h₀ := X.base) I.ok.mod.kin D.k (thn (ha.run pos pins s σ H _ I h) ?_) he hpl
  rintro us s1 ⟨vs, H1, I1, r, q⟩
  refine ⟨I1.kIn, ?_⟩
  show wpAny _ _ (call (.ref f) us) _ _ _
  rw [List.append_nil] at q
  have hl : (us ++ []).length = ps.length := by
    rw [List.append_nil, ← r.length]
    exact F.len _ _ _ _ q
  have b := D.b s1 us I1.kIn hl
  rw [List.append_nil] at b
  apply wpAny_call
  refine codeAny_mono (F.run X.A X.stack s1 H1 ⟨us, []⟩ us vs Q E0 hgd hr I1.env0 b r q) ?_
  intro r' s' hq
  cases r' with
  | error e => exact hq.elim
  | ok fl =>
    cases fl with
    | ret u => exact I1.after hq
    | next => exact hq.elim
    | brk => exact hq.elim
    | cont => exact hq.elim
end
end K54
set_option Elab.async false
set_option linter.all false
set_option maxRecDepth 100000
set_option maxHeartbeats 2000000
namespace K54
open PySem PySem.Spec PyProof.Rows
open L2
/-- a Missing that holds v -/
def IsM (H : Hp) (a C : Addr) (v : V) : Prop := ∃ dx, H a = some (exo a C (some dx)) ∧ H dx = some (exd dx [("name", v)])
theorem IsM.mono {H H' : Hp} {a C : Addr} {v : V} (s : Same H H') (h : IsM H a C v) : IsM H' a C v := by
  obtain ⟨dx, h1, h2⟩ := h
  exact ⟨dx, s _ _ h1, s _ _ h2⟩
theorem IsM.isE {H : Hp} {a C : Addr} {v : V} (h : IsM H a C v) : IsE H a C := by
  obtain ⟨dx, h1, h2⟩ := h
  exact .inr ⟨dx, _, h1, h2⟩
/-- what __init__'s promise asks, answered -/
theorem init_rd {C : Addr} {v : V} {H : Hp} {Q : VK} {a : Addr} (na : H a = none) (k : ∀ H', Same H H' → IsM H' a C v → Q (.ref a) H') :
    spInit C [.ref a, v] (upd H a (exo a C none)) (fun z H2 => z = .non ∧ Q (.ref a) H2) E0 := by
  refine ⟨a, v, rfl, upd_same, fun dx nd ne => ⟨rfl, k _ ?_ ⟨dx, upd_same, ?_⟩⟩⟩
  · intro b o e
    have n1 : b ≠ a := ne_of_none e na
    have n2 : b ≠ dx := by
      intro z
      subst z
      rw [upd_ne n1, e] at nd
      cases nd
    rw [upd_ne n1, upd_ne n2, upd_ne n1]
    exact e
  · rw [upd_ne ne, upd_same]
def spMisG (K : PySem.W.Frag) : Sp := fun vs H Q _ => ∃ (v : V) (d : PyData), vs = [v] ∧ Dz K H v d ∧ d.showable = true ∧ d.depth ≤ 50 ∧ d.shown.length ≤ sizeLine ∧ ∀ H', Same H H' → Q (.bl true) H'
theorem scMisG : FnScope ["thing", "error", "spot"] ["thing"] (defScope sMisG) := ⟨rfl, rfl, rfl, by decide +kernel, rfl, by decide +kernel, by decide +kernel⟩
section
variable {P : Program} {w : World} {K : PySem.W.Frag} {mg : Str → Option Value} {base : Heap} {cs : Nat → Addr} {fI : Addr} {fdI : FuncData}
theorem lookup_name (v : V) : ([(("name" : Str), v)] : List (Str × V)).lookup ("name" : Str) = some v := by
  rw [lookup_put, if_pos rfl]
/-- Missing(x), Missing(name=x), Missing(): x in slot i -/
def tMis (C : Addr) (i : Nat) : TE := fun σ H Q => ∃ v, σ[i]? = some (some v) ∧ ∀ H' a, Same H H' → IsM H' a C v → Q (.ref a) H'
def tMis0 (C : Addr) : TE := fun _ H Q => ∀ H' a, Same H H' → IsM H' a C .non → Q (.ref a) H'
theorem pe_mis {X : Cx} {i : Nat} {y : Str} {p p2 pos : Pos} (T : Txt X.K X.mg cs fI) (FI : FunI X.K fI fdI) (GI : FnOk X.prog X.w X.K X.mg X.base CX0 1 fI fdI ["self", "name"] (spInit (cs 13))) (hr : Room 2 X.A) (hg : Gl X "Missing")
    (hN : X.N[i]? = some y) (hv : Vis X.env.scope y) (hd : (y == ("__debug__" : Str)) = false := by decide) (hcd : (y == ("__classdict__" : Str)) = false := by decide)
    (hst : starEach [.Name y p2] X.env = (false, eval (.Name y p2) X.env) :: starEach [] X.env := by rfl) : PE X (.Call (.Name "Missing" p) [.Name y p2] [] pos) (tMis (cs 13) i) := by
  have h := pe_exv (p := p) (pos := pos) T.oex T.iC T.tI GI hr (fun s' a u X => bind2 FI s' a u X) hg (T.g 13 _ rfl) (pe_var (pos := p2) hN hv hd hcd) (by decide) hst
  exact ⟨fun pins s σ H Q I ⟨v, e, q⟩ => h.run pins s σ H Q I ⟨v, e, v, rfl, fun a na => init_rd na fun H' s m => q H' a s m⟩⟩
theorem pe_misK {X : Cx} {i : Nat} {y : Str} {p p2 p3 pos : Pos} (T : Txt X.K X.mg cs fI) (FI : FunI X.K fI fdI) (GI : FnOk X.prog X.w X.K X.mg X.base CX0 1 fI fdI ["self", "name"] (spInit (cs 13))) (hr : Room 2 X.A) (hg : Gl X "Missing")
    (hN : X.N[i]? = some y) (hv : Vis X.env.scope y) (hd : (y == ("__debug__" : Str)) = false := by decide) (hcd : (y == ("__classdict__" : Str)) = false := by decide) :
    PE X (.Call (.Name "Missing" p) [] [⟨some "name", .Name y p2, p3⟩] pos) (tMis (cs 13) i) := by
  have h := pe_exvK (p := p) (kpos := p3) (pos := pos) T.oex T.iC T.tI GI hr (fun s' a u X => bindK FI s' a u X) hg (T.g 13 _ rfl) (pe_var (pos := p2) hN hv hd hcd)
  exact ⟨fun pins s σ H Q I ⟨v, e, q⟩ => h.run pins s σ H Q I ⟨v, e, v, rfl, fun a na => init_rd na fun H' s m => q H' a s m⟩⟩
theorem pe_mis0 {X : Cx} {p pos : Pos} (T : Txt X.K X.mg cs fI) (FI : FunI X.K fI fdI) (GI : FnOk X.prog X.w X.K X.mg X.base CX0 1 fI fdI ["self", "name"] (spInit (cs 13))) (hr : Room 2 X.A) (hg : Gl X "Missing") :
    PE X (.Call (.Name "Missing" p) [] [] pos) (tMis0 (cs 13)) := by
  have h := pe_exv0 (p := p) (pos := pos) (dv := .non) (du := .none) T.oex T.iC T.tI GI hr (fun s' a X => bind1 FI s' a X) rfl hg (T.g 13 _ rfl)
  exact ⟨fun pins s σ H Q I q => h.run pins s σ H Q I fun a na => init_rd na fun H' s m => q H' a s m⟩
theorem ok_misG {f fK : Addr} {fd fdK : FuncData} (F : Fun K "_law_missing_good" "_law_missing_good" sMisG f fd) (T : Txt K mg cs fI) (FI : FunI K fI fdI) (FK : Fun K "_law_kinds" "_law_kinds" sKinds fK fdK) (DK : Def K mg "_law_kinds" fK fdK ["error"]) :
    FnG P w K mg base 3 f fd ["thing"] (spMisG K) := by
  have GK : FnOk P w K mg base CX0 1 fK fdK ["error"] (spKinds cs) := ok_kinds FK T
  have GI : FnOk P w K mg base CX0 1 fI fdI ["self", "name"] (spInit (cs 13)) := ok_init FI T
  have gM : mg "Missing" = some (.ref (cs 13)) := T.g 13 _ rfl
  have bS : bootBuiltins "str" = some (.type "str") := by decide +kernel
  refine okG F scMisG (fun vs H Q E h => ?_) (fun cdv A outer s H vs Q E hgd hr h => ?_)
  · obtain ⟨v, d, rfl, _⟩ := h
    rfl
  · obtain ⟨v, d, rfl, hd, hs, hdp, hz, k⟩ := h
    have hr1 : Room 1 _ := hr.mono (by decide)
    have hu := hr.units
    refine ⟨_, pss_cons (ps_for PassesOwn.never rfl (pi_list (pe_lst (pa_cons (pe_mis (i := 0) T FI GI hr rfl rfl (Or.inl rfl)) (pa_cons (pe_misK (i := 0) T FI GI hr rfl rfl (Or.inl rfl)) pa_nil)))) (pg_name (i := 1) scMisG.nd rfl (Or.inl rfl))
        (pss_cons (ps_if (PW.pt (pw_or (pt_cmpR op_ne (pe_callTy (call_strD hgd hu) rfl (T.b _ (by decide)) bS (pa_cons (pe_xv (pv 1)) pa_nil)) (pe_callTy (call_strD hgd hu) rfl (T.b _ (by decide)) bS (pa_cons (pv 0) pa_nil)) (nomark _))
            (pw_or (pt_cmpR (op_neA hu) (pe_xv (pv 1)) (pv 0) (nomark _)) (pw_or1 (pt_not (pt_val (pe_is T 14 (i := 1) rfl (Or.inl rfl) rfl rfl rfl))))))) (pss_one (ps_ret pe_bl)) pss_nil)
        (pss_cons (ps_if (pt_not (pt_val (pe_isV T (i := 1) rfl (Or.inl rfl) rfl rfl))) (pss_one (ps_ret pe_bl)) pss_nil)
        (pss_cons (ps_if (pt_val (pe_isT T (i := 1) rfl (Or.inl rfl) rfl rfl rfl rfl rfl rfl)) (pss_one (ps_ret pe_bl)) pss_nil)
        (pss_one (ps_if (pt_cmpR (op_neP hu) (pe_call GK hr1 rfl DK.g DK.k DK.b .nil pass0 (pa_cons (pv 1) pa_nil))
          (pe_lc (own := [("spot", 2)]) (g := gName 2) (tt := tYes) rfl scMisG.nd (pi_range1 rfl (T.b _ (by decide)) (pa_cons pe_int pa_nil)) (blkOk_by (N := ["thing", "error", "spot"]) (sc := defScope sMisG) (by decide +kernel))
            (fun _ _ _ _ _ => pg_name (i := 2) scMisG.nd rfl (Or.inl rfl)) (fun _ _ _ _ _ => pts_nil) (fun _ _ _ _ _ => pe_cmpR op_eq (pv 2) pe_int (nomark _))) (nomark _)) (pss_one (ps_ret pe_bl)) pss_nil))))))
      (pss_one (ps_ret pe_bl)), ?_⟩
    -- the two errors, in a list
    refine ⟨v, rfl, fun H1 a1 s1 m1 => ⟨v, rfl, fun H2 a2 s2 m2 => ?_⟩⟩
    refine ⟨small_len (Nat.le_of_ble_eq_true rfl), fun p np => ?_⟩
    have s3 := same_upd (o := .lst [.ref a1, .ref a2]) np
    have t0 := (s1.trans s2).trans s3
    have m1' := (m1.mono s2).mono s3
    have m2' := m2.mono s3
    refine ⟨p, rfl, ⟨_, SqL.of upd_same⟩, for_list (K := K) (a := p) (xs := [.ref a1, .ref a2]) (fun i σ H' => ∃ v1 v2, σ = [some v, v1, v2] ∧ Same (upd H2 p (.lst [.ref a1, .ref a2])) H') ⟨none, none, rfl, Same.refl _⟩
      (fun i σ H' _ ⟨_, _, _, sm⟩ => SqL.of (sm _ _ upd_same)) ?_ ?_⟩
    · rintro i x σ H3 hi ⟨v1, v2, rfl, sm⟩
      obtain ⟨a, rfl, mm⟩ : ∃ a, x = V.ref a ∧ IsM (upd H2 p (.lst [.ref a1, .ref a2])) a (cs 13) v := by
        match i, hi with
        | 0, hi => exact ⟨a1, (Option.some.inj hi).symm, m1'⟩
        | 1, hi => exact ⟨a2, (Option.some.inj hi).symm, m2'⟩
      have mm3 := mm.mono sm
      have hE := mm3.isE
      have hd3 := hd.mono (t0.trans sm)
      obtain ⟨dx, e1, e2⟩ := id mm3
      -- str(error.name) != str(thing)
      refine ⟨_, rfl, a, cs 13, dx, _, v, rfl, T.xfc, T.noN, e1, e2, lookup_name v, v, d, rfl, hd3, hs, hdp, hz, _, rfl, v, d, rfl, hd3, hs, hdp, hz, rfl, _, rfl, ?_⟩
      refine iteNS rfl ?_
      -- error.name != thing
      refine ⟨_, rfl, a, cs 13, dx, _, v, rfl, T.xfc, T.noN, e1, e2, lookup_name v, _, rfl, hd3.ne hdp ⟨_, rfl, iteF ?_⟩⟩
      refine ⟨a, 13, rfl, by decide, hE, _, rfl, iteF ?_⟩
      refine ⟨a, 13, rfl, by decide, hE, _, rfl, iteF ?_⟩
      refine ⟨a, 13, rfl, by decide, hE, fun H4 s4 => ⟨_, rfl, iteF ?_⟩⟩
      refine ⟨_, rfl, a, 13, rfl, by decide, hE.mono s4, fun H5 q s5 hq => ?_⟩
      refine lc14 2 13 (by decide) (fun n H' R _ r => ⟨_, rfl, rfl, ?_⟩) fun H6 D s6 h6 => ?_
      · have e : decide (V.int (0 + (n : Nat)) = V.int 13) = decide (V.int ((13 : Nat) : Int) = V.int (0 + (n : Nat))) := by
          rw [decide_eq_decide]
          exact eq_comm
        show R (.bl (decide (V.int (0 + (n : Nat)) = V.int 13))) H'
        rw [e]
        exact r
      · refine neP_bools (kb 13) (s6 _ _ hq) h6 ⟨_, rfl, iteF ?_⟩
        exact ⟨_, _, rfl, ((sm.trans s4).trans s5).trans s6⟩
    · rintro σ H3 ⟨v1, v2, rfl, sm⟩
      exact k H3 (t0.trans sm)
end
end K54
set_option Elab.async false
set_option linter.all false
set_option maxRecDepth 100000
set_option maxHeartbeats 2000000
namespace K54
open PySem PySem.Spec PyProof.Rows
open L2
def spMixed : Sp := fun vs H Q _ => ∃ c k : Int, vs = [.int c, .int k] ∧ ∀ m : Int, 0 ≤ m → m < 2147483579 → Q (.int m) H
def spTake : Sp := fun vs H Q _ => ∃ (p : Addr) (o n : Int), vs = [.ref p, .int o] ∧ H p = some (.lst [.int n]) ∧ 0 < o ∧ o < 1000000 ∧ ∀ m n' : Int, 0 ≤ m → m < o → Q (.int m) (upd H p (.lst [.int n']))
theorem scMixed : FnScope ["cell", "k", "mix"] ["cell", "k"] (defScope sMixed) := ⟨rfl, rfl, rfl, by decide +kernel, rfl, by decide +kernel, by decide +kernel⟩
theorem scTake : FnScope ["own", "options", "digit"] ["own", "options"] (defScope sTake) := ⟨rfl, rfl, rfl, by decide +kernel, rfl, by decide +kernel, by decide +kernel⟩
section
variable {P : Program} {w : World} {K : PySem.W.Frag} {mg : Str → Option Value} {base : Heap} {cs : Nat → Addr} {fI : Addr}
theorem bI : bootBuiltins "int" = some (.type "int") := by decide +kernel
theorem ok_mixed {f : Addr} {fd : FuncData} (F : Fun K "_law_mixed" "_law_mixed" sMixed f fd) (T : Txt K mg cs fI) : FnOk P w K mg base CX0 1 f fd ["cell", "k"] spMixed := by
  have nI : mg "int" = none := T.b _ (by decide)
  refine F.ok scMixed (fun vs H Q E h => ?_) (fun cdv A outer s H vs Q E hr h => ?_)
  · obtain ⟨c, k, rfl, _⟩ := h
    rfl
  · obtain ⟨c, k, rfl, kk⟩ := h
    refine ⟨_, pss_cons (ps_set (i := 2) scMixed.nd rfl (Or.inl rfl) (pe_op op_mod (pe_callTy call_int1 rfl nI bI (pa_cons (pe_op op_add (pe_op op_add (pe_op op_mul (pe_op op_mod (pe_callTy call_int1 rfl nI bI (pa_cons (pv 0) pa_nil)) pe_int) pe_int) (pe_op op_mul (pv 1) pe_int)) pe_int) pa_nil)) pe_int))
      (pss_cons (ps_set (i := 2) scMixed.nd rfl (Or.inl rfl) (pe_op op_mod (pe_callTy call_int1 rfl nI bI (pa_cons (pe_op op_mul (pv 2) (pv 2)) pa_nil)) pe_int))
      (pss_one (ps_ret (pe_op op_mod (pe_callTy call_int1 rfl nI bI (pa_cons (pe_op op_mul (pv 2) (pe_op op_add (pv 2) pe_int)) pa_nil)) pe_int)))), ?_⟩
    refine ⟨_, rfl, .inl ⟨_, rfl, ?_⟩⟩
    refine ⟨_, _, rfl, rfl, (by show (0 : Int) < 2147483647; decide), ?_⟩
    refine ⟨_, _, rfl, rfl, .inr ⟨by decide, by decide⟩, ?_⟩
    refine ⟨_, rfl, _, _, rfl, rfl, .inr ⟨by decide, by decide⟩, ?_⟩
    refine ⟨_, _, rfl, rfl, _, _, rfl, rfl, .inl ⟨_, rfl, ?_⟩⟩
    refine ⟨_, _, rfl, rfl, (by show (0 : Int) < 2147483629; decide), ?_⟩
    generalize hm : (c % 2147483647 * 48271 + k * 69621 + 1048583) % 2147483629 = m
    have m0 : 0 ≤ m := by rw [← hm]; exact Int.emod_nonneg _ (by decide)
    have m1 : m < 2147483629 := by rw [← hm]; exact Int.emod_lt_of_pos _ (by decide)
    refine ⟨_, rfl, _, rfl, m, m, congrArg V.int hm, congrArg V.int hm, .inl ⟨by omega, by omega⟩, .inl ⟨_, rfl, ?_⟩⟩
    refine ⟨_, _, rfl, rfl, (by show (0 : Int) < 2147483587; decide), ?_⟩
    generalize hn : m * m % 2147483587 = n
    have n0 : 0 ≤ n := by rw [← hn]; exact Int.emod_nonneg _ (by decide)
    have n1 : n < 2147483587 := by rw [← hn]; exact Int.emod_lt_of_pos _ (by decide)
    refine ⟨_, rfl, _, rfl, n, 2, congrArg V.int hn, rfl, n, n + 2, congrArg V.int hn, rfl, .inl ⟨by omega, by omega⟩, .inl ⟨_, rfl, ?_⟩⟩
    refine ⟨_, _, rfl, rfl, (by show (0 : Int) < 2147483579; decide), ?_⟩
    exact kk _ (Int.emod_nonneg _ (by decide)) (Int.emod_lt_of_pos _ (by decide))
theorem ok_take {f : Addr} {fd : FuncData} (F : Fun K "_law_take" "_law_take" sTake f fd) (T : Txt K mg cs fI) : FnOk P w K mg base CX0 1 f fd ["own", "options"] spTake := by
  have nI : mg "int" = none := T.b _ (by decide)
  refine F.ok scTake (fun vs H Q E h => ?_) (fun cdv A outer s H vs Q E hr h => ?_)
  · obtain ⟨p, o, n, rfl, _⟩ := h
    rfl
  · obtain ⟨p, o, n, rfl, hp, o0, o1, k⟩ := h
    refine ⟨_, pss_cons (ps_set (i := 2) scTake.nd rfl (Or.inl rfl) (pe_op op_mod (pe_callTy call_int1 rfl nI bI (pa_cons (pe_ix ix_list (pv 0) pe_int (fun _ _ => rfl)) pa_nil)) (pv 1)))
      (pss_cons (ps_asg (pe_op op_fdivN (pe_ix ix_list (pv 0) pe_int (fun _ _ => rfl)) (pv 1)) (pg_sub (pv 0) pe_int set_list))
      (pss_one (ps_ret (pv 2)))), ?_⟩
    refine ⟨_, rfl, p, _, 0, _, rfl, rfl, SqL.of hp, atI_nat (j := 0) rfl, .inl ⟨n, rfl, ?_⟩⟩
    refine ⟨_, rfl, n, o, rfl, rfl, o0, ?_⟩
    refine ⟨_, rfl, p, _, 0, _, rfl, rfl, SqL.of hp, atI_nat (j := 0) rfl, _, rfl, n, o, rfl, rfl, ⟨by omega, by omega⟩, ?_⟩
    refine ⟨_, rfl, p, _, 0, 0, rfl, rfl, hp, rfl, ?_⟩
    exact ⟨_, rfl, k _ _ (Int.emod_nonneg _ (by omega)) (Int.emod_lt_of_pos _ o0)⟩
end
end K54
set_option Elab.async false
set_option linter.all false
set_option maxRecDepth 100000
set_option maxHeartbeats 2000000
namespace K54
open PySem PySem.Spec PyProof.Rows
open L2
def spCell (K : PySem.W.Frag) : Sp := fun vs H Q _ => ∃ (a : Addr) (k : Nat) (ns : List Int), vs = [.ref a, .int (k : Nat)] ∧ k ≤ 1000 ∧ SqL K H a (ns.map V.int) ∧ ∀ n : Int, Q (.int n) H
theorem scCell : FnScope ["script", "k", "cell", "found", "j"] ["script", "k"] (defScope sCell) := ⟨rfl, rfl, rfl, by decide +kernel, rfl, by decide +kernel, by decide +kernel⟩
/-- behind the choice of the cell -/
def tailC : TS :=
  tSeq (tIfS (tTest (tOp (rI0 fun i j => V.bl (decide (j ≤ i))) (tVar 2) (tOp (rI CPow fun i j => V.int (i ^ j.toNat)) (tC (.int 10)) (tC (.int 18)))))
    (tRet (tOp (rI (fun _ j => 0 < j) fun i j => V.int (i % j))
      (tCB (fun xs H Q => (∃ i, xs = [V.int i] ∧ Q (V.int i) H) ∨ ∃ k, xs = [V.bl k] ∧ Q (V.int (if k = true then 1 else 0)) H)
        (tCons (tOp (rI0 fun i j => V.int (i - j)) (tVar 2) (tOp (rI CPow fun i j => V.int (i ^ j.toNat)) (tC (.int 10)) (tC (.int 18)))) tNil))
      (tOp (rI CMulW fun i j => V.int (i * j)) (tOp (rI CMulW fun i j => V.int (i * j)) (tOp (rI CMulW fun i j => V.int (i * j))
        (tOp (rI CPow fun i j => V.int (i ^ j.toNat)) (tC (.int 10)) (tC (.int 60))) (tOp (rI CPow fun i j => V.int (i ^ j.toNat)) (tC (.int 10)) (tC (.int 60))))
        (tOp (rI CPow fun i j => V.int (i ^ j.toNat)) (tC (.int 10)) (tC (.int 60)))) (tOp (rI CPow fun i j => V.int (i ^ j.toNat)) (tC (.int 10)) (tC (.int 60)))))) tNext)
  (tSeq (tAsg (tC (.int 0)) (gName 3))
  (tSeq (tFor (iRng1 (tCons (tC (.int 24)) tNil)) (gName 4)
      (tAsg (tOp (rI0 fun i j => V.int (i + j)) (tOp (rI CMul fun i j => V.int (i * j)) (tVar 3) (tC (.int 2147483579)))
        (tCall spMixed [] E0 (tCons (tVar 2) (tCons (tOp (rI0 fun i j => V.int (i + j)) (tOp (rI0 fun i j => V.int (i + j))
          (tOp (rI CMul fun i j => V.int (i * j)) (tC (.int 7)) (tVar 1)) (tOp (rI CMul fun i j => V.int (i * j)) (tC (.int 100)) (tVar 4))) (tOp (rI CMul fun i j => V.int (i * j)) (tVar 4) (tVar 4))) tNil)))) (gName 3)))
    (tRet (tVar 3))))
theorem cell_tail {k : Nat} {a : Addr} {H : Hp} {Q : VK} (c : Int) (hk : k ≤ 1000) (kk : ∀ n : Int, Q (.int n) H) : tailC { nx := fun _ H' => Q .non H', rt := Q } [some (.ref a), some (.int (k : Nat)), some (.int c), none, none] H := by
  have pw : CPow 10 60 := ⟨by decide, by decide, by decide⟩
  have pv' : CPow 10 18 := ⟨by decide, by decide, by decide⟩
  refine ⟨_, rfl, 10, 18, rfl, rfl, pv', _, _, rfl, rfl, _, rfl, ?_⟩
  refine ite2 (fun _ => ?_) (fun _ => ?_)
  · refine ⟨_, rfl, 10, 18, rfl, rfl, pv', _, _, rfl, rfl, .inl ⟨_, rfl, ?_⟩⟩
    refine ⟨10, 60, rfl, rfl, pw, 10, 60, rfl, rfl, pw, _, _, rfl, rfl, (by unfold CMulW; decide +kernel), 10, 60, rfl, rfl, pw, _, _, rfl, rfl, (by unfold CMulW; decide +kernel), 10, 60, rfl, rfl, pw, _, _, rfl, rfl, (by unfold CMulW; decide +kernel), ?_⟩
    exact ⟨_, _, rfl, rfl, (by show (0 : Int) < 10 ^ Int.toNat 60 * 10 ^ Int.toNat 60 * 10 ^ Int.toNat 60 * 10 ^ Int.toNat 60; decide +kernel), kk _⟩
  · refine ⟨24, rfl, by decide, by decide, for_range (lo := 0) (n := 24) (fun i σ H' => H' = H ∧ ∃ (f : Int) (v : Option V), σ = [some (.ref a), some (.int (k : Nat)), some (.int c), some (.int f), v]) ⟨rfl, 0, none, rfl⟩ ?_ ?_⟩
    · rintro i σ H' hi ⟨rfl, f, v, rfl⟩
      refine ⟨_, rfl, f, 2147483579, rfl, rfl, .inr ⟨by decide, by decide⟩, ?_⟩
      refine ⟨_, rfl, _, rfl, 7, (k : Nat), rfl, rfl, .inl ⟨by decide, by decide⟩, ?_⟩
      refine ⟨_, rfl, 100, 0 + (i : Nat), rfl, rfl, .inl ⟨by decide, by decide⟩, ?_⟩
      refine ⟨_, _, rfl, rfl, ?_⟩
      refine ⟨_, rfl, _, rfl, 0 + (i : Nat), 0 + (i : Nat), rfl, rfl, .inl ⟨by omega, by omega⟩, ?_⟩
      refine ⟨_, _, rfl, rfl, ?_⟩
      refine ⟨c, _, rfl, fun m _ _ => ⟨_, _, rfl, rfl, rfl, _, _, rfl⟩⟩
    · rintro σ H' ⟨rfl, f, v, rfl⟩
      exact ⟨_, rfl, kk f⟩
section
variable {P : Program} {w : World} {K : PySem.W.Frag} {mg : Str → Option Value} {base : Heap} {cs : Nat → Addr} {fI : Addr}
theorem ok_cell {f fM : Addr} {fd fdM : FuncData} (F : Fun K "_law_cell" "_law_cell" sCell f fd) (T : Txt K mg cs fI) (FM : Fun K "_law_mixed" "_law_mixed" sMixed fM fdM) (DM : Def K mg "_law_mixed" fM fdM ["cell", "k"]) : FnOk P w K mg base CX0 2 f fd ["script", "k"] (spCell K) := by
  have nI : mg "int" = none := T.b _ (by decide)
  have GM : FnOk P w K mg base CX0 1 fM fdM ["cell", "k"] spMixed := ok_mixed FM T
  refine F.ok scCell (fun vs H Q E h => ?_) (fun cdv A outer s H vs Q E hr h => ?_)
  · obtain ⟨a, k, ns, rfl, _⟩ := h
    rfl
  · obtain ⟨a, k, ns, rfl, hk, hs, kk⟩ := h
    refine ⟨_, pss_cons (ps_set (i := 2) scCell.nd rfl (Or.inl rfl) pe_int)
      (pss_cons (ps_if (pt_cmpR op_lt (pv 1) (pe_callB call_len_seq (by rfl) (T.b _ (by decide)) PySem.boot_len (pa_cons (pv 0) pa_nil)) (nomark _)) (pss_one (ps_set (i := 2) scCell.nd rfl (Or.inl rfl) (pe_ix ix_list (pv 0) (pv 1) (fun _ _ => rfl)))) pss_nil)
      (pss_cons (ps_if (pt_cmpR op_ge (pv 2) (pe_op op_pow pe_int pe_int) (nomark _)) (pss_one (ps_ret (pe_op op_mod (pe_callTy call_int1 rfl nI bI (pa_cons (pe_op op_sub (pv 2) (pe_op op_pow pe_int pe_int)) pa_nil))
          (pe_op op_mulW (pe_op op_mulW (pe_op op_mulW (pe_op op_pow pe_int pe_int) (pe_op op_pow pe_int pe_int)) (pe_op op_pow pe_int pe_int)) (pe_op op_pow pe_int pe_int))))) pss_nil)
      (pss_cons (ps_set (i := 3) scCell.nd rfl (Or.inl rfl) pe_int)
      (pss_cons (ps_for PassesOwn.never rfl (pi_range1 rfl (T.b _ (by decide)) (pa_cons pe_int pa_nil)) (pg_name (i := 4) scCell.nd rfl (Or.inl rfl))
        (pss_one (ps_set (i := 3) scCell.nd rfl (Or.inl rfl) (pe_op op_add (pe_op op_mul (pv 3) pe_int) (pe_call GM hr rfl DM.g DM.k DM.b .nil pass0 (pa_cons (pv 2) (pa_cons (pe_op op_add (pe_op op_add (pe_op op_mul pe_int (pv 1)) (pe_op op_mul pe_int (pv 4))) (pe_op op_mul (pv 4) (pv 4))) pa_nil)))))))
      (pss_one (ps_ret (pv 3))))))), ?_⟩
    refine ⟨_, rfl, _, rfl, a, _, rfl, .inl hs, _, _, rfl, rfl, _, rfl, ?_⟩
    refine ite2 (fun c => ?_) (fun c => ?_)
    · have lt : k < ns.length := by
        have z := of_decide_eq_true c
        rw [List.length_map] at z
        omega
      have e : (ns.map V.int)[k]? = some (.int ns[k]) := by simp [lt]
      refine ⟨_, rfl, _, rfl, a, _, (k : Nat), _, rfl, rfl, hs, atI_nat e, ?_⟩
      refine cell_tail _ hk kk
    · exact cell_tail _ hk kk
end
end K54
set_option Elab.async false
set_option linter.all false
set_option maxRecDepth 100000
set_option maxHeartbeats 2000000
namespace K54
open PySem PySem.Spec PyProof.Rows
open L2
/-! texts of the draw -/
/-- a text of one small sign -/
def One (y : Str) : Prop := ∃ c, y = ⟨#[c]⟩ ∧ c < 1000
def Small (x : Str) : Prop := x.length ≤ 20 ∧ ∀ c ∈ x.cps.toList, c < 16 ^ 8
theorem codes_app {x y : Str} (hx : ∀ c ∈ x.cps.toList, c < 16 ^ 8) (hy : ∀ c ∈ y.cps.toList, c < 16 ^ 8) : ∀ c ∈ (x ++ y).cps.toList, c < 16 ^ 8 := by
  intro c h
  rw [PySem.W.KT.app_list] at h
  rcases List.mem_append.mp h with h | h
  · exact hx c h
  · exact hy c h
theorem One.codes {y : Str} (h : One y) : ∀ c ∈ y.cps.toList, c < 16 ^ 8 := by
  obtain ⟨d, rfl, hd⟩ := h
  intro c hc
  have e : c = d := by simpa using hc
  rw [e]
  exact Nat.lt_trans hd (by decide)
theorem One.len {y : Str} (h : One y) : y.length = 1 := by
  obtain ⟨d, rfl, _⟩ := h
  rfl
theorem join_codes : ∀ (ys : List Str), (∀ y ∈ ys, One y) → ∀ c ∈ (Str.join "" ys).cps.toList, c < 16 ^ 8 := by
  intro ys
  induction ys with
  | nil => 
    intro _ c h
    simp [Str.join, Str.empty] at h
  | cons y ys ih => 
    intro h
    have h1 := (h y List.mem_cons_self).codes
    cases ys with
    | nil => exact h1
    | cons z zs =>
      have h2 := ih fun x hx => h x (List.mem_cons_of_mem _ hx)
      show ∀ c ∈ (y ++ ("" : Str) ++ Str.join "" (z :: zs)).cps.toList, c < 16 ^ 8
      refine codes_app (codes_app h1 fun c hc => ?_) h2
      have e : (("" : Str).cps.toList : List Nat) = [] := by decide +kernel
      rw [e] at hc
      cases hc
theorem drawn_small (ys : List Str) (h : ∀ y ∈ ys, One y) (hl : ys.length ≤ 20) : Small (Txt.join "" ys) := by
  refine ⟨?_, ?_⟩
  · have e := PySem.W.KT.join_ones ys fun y hy => (h y hy).len
    have e2 : (Txt.join "" ys).length = ys.length := e
    omega
  · have e : Txt.join "" ys = Str.join "" ys := StrLaws.glued_eq_join _ _
    rw [e]
    exact join_codes ys h

/-! what missing_good takes -/
def Good (K : PySem.W.Frag) (H : Hp) (v : V) : Prop := ∃ d, Dz K H v d ∧ d.showable = true ∧ d.depth ≤ 50 ∧ d.shown.length ≤ sizeLine
theorem Good.mono {K : PySem.W.Frag} {H H' : Hp} {v : V} (s : Same H H') (h : Good K H v) : Good K H' v := by
  obtain ⟨d, h1, h2⟩ := h
  exact ⟨d, h1.mono s, h2⟩
theorem good_of {K : PySem.W.Frag} {H : Hp} {v : V} {d : PyData} (h : Dz K H v d) (h1 : d.showable = true) (h2 : d.depth ≤ 50) (h3 : d.leavesShort 500 = true) (h4 : d.weight ≤ 2000) : Good K H v := by
  refine ⟨d, h, h1, h2, ?_⟩
  have z := PyData.shown_le 500 (by decide) d h3
  have m : (500 + 2) * d.weight ≤ 502 * 2000 := Nat.mul_le_mul (Nat.le_refl _) h4
  rw [sizeLine_eq]
  omega
theorem small_leaf {x : Str} (h : Small x) : (PyData.str x).leavesShort 500 = true := by
  simp only [PyData.leavesShort, List.all_eq_true, decide_eq_true_eq]
  exact h.2
theorem int_leaf {n : Int} (h0 : 0 ≤ n) (h1 : n < 99) : (PyData.int n).leavesShort 500 = true ∧ (PyData.int n).showable = true := by
  have a : n.natAbs < 10 ^ 12 := by omega
  have z := PyData.shown_int_le a
  refine ⟨?_, ?_⟩
  · simp only [PyData.leavesShort, decide_eq_true_eq]
    omega
  · simp only [PyData.showable, decide_eq_true_eq]
    have b : n.natAbs < 2 ^ 7 := by omega
    have c := PySem.Flt.log2_lt_of (by decide : 0 < 7) b
    omega
end K54
set_option Elab.async false
set_option linter.all false
set_option maxRecDepth 100000
set_option maxHeartbeats 2000000
namespace K54
open PySem PySem.Spec PyProof.Rows
open L2
theorem int_leaf2 {n : Int} (h : n.natAbs < 1000) : (PyData.int n).leavesShort 500 = true ∧ (PyData.int n).showable = true := by
  have a : n.natAbs < 10 ^ 12 := by omega
  have z := PyData.shown_int_le a
  refine ⟨?_, ?_⟩
  · simp only [PyData.leavesShort, decide_eq_true_eq]
    omega
  · simp only [PyData.showable, decide_eq_true_eq]
    have b : n.natAbs < 2 ^ 10 := by omega
    have c := PySem.Flt.log2_lt_of (by decide : 0 < 10) b
    omega
theorem int_weight {n : Int} (h : n.natAbs < 1000) : (PyData.int n).weight ≤ 11 := by
  have b : n.natAbs < 2 ^ 10 := by omega
  have c := PySem.Flt.log2_lt_of (by decide : 0 < 10) b
  simp only [PyData.weight]
  split <;> omega
section
variable {K : PySem.W.Frag} {H : Hp} {x : Str} {n : Int} {a b : Addr}
theorem good_str (h : Small x) : Good K H (.str x) := by
  have h1 := h.1
  refine good_of (.pl (.str x) (by simp [PyData.plain])) (by simp [PyData.showable]) (by simp [PyData.depth]) (small_leaf h) ?_
  have e : x.cps.size = x.length := rfl
  simp only [PyData.weight]
  omega
theorem good_int (h : n.natAbs < 1000) : Good K H (.int n) :=
  good_of (.pl (.int n) (by simp [PyData.plain])) (int_leaf2 h).2 (by simp [PyData.depth]) (int_leaf2 h).1 (Nat.le_trans (int_weight h) (by decide))
theorem good_non : Good K H .non := good_of (.pl .non (by simp [PyData.plain])) (by simp [PyData.showable]) (by simp [PyData.depth]) (by simp [PyData.leavesShort]) (by simp [PyData.weight])
theorem good_bl {c : Bool} : Good K H (.bl c) := good_of (.pl (.bl c) (by simp [PyData.plain])) (by simp [PyData.showable]) (by simp [PyData.depth]) (by simp [PyData.leavesShort]) (by simp [PyData.weight])
theorem good_l1 (h : Small x) (e : H a = some (.lst [.str x])) : Good K H (.ref a) := by
  have h1 := h.1
  have z : x.cps.size = x.length := rfl
  refine good_of (.pl (.lst (SqL.of e) (.cons (.str x) .nil)) (by simp [PyData.plain, PyData.plainAll])) (by simp [PyData.showable, PyData.showableAll]) (by simp [PyData.depth, PyData.depthAll]) ?_ ?_
  · simp only [PyData.leavesShort, PyData.leavesShortAll]
    have z := small_leaf h
    simp only [PyData.leavesShort] at z
    rw [z]
    rfl
  · simp only [PyData.weight, PyData.weightAll]
    omega
theorem good_t2 (h : Small x) (hn : n.natAbs < 1000) (e : H a = some (.tup [.str x, .int n])) : Good K H (.ref a) := by
  have h1 := h.1
  have z : x.cps.size = x.length := rfl
  have i := int_leaf2 hn
  refine good_of (.pl (.tup (SqT.of e) (.cons (.str x) (.cons (.int n) .nil))) (by simp [PyData.plain, PyData.plainAll])) ?_ (by simp [PyData.depth, PyData.depthAll]) ?_ ?_
  · simp only [PyData.showable, PyData.showableAll] at i ⊢
    simpa using i.2
  · have z := small_leaf h
    simp only [PyData.leavesShort, PyData.leavesShortAll] at z i ⊢
    rw [z, i.1]
    rfl
  · have w := int_weight hn
    simp only [PyData.weight, PyData.weightAll] at w ⊢
    omega
theorem good_l0 (e : H a = some (.lst [])) : Good K H (.ref a) :=
  good_of (.pl (.lst (SqL.of e) .nil) (by simp [PyData.plain, PyData.plainAll])) (by simp [PyData.showable, PyData.showableAll]) (by simp [PyData.depth, PyData.depthAll]) (by simp [PyData.leavesShort, PyData.leavesShortAll]) (by simp [PyData.weight, PyData.weightAll])
theorem good_t0 (e : H a = some (.tup [])) : Good K H (.ref a) :=
  good_of (.pl (.tup (SqT.of e) .nil) (by simp [PyData.plain, PyData.plainAll])) (by simp [PyData.showable, PyData.showableAll]) (by simp [PyData.depth, PyData.depthAll]) (by simp [PyData.leavesShort, PyData.leavesShortAll]) (by simp [PyData.weight, PyData.weightAll])
theorem good_d0 (e : H a = some (.dK [])) : Good K H (.ref a) :=
  good_of (.d0 e) (by simp [PyData.showable, PyData.showableKv]) (by simp [PyData.depth, PyData.depthKv]) (by simp [PyData.leavesShort, PyData.leavesShortKv]) (by simp [PyData.weight, PyData.weightKv])
theorem good_d1 (h : Small x) (hn : n.natAbs < 1000) (e : H a = some (.dK [(Sum.inr x, .ref b)])) (eb : H b = some (.tup [.int n])) : Good K H (.ref a) := by
  have h1 := h.1
  have z : x.cps.size = x.length := rfl
  have i := int_leaf2 hn
  refine good_of (.d1 e eb) ?_ (by simp [PyData.depth, PyData.depthKv, PyData.depthAll]) ?_ ?_
  · simp only [PyData.showable, PyData.showableKv, PyData.showableAll] at i ⊢
    simpa using i.2
  · have z := small_leaf h
    simp only [PyData.leavesShort, PyData.leavesShortKv, PyData.leavesShortAll] at z i ⊢
    rw [z, i.1]
    rfl
  · have w := int_weight hn
    simp only [PyData.weight, PyData.weightKv, PyData.weightAll] at w ⊢
    omega
theorem good_ll (h : Small x) (e : H a = some (.lst [.ref b])) (eb : H b = some (.lst [.str x, .non])) : Good K H (.ref a) := by
  have h1 := h.1
  have z : x.cps.size = x.length := rfl
  refine good_of (.pl (.lst (SqL.of e) (.cons (.lst (SqL.of eb) (.cons (.str x) (.cons .non .nil))) .nil)) (by simp [PyData.plain, PyData.plainAll])) (by simp [PyData.showable, PyData.showableAll]) (by simp [PyData.depth, PyData.depthAll]) ?_ ?_
  · have z := small_leaf h
    simp only [PyData.leavesShort, PyData.leavesShortAll] at z ⊢
    rw [z]
    rfl
  · simp only [PyData.weight, PyData.weightAll]
    omega
theorem good_big : Good K H (.int (10 ^ Int.toNat 60 * 10 ^ Int.toNat 60 * 10 ^ Int.toNat 60)) := by
  refine good_of (.pl (.int _) (by simp [PyData.plain])) ?_ (by simp [PyData.depth]) ?_ (by simp only [PyData.weight]; decide +kernel)
  · simp only [PyData.showable, decide_eq_true_eq]
    decide +kernel
  · have e := int_text_length_le10 (a := 10 ^ Int.toNat 60 * 10 ^ Int.toNat 60 * 10 ^ Int.toNat 60) (k := 181) (by decide) (by decide +kernel)
    have z : (PyData.shown (.int (10 ^ Int.toNat 60 * 10 ^ Int.toNat 60 * 10 ^ Int.toNat 60))).length ≤ 500 := by
      show (Str.ofString (toString (10 ^ Int.toNat 60 * 10 ^ Int.toNat 60 * 10 ^ Int.toNat 60 : Int))).length ≤ 500
      rw [PySem.ofString_length]
      omega
    simp only [PyData.leavesShort]
    exact decide_eq_true z
end
end K54
set_option Elab.async false
set_option linter.all false
set_option maxRecDepth 100000
set_option maxHeartbeats 2000000
namespace K54
open PySem PySem.Spec PyProof.Rows
open L2
section
variable {cs : Nat → Addr} {fI : Addr} {fdI : FuncData}
/-- Missing((x, y)) -/
def tMisT (C : Addr) (i j : Nat) : TE := fun σ H Q => ∃ u v, σ[i]? = some (some u) ∧ σ[j]? = some (some v) ∧ ∀ H' a t, Same H H' → H' t = some (.tup [u, v]) → IsM H' a C (.ref t) → Q (.ref a) H'
theorem pe_misT {X : Cx} {i j c : Nat} {y z : Str} {p p2 p3 tp pos : Pos} (T : Txt X.K X.mg cs fI) (FI : FunI X.K fI fdI) (GI : FnOk X.prog X.w X.K X.mg X.base CX0 1 fI fdI ["self", "name"] (spInit (cs 13))) (hr : Room 2 X.A) (hg : Gl X "Missing")
    (hN : X.N[i]? = some y) (hv : Vis X.env.scope y) (hN2 : X.N[j]? = some z) (hv2 : Vis X.env.scope z) (hd : (y == ("__debug__" : Str)) = false := by decide) (hcd : (y == ("__classdict__" : Str)) = false := by decide) (hd2 : (z == ("__debug__" : Str)) = false := by decide) (hcd2 : (z == ("__classdict__" : Str)) = false := by decide) :
    PE X (.Call (.Name "Missing" p) [.Tuple [.Name y p2, .Name z p3] c tp] [] pos) (tMisT (cs 13) i j) := by
  have h := pe_exv (p := p) (pos := pos) T.oex T.iC T.tI GI hr (fun s' a u X => bind2 FI s' a u X) hg (T.g 13 _ rfl)
    (pe_tup (x1 := c) (pos := tp) (pa_cons (pe_var (pos := p2) hN hv hd hcd) (pa_cons (pe_var (pos := p3) hN2 hv2 hd2 hcd2) pa_nil))) (by decide)
  refine ⟨fun pins s σ H Q I ⟨u, v, e1, e2, q⟩ => h.run pins s σ H Q I ⟨u, e1, v, e2, small_len (Nat.le_of_ble_eq_true rfl), fun t nt => ⟨_, rfl, fun a na => init_rd na fun H' s m => ?_⟩⟩⟩
  exact q H' a t ((same_upd nt).trans s) (s _ _ upd_same) m
/-- ValueError('..') as a value -/
def VeO (a : Addr) : HO := .ext (PySem.W.KitAt a "ValueError")
theorem pe_ve {X : Cx} (T : Txt X.K X.mg cs fI) {m : Str} {c : Nat} {p p2 pos : Pos} (hg : Gl X "ValueError") :
    PE X (.Call (.Name "ValueError" p) [.Constant (.str m) c p2] [] pos) (fun _ H Q => ∀ H' a, Same H H' → H' a = some (VeO a) → Q (.ref a) H') := by
  constructor
  intro pins s σ H Q I h
  apply wpAny_Call_Name_kw
  refine ld_blt I hg (T.b _ (by decide)) (by decide +kernel : bootBuiltins "ValueError" = some (.type "ValueError")) ?_
  have ha : PA X [.Constant (.str m) c p2] (tCons (tC (.str m)) tNil) := pa_cons pe_str pa_nil
  refine PyProof.Rows.callWith_type1 (thn (ha.run pos pins s σ H (fun vs H1 => vs.length ≤ 1000 ∧ H1 = H) I ⟨(by show 1 ≤ 1000; decide), rfl⟩) ?_) (by rfl) (by rfl)
  rintro us s1 ⟨vs, H1, I1, r1, hl, rfl⟩
  obtain ⟨hp1, g1, d1, tk1, os1⟩ := s1
  refine wpAny_call_exc PySem.F.excCall_ValueError (fun h' a mk => ?_) (by rw [← r1.length]; exact small_len hl)
  have hn : H1 a = none := I1.hok.gone mk.new
  obtain ⟨t, ht, _, _⟩ := mk.there
  have ok : ObjOk X.prog X.w (upd H1 a (VeO a)) h' a (VeO a) := ⟨⟨_, ht, rfl⟩, ⟨_, ht⟩, fun _ _ ⟨o, e1, e2⟩ k => ⟨o, k o e1, e2⟩⟩
  exact ⟨.ref a, _, I1.laidN mk.keeps mk.new hn ok, rfl, h _ a (same_upd hn) upd_same⟩
/-- isinstance(ValueError('..'), LeftFirstError) -/
theorem pe_isVE {X : Cx} (T : Txt X.K X.mg cs fI) (kN : PySem.W.kitOne X.K (.type "ValueError") (.ref (cs 14)) = some false) {m : Str} {c : Nat} {p1 p p2 p3 pos2 pos : Pos} (hg : Gl X "isinstance") (hgv : Gl X "ValueError") (hgl : Gl X "LeftFirstError") :
    PE X (.Call (.Name "isinstance" p1) [.Call (.Name "ValueError" p) [.Constant (.str m) c p2] [] pos2, .Name "LeftFirstError" p3] [] pos) (fun _ H Q => ∀ H', Same H H' → Q (.bl false) H') := by
  have cr : CallR X (.builtin "isinstance") (fun xs H Q => ∃ a, xs = [.ref a, .ref (cs 14)] ∧ H a = some (VeO a) ∧ Q (.bl false) H) := by
    intro pins s σ H xs us Q I r h
    obtain ⟨a, rfl, ha, q⟩ := h
    obtain ⟨u1, u2, rfl, r1, r2⟩ := vals2 r
    cases (show u1 = Value.ref a from r1)
    cases (show u2 = Value.ref (cs 14) from r2)
    have z : ObjOk X.prog X.w H s.heap a (VeO a) := I.hok a _ ha
    obtain ⟨kx, _, _⟩ := z
    exact PySem.W.kia_one (PySem.W.kitx_bexc PySem.F.excAttr_ValueError PySem.F.lkClass_ValueError PySem.F.soClass_ValueError (by decide +kernel)) I.kIn kx kN (fun z => nomatch z) fun tk => ⟨.bl false, H, I.tok tk, rfl, q⟩
  have h := pe_callB (pos := pos) (p := p1) cr hg T.isi (by decide +kernel : bootBuiltins "isinstance" = some (.builtin "isinstance")) (pa_cons (pe_ve T (m := m) (c := c) (p := p) (p2 := p2) (pos := pos2) hgv) (pa_cons (pe_glob (pos := p3) hgl (T.g 14 _ rfl) (v := .ref (cs 14)) rfl) pa_nil))
  exact ⟨fun pins s σ H Q I q => h.run pins s σ H Q I fun H' a s e => ⟨a, rfl, e, q H' s⟩⟩
end
/-! the drawn text -/
def OwnAt (H : Hp) (p : Addr) : Prop := ∃ n : Int, H p = some (.lst [.int n])
theorem sign_at : ∀ j : Nat, j < 8 → ∃ c, (("aB 9:;-~" : Str).cps.toList)[j]? = some c ∧ c < 1000
  | 0, _ => ⟨97, by decide +kernel, by decide⟩
  | 1, _ => ⟨66, by decide +kernel, by decide⟩
  | 2, _ => ⟨32, by decide +kernel, by decide⟩
  | 3, _ => ⟨57, by decide +kernel, by decide⟩
  | 4, _ => ⟨58, by decide +kernel, by decide⟩
  | 5, _ => ⟨59, by decide +kernel, by decide⟩
  | 6, _ => ⟨45, by decide +kernel, by decide⟩
  | 7, _ => ⟨126, by decide +kernel, by decide⟩
  | n + 8, h => absurd h (by omega)
/-- the list of signs: k in slot 13, own in slot 3 -/
theorem lc_text {σ : L2.St} {H0 H : Hp} {p : Addr} {Q : VK} (h3 : σ[3]? = some (some (.ref p))) (hw : ∀ v, ((wipe σ [13]).set 13 v)[3]? = some (some (.ref p))) (s0 : Same H0 H) (n0 : H0 p = none) (ho : OwnAt H p)
    (k : ∀ H' D (ys : List Str), Same H0 H' → OwnAt H' p → (∀ y ∈ ys, One y) → ys.length ≤ 20 → H' D = some (.lst (ys.map V.str)) → Q (.ref D) H') :
    tLc (iRng1 (tCons (tCall spTake [] E0 (tCons (tVar 3) (tCons (tC (.int 12)) tNil))) tNil)) (gName 13) tYes
      (tOp rIxS (tC (.str "aB 9:;-~")) (tCall spTake [] E0 (tCons (tVar 3) (tCons (tC (.int 8)) tNil)))) [13] σ H Q := by
  obtain ⟨n, hp⟩ := ho
  refine ⟨_, h3, p, 12, n, rfl, hp, by decide, by decide, fun m n' m0 m1 => ⟨m, rfl, by omega, by omega, fun D hD => ?_⟩⟩
  have hDp : D ≠ p := by
    intro z
    rw [z, upd_same] at hD
    cases hD
  have s1 : Same H0 (upd H p (.lst [.int n'])) := by
    intro b o e
    rw [upd_ne (ne_of_none e n0)]
    exact s0 b o e
  have nD : H0 D = none := s1.free hD
  refine lc_range (lo := 0) (n := m.toNat) (Qd := fun H' => Q (.ref D) H') (fun i H' => Same H0 H' ∧ OwnAt H' p ∧ ∃ ys : List Str, ys.length = i ∧ (∀ y ∈ ys, One y) ∧ H' D = some (.lst (ys.map V.str))) ?_ ?_ ?_
  · refine ⟨?_, ⟨n', ?_⟩, [], rfl, (fun y h => by cases h), upd_same⟩
    · intro b o e
      rw [upd_ne (ne_of_none e nD)]
      exact s1 b o e
    · rw [upd_ne (Ne.symm hDp), upd_same]
  · rintro i H' hi ⟨sm, ⟨c, hc⟩, ys, hl, hy, hd⟩
    refine ⟨?_, ?_⟩
    · show ((wipe σ [13]).set 13 _).set 13 none = _
      rw [List.set_set]
      exact wipe1 σ 13
    · unfold tYes
      dsimp only
      rw [if_pos rfl]
      refine ⟨_, hw _, p, 8, c, rfl, hc, by decide, by decide, fun q c' q0 q1 => ?_⟩
      obtain ⟨d, hd1, hd2⟩ := sign_at q.toNat (by omega)
      have eq : ((q.toNat : Nat) : Int) = q := by omega
      have at1 := atI_nat hd1
      rw [eq] at at1
      refine ⟨_, q, d, rfl, rfl, (by rw [sizeLine_eq]; decide +kernel), at1, ?_⟩
      have hd' : (upd H' p (.lst [.int c'])) D = some (.lst (ys.map V.str)) := by
        rw [upd_ne hDp]
        exact hd
      refine ⟨_, hd', ?_, ?_, ⟨c', ?_⟩, ys ++ [⟨#[d]⟩], ?_, ?_, ?_⟩
      · rw [List.length_map]
        exact small1000 (by omega)
      · intro b o e
        rw [upd_ne (ne_of_none e nD), upd_ne (ne_of_none e n0)]
        exact sm b o e
      · rw [upd_ne (Ne.symm hDp), upd_same]
      · simp [hl]
      · intro y h
        rcases List.mem_append.mp h with h | h
        · exact hy y h
        · rw [List.mem_singleton.mp h]
          exact ⟨d, rfl, hd2⟩
      · rw [upd_same, List.map_append]
        rfl
  · rintro H' ⟨sm, ho, ys, hl, hy, hd⟩
    exact k H' D ys sm ho hy (by omega) hd
end K54
set_option Elab.async false
set_option linter.all false
set_option maxRecDepth 100000
set_option maxHeartbeats 2000000
namespace K54
open PySem PySem.Spec PyProof.Rows
open L2
theorem sum_ones : ∀ (ys : List Str), (∀ y ∈ ys, One y) → (ys.map (·.length)).sum = ys.length
  | [], _ => rfl
  | y :: ys, h => by
    have e := (h y List.mem_cons_self).len
    have z := sum_ones ys fun x hx => h x (List.mem_cons_of_mem _ hx)
    simp only [List.map_cons, List.sum_cons, List.length_cons, e, z]
    omega
/-- [missing_good(thing) for thing in some]: thing in slot 14, some in slot 6 -/
theorem lc_good {K : PySem.W.Frag} {σ : L2.St} {H : Hp} {r : Addr} {items : List V} {Q : VK} (h6 : σ[6]? = some (some (.ref r))) (hl : σ.length = 15) (hr : H r = some (.lst items)) (hz : items.length ≤ 100) (hg : ∀ v ∈ items, Good K H v)
    (k : ∀ H' D, Same H H' → H' D = some (.lst ((List.replicate items.length true).map V.bl)) → Q (.ref D) H') :
    tLc (iList K (tVar 6)) (gName 14) tYes (tCall (spMisG K) [] E0 (tCons (tVar 14) tNil)) [14] σ H Q := by
  refine ⟨_, h6, r, rfl, ⟨_, SqL.of hr⟩, fun D hD => ?_⟩
  have hrD : r ≠ D := ne_of_none hr hD
  refine lc_list (K := K) (a := r) (xs := items) (Qd := fun H' => Q (.ref D) H') (fun i H' => Same H H' ∧ i ≤ items.length ∧ H' D = some (.lst ((List.replicate i true).map V.bl))) ⟨same_upd hD, Nat.zero_le _, upd_same⟩ ?_ ?_ ?_
  · rintro i H' _ ⟨sm, _⟩
    exact SqL.of (sm _ _ hr)
  · rintro i v H' hi ⟨sm, _, hd⟩
    have hi2 : i < items.length := (List.getElem?_eq_some_iff.mp hi).1
    refine ⟨?_, ?_⟩
    · show ((wipe σ [14]).set 14 _).set 14 none = _
      rw [List.set_set]
      exact wipe1 σ 14
    · unfold tYes
      dsimp only
      rw [if_pos rfl]
      have gv := (hg v (List.mem_of_getElem? hi)).mono sm
      obtain ⟨d, h1, h2, h3, h4⟩ := gv
      have e14 : ((wipe σ [14]).set 14 (some v))[14]? = some (some v) := by
        rw [List.getElem?_set_self]
        rw [wipe_length, hl]
        decide
      refine ⟨v, e14, v, d, rfl, h1, h2, h3, h4, fun H'' s2 => ⟨_, s2 _ _ hd, ?_, ?_, hi2, ?_⟩⟩
      · rw [List.length_map, List.length_replicate]
        exact small1000 (by omega)
      · intro b o e
        rw [upd_ne (ne_of_none e hD)]
        exact s2 _ _ (sm b o e)
      · rw [upd_same, List.replicate_succ', List.map_append]
        rfl
  · rintro H' ⟨sm, _, hd⟩
    exact k H' D sm hd
/-- if not all([..]) or not all_good(told(text)): return False -/
theorem if_good {K : PySem.W.Frag} {cs : Nat → Addr} {D : Ends} {σ : L2.St} {H : Hp} {r : Addr} {x : V} {items : List V} (h6 : σ[6]? = some (some (.ref r))) (h4 : σ[4]? = some (some x)) (hl : σ.length = 15) (hr : H r = some (.lst items)) (hz : items.length ≤ 100) (hg : ∀ v ∈ items, Good K H v)
    (k : ∀ H', Same H H' → D.nx σ H') :
    tIfS (tOr (tNot (tB (tCB (rAll K) (tCons (tLc (iList K (tVar 6)) (gName 14) tYes (tCall (spMisG K) [] E0 (tCons (tVar 14) tNil)) [14]) tNil))))
      (tNot (tB (tCall (spAllG cs) [] E0 (tCons (tCall (spTold cs) [] E0 (tCons (tVar 4) tNil)) tNil))))) (tRet (tC (.bl false))) tNext D σ H := by
  unfold tIfS tOr tNot tB tCB
  dsimp only
  unfold tCons
  dsimp only
  refine lc_good h6 hl hr hz hg fun H1 Dl s1 h1 => ?_
  refine ⟨Dl, _, rfl, SqL.of h1, _, rfl, ?_⟩
  have e : (List.replicate items.length true).all id = true := by simp
  rw [e]
  refine iteF ?_
  refine ⟨_, h4, _, rfl, fun H2 pe as s2 hal aex hpe => ⟨pe, as, rfl, hal, aex, hpe, fun H3 s3 => ⟨_, rfl, iteF ?_⟩⟩⟩
  exact k H3 ((s1.trans s2).trans s3)
theorem rCat_rd {p b : Addr} {xs zs : List V} {H : Hp} {Q : VK} (hp : H p = some (.lst xs)) (hb : H b = some (.lst zs)) (hz : xs.length + zs.length ≤ 1000) (k : ∀ H' q, Same H H' → H' q = some (.lst (xs ++ zs)) → Q (.ref q) H') : rCat (.ref p) (.ref b) H Q :=
  ⟨p, b, xs, zs, rfl, rfl, hp, hb, small_len hz, fun q nq => k _ q (same_upd nq) upd_same⟩
/-- != of two values of the same data -/
theorem neA_same {K : PySem.W.Frag} {H : Hp} {x y : V} {Q : VK} (d : PyData) (h1 : Dp K H x d) (h2 : Dp K H y d) (p : d.plain = true) (dp : d.depth ≤ 50) (k : Q (.bl false) H) : rNeA K x y H Q := by
  refine .inl ⟨d, d, h1, h2, p, p, dp, ?_⟩
  rw [PySem.SeqAt.eqv_refl_plain d p]
  exact k
theorem kv_a (v : V) : mergeK [] [((Sum.inr ("a" : Str) : Key), v)] = [(Sum.inr ("a" : Str), v)] := by
  simp [mergeK, putK]
theorem kv_t (x : Str) (v : V) : mergeK [] [((Sum.inr x : Key), v)] = [(Sum.inr x, v)] := by
  simp [mergeK, putK]
theorem kv_b (v u : V) : putK [((Sum.inr ("a" : Str) : Key), v)] (Sum.inr ("b" : Str)) u = [(Sum.inr ("a" : Str), v), (Sum.inr ("b" : Str), u)] := by
  have n : ("a" : Str) ≠ "b" := by decide
  simp [putK, n]
theorem kv_ab (v u : V) : mergeK [] [((Sum.inr ("a" : Str) : Key), v), (Sum.inr ("b" : Str), u)] = [(Sum.inr ("a" : Str), v), (Sum.inr ("b" : Str), u)] := by
  show putK (putK ([] : List (Key × V)) (Sum.inr ("a" : Str)) v) (Sum.inr ("b" : Str)) u = _
  have e : putK ([] : List (Key × V)) (Sum.inr ("a" : Str)) v = [(Sum.inr ("a" : Str), v)] := by simp [putK]
  rw [e, kv_b]
/-- a Missing stands where a list, a dict is stored -/
theorem IsM.upd {H : Hp} {a C r : Addr} {v : V} {o u : HO} (h : IsM H a C v) (hr : H r = some u) (hu : (∃ xs, u = .lst xs) ∨ ∃ kvs, u = .dK kvs) : IsM (upd H r o) a C v := by
  obtain ⟨dx, h1, h2⟩ := h
  have n1 : a ≠ r := by
    refine ne_of h1 hr ?_
    rcases hu with ⟨xs, rfl⟩ | ⟨kvs, rfl⟩
    · exact fun z => by cases (show HO.ext _ = HO.lst _ from z)
    · exact fun z => by cases (show HO.ext _ = HO.dK _ from z)
  have n2 : dx ≠ r := by
    refine ne_of h2 hr ?_
    rcases hu with ⟨xs, rfl⟩ | ⟨kvs, rfl⟩
    · exact fun z => by cases (show HO.ext _ = HO.lst _ from z)
    · exact fun z => by cases (show HO.ext _ = HO.dK _ from z)
  exact ⟨dx, by rw [upd_ne n1]; exact h1, by rw [upd_ne n2]; exact h2⟩
theorem same_store {H0 H : Hp} {r : Addr} {o : HO} (s : Same H0 H) (n : H0 r = none) : Same H0 (L2.upd H r o) := by
  intro b u e
  rw [upd_ne (ne_of_none e n)]
  exact s b u e
end K54
set_option Elab.async false
set_option linter.all false
set_option maxRecDepth 100000
set_option maxHeartbeats 4000000
namespace K54
open PySem PySem.Spec PyProof.Rows
open L2
def spLaw (K : PySem.W.Frag) : Sp := fun vs H Q _ => ∃ (a : Addr) (ns : List Int), vs = [.ref a] ∧ SqL K H a (ns.map V.int) ∧ ns.length ≤ 63 ∧ ∀ H', Q (.bl true) H'
abbrev NL : List Str := ["script", "error", "turn", "own", "text", "number", "some", "row", "known", "bare", "other", "third", "deep", "k", "thing"]
theorem scLaw : FnScope NL ["script"] (defScope sLaw) := ⟨rfl, rfl, rfl, by decide +kernel, rfl, by decide +kernel, by decide +kernel⟩
/-- all that the law calls -/
structure Env54 (P : Program) (w : World) (K : PySem.W.Frag) (mg : Str → Option Value) (base : Heap) (cs : Nat → Addr) (fI : Addr) (fdI : FuncData) where
  fK : Addr
  fB : Addr
  fT : Addr
  fA : Addr
  fG : Addr
  fC : Addr
  fS : Addr
  dK : FuncData
  dB : FuncData
  dT : FuncData
  dA : FuncData
  dG : FuncData
  dC : FuncData
  dS : FuncData
  T : Txt K mg cs fI
  kN : PySem.W.kitOne K (.type "ValueError") (.ref (cs 14)) = some false
  FI : FunI K fI fdI
  GI : FnOk P w K mg base CX0 1 fI fdI ["self", "name"] (spInit (cs 13))
  GK : FnOk P w K mg base CX0 1 fK dK ["error"] (spKinds cs)
  DK : Def K mg "_law_kinds" fK dK ["error"]
  GB : FnOk P w K mg base CX0 1 fB dB [] (spBare cs)
  DB : Def K mg "_law_bare" fB dB []
  GT : FnOk P w K mg base CX0 1 fT dT ["one"] (spTold cs)
  DT : Def K mg "_law_told" fT dT ["one"]
  GA : FnOk P w K mg base CX0 2 fA dA ["errors"] (spAllG cs)
  DA : Def K mg "_law_all_good" fA dA ["errors"]
  GG : FnG P w K mg base 3 fG dG ["thing"] (spMisG K)
  DG : Def K mg "_law_missing_good" fG dG ["thing"]
  GC : FnOk P w K mg base CX0 2 fC dC ["script", "k"] (spCell K)
  DC : Def K mg "_law_cell" fC dC ["script", "k"]
  GS : FnOk P w K mg base CX0 1 fS dS ["own", "options"] spTake
  DS : Def K mg "_law_take" fS dS ["own", "options"]
section
variable {P : Program} {w : World} {K : PySem.W.Frag} {mg : Str → Option Value} {base : Heap} {cs : Nat → Addr} {fI : Addr} {fdI : FuncData}
def forBody (s : Stmt) : List Stmt := match s with
  | .For _ _ b _ _ => b
  | _ => []
abbrev lBody : List Stmt := forBody ((defBody sLaw).getD 2 (.Pass ⟨0, 0, 0, 0⟩))
theorem law_turn (Y : Env54 P w K mg base cs fI fdI) (f : Addr) (cdv : Value) (A : Around) (outer : List Env) (s : Shared) (H : Hp) (E : XK) (hgd : A.guards = some []) (hr : Room 3 (A.deeper (envOfC "law" (defScope sLaw) s.heap.objs.size f cdv))) :
    ∃ tb : TS, PSs (cxOf CX0 P w K mg base NL "law" (defScope sLaw) f cdv A outer s H E).nox lBody tb ∧
      ∀ (D : Ends) (a : Addr) (ns : List Int) (k : Nat) (v1 v3 v4 v5 v6 v7 v8 v9 v10 v11 v12 v13 v14 : Option V) (H0 : Hp), k ≤ 1000 → SqL K H0 a (ns.map V.int) →
        (∀ H' v1 v2 v3 v4 v5 v6 v7 v8 v9 v10 v11 v12 v13 v14, Same H0 H' → D.nx [some (.ref a), v1, v2, v3, v4, v5, v6, v7, v8, v9, v10, v11, v12, v13, v14] H') →
        tb D [some (.ref a), v1, some (.int (k : Nat)), v3, v4, v5, v6, v7, v8, v9, v10, v11, v12, v13, v14] H0 := by
  obtain ⟨fK, fB, fT, fA, fG, fC, fS, dK, dB, dT, dA, dG, dC, dS, T, kN, FI, GI, GK, DK, GB, DB, GT, DT, GA, DA, GG, DG, GC, DC, GS, DS⟩ := Y
  have bAll : bootBuiltins "all" = some (.builtin "all") := by decide +kernel
  have r1 : Room 1 _ := hr.mono (by decide)
  have r2 : Room 2 _ := hr.mono (by decide)
  have hu := hr.units
  have nd := scLaw.nd
  refine ⟨_, pss_cons (ps_set (i := 3) nd rfl (Or.inr rfl) (pe_lst (pa_cons (pe_call GC r2 rfl DC.g DC.k DC.b .nil pass0 (pa_cons (pv 0) (pa_cons (pv 2) pa_nil))) pa_nil)))
    (pss_cons (ps_set (i := 4) nd rfl (Or.inl rfl) (pe_bm PySem.F.plainAttrs_str PySem.F.slot_str_join PySem.F.type_str_join mt_join pe_str (pa_cons
        (pe_lc (own := [("k", 13)]) (g := gName 13) (tt := tYes) rfl nd (pi_range1 rfl (T.b _ (by decide)) (pa_cons (pe_call GS r1 rfl DS.g DS.k DS.b .nil pass0 (pa_cons (pv 3) (pa_cons pe_int pa_nil))) pa_nil)) (blkOk_by (N := NL) (sc := defScope sLaw) (by decide +kernel))
          (fun _ _ _ _ _ => pg_name (i := 13) nd rfl (Or.inl rfl)) (fun _ _ _ _ _ => pts_nil) (fun _ _ _ _ _ => pe_ix ix_str pe_str (pe_call GS r1 rfl DS.g DS.k DS.b .nil pass0 (pa_cons (pv 3) (pa_cons pe_int pa_nil))) (fun _ _ => rfl))) pa_nil)))
    (pss_cons (ps_set (i := 5) nd rfl (Or.inl rfl) (pe_call GS r1 rfl DS.g DS.k DS.b .nil pass0 (pa_cons (pv 3) (pa_cons pe_int pa_nil))))
    (pss_cons (ps_set (i := 6) nd rfl (Or.inl rfl) (pe_lst (pa_cons (pv 4) (pa_cons (pv 5) (pa_cons pe_non (pa_cons (pe_lst (pa_cons (pv 4) pa_nil)) (pa_cons (pe_tup (pa_cons (pv 4) (pa_cons (pv 5) pa_nil))) (pa_cons pe_str (pa_cons pe_bl (pa_cons pe_bl (pa_cons (pe_lst pa_nil) (pa_cons (pe_tup pa_nil) (pa_cons pe_dnewK pa_nil)))))))))))))
    (pss_cons (ps_set (i := 6) nd rfl (Or.inl rfl) (pe_op op_cat (pv 6) (pe_lst (pa_cons (pe_disp (pps_cons (pv 4) (pe_tup (pa_cons (pv 5) pa_nil)) pps_nil) rfl rfl (by simp) (by decide)) (pa_cons (pe_lst (pa_cons (pe_lst (pa_cons (pv 4) (pa_cons pe_non pa_nil))) pa_nil)) pa_nil)))))
    (pss_cons (ps_set (i := 6) nd rfl (Or.inl rfl) (pe_op op_cat (pv 6) (pe_lst (pa_cons (pe_op op_sub pe_int (pv 5)) (pa_cons (pe_op op_mulW (pe_op op_mulW (pe_op op_pow pe_int pe_int) (pe_op op_pow pe_int pe_int)) (pe_op op_pow pe_int pe_int)) (pa_cons pe_str (pa_cons pe_int pa_nil)))))))
    (pss_cons (ps_if (PW.pt (pw_or (pt_not (pt_val (pe_callB (cr_all rfl) rfl (T.b _ (by decide)) bAll (pa_cons
        (pe_lc (own := [("thing", 14)]) (g := gName 14) (tt := tYes) rfl nd (pi_list (pv 6)) (blkOk_by (N := NL) (sc := defScope sLaw) (by decide +kernel))
          (fun _ _ _ _ _ => pg_name (i := 14) nd rfl (Or.inl rfl)) (fun _ _ _ _ _ => pts_nil) (fun _ _ _ _ _ => pe_callG GG hgd hr rfl DG (pa_cons (pv 14) pa_nil))) pa_nil))))
        (pw_or1 (pt_not (pt_val (pe_call GA r2 rfl DA.g DA.k DA.b .nil pass0 (pa_cons (pe_call GT r1 rfl DT.g DT.k DT.b .nil pass0 (pa_cons (pv 4) pa_nil)) pa_nil))))))) (pss_one (ps_ret pe_bl)) pss_nil)
    (pss_cons (ps_par3 (i := 7) (j := 8) (l := 9) rfl nd rfl rfl rfl (by decide) (by decide) (by decide) rfl rfl rfl (pa_cons (pe_lst (pa_cons (pv 4) pa_nil)) (pa_cons (pe_disp (pps_cons pe_str (pv 5) pps_nil) rfl rfl (by simp) (by decide)) (pa_cons (pe_lst pa_nil) pa_nil))) (by rfl))
    (pss_cons (ps_par3 (i := 1) (j := 10) (l := 11) rfl nd rfl rfl rfl (by decide) (by decide) (by decide) rfl rfl rfl (pa_cons (pe_mis (i := 7) T FI GI r2 rfl rfl (Or.inl rfl)) (pa_cons (pe_mis (i := 8) T FI GI r2 rfl rfl (Or.inl rfl)) (pa_cons (pe_misK (i := 9) T FI GI r2 rfl rfl (Or.inl rfl)) pa_nil))) (by rfl))
    (pss_cons (ps_expr (pe_bm PySem.F.plainAttrs_list PySem.F.slot_list_append PySem.F.type_list_append mt_append (pv 7) (pa_cons (pv 5) pa_nil)))
    (pss_cons (ps_dput (hu_of r1) (pv 8) pe_str pe_non rfl)
    (pss_cons (ps_expr (pe_bm PySem.F.plainAttrs_list PySem.F.slot_list_append PySem.F.type_list_append mt_append (pv 9) (pa_cons (pv 5) pa_nil)))
    (pss_cons (ps_if (PW.pt (pw_or (pt_cmpR (op_neA hu) (pe_xv (pv 1)) (pe_lst (pa_cons (pv 4) (pa_cons (pv 5) pa_nil))) (nomark _))
        (pw_or (pt_cmpR (op_neA hu) (pe_xv (pv 10)) (pe_disp (pps_cons pe_str (pv 5) (pps_cons pe_str pe_non pps_nil)) rfl rfl (by simp) (by decide)) (nomark _))
        (pw_or1 (pt_cmpR (op_neA hu) (pe_xv (pv 11)) (pe_lst (pa_cons (pv 5) pa_nil)) (nomark _)))))) (pss_one (ps_ret pe_bl)) pss_nil)
    (pss_cons (ps_set (i := 12) nd rfl (Or.inl rfl) (pe_misT (i := 7) (j := 5) T FI GI r2 rfl rfl (Or.inl rfl) rfl (Or.inl rfl)))
    (pss_cons (ps_expr (pe_bm PySem.F.plainAttrs_list PySem.F.slot_list_append PySem.F.type_list_append mt_append (pv 7) (pa_cons pe_non pa_nil)))
    (pss_one (ps_if (pt_cmpR (op_neA hu) (pe_xv (pv 12)) (pe_tup (pa_cons (pe_lst (pa_cons (pv 4) (pa_cons (pv 5) (pa_cons pe_non pa_nil)))) (pa_cons (pv 5) pa_nil))) (nomark _)) (pss_one (ps_ret pe_bl)) pss_nil)))))))))))))))), ?_⟩
  rintro D a ns k v1 v3 v4 v5 v6 v7 v8 v9 v10 v11 v12 v13 v14 H0 hk hs nx
  -- own = [cell(script, turn)]
  refine ⟨_, rfl, _, rfl, a, k, ns, rfl, hk, hs, fun n => ⟨small_len (Nat.le_of_ble_eq_true rfl), fun p np => ?_⟩⟩
  have s1 := same_upd (o := .lst [.int n]) np
  -- text
  refine ⟨rfl, lc_text (p := p) rfl (fun _ => rfl) s1 np ⟨n, upd_same⟩ fun H2 Dd ys s2 o2 hy hl hd => ?_⟩
  have hx : Small (Txt.join "" ys) := drawn_small ys hy hl
  refine ⟨"", Dd, ys, rfl, rfl, .inl (SqL.of hd), ?_, ?_⟩
  · rw [sum_ones ys hy]
    have e : ("" : Str).length = 0 := by decide +kernel
    rw [e]
    omega
  obtain ⟨c, hc⟩ := o2
  -- number
  refine ⟨_, rfl, p, 99, c, rfl, hc, by decide, by decide, fun m c' m0 m1 => ?_⟩
  have s3 : Same H0 (upd H2 p (.lst [.int c'])) := same_store s2 np
  have hm : m.natAbs < 1000 := by omega
  generalize upd H2 p (.lst [.int c']) = H3 at s3
  generalize Txt.join "" ys = x at hx
  -- some = [..], the first eleven
  refine ⟨_, rfl, _, rfl, _, rfl, small_len (Nat.le_of_ble_eq_true rfl), fun q1 n1 => ?_⟩
  have g1 : Good K (upd H3 q1 (.lst [.str x])) (.ref q1) := good_l1 hx upd_same
  have t1 := same_upd (o := .lst [.str x]) n1
  generalize upd H3 q1 (.lst [.str x]) = G1 at g1 t1
  refine ⟨_, rfl, _, rfl, small_len (Nat.le_of_ble_eq_true rfl), fun q2 n2 => ?_⟩
  have g2 : Good K (upd G1 q2 (.tup [.str x, .int m])) (.ref q2) := good_t2 hx hm upd_same
  have t2 := same_upd (o := .tup [.str x, .int m]) n2
  generalize upd G1 q2 (.tup [.str x, .int m]) = G2 at g2 t2
  refine ⟨small_len (Nat.le_of_ble_eq_true rfl), fun q3 n3 => ?_⟩
  have g3 : Good K (upd G2 q3 (.lst [])) (.ref q3) := good_l0 upd_same
  have t3 := same_upd (o := .lst []) n3
  generalize upd G2 q3 (.lst []) = G3 at g3 t3
  refine ⟨small_len (Nat.le_of_ble_eq_true rfl), fun q4 n4 => ?_⟩
  have g4 : Good K (upd G3 q4 (.tup [])) (.ref q4) := good_t0 upd_same
  have t4 := same_upd (o := .tup []) n4
  generalize upd G3 q4 (.tup []) = G4 at g4 t4
  refine fun q5 n5 => ?_
  have g5 : Good K (upd G4 q5 (.dK [])) (.ref q5) := good_d0 upd_same
  have t5 := same_upd (o := .dK []) n5
  generalize upd G4 q5 (.dK []) = G5 at g5 t5
  refine ⟨small_len (Nat.le_of_ble_eq_true rfl), fun q6 n6 => ?_⟩
  have t6 := same_upd (o := .lst [.str x, .int m, .non, .ref q1, .ref q2, .str "", .bl true, .bl false, .ref q3, .ref q4, .ref q5]) n6
  have h6 : (upd G5 q6 (.lst [.str x, .int m, .non, .ref q1, .ref q2, .str "", .bl true, .bl false, .ref q3, .ref q4, .ref q5])) q6 = some (.lst [.str x, .int m, .non, .ref q1, .ref q2, .str "", .bl true, .bl false, .ref q3, .ref q4, .ref q5]) := upd_same
  generalize upd G5 q6 (.lst [.str x, .int m, .non, .ref q1, .ref q2, .str "", .bl true, .bl false, .ref q3, .ref q4, .ref q5]) = G6 at t6 h6
  have u5 := t5.trans t6
  have u4 := t4.trans u5
  have u3 := t3.trans u4
  have u2 := t2.trans u3
  have hx0 : Small "" := ⟨by decide +kernel, by decide +kernel⟩
  have ag1 : ∀ v ∈ [V.str x, .int m, .non, .ref q1, .ref q2, .str "", .bl true, .bl false, .ref q3, .ref q4, .ref q5], Good K G6 v := by
    intro v hv
    simp only [List.mem_cons, List.not_mem_nil, or_false] at hv
    rcases hv with rfl | rfl | rfl | rfl | rfl | rfl | rfl | rfl | rfl | rfl | rfl
    · exact good_str hx
    · exact good_int hm
    · exact good_non
    · exact g1.mono u2
    · exact g2.mono u3
    · exact good_str hx0
    · exact good_bl
    · exact good_bl
    · exact g3.mono u4
    · exact g4.mono u5
    · exact g5.mono t6
  have s6 : Same H0 G6 := (s3.trans t1).trans u2
  -- some + [{text: (number,)}, [[text, None]]]
  refine ⟨_, rfl, fun d nd1 => ⟨_, rfl, _, rfl, small_len (Nat.le_of_ble_eq_true rfl), fun t nt => ⟨?_, [(Sum.inr x, .ref t)], rfl, Nat.le_of_ble_eq_true rfl, ?_⟩⟩⟩
  · rw [upd_ne (fun z => by rw [← z, upd_same] at nt; cases nt), upd_same]
  have e7 : (upd (upd (upd G6 d (.dK [])) t (.tup [.int m])) d (.dK (mergeK [] [(Sum.inr x, .ref t)]))) d = some (.dK [(Sum.inr x, .ref t)]) := by
    rw [upd_same, kv_t]
  have ntd : t ≠ d := fun z => by
    rw [z, upd_same] at nt
    cases nt
  have e8 : (upd (upd (upd G6 d (.dK [])) t (.tup [.int m])) d (.dK (mergeK [] [(Sum.inr x, .ref t)]))) t = some (.tup [.int m]) := by
    rw [upd_ne ntd, upd_same]
  have g7 : Good K _ (.ref d) := good_d1 hx hm e7 e8
  have t7 : Same G6 (upd (upd (upd G6 d (.dK [])) t (.tup [.int m])) d (.dK (mergeK [] [(Sum.inr x, .ref t)]))) := by
    refine same_store ?_ nd1
    exact (same_upd nd1).trans (same_upd nt)
  generalize upd (upd (upd G6 d (.dK [])) t (.tup [.int m])) d (.dK (mergeK [] [(Sum.inr x, .ref t)])) = G7 at g7 t7
  refine ⟨_, rfl, small_len (Nat.le_of_ble_eq_true rfl), fun b1 nb1 => ?_⟩
  have t8 := same_upd (o := .lst [.str x, .non]) nb1
  have e9 : (upd G7 b1 (.lst [.str x, .non])) b1 = some (.lst [.str x, .non]) := upd_same
  generalize upd G7 b1 (.lst [.str x, .non]) = G8 at t8 e9
  refine ⟨small_len (Nat.le_of_ble_eq_true rfl), fun b2 nb2 => ?_⟩
  have t9 := same_upd (o := .lst [.ref b1]) nb2
  have g9 : Good K (upd G8 b2 (.lst [.ref b1])) (.ref b2) := good_ll hx upd_same (t9 _ _ e9)
  generalize upd G8 b2 (.lst [.ref b1]) = G9 at g9 t9
  refine ⟨small_len (Nat.le_of_ble_eq_true rfl), fun b3 nb3 => ?_⟩
  have w7 := (t7.trans t8).trans t9
  refine rCat_rd (same_upd nb3 _ _ (w7 _ _ h6)) upd_same (Nat.le_of_ble_eq_true rfl) fun G10 q7 t10 h7 => ?_
  have t11 : Same G9 G10 := (same_upd nb3).trans t10
  have w8 := w7.trans t11
  have ag2 : ∀ v ∈ [V.str x, .int m, .non, .ref q1, .ref q2, .str "", .bl true, .bl false, .ref q3, .ref q4, .ref q5] ++ [.ref d, .ref b2], Good K G10 v := by
    intro v hv
    rcases List.mem_append.mp hv with hv | hv
    · exact (ag1 v hv).mono w8
    · simp only [List.mem_cons, List.not_mem_nil, or_false] at hv
      rcases hv with rfl | rfl
      · exact g7.mono ((t8.trans t9).trans t11)
      · exact g9.mono t11
  -- .. + [0 - number, 10 ** 60 * .., 'Ab', 0]
  have pw : CPow 10 60 := ⟨by decide, by decide, by decide⟩
  refine ⟨_, rfl, _, rfl, _, _, rfl, rfl, 10, 60, rfl, rfl, pw, 10, 60, rfl, rfl, pw, _, _, rfl, rfl, (by unfold CMulW; decide +kernel), 10, 60, rfl, rfl, pw, _, _, rfl, rfl, (by unfold CMulW; decide +kernel), ?_⟩
  refine ⟨small_len (Nat.le_of_ble_eq_true rfl), fun b4 nb4 => ?_⟩
  refine rCat_rd (same_upd nb4 _ _ h7) upd_same (Nat.le_of_ble_eq_true rfl) fun G11 q8 t12 h8 => ?_
  have t13 : Same G10 G11 := (same_upd nb4).trans t12
  have h8' : G11 q8 = some (.lst (([.str x, .int m, .non, .ref q1, .ref q2, .str "", .bl true, .bl false, .ref q3, .ref q4, .ref q5] ++ [.ref d, .ref b2]) ++ [.int (0 - m), .int (10 ^ Int.toNat 60 * 10 ^ Int.toNat 60 * 10 ^ Int.toNat 60), .str "Ab", .int 0])) := h8
  have hx1 : Small "Ab" := ⟨by decide +kernel, by decide +kernel⟩
  have ag3 : ∀ v ∈ ([V.str x, .int m, .non, .ref q1, .ref q2, .str "", .bl true, .bl false, .ref q3, .ref q4, .ref q5] ++ [.ref d, .ref b2]) ++ [.int (0 - m), .int (10 ^ Int.toNat 60 * 10 ^ Int.toNat 60 * 10 ^ Int.toNat 60), .str "Ab", .int 0], Good K G11 v := by
    intro v hv
    rcases List.mem_append.mp hv with hv | hv
    · exact (ag2 v hv).mono t13
    · simp only [List.mem_cons, List.not_mem_nil, or_false] at hv
      rcases hv with rfl | rfl | rfl | rfl
      · exact good_int (by omega)
      · exact good_big
      · exact good_str hx1
      · exact good_int (by decide)
  have s11 : Same H0 G11 := (s6.trans w8).trans t13
  -- not all([..]) or not all_good(told(text))
  dsimp only [gName, tSeq]
  refine if_good rfl rfl rfl h8' (Nat.le_of_ble_eq_true rfl) ag3 fun G14 t14 => ?_
  have s14 : Same H0 G14 := s11.trans t14
  clear ag1 ag2 ag3 g1 g2 g3 g4 g5 g7 g9
  -- row, known, bare = ..
  refine ⟨_, rfl, small_len (Nat.le_of_ble_eq_true rfl), fun rr nr => ?_⟩
  refine fun dd ndd => ⟨_, rfl, upd_same, [(Sum.inr "a", .int m)], rfl, Nat.le_of_ble_eq_true rfl, small_len (Nat.le_of_ble_eq_true rfl), fun bb nbb => ⟨_, _, _, rfl, ?_⟩⟩
  have f1 : dd ≠ rr := fun z => by
    rw [z, upd_same] at ndd
    cases ndd
  have f2 : G14 dd = none := by
    rw [upd_ne f1] at ndd
    exact ndd
  have f3 : bb ≠ dd := fun z => by
    rw [z, upd_same] at nbb
    cases nbb
  have f4 : bb ≠ rr := fun z => by
    rw [z, upd_ne (Ne.symm f1), upd_ne (Ne.symm f1), upd_same] at nbb
    cases nbb
  have f5 : G14 bb = none := by
    rw [upd_ne f3, upd_ne f3, upd_ne f4] at nbb
    exact nbb
  have k1 : H0 rr = none := s14.free nr
  have k2 : H0 dd = none := s14.free f2
  have k3 : H0 bb = none := s14.free f5
  have s15 : Same H0 (upd (upd (upd (upd G14 rr (.lst [.str x])) dd (.dK [])) dd (.dK (mergeK [] [(Sum.inr "a", .int m)]))) bb (.lst [])) :=
    same_store (same_store (same_store (same_store s14 k1) k2) k2) k3
  have e1 : (upd (upd (upd (upd G14 rr (.lst [.str x])) dd (.dK [])) dd (.dK (mergeK [] [(Sum.inr "a", .int m)]))) bb (.lst [])) rr = some (.lst [.str x]) := by
    rw [upd_ne (Ne.symm f4), upd_ne (Ne.symm f1), upd_ne (Ne.symm f1), upd_same]
  have e2 : (upd (upd (upd (upd G14 rr (.lst [.str x])) dd (.dK [])) dd (.dK (mergeK [] [(Sum.inr "a", .int m)]))) bb (.lst [])) dd = some (.dK [(Sum.inr "a", .int m)]) := by
    rw [upd_ne (Ne.symm f3), upd_same, kv_a]
  have e3 : (upd (upd (upd (upd G14 rr (.lst [.str x])) dd (.dK [])) dd (.dK (mergeK [] [(Sum.inr "a", .int m)]))) bb (.lst [])) bb = some (.lst []) := upd_same
  generalize upd (upd (upd (upd G14 rr (.lst [.str x])) dd (.dK [])) dd (.dK (mergeK [] [(Sum.inr "a", .int m)]))) bb (.lst []) = G15 at s15 e1 e2 e3
  -- error, other, third = ..
  refine ⟨_, rfl, fun G16 ee t16 me => ⟨_, rfl, fun G17 oo t17 mo => ⟨_, rfl, fun G18 tt t18 mt => ⟨_, _, _, rfl, ?_⟩⟩⟩⟩
  have w18 := (t16.trans t17).trans t18
  have s18 := s15.trans w18
  have me' := (me.mono t17).mono t18
  have mo' := mo.mono t18
  have h1 := w18 _ _ e1
  have h2 := w18 _ _ e2
  have h3 := w18 _ _ e3
  -- row.append(number), known['b'] = None, bare.append(number)
  refine ⟨_, rfl, .inl ⟨rfl, _, SqL.of h1⟩, _, rfl, rr, _, _, rfl, rfl, h1, small1000 (Nat.le_of_ble_eq_true rfl), ?_⟩
  have h2b : (upd G18 rr (.lst ([.str x] ++ [.int m]))) dd = some (.dK [(Sum.inr "a", .int m)]) := by
    rw [upd_ne f1]
    exact h2
  refine ⟨_, rfl, dd, _, rfl, DPut.k (k := Sum.inr "b") h2b (small1000 (Nat.le_of_ble_eq_true rfl)), ?_⟩
  have h3b : (upd (upd G18 rr (.lst ([.str x] ++ [.int m]))) dd (.dK (putK [(Sum.inr "a", .int m)] (Sum.inr "b") .non))) bb = some (.lst []) := by
    rw [upd_ne f3, upd_ne f4]
    exact h3
  refine ⟨_, rfl, .inl ⟨rfl, _, SqL.of h3b⟩, _, rfl, bb, _, _, rfl, rfl, h3b, small1000 (Nat.le_of_ble_eq_true rfl), ?_⟩
  have p1 := ((me'.upd (o := .lst ([.str x] ++ [.int m])) h1 (.inl ⟨_, rfl⟩)).upd (o := .dK (putK [(Sum.inr "a", .int m)] (Sum.inr "b") .non)) h2b (.inr ⟨_, rfl⟩)).upd (o := .lst ([] ++ [.int m])) h3b (.inl ⟨_, rfl⟩)
  have p2 := ((mo'.upd (o := .lst ([.str x] ++ [.int m])) h1 (.inl ⟨_, rfl⟩)).upd (o := .dK (putK [(Sum.inr "a", .int m)] (Sum.inr "b") .non)) h2b (.inr ⟨_, rfl⟩)).upd (o := .lst ([] ++ [.int m])) h3b (.inl ⟨_, rfl⟩)
  have p3 := ((mt.upd (o := .lst ([.str x] ++ [.int m])) h1 (.inl ⟨_, rfl⟩)).upd (o := .dK (putK [(Sum.inr "a", .int m)] (Sum.inr "b") .non)) h2b (.inr ⟨_, rfl⟩)).upd (o := .lst ([] ++ [.int m])) h3b (.inl ⟨_, rfl⟩)
  have q19 : (upd (upd (upd G18 rr (.lst ([.str x] ++ [.int m]))) dd (.dK (putK [(Sum.inr "a", .int m)] (Sum.inr "b") .non))) bb (.lst ([] ++ [.int m]))) rr = some (.lst [.str x, .int m]) := by
    rw [upd_ne (Ne.symm f4), upd_ne (Ne.symm f1), upd_same]
    rfl
  have d19 : (upd (upd (upd G18 rr (.lst ([.str x] ++ [.int m]))) dd (.dK (putK [(Sum.inr "a", .int m)] (Sum.inr "b") .non))) bb (.lst ([] ++ [.int m]))) dd = some (.dK [(Sum.inr "a", .int m), (Sum.inr "b", .non)]) := by
    rw [upd_ne (Ne.symm f3), upd_same, kv_b]
  have b19 : (upd (upd (upd G18 rr (.lst ([.str x] ++ [.int m]))) dd (.dK (putK [(Sum.inr "a", .int m)] (Sum.inr "b") .non))) bb (.lst ([] ++ [.int m]))) bb = some (.lst [.int m]) := upd_same
  have s19 : Same H0 (upd (upd (upd G18 rr (.lst ([.str x] ++ [.int m]))) dd (.dK (putK [(Sum.inr "a", .int m)] (Sum.inr "b") .non))) bb (.lst ([] ++ [.int m]))) := same_store (same_store (same_store s18 k1) k2) k3
  generalize upd (upd (upd G18 rr (.lst ([.str x] ++ [.int m]))) dd (.dK (putK [(Sum.inr "a", .int m)] (Sum.inr "b") .non))) bb (.lst ([] ++ [.int m])) = G19 at p1 p2 p3 q19 d19 b19 s19
  obtain ⟨x1, a1, y1⟩ := id p1
  have dp2 : DpAll K G19 [.str x, .int m] [.str x, .int m] := .cons (.str x) (.cons (.int m) .nil)
  have pl2 : (PyData.list [.str x, .int m]).plain = true := by simp [PyData.plain, PyData.plainAll]
  have de2 : (PyData.list [.str x, .int m]).depth ≤ 50 := by simp [PyData.depth, PyData.depthAll]
  -- error.name != [text, number]
  refine ⟨_, rfl, ee, cs 13, x1, _, .ref rr, rfl, T.xfc, T.noN, a1, y1, lookup_name _, _, rfl, _, rfl, small_len (Nat.le_of_ble_eq_true rfl), fun z1 nz1 => ?_⟩
  have t20 := same_upd (o := .lst [.str x, .int m]) nz1
  refine neA_same (.list [.str x, .int m]) (.lst (SqL.of (t20 _ _ q19)) (Dp.monoAll' t20 _ _ dp2)) (.lst (SqL.of upd_same) (Dp.monoAll' t20 _ _ dp2)) pl2 de2 ⟨_, rfl, iteF ?_⟩
  have p2' := p2.mono t20
  have p3' := p3.mono t20
  have q20 := t20 _ _ q19
  have d20 := t20 _ _ d19
  have b20 := t20 _ _ b19
  have s20 := s19.trans t20
  generalize upd G19 z1 (.lst [.str x, .int m]) = G20 at p2' p3' q20 d20 b20 s20
  -- other.name != {'a': number, 'b': None}
  obtain ⟨x2, a2, y2⟩ := id p2'
  refine ⟨_, rfl, oo, cs 13, x2, _, .ref dd, rfl, T.xfc, T.noN, a2, y2, lookup_name _, fun z2 nz2 => ⟨_, rfl, upd_same, [(Sum.inr "a", .int m), (Sum.inr "b", .non)], rfl, Nat.le_of_ble_eq_true rfl, ?_⟩⟩
  have t21 : Same G20 (upd (upd G20 z2 (.dK [])) z2 (.dK (mergeK [] [(Sum.inr "a", .int m), (Sum.inr "b", .non)]))) := same_store (same_upd nz2) nz2
  have e21 : (upd (upd G20 z2 (.dK [])) z2 (.dK (mergeK [] [(Sum.inr "a", .int m), (Sum.inr "b", .non)]))) z2 = some (.dK [(Sum.inr "a", .int m), (Sum.inr "b", .non)]) := by
    rw [upd_same, kv_ab]
  refine .inr ⟨dd, z2, _, rfl, rfl, t21 _ _ d20, e21, ?_, _, rfl, iteF ?_⟩
  · intro p hp
    rcases List.mem_cons.mp hp with rfl | hp
    · exact ⟨_, .int m, by simp [PyData.plain], by simp [PyData.depth]⟩
    · rw [List.mem_singleton.mp hp]
      exact ⟨_, .non, by simp [PyData.plain], by simp [PyData.depth]⟩
  have p3'' := p3'.mono t21
  have q21 := t21 _ _ q20
  have b21 := t21 _ _ b20
  have s21 := s20.trans t21
  generalize upd (upd G20 z2 (.dK [])) z2 (.dK (mergeK [] [(Sum.inr "a", .int m), (Sum.inr "b", .non)])) = G21 at p3'' q21 b21 s21
  -- third.name != [number]
  obtain ⟨x3, a3, y3⟩ := id p3''
  refine ⟨_, rfl, tt, cs 13, x3, _, .ref bb, rfl, T.xfc, T.noN, a3, y3, lookup_name _, _, rfl, small_len (Nat.le_of_ble_eq_true rfl), fun z3 nz3 => ?_⟩
  have t22 := same_upd (o := .lst [.int m]) nz3
  have pl1 : (PyData.list [.int m]).plain = true := by simp [PyData.plain, PyData.plainAll]
  have de1 : (PyData.list [.int m]).depth ≤ 50 := by simp [PyData.depth, PyData.depthAll]
  refine neA_same (.list [.int m]) (.lst (SqL.of (t22 _ _ b21)) (.cons (.int m) .nil)) (.lst (SqL.of upd_same) (.cons (.int m) .nil)) pl1 de1 ⟨_, rfl, iteF ?_⟩
  have q22 := t22 _ _ q21
  have s22 := s21.trans t22
  generalize upd G21 z3 (.lst [.int m]) = G22 at q22 s22
  -- deep = Missing((row, number))
  refine ⟨_, _, rfl, rfl, fun G23 de tp t23 ht md => ?_⟩
  have q23 := t23 _ _ q22
  have s23 := s22.trans t23
  -- row.append(None)
  refine ⟨_, rfl, .inl ⟨rfl, _, SqL.of q23⟩, rr, _, _, rfl, rfl, q23, small1000 (Nat.le_of_ble_eq_true rfl), ?_⟩
  have m24 := md.upd (o := .lst ([.str x, .int m] ++ [.non])) q23 (.inl ⟨_, rfl⟩)
  have ntr : tp ≠ rr := ne_of ht q23 (by intro z; cases z)
  have h24 : (upd G23 rr (.lst ([.str x, .int m] ++ [.non]))) tp = some (.tup [.ref rr, .int m]) := by
    rw [upd_ne ntr]
    exact ht
  have q24 : (upd G23 rr (.lst ([.str x, .int m] ++ [.non]))) rr = some (.lst [.str x, .int m, .non]) := upd_same
  have s24 : Same H0 (upd G23 rr (.lst ([.str x, .int m] ++ [.non]))) := same_store s23 k1
  generalize upd G23 rr (.lst ([.str x, .int m] ++ [.non])) = G24 at m24 h24 q24 s24
  obtain ⟨x4, a4, y4⟩ := id m24
  -- deep.name != ([text, number, None], number)
  refine ⟨_, rfl, de, cs 13, x4, _, .ref tp, rfl, T.xfc, T.noN, a4, y4, lookup_name _, _, rfl, _, rfl, small_len (Nat.le_of_ble_eq_true rfl), fun z5 nz5 => ?_⟩
  have t25 := same_upd (o := .lst [.str x, .int m, .non]) nz5
  have e25 : (upd G24 z5 (.lst [.str x, .int m, .non])) z5 = some (.lst [.str x, .int m, .non]) := upd_same
  generalize upd G24 z5 (.lst [.str x, .int m, .non]) = G25 at t25 e25
  refine ⟨_, rfl, small_len (Nat.le_of_ble_eq_true rfl), fun z6 nz6 => ?_⟩
  have t26 := same_upd (o := .tup [.ref z5, .int m]) nz6
  have w26 := t25.trans t26
  have al : ∀ H, DpAll K H [.str x, .int m, .non] [.str x, .int m, .none] := fun H => .cons (.str x) (.cons (.int m) (.cons .non .nil))
  have pl3 : (PyData.tuple [.list [.str x, .int m, .none], .int m]).plain = true := by simp [PyData.plain, PyData.plainAll]
  have de3 : (PyData.tuple [.list [.str x, .int m, .none], .int m]).depth ≤ 50 := by simp [PyData.depth, PyData.depthAll]
  refine neA_same (.tuple [.list [.str x, .int m, .none], .int m]) (.tup (SqT.of (w26 _ _ h24)) (.cons (.lst (SqL.of (w26 _ _ q24)) (al _)) (.cons (.int m) .nil)))
    (.tup (SqT.of upd_same) (.cons (.lst (SqL.of (t26 _ _ e25)) (al _)) (.cons (.int m) .nil))) pl3 de3 ⟨_, rfl, iteF ?_⟩
  exact nx _ _ _ _ _ _ _ _ _ _ _ _ _ _ _ (s24.trans w26)
end
end K54
set_option Elab.async false
set_option linter.all false
set_option maxRecDepth 100000
set_option maxHeartbeats 4000000
namespace K54
open PySem PySem.Spec PyProof.Rows
open L2
section
variable {P : Program} {w : World} {K : PySem.W.Frag} {mg : Str → Option Value} {base : Heap} {cs : Nat → Addr} {fI : Addr} {fdI : FuncData}
theorem ok_law {f : Addr} {fd : FuncData} (F : Fun K "law" "law" sLaw f fd) (Y : Env54 P w K mg base cs fI fdI) : FnG P w K mg base 4 f fd ["script"] (spLaw K) := by
  refine okG F scLaw (fun vs H Q E h => ?_) (fun cdv A outer s H vs Q E hgd hr h => ?_)
  · obtain ⟨a, ns, rfl, _⟩ := h
    rfl
  · obtain ⟨a, ns, rfl, hs, hl, kk⟩ := h
    obtain ⟨tb, hb, rd⟩ := law_turn Y f cdv A outer s H E hgd hr
    obtain ⟨fK, fB, fT, fA, fG, fC, fS, dK, dB, dT, dA, dG, dC, dS, T, kN, FI, GI, GK, DK, GB, DB, GT, DT, GA, DA, GG, DG, GC, DC, GS, DS⟩ := Y
    have bMax : bootBuiltins "max" = some (.builtin "max") := by decide +kernel
    have bMin : bootBuiltins "min" = some (.builtin "min") := by decide +kernel
    have bAny : bootBuiltins "any" = some (.builtin "any") := by decide +kernel
    have r1 : Room 1 _ := hr.mono (by decide)
    have r2 : Room 2 _ := hr.mono (by decide)
    have nd := scLaw.nd
    refine ⟨_, pss_cons (ps_if (PW.pt (pw_or (pt_not (pt_val (pe_call GA r2 rfl DA.g DA.k DA.b .nil pass0 (pa_cons (pe_call0 GB r1 rfl DB.g DB.k DB.b .nil pass0) pa_nil))))
        (pw_or (pt_not (pt_val (pe_call GA r2 rfl DA.g DA.k DA.b .nil pass0 (pa_cons (pe_call GT r1 rfl DT.g DT.k DT.b .nil pass0 (pa_cons pe_str pa_nil)) pa_nil))))
        (pw_or1 (pt_cmp (pc_notN (pe_xv (pe_mis0 T FI GI r2 rfl)))))))) (pss_one (ps_ret pe_bl)) pss_nil)
      (pss_cons (ps_for PassesOwn.never rfl (pi_list (pe_lst (pa_cons (pe_mk T 14 rfl (by decide) rfl) (pa_cons (pe_mkS T 14 rfl (by decide) rfl) pa_nil)))) (pg_name (i := 1) nd rfl (Or.inl rfl))
        (pss_one (ps_if (PW.pt (pw_or (pt_not (pt_val (pe_isV T (i := 1) rfl (Or.inl rfl) rfl rfl))) (pw_or1 (pt_val (pe_callB (cr_any rfl) rfl (T.b _ (by decide)) bAny (pa_cons (pe_call GK r1 rfl DK.g DK.k DK.b .nil pass0 (pa_cons (pv 1) pa_nil)) pa_nil)))))) (pss_one (ps_ret pe_bl)) pss_nil)))
      (pss_cons (ps_for PassesOwn.never rfl (pi_range1 rfl (T.b _ (by decide)) (pa_cons (pe_callB (call_max2 rfl) rfl (T.b _ (by decide)) bMax (pa_cons (pe_callB (call_min2 rfl) rfl (T.b _ (by decide)) bMin
            (pa_cons (pe_callB call_len_seq rfl (T.b _ (by decide)) PySem.boot_len (pa_cons (pv 0) pa_nil)) (pa_cons pe_int pa_nil))) (pa_cons pe_int pa_nil))) pa_nil)) (pg_name (i := 2) nd rfl (Or.inl rfl))
        (tb := tb) (by exact hb))
      (pss_one (ps_ret (pe_not (pe_isVE T kN rfl rfl rfl)))))), ?_⟩
    refine ⟨rfl, fun H1 p1 as1 s1 l1 ex1 h1 => ⟨p1, as1, rfl, l1, ex1, h1, fun H2 s2 => ⟨_, rfl, iteF ?_⟩⟩⟩
    refine ⟨_, rfl, fun H3 p3 as3 s3 l3 ex3 h3 => ⟨p3, as3, rfl, l3, ex3, h3, fun H4 s4 => ⟨_, rfl, iteF ?_⟩⟩⟩
    refine fun H5 a5 s5 m5 => ?_
    obtain ⟨dx, e1, e2⟩ := m5
    refine ⟨a5, cs 13, dx, _, .non, rfl, T.xfc, T.noN, e1, e2, lookup_name _, _, rfl, iteF ?_⟩
    have u5 := (((s1.trans s2).trans s3).trans s4).trans s5
    -- for error in [LeftFirstError(), LeftFirstError('a message')]
    refine fun H6 a6 s6 i6 => fun H7 a7 s7 i7 => ⟨small_len (Nat.le_of_ble_eq_true rfl), fun p np => ?_⟩
    have t7 := same_upd (o := .lst [.ref a6, .ref a7]) np
    have e7 : (upd H7 p (.lst [.ref a6, .ref a7])) p = some (.lst [.ref a6, .ref a7]) := upd_same
    have i6' := (i6.mono s7).mono t7
    have i7' := i7.mono t7
    have u7 := ((u5.trans s6).trans s7).trans t7
    generalize upd H7 p (.lst [.ref a6, .ref a7]) = G7 at t7 e7 i6' i7' u7
    refine ⟨p, rfl, ⟨_, SqL.of e7⟩, for_list (K := K) (a := p) (xs := [.ref a6, .ref a7]) (fun i σ H' => ∃ v1, σ = [some (.ref a), v1, none, none, none, none, none, none, none, none, none, none, none, none, none] ∧ Same G7 H') ⟨none, rfl, Same.refl _⟩
      (fun i σ H' _ ⟨_, _, sm⟩ => SqL.of (sm _ _ e7)) ?_ ?_⟩
    · rintro i x σ H8 hi ⟨v1, rfl, sm⟩
      obtain ⟨b, rfl, ib⟩ : ∃ b, x = V.ref b ∧ IsE G7 b (cs 14) := by
        match i, hi with
        | 0, hi => exact ⟨a6, (Option.some.inj hi).symm, i6'⟩
        | 1, hi => exact ⟨a7, (Option.some.inj hi).symm, i7'⟩
      have hE := ib.mono sm
      refine ⟨b, 14, rfl, by decide, hE, _, rfl, iteF ?_⟩
      refine ⟨_, rfl, b, 14, rfl, by decide, hE, fun H9 q s9 h9 => ⟨q, kb 14, rfl, SqL.of h9, _, rfl, iteF ?_⟩⟩
      exact ⟨_, rfl, sm.trans s9⟩
    · rintro σ H8 ⟨v1, rfl, sm⟩
      have u8 := u7.trans sm
      have hs8 := u8.seq hs
      -- for turn in range(..)
      refine ⟨_, rfl, a, _, rfl, .inl hs8, _, _, rfl, _, _, rfl, ?_⟩
      generalize hN : (if (1 : Int) > (if (3 : Int) < (((ns.map V.int).length : Nat) : Int) then 3 else (((ns.map V.int).length : Nat) : Int)) then 1 else (if (3 : Int) < (((ns.map V.int).length : Nat) : Int) then 3 else (((ns.map V.int).length : Nat) : Int))) = N
      have N0 : 0 ≤ N ∧ N ≤ 3 := by
        rw [← hN]
        split <;> split <;> omega
      refine ⟨N, rfl, by omega, by omega, for_range (lo := 0) (n := N.toNat) (fun i σ H' => ∃ v1 v2 v3 v4 v5 v6 v7 v8 v9 v10 v11 v12 v13 v14, σ = [some (.ref a), v1, v2, v3, v4, v5, v6, v7, v8, v9, v10, v11, v12, v13, v14] ∧ Same H8 H')
        ⟨_, _, _, _, _, _, _, _, _, _, _, _, _, _, rfl, Same.refl _⟩ ?_ ?_⟩
      · rintro i σ H9 hi ⟨v1, v2, v3, v4, v5, v6, v7, v8, v9, v10, v11, v12, v13, v14, rfl, sm9⟩
        show tb _ [some (.ref a), v1, some (.int (0 + (i : Nat))), v3, v4, v5, v6, v7, v8, v9, v10, v11, v12, v13, v14] H9
        have e0 : (0 : Int) + ((i : Nat) : Int) = ((i : Nat) : Int) := by omega
        rw [e0]
        refine rd _ a ns i _ _ _ _ _ _ _ _ _ _ _ _ _ H9 (by omega) (sm9.seq hs8) ?_
        intro H' w1 w2 w3 w4 w5 w6 w7 w8 w9 w10 w11 w12 w13 w14 sw
        exact ⟨_, _, _, _, _, _, _, _, _, _, _, _, _, _, rfl, sm9.trans sw⟩
      · rintro σ H9 _
        exact fun H' _ => ⟨_, rfl, kk H'⟩
end
end K54
set_option Elab.async false
set_option linter.all false
set_option maxRecDepth 100000
set_option maxHeartbeats 4000000
namespace K54
open PySem PySem.Spec PyProof.Rows
open L2
/-- the law's own call, at the bottom of the stack -/
theorem law_callG {P : Program} {w : World} {K : PySem.W.Frag} {mg mb : Str → Option Value} {k : Nat} {fa a : Addr} {fd : FuncData} {x : Str} {sp : Sp} {s₁ : Shared} {vs : List Value} {ns : List Int}
    (KX : K.In s₁.heap) (hns : s₁.heap.Ns mainGlobals mg) (hb : s₁.heap.Ns builtinsNs mb) (hbb : ∀ x : Str, x ≠ "__name__" → mb x = bootBuiltins x) (hlim : s₁.heap.NoLimit) (hg : s₁.gens = #[])
    (ha : s₁.heap.get? a = some { cls := .type "list", data := .seq vs.toArray }) (hi : IntsAre vs ns) (hl : ns.length ≤ sizeLine) (hr : Room k callerA)
    (F : ∀ base : Heap, K.In base → base.Ns mainGlobals mg → FnG P w K mg base k fa fd [x] sp) (hbind : ∀ (s : Shared) (u : Value), BindsTo s fd ⟨[u], []⟩ [(x, u)])
    (hsp : ∀ H : Hp, SqL K H a (ns.map V.int) → sp [.ref a] H (fun v _ => v = .bl true) E0) :
    codeAny (model P w) callerA (.call (.ref fa) ⟨[.ref a], []⟩) (fun r s' => r = .ok (.ret (.bool true)) ∧ OldK s₁.heap s'.heap ∧ s'.os = s₁.os ∧ AllBare s'.gens) s₁ := by
  have rv : Vals (ns.map V.int) vs := vals_ints hi
  have core : ∀ H : Hp, (∀ b, H b = none ∨ (b = a ∧ K.lookup b = none ∧ H b = some (.frz { cls := .type "list", data := .seq vs.toArray } (.lst (ns.map V.int))))) → SqL K H a (ns.map V.int) → HOk P w H s₁.heap →
      codeAny (model P w) callerA (.call (.ref fa) ⟨[.ref a], []⟩) (fun r s' => r = .ok (.ret (.bool true)) ∧ OldK s₁.heap s'.heap ∧ s'.os = s₁.os ∧ AllBare s'.gens) s₁ := by
    intro H hO hS hok
    have kb : K.In (hidT s₁.heap H) := by
      intro b o e
      refine hidT_get (KX b o e) ?_
      rcases hO b with h | ⟨_, h, _⟩
      · exact h
      · rw [h] at e
        cases e
    have nsb : ∀ {b : Addr} {m : Str → Option Value}, s₁.heap.Ns b m → (hidT s₁.heap H).Ns b m := by
      rintro b m ⟨o, es, ep, e, d, r⟩
      refine ⟨o, es, ep, hidT_get e ?_, d, r⟩
      rcases hO b with h | ⟨rfl, _, _⟩
      · exact h
      · rw [ha] at e
        cases e
        cases d
    have lim : (hidT s₁.heap H).NoLimit := by
      obtain ⟨mc, h1, h2⟩ := hlim
      exact ⟨mc, nsb h1, h2⟩
    have e0 : Env0 P w K mg (hidT s₁.heap H) callerA [] s₁ H := by
      refine ⟨rfl, ⟨kb, nsb hns, ⟨mb, nsb hb, hbb⟩, lim⟩, ?_, Nat.le_of_eq (hidT_size _ _), True.intro, ?_, hok, .of_eq hg⟩
      · intro b o e
        exact of_hidT e
      · intro b z
        cases z
    apply codeAny_mono ((F _ kb (nsb hns)).run callerA [] s₁ H ⟨[.ref a], []⟩ [.ref a] [.ref a] (fun v _ => v = .bl true) E0 rfl hr e0 (hbind s₁ (.ref a)) (.cons rfl .nil) (hsp H hS))
    intro r s' h
    cases r with
    | error e => exact h.elim
    | ok fl =>
      cases fl with
      | next => exact h.elim
      | brk => exact h.elim
      | cont => exact h.elim
      | ret u =>
        obtain ⟨v, H', os, bare, un, hok2, rel, ev⟩ := h
        cases ev
        cases rel
        refine ⟨rfl, OldK.of_keep ?_, os, bare⟩
        intro b o e
        rcases hO b with z | ⟨rfl, _, z⟩
        · exact un.keep b o e z (by intro q; cases q) (by intro q; cases q)
        · obtain ⟨g1, _⟩ := hok b _ z
          obtain ⟨g2, _⟩ := hok2 b _ (un.frzs b _ _ z)
          rw [← e, g1]
          exact g2
  cases hk : K.lookup a with
  | some o =>
    have e := KX a o hk
    rw [ha] at e
    cases e
    refine core (fun _ => none) (fun _ => .inl rfl) (.inr ⟨_, vs.toArray, _, hk, rfl, rfl, rfl, ?_, ?_⟩) ?_
    · rw [List.size_toArray, hi.length]
      exact hl
    · simpa using rv
    · intro b u z
      cases z
  | none =>
    refine core (fun b => if b = a then some (.frz { cls := .type "list", data := .seq vs.toArray } (.lst (ns.map V.int))) else none) ?_ ?_ ?_
    · intro b
      by_cases c : b = a
      · subst c
        exact .inr ⟨rfl, hk, if_pos rfl⟩
      · exact .inl (if_neg c)
    · exact .inl (.inr ⟨_, if_pos rfl⟩)
    · intro b u z
      by_cases c : b = a
      · subst c
        have z2 := (if_pos rfl).symm.trans z
        cases z2
        refine ⟨ha, ?_, vs, _, rv, ha⟩
        rw [List.length_map]
        exact hl
      · have z2 := (if_neg c).symm.trans z
        cases z2
end K54
set_option Elab.async false
set_option linter.all false
set_option maxRecDepth 100000
set_option maxHeartbeats 4000000
namespace K54
open PySem PySem.Spec PyProof.Rows
open L2
theorem walkG {l : PySem.W.OpenLaw} {n k : Nat} {q : Program} {loose : List Str} {XP : (Str → Option Value) → Heap → Prop} {YP : World → Heap → Prop} {d : DefRec} {K : Params → PySem.W.Frag} {x : Str}
    (hn : l.most = some n) (hn2 : n ≤ sizeLine) (hdf : d.params.defaults = []) (hr : Room k callerA) (hY : ∀ (w : World) (h : Heap), YP w h → (K w.params).In h)
    (F : ∀ (w : World) (mg : Str → Option Value) (fa : Addr) (h : Heap), (K w.params).In h → h.Ns mainGlobals mg → mg d.name = some (.ref fa) →
      ∃ fd : FuncData, (∀ (s : Shared) (u : Value), BindsTo s fd ⟨[u], []⟩ [(x, u)]) ∧ ∀ base : Heap, (K w.params).In base → base.Ns mainGlobals mg → FnG l.prog w (K w.params) mg base k fa fd [x] (spLaw (K w.params)))
    (h63 : n ≤ 63) : PySem.W.WalkO q loose XP YP l.row.toRowW d [] (fun f vs => PySem.call f vs) := by
  refine Att.attach_call hn hdf ?_
  intro w s₀ s₁ mg mb fa o pm cd doc a vs ns G Y ho hd hcd hmg hobj hints hlen hg
  obtain ⟨fd, hb, hF⟩ := F w mg fa _ (hY w _ Y) G.T.g hmg
  refine law_callG (hY w _ Y) G.T.g G.T.b G.T.builtins G.T.nolimit hg hobj hints (Nat.le_trans hlen hn2) hr hF hb ?_
  intro H hS
  exact ⟨a, ns, rfl, hS, Nat.le_trans hlen h63, fun _ => rfl⟩

/-! what the top has written: by one reckoning -/
def clsC (K : PySem.W.Frag) (C c14 : Addr) : Bool :=
  (PySem.W.clsIn K C).isSome && (decide (PySem.W.findIn K (.ref C) "__getattribute__" = some (some (.builtin "BaseException.__getattribute__"))) && (decide (PySem.W.findIn K (.ref C) "__getattr__" = some none) &&
  (decide (PySem.W.subIn K (.ref C) (.type "BaseException") = some true) && (decide (PySem.W.findIn K (.ref C) "__class__" = some (some (.builtin "object.__class__"))) && (decide (PySem.W.mroIn K C (.type "object") = some true) &&
  (PySem.W.keepIn K (.ref C) && (decide (PySem.W.kitOne K (.ref C) (.type "ValueError") = some true) && (decide (PySem.W.kitAny K (.ref C) badT = some false) && decide (PySem.W.kitOne K (.ref C) (.ref c14) = some true)))))))))
def allC (K : PySem.W.Frag) (l : List Addr) : Bool :=
  (List.range 15).all (fun i => clsC K (l.getD i 0) (l.getD 14 0)) && ((List.range 15).all (fun i => i == 13 || PySem.W.excIn K (l.getD i 0) bmV "ValueError.__new__") &&
  ((List.range 15).all (fun i => (List.range 14).all fun j => decide (PySem.W.kitOne K (.ref (l.getD i 0)) (.ref (l.getD j 0)) = some (i == j))) &&
  (decide (PySem.W.specialIn K (.builtin "object.__class__") "__get__" = some (some (.builtin "getset_descriptor.__get__"))) && (decide (PySem.W.takesIn K (.builtin "object.__class__") = some true) &&
  (decide (PySem.W.kitOne K (.type "ValueError") (.ref (l.getD 14 0)) = some false) && (bnames.all (fun x => decide (PySem.W.nsIn K PySem.mainGlobals x = some none)) &&
  (decide (PySem.W.findIn K (.ref (l.getD 13 0)) "name" = some none) && (List.range 15).all fun i => decide (PySem.W.nsIn K PySem.mainGlobals (cnames.getD i "") = some (some (.ref (l.getD i 0)))))))))))
structure AllC (K : PySem.W.Frag) (l : List Addr) : Prop where
  cl : ∀ i, i < 15 → clsC K (l.getD i 0) (l.getD 14 0) = true
  ex : ∀ i, i < 15 → i ≠ 13 → PySem.W.excIn K (l.getD i 0) bmV "ValueError.__new__" = true
  kt : ∀ i j, i < 15 → j < 14 → PySem.W.kitOne K (.ref (l.getD i 0)) (.ref (l.getD j 0)) = some (i == j)
  sp : PySem.W.specialIn K (.builtin "object.__class__") "__get__" = some (some (.builtin "getset_descriptor.__get__"))
  tk : PySem.W.takesIn K (.builtin "object.__class__") = some true
  kn : PySem.W.kitOne K (.type "ValueError") (.ref (l.getD 14 0)) = some false
  bn : ∀ x ∈ bnames, PySem.W.nsIn K PySem.mainGlobals x = some none
  nn : PySem.W.findIn K (.ref (l.getD 13 0)) "name" = some none
  ns : ∀ i, i < 15 → PySem.W.nsIn K PySem.mainGlobals (cnames.getD i "") = some (some (.ref (l.getD i 0)))
theorem allC_ok {K : PySem.W.Frag} {l : List Addr} (h : allC K l = true) : AllC K l := by
  obtain ⟨h1, h⟩ := Bool.and_eq_true_iff.mp h
  obtain ⟨h2, h⟩ := Bool.and_eq_true_iff.mp h
  obtain ⟨h3, h⟩ := Bool.and_eq_true_iff.mp h
  obtain ⟨h4, h⟩ := Bool.and_eq_true_iff.mp h
  obtain ⟨h5, h⟩ := Bool.and_eq_true_iff.mp h
  obtain ⟨h6, h⟩ := Bool.and_eq_true_iff.mp h
  obtain ⟨h7, h⟩ := Bool.and_eq_true_iff.mp h
  obtain ⟨h8, h9⟩ := Bool.and_eq_true_iff.mp h
  refine ⟨fun i hi => List.all_eq_true.mp h1 i (List.mem_range.mpr hi), fun i hi hn => ?_, fun i j hi hj => ?_, of_decide_eq_true h4, of_decide_eq_true h5, of_decide_eq_true h6, fun x hx => of_decide_eq_true (List.all_eq_true.mp h7 x hx), of_decide_eq_true h8,
    fun i hi => of_decide_eq_true (List.all_eq_true.mp h9 i (List.mem_range.mpr hi))⟩
  · have z := List.all_eq_true.mp h2 i (List.mem_range.mpr hi)
    rcases Bool.or_eq_true_iff.mp z with z | z
    · exact absurd (by simpa using z) hn
    · exact z
  · exact of_decide_eq_true (List.all_eq_true.mp (List.all_eq_true.mp h3 i (List.mem_range.mpr hi)) j (List.mem_range.mpr hj))
end K54
set_option Elab.async false
set_option linter.all false
set_option maxRecDepth 100000
set_option maxHeartbeats 4000000
namespace K54
open PySem PySem.Spec PyProof.Rows
open L2
section
variable {K : PySem.W.Frag} {mg : Str → Option Value} {h : Heap}
structure ClsC (K : PySem.W.Frag) (C c14 : Addr) : Prop where
  cl : (PySem.W.clsIn K C).isSome = true
  ga : PySem.W.findIn K (.ref C) "__getattribute__" = some (some (.builtin "BaseException.__getattribute__"))
  gt : PySem.W.findIn K (.ref C) "__getattr__" = some none
  sb : PySem.W.subIn K (.ref C) (.type "BaseException") = some true
  ca : PySem.W.findIn K (.ref C) "__class__" = some (some (.builtin "object.__class__"))
  mo : PySem.W.mroIn K C (.type "object") = some true
  kp : PySem.W.keepIn K (.ref C) = true
  kv : PySem.W.kitOne K (.ref C) (.type "ValueError") = some true
  kb : PySem.W.kitAny K (.ref C) badT = some false
  kl : PySem.W.kitOne K (.ref C) (.ref c14) = some true
theorem clsC_ok {C c14 : Addr} (e : clsC K C c14 = true) : ClsC K C c14 := by
  obtain ⟨h1, e⟩ := Bool.and_eq_true_iff.mp e
  obtain ⟨h2, e⟩ := Bool.and_eq_true_iff.mp e
  obtain ⟨h3, e⟩ := Bool.and_eq_true_iff.mp e
  obtain ⟨h4, e⟩ := Bool.and_eq_true_iff.mp e
  obtain ⟨h5, e⟩ := Bool.and_eq_true_iff.mp e
  obtain ⟨h6, e⟩ := Bool.and_eq_true_iff.mp e
  obtain ⟨h7, e⟩ := Bool.and_eq_true_iff.mp e
  obtain ⟨h8, e⟩ := Bool.and_eq_true_iff.mp e
  obtain ⟨h9, h10⟩ := Bool.and_eq_true_iff.mp e
  exact ⟨h1, of_decide_eq_true h2, of_decide_eq_true h3, of_decide_eq_true h4, of_decide_eq_true h5, of_decide_eq_true h6, h7, of_decide_eq_true h8, of_decide_eq_true h9, of_decide_eq_true h10⟩
theorem txt_of {l : List Addr} {fI : Addr} (A : AllC K l) (X : K.In h) (G : h.Ns mainGlobals mg) (ox : OexC K (l.getD 13 0)) (hd : PySem.W.hasDictIn K (l.getD 13 0) = true)
    (iC : PySem.W.findIn K (.ref (l.getD 13 0)) "__init__" = some (some (.ref fI))) (tI : PySem.W.typeIn K (.ref fI) = some (.type "function")) : Txt K mg (fun i => l.getD i 0) fI := by
  have c := fun i (hi : i < 15) => clsC_ok (A.cl i hi)
  have c13 := c 13 (by decide)
  refine ⟨fun i x e => ?_, fun i hi => ⟨(c i hi).cl, (c i hi).ga, (c i hi).gt, (c i hi).sb, (c i hi).ca, (c i hi).mo, A.sp, A.tk⟩, A.ex, fun i hi => (c i hi).kp, A.kt, fun i hi => (c i hi).kl, fun i hi => (c i hi).kv, fun i hi => (c i hi).kb, ox,
    ⟨c13.ga, c13.gt, c13.sb, hd⟩, A.nn, iC, tI, fun x hx => PySem.W.mg_none_of X G (A.bn x hx)⟩
  obtain ⟨hi, e2⟩ := List.getElem?_eq_some_iff.mp e
  have hi2 : i < 15 := hi
  have z := A.ns i hi2
  have e3 : cnames.getD i "" = x := by
    rw [List.getD_eq_getElem?_getD, e]
    rfl
  rw [e3] at z
  exact PySem.W.mg_of X G z
/-- one def at the top -/
structure Top (K : PySem.W.Frag) (mg : Str → Option Value) (x : Str) (st : Stmt) (f : Addr) (fd : FuncData) : Prop where
  F : Fun K x x st f fd
  g : mg x = some (.ref f)
theorem top_mk {x : Str} {st : Stmt} {f : Addr} {oc kV dc pm cd ct : Value} {od an : Option Addr} {sl : Array (Option Value)} (X : K.In h) (G : h.Ns mainGlobals mg)
    (a : PySem.W.nsIn K mainGlobals x = some (some (.ref f))) (l : K.lookup f = some ⟨oc, od, .func (PySem.W.fnOf x x (defArgs st) (defBody st) (defScope st) .none kV dc pm an cd ct), sl⟩)
    (c : PySem.W.codeIn K cd x = true) (k : PySem.W.keepIn K (.ref f) = true) : ∃ fd, Top K mg x st f fd := ⟨_, fun_mk (st := st) l c k, PySem.W.mg_of X G a⟩
theorem init_mk {f T : Addr} {oc kV dc pm cd ct o1 : Value} {od an o2 : Option Addr} {sl o4 : Array (Option Value)} {n : Nat}
    (l : K.lookup f = some ⟨oc, od, .func (PySem.W.fnOf "__init__" "Missing.__init__" (defArgs sInit) (defBody sInit) (defScope sInit) (.ref T) kV dc pm an cd ct), sl⟩)
    (lT : K.lookup T = some ⟨o1, o2, .seq #[.none] n, o4⟩) (c : PySem.W.codeIn K cd "Missing.__init__" = true) (k : PySem.W.keepIn K (.ref f) = true) : ∃ fd, FunI K f fd :=
  ⟨_, ⟨⟨oc, od, .ref T, kV, dc, pm, an, cd, ct, sl, rfl, l, c, .inr ⟨List.cons_ne_nil _ _, T, _, [.none], n, rfl, lT, rfl, .cons rfl .nil⟩, .inl rfl⟩, k⟩⟩
end
theorem bind_law {K : PySem.W.Frag} {f : Addr} {fd : FuncData} (F : Fun K "law" "law" sLaw f fd) (s : Shared) (u : Value) : BindsTo s fd ⟨[u], []⟩ [("script", u)] := by
  obtain ⟨oc, od, kV, doc, pm, an, cdv, ct, osl, rfl, lk, hcd⟩ := F.ex
  exact .of_eq rfl
theorem law_mk {P : Program} {w : World} {K : PySem.W.Frag} {mg : Str → Option Value} {h : Heap} {l : List Addr} {fI fM fC fS fK fB fT fA fG fL fa : Addr} (X : K.In h) (G : h.Ns mainGlobals mg) (hfa : mg "law" = some (.ref fa))
    (A : allC K l = true) (ox : OexC K (l.getD 13 0)) (hd : PySem.W.hasDictIn K (l.getD 13 0) = true)
    (iC : PySem.W.findIn K (.ref (l.getD 13 0)) "__init__" = some (some (.ref fI))) (tI : PySem.W.typeIn K (.ref fI) = some (.type "function"))
    (eI : ∃ fd, FunI K fI fd) (eM : ∃ fd, Top K mg "_law_mixed" sMixed fM fd) (eC : ∃ fd, Top K mg "_law_cell" sCell fC fd) (eS : ∃ fd, Top K mg "_law_take" sTake fS fd) (eK : ∃ fd, Top K mg "_law_kinds" sKinds fK fd)
    (eB : ∃ fd, Top K mg "_law_bare" sBare fB fd) (eT : ∃ fd, Top K mg "_law_told" sTold fT fd) (eA : ∃ fd, Top K mg "_law_all_good" sAllG fA fd) (eG : ∃ fd, Top K mg "_law_missing_good" sMisG fG fd) (eL : ∃ fd, Top K mg "law" sLaw fL fd) :
    ∃ fd : FuncData, (∀ (s : Shared) (u : Value), BindsTo s fd ⟨[u], []⟩ [("script", u)]) ∧ ∀ base : Heap, K.In base → base.Ns mainGlobals mg → FnG P w K mg base 4 fa fd ["script"] (spLaw K) := by
  have AC := allC_ok A
  have T := txt_of AC X G ox hd iC tI
  obtain ⟨dI, FI⟩ := eI
  obtain ⟨dM, TM⟩ := eM
  obtain ⟨dC, TC⟩ := eC
  obtain ⟨dS, TS⟩ := eS
  obtain ⟨dK, TK⟩ := eK
  obtain ⟨dB, TB⟩ := eB
  obtain ⟨dT, TT⟩ := eT
  obtain ⟨dA, TA⟩ := eA
  obtain ⟨dG, TG⟩ := eG
  obtain ⟨dL, TL⟩ := eL
  have e := hfa.symm.trans TL.g
  cases e
  have DM : Def K mg "_law_mixed" fM dM ["cell", "k"] := ⟨TM.g, TM.F.kp, TM.F.binds (ps := ["cell", "k"]) fun _ _ _ _ _ _ us hl => match us, hl with | [_, _], _ => rfl⟩
  have DC : Def K mg "_law_cell" fC dC ["script", "k"] := ⟨TC.g, TC.F.kp, TC.F.binds (ps := ["script", "k"]) fun _ _ _ _ _ _ us hl => match us, hl with | [_, _], _ => rfl⟩
  have DS : Def K mg "_law_take" fS dS ["own", "options"] := ⟨TS.g, TS.F.kp, TS.F.binds (ps := ["own", "options"]) fun _ _ _ _ _ _ us hl => match us, hl with | [_, _], _ => rfl⟩
  have DK : Def K mg "_law_kinds" fK dK ["error"] := ⟨TK.g, TK.F.kp, TK.F.binds (ps := ["error"]) fun _ _ _ _ _ _ us hl => match us, hl with | [_], _ => rfl⟩
  have DB : Def K mg "_law_bare" fB dB [] := ⟨TB.g, TB.F.kp, TB.F.binds (ps := []) fun _ _ _ _ _ _ us hl => match us, hl with | [], _ => rfl⟩
  have DT : Def K mg "_law_told" fT dT ["one"] := ⟨TT.g, TT.F.kp, TT.F.binds (ps := ["one"]) fun _ _ _ _ _ _ us hl => match us, hl with | [_], _ => rfl⟩
  have DA : Def K mg "_law_all_good" fA dA ["errors"] := ⟨TA.g, TA.F.kp, TA.F.binds (ps := ["errors"]) fun _ _ _ _ _ _ us hl => match us, hl with | [_], _ => rfl⟩
  have DG : Def K mg "_law_missing_good" fG dG ["thing"] := ⟨TG.g, TG.F.kp, TG.F.binds (ps := ["thing"]) fun _ _ _ _ _ _ us hl => match us, hl with | [_], _ => rfl⟩
  exact ⟨dL, bind_law TL.F, fun base _ _ => ok_law TL.F ⟨fK, fB, fT, fA, fG, fC, fS, dK, dB, dT, dA, dG, dC, dS, T, AC.kn, FI, ok_init FI T, ok_kinds TK.F T, DK, ok_bare TB.F T, DB, ok_told TT.F T, DT, ok_allG TA.F T TK.F DK, DA,
    ok_misG TG.F T FI TK.F DK, DG, ok_cell TC.F T TM.F DM, DC, ok_take TS.F T, DS⟩⟩
/-- all of it, over what the top has written -/
theorem all_mk {P : Program} {w : World} {K : PySem.W.Frag} {mg : Str → Option Value} {h : Heap} {fa : Addr} {c0 c1 c2 c3 c4 c5 c6 c7 c8 c9 c10 c11 c12 c13 c14 fI fM fC fS fK fB fT fA fG fL : Addr} (X : K.In h) (G : h.Ns mainGlobals mg) (hfa : mg "law" = some (.ref fa))
    (n0 : PySem.W.nsIn K mainGlobals (cnames.getD 0 "") = some (some (.ref c0))) (n1 : PySem.W.nsIn K mainGlobals (cnames.getD 1 "") = some (some (.ref c1))) (n2 : PySem.W.nsIn K mainGlobals (cnames.getD 2 "") = some (some (.ref c2)))
    (n3 : PySem.W.nsIn K mainGlobals (cnames.getD 3 "") = some (some (.ref c3))) (n4 : PySem.W.nsIn K mainGlobals (cnames.getD 4 "") = some (some (.ref c4))) (n5 : PySem.W.nsIn K mainGlobals (cnames.getD 5 "") = some (some (.ref c5)))
    (n6 : PySem.W.nsIn K mainGlobals (cnames.getD 6 "") = some (some (.ref c6))) (n7 : PySem.W.nsIn K mainGlobals (cnames.getD 7 "") = some (some (.ref c7))) (n8 : PySem.W.nsIn K mainGlobals (cnames.getD 8 "") = some (some (.ref c8)))
    (n9 : PySem.W.nsIn K mainGlobals (cnames.getD 9 "") = some (some (.ref c9))) (n10 : PySem.W.nsIn K mainGlobals (cnames.getD 10 "") = some (some (.ref c10))) (n11 : PySem.W.nsIn K mainGlobals (cnames.getD 11 "") = some (some (.ref c11)))
    (n12 : PySem.W.nsIn K mainGlobals (cnames.getD 12 "") = some (some (.ref c12))) (n13 : PySem.W.nsIn K mainGlobals (cnames.getD 13 "") = some (some (.ref c13))) (n14 : PySem.W.nsIn K mainGlobals (cnames.getD 14 "") = some (some (.ref c14)))
    {nm q : Str} {N : Addr} {bs bm sub : List Value} {sn : List Str} {ab : Bool} {col : Option Bool} {dd : Option Addr} {k0 k1 k2 k3 k5 : Option Value}
    (oC : K.lookup c13 = some (excClassObj nm q c13 N bs bm true sn sub ab col dd k0 k1 k2 k3 k5 "ValueError.__new__")) (oB : PySem.HandSPX.refsVE bm = true)
    (sa : PySem.W.findIn K (.ref c13) "__setattr__" = some (some (.builtin "object.__setattr__"))) (sb : PySem.W.subIn K (.ref c13) (.type "BaseException") = some true) (ty : PySem.W.typeIn K (.ref c13) = some (.type "type")) (kp : PySem.W.keepIn K (.ref c13) = true)
    (hd : PySem.W.hasDictIn K c13 = true) (iC : PySem.W.findIn K (.ref c13) "__init__" = some (some (.ref fI))) (tI : PySem.W.typeIn K (.ref fI) = some (.type "function"))
    (A : allC K [c0, c1, c2, c3, c4, c5, c6, c7, c8, c9, c10, c11, c12, c13, c14] = true)
    (eI : ∃ fd, FunI K fI fd) (eM : ∃ fd, Top K mg "_law_mixed" sMixed fM fd) (eC : ∃ fd, Top K mg "_law_cell" sCell fC fd) (eS : ∃ fd, Top K mg "_law_take" sTake fS fd) (eK : ∃ fd, Top K mg "_law_kinds" sKinds fK fd)
    (eB : ∃ fd, Top K mg "_law_bare" sBare fB fd) (eT : ∃ fd, Top K mg "_law_told" sTold fT fd) (eA : ∃ fd, Top K mg "_law_all_good" sAllG fA fd) (eG : ∃ fd, Top K mg "_law_missing_good" sMisG fG fd) (eL : ∃ fd, Top K mg "law" sLaw fL fd) :
    ∃ fd : FuncData, (∀ (s : Shared) (u : Value), BindsTo s fd ⟨[u], []⟩ [("script", u)]) ∧ ∀ base : Heap, K.In base → base.Ns mainGlobals mg → FnG P w K mg base 4 fa fd ["script"] (spLaw K) :=
  law_mk (l := [c0, c1, c2, c3, c4, c5, c6, c7, c8, c9, c10, c11, c12, c13, c14]) X G hfa A ⟨⟨nm, q, N, bs, bm, sn, sub, ab, col, dd, k0, k1, k2, k3, k5, oC, oB⟩, sa, sb, ty, kp⟩ hd iC tI eI eM eC eS eK eB eT eA eG eL
end K54
open PySem PySem.W PyProof.Rows
set_option Elab.async false
set_option maxRecDepth 100000 in
set_option maxHeartbeats 0 in
theorem PySem.Challenge.cw_leftfirst_k54_errors_created_holds : PySem.Challenge.rw_leftfirst_k54_errors_created.Holds := by
  w_on; o_law; k_head; (case hw => w_witness2)
  k_fill
  refine K54.walkG (l := PySem.Challenge.rw_leftfirst_k54_errors_created) (n := 63) (k := 4) (x := "script") rfl (by decide) rfl ⟨rfl, by decide, by decide⟩ (fun w h Y => PySem.W.kIn_of Y) ?F (by decide)
  case F =>
    intro w mg fa h KX G hmg
    refine' K54.all_mk KX G hmg ?n0 ?n1 ?n2 ?n3 ?n4 ?n5 ?n6 ?n7 ?n8 ?n9 ?n10 ?n11 ?n12 ?n13 ?n14 ?oC ?oB ?sa ?sb ?ty ?kp ?hd ?iC ?tI ?A ?eI ?eM ?eC ?eS ?eK ?eB ?eT ?eA ?eG ?eL
    (case n0 => k_is); (case n1 => k_is); (case n2 => k_is); (case n3 => k_is); (case n4 => k_is); (case n5 => k_is); (case n6 => k_is); (case n7 => k_is); (case n8 => k_is); (case n9 => k_is)
    (case n10 => k_is); (case n11 => k_is); (case n12 => k_is); (case n13 => k_is); (case n14 => k_is)
    (case oC => k_is); (case oB => decide +kernel); (case sa => k_is); (case sb => k_is); (case ty => k_is); (case kp => k_is); (case hd => k_is); (case iC => k_is); (case tI => k_is)
    (case A => kernel_rfl)
    (case eI => refine' K54.init_mk ?l ?lT ?c ?k; (case l => k_is); (case lT => k_is); (case c => k_is); (case k => k_is))
    (case eM => refine' K54.top_mk KX G ?a ?l ?c ?k; (case a => k_is); (case l => k_is); (case c => k_is); (case k => k_is))
    (case eC => refine' K54.top_mk KX G ?a ?l ?c ?k; (case a => k_is); (case l => k_is); (case c => k_is); (case k => k_is))
    (case eS => refine' K54.top_mk KX G ?a ?l ?c ?k; (case a => k_is); (case l => k_is); (case c => k_is); (case k => k_is))
    (case eK => refine' K54.top_mk KX G ?a ?l ?c ?k; (case a => k_is); (case l => k_is); (case c => k_is); (case k => k_is))
    (case eB => refine' K54.top_mk KX G ?a ?l ?c ?k; (case a => k_is); (case l => k_is); (case c => k_is); (case k => k_is))
    (case eT => refine' K54.top_mk KX G ?a ?l ?c ?k; (case a => k_is); (case l => k_is); (case c => k_is); (case k => k_is))
    (case eA => refine' K54.top_mk KX G ?a ?l ?c ?k; (case a => k_is); (case l => k_is); (case c => k_is); (case k => k_is))
    (case eG => refine' K54.top_mk KX G ?a ?l ?c ?k; (case a => k_is); (case l => k_is); (case c => k_is); (case k => k_is))
    (case eL => refine' K54.top_mk KX G ?a ?l ?c ?k; (case a => k_is); (case l => k_is); (case c => k_is); (case k => k_is))
