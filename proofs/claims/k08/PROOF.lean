import PyProof.Rows.All
import Wide.All
import OpenK.AllK
import Wide.FinOn
import HandS.ForMost
import HandS.ExcInit
import HandS.Wide
import HandS.WideBits
import HandS.Defaults
import HandS.MakeKw
import HandS.IsInst
import KE.KExcMake
import KE.KExcIs
import PySem.Challenge.RW_signlanes_k08_errors_by_their_classes
set_option Elab.async false
set_option linter.all false
set_option maxRecDepth 100000
set_option maxHeartbeats 4000000

namespace G1
open PySem PySem.W PySem.Calls PyProof.Rows PySem.HandSPX
section
variable {M : Model} {A : Around} {E : Value → Shared → Prop} {h : Heap} {g : Array GenState} {d : Drawn} {t : Nat} {os : OsState}
variable {nm q : Str} {C N : Addr} {bs bm bmB : List Value} {hdct : Bool} {sn : List Str} {sub : List Value} {ab : Bool} {col : Option Bool} {dd : Option Addr} {k0 k1 k2 k3 k5 : Option Value} {B newId initId : String}
/-- the check ahead of the new object, keywords too -/
theorem check_newK (F : ExcBaseFacts B newId initId bmB) (hT : ∀ X : String, bm.contains (.type X) = bmB.contains (.type X)) {rest : List Value} {kw : List (Str × Value)} {Q : Unit → Shared → Prop}
    (hC : h.get? C = some (excClassObj nm q C N bs bm hdct sn sub ab col dd k0 k1 k2 k3 k5 newId)) (hq : Q () ⟨h, g, d, t, os⟩) : wpAny M A (checkBuiltinCall newId ⟨.ref C :: rest, kw⟩) Q E ⟨h, g, d, t, os⟩ := by
  have hcont : (Value.ref C :: bm).contains (.type B) = true := by rw [List.contains_cons, hT, F.hasB, Bool.or_true]
  have hstar := F.noStar
  simp only [checkBuiltinCall, F.newKind, F.newSplit, F.newRow]
  repeat (first | refine wpAny_loadPart_at hC ?_ | (refine wpAny_isSubtype_exc hC ?_; rw [hcont]) | refine wpAny_staticBase_exc hC ?_ | refine wpAny_madeBy_exc hC ?_ | simp only [bne_self_eq_false, Bool.false_eq_true, if_false] | wp_step)
  exact hq
end
section
variable {prog : Program} {w : World} {A : Around} {E : Value → Shared → Prop} {R : Result → Shared → Prop} {h : Heap} {g : Array GenState} {d : Drawn} {t : Nat} {os : OsState}
variable {nm q : Str} {C N : Addr} {bs bm bmB : List Value} {hdct : Bool} {sn : List Str} {sub : List Value} {ab : Bool} {col : Option Bool} {dd : Option Addr} {k0 k1 k2 k3 k5 : Option Value} {B newId initId : String}
theorem newK (F : ExcBaseFacts B newId initId bmB) (hT : ∀ X : String, bm.contains (.type X) = bmB.contains (.type X)) {rest : List Value} {kw : List (Str × Value)}
    (hC : h.get? C = some (excClassObj nm q C N bs bm hdct sn sub ab col dd k0 k1 k2 k3 k5 newId))
    (hq : R (.ok (.ret (.ref (h.objs.size + 1)))) ⟨(h.push { cls := .type "tuple", data := .seq rest.toArray }).push
      { cls := .ref C, data := .fields #[.ref h.objs.size, .none, .none, .none, .bool false, .none] }, g, d, t, os⟩) (hrest : rest.length ≤ sizeLine) :
    codeAny (model prog w) A (.builtin newId ⟨.ref C :: rest, kw⟩) R ⟨h, g, d, t, os⟩ := by
  have hends := F.ends
  have hcB : (Value.ref C :: bm).contains (.type B) = true := by rw [List.contains_cons, hT, F.hasB, Bool.or_true]
  have hcA : (Value.ref C :: bm).contains (.type "AttributeError") = false := by rw [List.contains_cons, hT, F.noAttr]; rfl
  have hcN : (Value.ref C :: bm).contains (.type "NameError") = false := by rw [List.contains_cons, hT, F.noName]; rfl
  refine codeAny_builtinAt F.entry ?_
  unfold Builtin.«BaseException.__new__»
  refine PySem.wpAt_bind ?_
  show PySem.wpAt _ _ _ (stack >>= _) _ _ _
  refine PySem.wpAt_bind (PySem.wpAt_stack fun p below => PySem.wpAt_of_wpAny ?_)
  wp_walk
  refine PySem.wpAt_of_wpAny ?_
  rw [F.owner]
  repeat (first | with_reducible refine wpAny_madeHere_exc F.canon hC ?_ | with_reducible refine wpAny_loadPart_at hC ?_ | (with_reducible refine wpAny_isSubtype_exc hC ?_; first | rw [hcB] | rw [hcA] | rw [hcN]) | wp_step)
  show R _ _
  rw [Heap.size_push]
  exact hq
theorem type_callK (F : ExcBaseFacts B newId initId bmB) (hT : ∀ X : String, bm.contains (.type X) = bmB.contains (.type X)) {rest : List Value} {kw : List (Str × Value)} {fI : Addr} {Q : Fin → Shared → Prop}
    (hC : h.get? C = some (excClassObj nm q C N bs bm hdct sn sub ab col dd k0 k1 k2 k3 k5 newId))
    (hi : W.Looks (model prog w) h (typeLookup (.ref C) "__init__") (some (.ref fI))) (hb : ∀ self, W.Looks (model prog w) h (bindSpecial (.ref fI) self) (.ref fI, [self])) (hrest : rest.length ≤ sizeLine)
    (hq : codeAny (model prog w) A (.call (.ref fI) ⟨.ref (h.objs.size + 1) :: rest, kw⟩)
      (fun r s' => match r with | .ok (.ret v) => v = .none ∧ Q (.done (.ret (.ref (h.objs.size + 1)))) s' | .ok _ => False | .error e => E e s')
      ⟨(h.push (W.kdv_tup rest)).push (excO C h.objs.size), g, d, t, os⟩) :
    wpAny (model prog w) A (Builtin.«type.__call__» ⟨.ref C :: rest, kw⟩) Q E ⟨h, g, d, t, os⟩ := by
  repeat (first | with_reducible refine wpAny_loadPart_at hC ?_ | with_reducible refine wpAny_madeBy_exc hC ?_ | wp_step)
  refine codeAny_call_builtin_code (Code.quiet_builtin _ F.quiet) (check_newK F hT hC ?_)
  refine newK F hT hC ?_ hrest
  show wpAny _ _ _ _ _ _
  have k : ∀ b o, h.get? b = some o → ((h.push (W.kdv_tup rest)).push (excO C h.objs.size)).get? b = some o := fun b o e => Heap.get?_push_of_some _ (Heap.get?_push_of_some _ e)
  have hC₁ := k _ _ hC
  have hget : ((h.push (W.kdv_tup rest)).push (excO C h.objs.size)).get? (h.objs.size + 1) = some (excO C h.objs.size) := by heap_get
  have hcC : (Value.ref C :: bm).contains (.ref C) = true := by simp
  have i1 := hi.keeps k
  have b1 := (hb (.ref (h.objs.size + 1))).keeps k
  unfold isInstance
  repeat (first | with_reducible refine wpAny_loadPart_at hget ?_ | (with_reducible refine wpAny_isSubtype_exc hC₁ ?_; rw [hcC]) | wp_step)
  show wpAny _ _ (typeLookup (.ref C) _) _ _ _
  refine i1.at ?_
  refine wpAny_holding (wpAny_bind (b1.at ?_))
  refine wpAny_bind (wpAny_call (codeAny_mono hq fun r s' z => ?_))
  rcases r with e | (v | _ | _ | _) <;> first | exact z | exact z.elim | skip
  obtain ⟨rfl, z⟩ := z
  first
    | exact wpAny_pure (wpAny_pure z)
    | (wp_walk; exact z)
theorem callK (F : ExcBaseFacts B newId initId bmB) (hT : ∀ X : String, bm.contains (.type X) = bmB.contains (.type X)) {rest : List Value} {kw : List (Str × Value)} {fI : Addr}
    (hC : h.get? C = some (excClassObj nm q C N bs bm hdct sn sub ab col dd k0 k1 k2 k3 k5 newId))
    (hi : W.Looks (model prog w) h (typeLookup (.ref C) "__init__") (some (.ref fI))) (hb : ∀ self, W.Looks (model prog w) h (bindSpecial (.ref fI) self) (.ref fI, [self])) (hrest : rest.length ≤ sizeLine)
    (hq : codeAny (model prog w) (A.under (.builtin "type.__call__" ⟨.ref C :: rest, kw⟩)) (.call (.ref fI) ⟨.ref (h.objs.size + 1) :: rest, kw⟩) (W.InitBack (h.objs.size + 1) R)
      ⟨(h.push (W.kdv_tup rest)).push (excO C h.objs.size), g, d, t, os⟩) :
    codeAny (model prog w) A (.call (.ref C) ⟨rest, kw⟩) R ⟨h, g, d, t, os⟩ := by
  have f1 := tc_lookup
  have f2 := tc_bind (.ref C)
  have hTy : (⟨h, g, d, t, os⟩ : Shared).TypeIs (.ref C) "type" := ⟨_, hC, rfl⟩
  refine codeAny_of_tree ?_
  show wpAny _ _ (callAny (.ref C) _) _ _ _
  repeat (any_goals (first | assumption | with_reducible refine wpAny_loadPart_at hC ?_ | wp_step))
  refine ⟨rfl, ?_⟩
  refine codeAny_call_builtin_at (Code.quiet_builtin _ (by decide +kernel)) entry_typeCall (wpAny_check_type_call_sub hC (type_callK F hT hC hi hb hrest ?_))
  refine codeAny_mono hq fun r s' z => ?_
  rcases r with e | (v | _ | _ | _) <;> exact z
end
end G1

namespace G1
open PySem PySem.Spec PyProof.Rows L2
section
variable {X : Cx}
/-- ** within 2 ^ 27 bits -/
def CPowW (i j : Int) : Prop := 0 ≤ j ∧ (Builtin.Int.intBits i : Int) * j ≤ 2 ^ 27
theorem op_powW : OpR X (binaryOp .Pow) (rI CPowW fun i j => .int (i ^ j.toNat)) := opI fun _ _ _ _ _ _ _ hc q => pow_int hc.1 hc.2 q
end
/-- an exception class as the top has left it -/
structure XC (K : PySem.W.Frag) (C : Addr) : Prop where
  ox : OexC K C
  ga : PySem.W.findIn K (.ref C) "__getattribute__" = some (some (.builtin "BaseException.__getattribute__"))
  gg : PySem.W.findIn K (.ref C) "__getattr__" = some none
  cc : PySem.W.findIn K (.ref C) "__class__" = some (some (.builtin "object.__class__"))
  cn : PySem.W.specialIn K (.builtin "object.__class__") "__get__" = some (some (.builtin "getset_descriptor.__get__"))
  ct : PySem.W.takesIn K (.builtin "object.__class__") = some true
  cm : PySem.W.mroIn K C (.type "object") = some true
  hd : PySem.W.hasDictIn K C = true
  nv : PySem.W.findIn K (.ref C) "value" = some none
theorem XC.isC {K : PySem.W.Frag} {C : Addr} (T : XC K C) : (PySem.W.clsIn K C).isSome = true := by
  have h := T.hd
  unfold PySem.W.hasDictIn at h
  cases e : PySem.W.clsIn K C with
  | none => rw [e] at h; cases h
  | some _ => rfl
/-- an exception with its one field -/
def XAt (H : Hp) (a C : Addr) (v : V) : Prop := ∃ d, H a = some (exo a C (some d)) ∧ H d = some (exd d [(("value" : Str), v)])
/-- an exception, whatever it holds -/
def XAny (H : Hp) (a C : Addr) : Prop := ∃ od, H a = some (exo a C od) ∧ ∀ d, od = some d → ∃ fs, H d = some (exd d fs)
theorem XAt.any {H : Hp} {a C : Addr} {v : V} (h : XAt H a C v) : XAny H a C := by
  obtain ⟨d, h1, h2⟩ := h
  exact ⟨some d, h1, fun d' e => by cases e; exact ⟨_, h2⟩⟩
theorem XAny.inst {P : Program} {w : World} {H : Hp} {h : Heap} {a C : Addr} (hok : HOk P w H h) (x : XAny H a C) : ∃ ox od, PySem.W.InstAt h a ox C od := by
  obtain ⟨od, h1, h2⟩ := x
  obtain ⟨t1, e1⟩ := exo_at hok h1
  cases od with
  | none => exact ⟨_, none, ⟨e1, rfl, rfl, trivial⟩⟩
  | some d =>
    obtain ⟨fs, h3⟩ := h2 d rfl
    obtain ⟨mA, ⟨o, es, ep, ho, _⟩, _⟩ := exd_at hok h3
    exact ⟨_, some o, ⟨e1, rfl, rfl, ho⟩⟩
/-- isinstance(e, c), e an exception -/
def rIsX (K : PySem.W.Frag) : List V → Hp → VK → Prop := fun xs H Q => ∃ (a C : Addr) (c : V) (u : Value) (b : Bool), xs = [.ref a, c] ∧ XAny H a C ∧ XC K C ∧ ClsV c u ∧ PySem.W.kitOne K (.ref C) u = some b ∧ Q (.bl b) H
section
variable {X : Cx}
theorem call_isX : CallR X (.builtin "isinstance") (rIsX X.K) := by
  intro pins s σ H xs us Q I r h
  obtain ⟨a, C, c, u, b, rfl, hx, T, k, e, q⟩ := h
  obtain ⟨u1, u2, rfl, r1, r2⟩ := vals2 r
  have e2 := k.eq r2
  subst e2
  cases (show u1 = Value.ref a from r1)
  obtain ⟨ox, od, J⟩ := hx.inst I.hok
  exact PySem.W.kia_one (PySem.W.kitx_exc T.isC T.ga T.gg T.ox.exC T.cc T.cn T.ct T.cm) I.kIn J e (fun z => nomatch z) fun tk => ⟨.bl b, H, I.tok tk, rfl, q⟩
/-- either: a value of a built-in kind, or an exception -/
def rIsA (K : PySem.W.Frag) : List V → Hp → VK → Prop := fun xs H Q => rIsX K xs H Q ∨ rIsi K xs H Q
theorem call_isA : CallR X (.builtin "isinstance") (rIsA X.K) := by
  intro pins s σ H xs us Q I r h
  rcases h with h | h
  · exact call_isX pins s σ H xs us Q I r h
  · exact call_isi pins s σ H xs us Q I r h
/-- e.value -/
def tXv (K : PySem.W.Frag) (ta : TE) : TE := fun σ H Q => ta σ H fun x H1 => ∃ a C v, x = .ref a ∧ XAt H1 a C v ∧ XC K C ∧ Q v H1
theorem pe_xv {e : Expr} {ta : TE} {pos : Pos} (he : PE X e ta) (hb : attributeBase e "value" X.env (eval e X.env) = eval e X.env := by rfl) : PE X (.Attribute e "value" pos) (tXv X.K ta) := by
  refine ⟨fun pins s σ H Q I h => ?_⟩
  refine attr_of hb (thn (he.run pins s σ H _ I h) fun u s1 ⟨x, H1, I1, rx, a, C, v, ex, ⟨d, h1, h2⟩, T, q⟩ => ?_)
  subst ex
  obtain rfl : u = Value.ref a := rx
  obtain ⟨t1, e1⟩ := exo_at I1.hok h1
  obtain ⟨mA, hns, hr⟩ := exd_at I1.hok h2
  obtain ⟨od, ho, hl⟩ := lookIn_ns hns
  have l : List.lookup ("value" : Str) [(("value" : Str), v)] = some v := by simp [List.lookup]
  obtain ⟨u, hu, ru⟩ := RelO.some_of (v := v) (o := mA "value") (by rw [← l]; exact hr "value")
  have J : PySem.W.InstAt s1.heap a _ C (some od) := ⟨e1, rfl, rfl, ho⟩
  exact HandSPX.exc_get I1.kIn J T.ga T.gg T.ox.exC (PySem.W.findObj_own T.hd T.nv rfl (by rw [hl, hu])) (handed_of ru) ⟨v, H1, I1.tok _, ru, q⟩
end
/-- C(..) as a value: a new exception, then its __init__ -/
def tMkX (C : Addr) (sp : Sp) (dvs : List V) (t : TA) : TE := fun σ H Q => t σ H fun vs H1 => vs.length ≤ 1000 ∧ ∀ a, H1 a = none → sp (.ref a :: (vs ++ dvs)) (upd H1 a (exo a C none)) (fun v H2 => v = .non ∧ Q (.ref a) H2) (fun _ _ _ => False)
def tMkXK (C : Addr) (sp : Sp) (gV : List V → List V → List V) (tk : TA) : TE := fun σ H Q => tk σ H fun zs H1 => zs.length = 1 ∧ ∀ a, H1 a = none → sp (gV [.ref a] zs) (upd H1 a (exo a C none)) (fun v H2 => v = .non ∧ Q (.ref a) H2) (fun _ _ _ => False)
section
variable {X : Cx} {CX : CXT} {k : Nat} {fI C : Addr} {fd : FuncData} {ps : List Str} {sp : Sp} {dvs : List V} {ds : List Value} {x : Str} {p pos : Pos} {e : Expr} {es : List Expr} {t : TA}
theorem run_mkx {pins : List (Addr × Obj)} {σ : L2.St} {H : Hp} {s : Shared} {Q : VK} {us : List Value} {vs : List V} (T : OexC X.K C) (iC : PySem.W.findIn X.K (.ref C) "__init__" = some (some (.ref fI))) (tI : PySem.W.typeIn X.K (.ref fI) = some (.type "function"))
    (F1 : FnOk X.prog X.w X.K X.mg X.base CX k fI fd ps sp) (hr : Room (k + 1) X.A) (hb : Binds X.K fd ps ds) (hd : Vals dvs ds) (hx : Passes CX X (fun _ _ _ => False)) (I : Inv X pins σ H s) (r : Vals vs us) (hz : vs.length ≤ 1000)
    (h : ∀ a, H a = none → sp (.ref a :: (vs ++ dvs)) (upd H a (exo a C none)) (fun v H2 => v = .non ∧ Q (.ref a) H2) (fun _ _ _ => False)) :
    wpAny (model X.prog X.w) X.A (call (.ref C) us) (EP X pins σ Q) X.xe s := by
  obtain ⟨nm, q, N, bs, bm, sn, sub, ab, col, dd, k0, k1, k2, k3, k5, hC, hbm⟩ := T.cls
  obtain ⟨hp, g, dr, tk, os⟩ := s
  have hsz : hp.objs.size ≤ hp.objs.size + 1 := Nat.le_succ _
  have hn : H (hp.objs.size + 1) = none := I.hok.fresh hsz
  have hq := h (hp.objs.size + 1) hn
  have kk : ∀ b o, hp.get? b = some o → ((hp.push (PySem.W.kdv_tup us)).push (PySem.HandSPX.excO C hp.objs.size)).get? b = some o := fun b o e => Heap.get?_push_of_some _ (Heap.get?_push_of_some _ e)
  have hget : ((hp.push (PySem.W.kdv_tup us)).push (PySem.HandSPX.excO C hp.objs.size)).get? (hp.objs.size + 1) = some (PySem.HandSPX.excO C hp.objs.size) := by heap_get
  have I2 : Inv X pins σ (upd H (hp.objs.size + 1) (exo (hp.objs.size + 1) C none)) ⟨(hp.push (PySem.W.kdv_tup us)).push (PySem.HandSPX.excO C hp.objs.size), g, dr, tk, os⟩ :=
    I.laid (t' := tk) (a := hp.objs.size + 1) (o := exo (hp.objs.size + 1) C none) (h' := (hp.push (PySem.W.kdv_tup us)).push (PySem.HandSPX.excO C hp.objs.size)) kk hsz (exo_ok hget)
  have r2 : Vals (V.ref (hp.objs.size + 1) :: (vs ++ dvs)) (Value.ref (hp.objs.size + 1) :: (us ++ ds)) := .cons rfl (r.append hd)
  have hl : (Value.ref (hp.objs.size + 1) :: us ++ ds).length = ps.length := by
    have e := r2.length
    rw [F1.len _ _ _ _ hq] at e
    exact e.symm
  have hus : us.length ≤ sizeLine := by
    rw [← Paired.length r, sizeLine_eq]
    omega
  refine wpAny_call (PySem.HandSPX.call_own F.excBase_ValueError (fun Y => PySem.HandSPX.refsVE_contains Y bm hbm) (I.kIn _ _ hC) (PySem.W.looks_findIn I.kIn iC) (fun self => PySem.W.bind_fn I.kIn self tI) hus
    (codeAny_mono (F1.run _ X.stack _ _ ⟨Value.ref (hp.objs.size + 1) :: us, []⟩ (Value.ref (hp.objs.size + 1) :: (us ++ ds)) _ _ (fun _ _ _ => False) (hr.make C us []) (I2.env0.make C us []) (hb _ (Value.ref (hp.objs.size + 1) :: us) I2.kIn hl) r2 hq) fun r s' hq' => ?_))
  cases r with
  | error er => exact hx pins σ _ _ er s' I2 hq'
  | ok fl =>
    cases fl with
    | ret u =>
      obtain ⟨v, H', I3, rv, ev, q3⟩ := I2.after hq'
      subst ev
      exact ⟨rv, ⟨V.ref (hp.objs.size + 1), H', I3, rfl, q3⟩⟩
    | next => exact False.elim hq'
    | brk => exact False.elim hq'
    | cont => exact False.elim hq'
theorem pe_mkx (T : OexC X.K C) (iC : PySem.W.findIn X.K (.ref C) "__init__" = some (some (.ref fI))) (tI : PySem.W.typeIn X.K (.ref fI) = some (.type "function"))
    (F1 : FnOk X.prog X.w X.K X.mg X.base CX k fI fd ps sp) (hr : Room (k + 1) X.A) (hb : Binds X.K fd ps ds) (hd : Vals dvs ds) (hx : Passes CX X (fun _ _ _ => False)) (hg : Gl X x) (hm : X.mg x = some (.ref C)) (ha : PA X (e :: es) t)
    (hdb : (x == ("__debug__" : Str)) = false := by decide) (he : starEach (e :: es) X.env = (false, eval e X.env) :: starEach es X.env := by rfl) (hpl : (backTo pos (starEach es X.env)).any (·.1) = false := by rfl) :
    PE X (.Call (.Name x p) (e :: es) [] pos) (tMkX C sp dvs t) := by
  refine ⟨fun pins s σ H Q I h => ?_⟩
  refine wpAny_Call_Name_kw (ld_glob I hg hm ?_ hdb)
  refine PySem.W.callWith_K (h₀ := X.base) I.ok.mod.kin T.kC (thn (ha.run pos pins s σ H _ I h) fun us s1 ⟨vs, H1, I1, r, hz, q⟩ => ⟨I1.kIn, ?_⟩) he hpl
  exact run_mkx T iC tI F1 hr hb hd hx I1 r hz q
theorem pe_mkx0 (T : OexC X.K C) (iC : PySem.W.findIn X.K (.ref C) "__init__" = some (some (.ref fI))) (tI : PySem.W.typeIn X.K (.ref fI) = some (.type "function"))
    (F1 : FnOk X.prog X.w X.K X.mg X.base CX k fI fd ps sp) (hr : Room (k + 1) X.A) (hb : Binds X.K fd ps ds) (hd : Vals dvs ds) (hx : Passes CX X (fun _ _ _ => False)) (hg : Gl X x) (hm : X.mg x = some (.ref C))
    (hdb : (x == ("__debug__" : Str)) = false := by decide) : PE X (.Call (.Name x p) [] [] pos) (tMkX C sp dvs tNil) := by
  refine ⟨fun pins s σ H Q I h => ?_⟩
  refine wpAny_Call_Name_kw (ld_glob I hg hm ?_ hdb)
  exact PySem.W.callWith_K0 I.kIn T.kC (run_mkx (us := []) T iC tI F1 hr hb hd hx I .nil (Nat.zero_le _) h.2)
end
section
variable {X : Cx} {CX : CXT} {k : Nat} {fI C : Addr} {fd : FuncData} {ps ks : List Str} {sp : Sp} {x : Str} {p pos : Pos} {kws : List Keyword} {tk : TA} {g : List Value → List Value → List Value} {gV : List V → List V → List V}
theorem run_mkxK {pins : List (Addr × Obj)} {σ : L2.St} {H2 : Hp} {s2 : Shared} {Q : VK} {ws : List Value} {zs : List V} (T : OexC X.K C) (iC : PySem.W.findIn X.K (.ref C) "__init__" = some (some (.ref fI))) (tI : PySem.W.typeIn X.K (.ref fI) = some (.type "function"))
    (F1 : FnOk X.prog X.w X.K X.mg X.base CX k fI fd ps sp) (hr : Room (k + 1) X.A) (hb : KBn X.K fd ps 1 ks g gV) (hx : Passes CX X (fun _ _ _ => False)) (I2' : Inv X pins σ H2 s2) (rz : Vals zs ws) (l2 : zs.length = 1) (hk1 : ks.length = 1)
    (q2 : ∀ a, H2 a = none → sp (gV [.ref a] zs) (upd H2 a (exo a C none)) (fun v H3 => v = .non ∧ Q (.ref a) H3) (fun _ _ _ => False)) :
    wpAny (model X.prog X.w) X.A (call (.ref C) [] (ks.zip ws)) (EP X pins σ Q) X.xe s2 := by
  obtain ⟨nm, q, N, bs, bm, sn, sub, ab, col, dd, k0, k1, k2, k3, k5, hC, hbm⟩ := T.cls
  obtain ⟨hp, g', dr, tk, os⟩ := s2
  have hsz : hp.objs.size ≤ hp.objs.size + 1 := Nat.le_succ _
  have hn : H2 (hp.objs.size + 1) = none := I2'.hok.fresh hsz
  have hq := q2 (hp.objs.size + 1) hn
  have kk : ∀ b o, hp.get? b = some o → ((hp.push (PySem.W.kdv_tup [])).push (PySem.HandSPX.excO C hp.objs.size)).get? b = some o := fun b o e => Heap.get?_push_of_some _ (Heap.get?_push_of_some _ e)
  have hget : ((hp.push (PySem.W.kdv_tup [])).push (PySem.HandSPX.excO C hp.objs.size)).get? (hp.objs.size + 1) = some (PySem.HandSPX.excO C hp.objs.size) := by heap_get
  have I2 : Inv X pins σ (upd H2 (hp.objs.size + 1) (exo (hp.objs.size + 1) C none)) ⟨(hp.push (PySem.W.kdv_tup [])).push (PySem.HandSPX.excO C hp.objs.size), g', dr, tk, os⟩ :=
    I2'.laid (t' := tk) (a := hp.objs.size + 1) (o := exo (hp.objs.size + 1) C none) (h' := (hp.push (PySem.W.kdv_tup [])).push (PySem.HandSPX.excO C hp.objs.size)) kk hsz (exo_ok hget)
  have r1 : Vals [V.ref (hp.objs.size + 1)] [Value.ref (hp.objs.size + 1)] := .cons rfl .nil
  have r2 := hb.rel r1 rz
  refine wpAny_call (callK F.excBase_ValueError (fun Y => PySem.HandSPX.refsVE_contains Y bm hbm) (I2'.kIn _ _ hC) (PySem.W.looks_findIn I2'.kIn iC) (fun self => PySem.W.bind_fn I2'.kIn self tI) (Nat.zero_le _)
    (codeAny_mono (F1.run _ X.stack _ _ ⟨[Value.ref (hp.objs.size + 1)], ks.zip ws⟩ (g [Value.ref (hp.objs.size + 1)] ws) _ _ (fun _ _ _ => False) (hr.make C [] (ks.zip ws)) (I2.env0.make C [] (ks.zip ws)) (hb.to _ [Value.ref (hp.objs.size + 1)] ws I2.kIn rfl (rz.length.symm.trans (l2.trans hk1.symm))) r2 hq) fun r s' hq' => ?_))
  cases r with
  | error er => exact hx pins σ _ _ er s' I2 hq'
  | ok fl =>
    cases fl with
    | ret u =>
      obtain ⟨v, H', I3, rv, ev, q3⟩ := I2.after hq'
      subst ev
      exact ⟨rv, ⟨V.ref (hp.objs.size + 1), H', I3, rfl, q3⟩⟩
    | next => exact False.elim hq'
    | brk => exact False.elim hq'
    | cont => exact False.elim hq'
theorem pe_mkxK (T : OexC X.K C) (iC : PySem.W.findIn X.K (.ref C) "__init__" = some (some (.ref fI))) (tI : PySem.W.typeIn X.K (.ref fI) = some (.type "function"))
    (F1 : FnOk X.prog X.w X.K X.mg X.base CX k fI fd ps sp) (hr : Room (k + 1) X.A) (hb : KBn X.K fd ps 1 ks g gV) (hx : Passes CX X (fun _ _ _ => False)) (hg : Gl X x) (hm : X.mg x = some (.ref C)) (hkw : PK X kws tk) (hk1 : ks.length = 1)
    (hall : (backToKw pos (keywordEach kws X.env)).all (·.1.isSome) = true := by rfl) (hks : (backToKw pos (keywordEach kws X.env)).filterMap (·.1) = ks := by rfl) (hdb : (x == ("__debug__" : Str)) = false := by decide)
    (hpl : ((backTo pos (starEach [] X.env)).any (·.1) || (backToKw pos (keywordEach kws X.env)).any (·.1.isNone)) = false := by rfl) :
    PE X (.Call (.Name x p) [] kws pos) (tMkXK C sp gV tk) := by
  refine ⟨fun pins s σ H Q I h => ?_⟩
  refine wpAny_Call_Name_kw (ld_glob I hg hm ?_ hdb)
  refine PySem.W.callWith_KW0 (h₀ := X.base) I.ok.mod.kin T.kC hall ?_ hpl
  refine thn (hkw.run pos pins s σ H _ I h) fun ws s2 ⟨zs, H2, I2', rz, l2, q2⟩ => ⟨I2'.kIn, ?_⟩
  rw [hks]
  exact run_mkxK T iC tI F1 hr hb hx I2' rz l2 hk1 q2
end
/-- C() of a class without an own __init__ -/
def tMkN (C : Addr) : TE := fun _ H Q => ∀ a, H a = none → Q (.ref a) (upd H a (exo a C none))
section
variable {X : Cx} {C : Addr} {x : Str} {p pos : Pos}
theorem pe_mkn (T : OexC X.K C) (iC : PySem.W.findIn X.K (.ref C) "__init__" = some (some (.builtin "ValueError.__init__"))) (hg : Gl X x) (hm : X.mg x = some (.ref C))
    (hdb : (x == ("__debug__" : Str)) = false := by decide) : PE X (.Call (.Name x p) [] [] pos) (tMkN C) := by
  refine ⟨fun pins s σ H Q I h => ?_⟩
  refine wpAny_Call_Name_kw (ld_glob I hg hm ?_ hdb)
  refine PySem.W.callWith_K0 I.kIn T.kC ?_
  obtain ⟨nm, q, N, bs, bm, sn, sub, ab, col, dd, k0, k1, k2, k3, k5, hC, hbm⟩ := T.cls
  obtain ⟨hp, g, dr, tk, os⟩ := s
  refine PySem.W.call_B F.excBase_ValueError (fun Y => PySem.HandSPX.refsVE_contains Y bm hbm) (I.kIn _ _ hC) (PySem.W.looks_findIn I.kIn iC) (Nat.zero_le _) fun h' k e1 e2 => ?_
  have hsz : hp.objs.size ≤ hp.objs.size + 1 := Nat.le_succ _
  have hn : H (hp.objs.size + 1) = none := I.hok.fresh hsz
  exact ⟨.ref (hp.objs.size + 1), _, I.laid (t' := tk) (a := hp.objs.size + 1) (o := exo (hp.objs.size + 1) C none) (h' := h') k hsz (exo_ok e1), rfl, h _ hn⟩
end
end G1

namespace G1
open PySem PySem.Spec PyProof.Rows L2
/-- a def under its name keeps a promise -/
def OkD (P : Program) (w : World) (K : PySem.W.Frag) (mg : Str → Option Value) (base : Heap) (k : Nat) (x : Str) (ps : List Str) (sp : Sp) : Prop :=
  ∃ f fd, FnOk P w K mg base CX0 k f fd ps sp ∧ mg x = some (.ref f) ∧ PySem.W.keepIn K (.ref f) = true ∧ L2.Binds K fd ps []
/-- a def as the top has left it -/
def Src (K : PySem.W.Frag) (mg : Str → Option Value) (x : Str) (st : Stmt) : Prop := ∃ f fd, Fun K x x st f fd ∧ mg x = some (.ref f)
theorem src_mk {K : PySem.W.Frag} {h : Heap} {mg : Str → Option Value} {x : Str} {st : Stmt} {f : Addr} {oc : Value} {od an : Option Addr} {osl : Array (Option Value)} {kV doc pm cdv ct : Value} (X : K.In h) (G : h.Ns mainGlobals mg)
    (a : PySem.W.nsIn K mainGlobals x = some (some (.ref f))) (l : K.lookup f = some ⟨oc, od, .func (PySem.W.fnOf x x (defArgs st) (defBody st) (defScope st) .none kV doc pm an cdv ct), osl⟩)
    (c : PySem.W.codeIn K cdv x = true) (k : PySem.W.keepIn K (.ref f) = true) : Src K mg x st := ⟨f, _, fun_mk l c k, PySem.W.mg_of X G a⟩
section
variable {P : Program} {w : World} {K : PySem.W.Frag} {mg : Str → Option Value} {base : Heap} {x : Str} {st : Stmt} {N ps : List Str} {k : Nat} {sp : Sp}
theorem okd (S : Src K mg x st) (F : ∀ f fd, Fun K x x st f fd → FnOk P w K mg base CX0 k f fd ps sp)
    (h : ∀ (kV doc pm : Value) (an : Option Addr) (cdv ct : Value) (us : List Value), us.length = ps.length → bindArgs (PySem.W.fnOf x x (defArgs st) (defBody st) (defScope st) .none kV doc pm an cdv ct) ⟨us, []⟩ = pure (ps.zip us)) : OkD P w K mg base k x ps sp := by
  obtain ⟨f, fd, F1, g⟩ := S
  exact ⟨f, fd, F f fd F1, g, F1.kp, F1.binds h⟩
end
section
variable {X : Cx} {k j : Nat} {x : Str} {ps : List Str} {sp : Sp} {p pos : Pos} {e : Expr} {es : List Expr} {t : TA}
/-- a call of such a def -/
def tCallO (sp : Sp) (t : TA) : TE := fun σ H Q => t σ H fun vs H1 => sp vs H1 Q (fun _ _ _ => False)
theorem pe_callO (C : OkD X.prog X.w X.K X.mg X.base k x ps sp) (hr : Room k X.A) (hg : Gl X x) (ha : PA X (e :: es) t)
    (hdb : (x == ("__debug__" : Str)) = false := by decide) (he : starEach (e :: es) X.env = (false, eval e X.env) :: starEach es X.env := by rfl) (hpl : (backTo pos (starEach es X.env)).any (·.1) = false := by rfl) :
    PE X (.Call (.Name x p) (e :: es) [] pos) (tCallO sp t) := by
  obtain ⟨f, fd, F, hm, hk, hb⟩ := C
  have z := pe_call (dvs := []) (E := fun _ _ _ => False) (p := p) F hr hg hm hk hb .nil pass0 ha hdb he hpl
  refine ⟨fun pins s σ H Q I h => z.run pins s σ H Q I ?_⟩
  have e : (fun (vs : List V) H1 => sp (vs ++ []) H1 Q (fun _ _ _ => False)) = fun vs H1 => sp vs H1 Q (fun _ _ _ => False) := by
    funext vs H1
    rw [List.append_nil]
  show t σ H (fun vs H1 => sp (vs ++ []) H1 Q (fun _ _ _ => False))
  rw [e]
  exact h
theorem pe_callO0 (C : OkD X.prog X.w X.K X.mg X.base k x ps sp) (hr : Room k X.A) (hg : Gl X x) (hdb : (x == ("__debug__" : Str)) = false := by decide) :
    PE X (.Call (.Name x p) [] [] pos) (tCallO sp tNil) := by
  obtain ⟨f, fd, F, hm, hk, hb⟩ := C
  exact pe_call0 (dvs := []) (E := fun _ _ _ => False) (p := p) F hr hg hm hk hb .nil pass0 hdb
end
/-- a class of exceptions with the one field, by its name -/
structure XOk (P : Program) (w : World) (K : PySem.W.Frag) (mg : Str → Option Value) (base : Heap) (x : Str) (C : Addr) : Prop where
  xc : XC K C
  g : mg x = some (.ref C)
  ini : ∃ fI fd, PySem.W.findIn K (.ref C) "__init__" = some (some (.ref fI)) ∧ PySem.W.typeIn K (.ref fI) = some (.type "function") ∧
    FnOk P w K mg base CX0 1 fI fd ["self", "value"] (fun vs H Q _ => ∃ (a : Addr) (v : V), vs = [.ref a, v] ∧ H a = some (exo a C none) ∧ ∀ dx, H dx = none → dx ≠ a → Q .non (upd (upd H dx (exd dx [(("value" : Str), v)])) a (exo a C (some dx)))) ∧
    L2.Binds K fd ["self", "value"] [] ∧ (∃ ds, Vals [V.non] ds ∧ L2.Binds K fd ["self", "value"] ds) ∧ KBn K fd ["self", "value"] 1 ["value"] (fun us ws => us ++ ws) (fun vs zs => vs ++ zs)
/-- a class of exceptions without an own __init__ -/
structure XNk (K : PySem.W.Frag) (mg : Str → Option Value) (x : Str) (C : Addr) : Prop where
  xc : XC K C
  g : mg x = some (.ref C)
  i : PySem.W.findIn K (.ref C) "__init__" = some (some (.builtin "ValueError.__init__"))
theorem ne_none {H : Hp} {a b : Addr} {o : HO} (h : H b = some o) (n : H a = none) : b ≠ a := fun e => by
  rw [e, n] at h
  cases h
theorem same_upd {H : Hp} {p : Addr} {o : HO} (h : H p = none) : Same H (upd H p o) := fun b x e => by
  rw [upd_ne (ne_none e h)]
  exact e
/-- what is told of a new exception -/
def tXmk (C : Addr) (v : V) (H : Hp) (Q : VK) : Prop := ∀ a H', Same H H' → H a = none → XAt H' a C v → Q (.ref a) H'
section
variable {X : Cx} {x : Str} {C : Addr} {p pos : Pos} {e : Expr} {te : TE}
theorem xmk_of {H : Hp} {Q : VK} {v : V} (h : tXmk C v H Q) {a dx : Addr} (na : H a = none) (nd : (upd H a (exo a C none)) dx = none) (ne : dx ≠ a) :
    Q (.ref a) (upd (upd (upd H a (exo a C none)) dx (exd dx [(("value" : Str), v)])) a (exo a C (some dx))) := by
  have nd' : H dx = none := by rw [upd_ne ne] at nd; exact nd
  refine h a _ (fun b o q => ?_) na ⟨dx, upd_same, ?_⟩
  · rw [upd_ne (ne_none q na), upd_ne (ne_none q nd'), upd_ne (ne_none q na)]
    exact q
  · rw [upd_ne ne, upd_same]
/-- C(e), C(), C(value=e) -/
def tXm (C : Addr) (ta : TA) : TE := fun σ H Q => ta σ H fun vs H1 => ∃ v, vs = [v] ∧ tXmk C v H1 Q
theorem pe_xmk (T : XOk X.prog X.w X.K X.mg X.base x C) (hr : Room 2 X.A) (hg : Gl X x) {ta : TA} (ha : PA X [e] ta) (hdb : (x == ("__debug__" : Str)) = false := by decide)
    (hs : starEach (e :: []) X.env = (false, eval e X.env) :: starEach [] X.env := by rfl) (hpl : (backTo pos (starEach [] X.env)).any (·.1) = false := by rfl) :
    PE X (.Call (.Name x p) [e] [] pos) (tXm C ta) := by
  obtain ⟨fI, fd, iC, tI, F, b0, _, _⟩ := T.ini
  refine ⟨fun pins s σ H Q I h => ?_⟩
  refine wpAny_Call_Name_kw (ld_glob I hg T.g ?_ hdb)
  refine PySem.W.callWith_K (h₀ := X.base) I.ok.mod.kin T.xc.ox.kC (thn (ha.run pos pins s σ H _ I h) fun us s1 ⟨vs, H1, I1, r, v, ev, q⟩ => ⟨I1.kIn, ?_⟩) hs hpl
  subst ev
  refine run_mkx (dvs := []) T.xc.ox iC tI F hr b0 .nil pass0 I1 r (by show 1 ≤ 1000; decide) fun a na => ?_
  exact ⟨a, v, rfl, upd_same, fun dx nd ne => ⟨rfl, xmk_of q na nd ne⟩⟩
theorem pe_xmk0 (T : XOk X.prog X.w X.K X.mg X.base x C) (hr : Room 2 X.A) (hg : Gl X x) (hdb : (x == ("__debug__" : Str)) = false := by decide) :
    PE X (.Call (.Name x p) [] [] pos) (fun σ H Q => tXmk C .non H Q) := by
  obtain ⟨fI, fd, iC, tI, F, _, ⟨ds, rd, b1⟩, _⟩ := T.ini
  refine ⟨fun pins s σ H Q I h => ?_⟩
  refine wpAny_Call_Name_kw (ld_glob I hg T.g ?_ hdb)
  refine PySem.W.callWith_K0 I.kIn T.xc.ox.kC (run_mkx (us := []) (vs := []) T.xc.ox iC tI F hr b1 rd pass0 I .nil (Nat.zero_le _) fun a na => ?_)
  exact ⟨a, .non, rfl, upd_same, fun dx nd ne => ⟨rfl, xmk_of h na nd ne⟩⟩
theorem pe_xmkK (T : XOk X.prog X.w X.K X.mg X.base x C) (hr : Room 2 X.A) (hg : Gl X x) {kws : List Keyword} {tk : TA} (hkw : PK X kws tk)
    (hall : (backToKw pos (keywordEach kws X.env)).all (·.1.isSome) = true := by rfl) (hks : (backToKw pos (keywordEach kws X.env)).filterMap (·.1) = (["value"] : List Str) := by rfl) (hdb : (x == ("__debug__" : Str)) = false := by decide)
    (hpl : ((backTo pos (starEach [] X.env)).any (·.1) || (backToKw pos (keywordEach kws X.env)).any (·.1.isNone)) = false := by rfl) :
    PE X (.Call (.Name x p) [] kws pos) (tXm C tk) := by
  obtain ⟨fI, fd, iC, tI, F, _, _, b2⟩ := T.ini
  have z := pe_mkxK (p := p) T.xc.ox iC tI F hr b2 pass0 hg T.g hkw rfl hall hks hdb hpl
  refine ⟨fun pins s σ H Q I h => ?_⟩
  refine wpAny_Call_Name_kw (ld_glob I hg T.g ?_ hdb)
  refine PySem.W.callWith_KW0 (h₀ := X.base) I.ok.mod.kin T.xc.ox.kC hall ?_ hpl
  refine thn (hkw.run pos pins s σ H _ I h) fun ws s2 ⟨zs, H2, I2, rz, v, ev, q2⟩ => ⟨I2.kIn, ?_⟩
  subst ev
  rw [hks]
  exact run_mkxK T.xc.ox iC tI F hr b2 pass0 I2 rz rfl rfl fun a na => ⟨a, v, rfl, upd_same, fun dx nd ne => ⟨rfl, xmk_of q2 na nd ne⟩⟩
/-- C() without an own __init__ -/
def tXn (C : Addr) : TE := fun _ H Q => ∀ a H', Same H H' → H a = none → XAny H' a C → Q (.ref a) H'
theorem pe_xmn (T : XNk X.K X.mg x C) (hg : Gl X x) (hdb : (x == ("__debug__" : Str)) = false := by decide) : PE X (.Call (.Name x p) [] [] pos) (tXn C) := by
  have z := pe_mkn (X := X) (p := p) (pos := pos) T.xc.ox T.i hg T.g hdb
  refine ⟨fun pins s σ H Q I h => z.run pins s σ H Q I fun a na => ?_⟩
  exact h a _ (same_upd na) na ⟨none, upd_same, fun d e => nomatch e⟩
end
end G1

namespace G1
open PySem PySem.Spec PyProof.Rows L2
/-! loops by names, so that a reading can be unfolded down to them -/
def LoopW (J : It) (g : TG) (tb : TS) (D : Ends) (σ : L2.St) (H1 : Hp) : Prop := ∃ W : Nat → Nat → L2.St → Hp → Prop, (∃ m, W 0 m σ H1) ∧ ∀ i m σ H, W i m σ H →
  (J.stop i H ∧ D.nx σ H) ∨ (J.go i H ∧ ∃ N : L2.St → Hp → Prop, (∀ σ' H', N σ' H' → ∃ m', m' < m ∧ W (i + 1) m' σ' H') ∧ ∀ x H', J.yld i H x H' → g x σ H' fun σ2 H2 => tb { D with nx := N, ct := N, bk := D.nx } σ2 H2)
theorem tFor_eq (wi : TI) (g : TG) (tb : TS) (D : Ends) (σ : L2.St) (H : Hp) : tFor wi g tb D σ H = wi σ H fun J H1 => LoopW J g tb D σ H1 := rfl
def CompW (J : It) (g : TG) (tt : TT) (te : TE) (vs : List Nat) (σ : L2.St) (H1 : Hp) (Q : VK) : Prop := ∀ D, H1 D = none → ∃ W : Nat → Nat → Hp → Prop, (∃ m, W 0 m (upd H1 D (.lst []))) ∧ ∀ i m H, W i m H →
  (J.stop i H ∧ Q (.ref D) H) ∨ (J.go i H ∧ ∃ Nx : Hp → Prop, (∀ H', Nx H' → ∃ m', m' < m ∧ W (i + 1) m' H') ∧ ∀ x H', J.yld i H x H' → g x (wipe σ vs) H' fun σ2 H2 => wipe σ2 vs = wipe σ vs ∧ tt σ2 H2 fun b H3 =>
    if b = true then te σ2 H3 fun y H4 => ∃ acc, H4 D = some (.lst acc) ∧ acc.length < sizeLine ∧ Nx (upd H4 D (.lst (acc ++ [y]))) else Nx H3)
theorem tLc_eq (wi : TI) (g : TG) (tt : TT) (te : TE) (vs : List Nat) (σ : L2.St) (H : Hp) (Q : VK) : tLc wi g tt te vs σ H Q = wi σ H fun J H1 => CompW J g tt te vs σ H1 Q := rfl
theorem loop_range {lo : Int} {n : Nat} {g : TG} {tb : TS} {D : Ends} {σ : L2.St} {H : Hp} (Pv : Nat → L2.St → Hp → Prop) (h0 : Pv 0 σ H)
    (hs : ∀ i σ H, i < n → Pv i σ H → g (.int (lo + i)) σ H fun σ2 H2 => tb { D with nx := Pv (i + 1), ct := Pv (i + 1), bk := D.nx } σ2 H2) (hd : ∀ σ H, Pv n σ H → D.nx σ H) : LoopW (Itr lo n) g tb D σ H := for_range Pv h0 hs hd
theorem loop_list {K : PySem.W.Frag} {a : Addr} {xs : List V} {g : TG} {tb : TS} {D : Ends} {σ : L2.St} {H : Hp} (Pv : Nat → L2.St → Hp → Prop) (h0 : Pv 0 σ H) (hl : ∀ i σ H, i ≤ xs.length → Pv i σ H → SqL K H a xs)
    (hs : ∀ i x σ H, xs[i]? = some x → Pv i σ H → g x σ H fun σ2 H2 => tb { D with nx := Pv (i + 1), ct := Pv (i + 1), bk := D.nx } σ2 H2) (hd : ∀ σ H, Pv xs.length σ H → D.nx σ H) : LoopW (Itl K a) g tb D σ H := for_list Pv h0 hl hs hd
theorem comp_range {lo : Int} {n : Nat} {g : TG} {tt : TT} {te : TE} {vs : List Nat} {σ : L2.St} {H1 : Hp} {Q : VK} (Pv : Addr → Nat → Hp → Prop) (h0 : ∀ D, H1 D = none → Pv D 0 (upd H1 D (.lst [])))
    (hs : ∀ D i H, H1 D = none → i < n → Pv D i H → g (.int (lo + i)) (wipe σ vs) H fun σ2 H2 => wipe σ2 vs = wipe σ vs ∧ tt σ2 H2 fun b H3 =>
      if b = true then te σ2 H3 fun y H4 => ∃ acc, H4 D = some (.lst acc) ∧ acc.length < sizeLine ∧ Pv D (i + 1) (upd H4 D (.lst (acc ++ [y]))) else Pv D (i + 1) H3) (hd : ∀ D H, H1 D = none → Pv D n H → Q (.ref D) H) : CompW (Itr lo n) g tt te vs σ H1 Q :=
  fun D hD => lc_range (Pv D) (h0 D hD) (fun i H => hs D i H hD) fun H => hd D H hD
theorem comp_list {K : PySem.W.Frag} {a : Addr} {xs : List V} {g : TG} {tt : TT} {te : TE} {vs : List Nat} {σ : L2.St} {H1 : Hp} {Q : VK} (Pv : Addr → Nat → Hp → Prop) (h0 : ∀ D, H1 D = none → Pv D 0 (upd H1 D (.lst []))) (hl : ∀ D i H, H1 D = none → i ≤ xs.length → Pv D i H → SqL K H a xs)
    (hs : ∀ D i x H, H1 D = none → xs[i]? = some x → Pv D i H → g x (wipe σ vs) H fun σ2 H2 => wipe σ2 vs = wipe σ vs ∧ tt σ2 H2 fun b H3 =>
      if b = true then te σ2 H3 fun y H4 => ∃ acc, H4 D = some (.lst acc) ∧ acc.length < sizeLine ∧ Pv D (i + 1) (upd H4 D (.lst (acc ++ [y]))) else Pv D (i + 1) H3) (hd : ∀ D H, H1 D = none → Pv D xs.length H → Q (.ref D) H) : CompW (Itl K a) g tt te vs σ H1 Q :=
  fun D hD => lc_list (Pv D) (h0 D hD) (fun i H => hl D i H hD) (fun i x H => hs D i x H hD) fun H => hd D H hD
/-! the same readings over what is tracked alone: the heap tells the list -/
def rIxM : R2 := fun x y H Q => ∃ p xs i v, x = .ref p ∧ y = .int i ∧ H p = some (.lst xs) ∧ atI xs i = some v ∧ Q v H
def rLenM : List V → Hp → VK → Prop := fun vs H Q => ∃ p xs, vs = [.ref p] ∧ H p = some (.lst xs) ∧ Q (.int (xs.length : Nat)) H
def rSlM : V → Option Int → Option Int → Hp → VK → Prop := fun x lo hi H Q => ∃ a xs, x = .ref a ∧ H a = some (.lst xs) ∧ ∀ p, H p = none → Q (.ref p) (upd H p (.lst (cutV xs lo hi)))
section
variable {X : Cx}
theorem ix_lM : IxR X rIxM := fun a b pins s σ H x y v u Q I rx ry q hs => ix_list a b pins s σ H x y v u Q I rx ry (by
  obtain ⟨p, xs, i, w, e1, e2, h, e3, q⟩ := q
  exact ⟨p, xs, i, w, e1, e2, .inl (.inl h), e3, q⟩) hs
theorem call_lenM : CallR X (.builtin "len") rLenM := fun pins s σ H xs us Q I r h => call_len_seq pins s σ H xs us Q I r (by
  obtain ⟨p, xs, e, h, q⟩ := h
  exact ⟨p, xs, e, .inl (.inl (.inl h)), q⟩)
theorem atI_0 {α : Type} {a : α} {l : List α} : atI (a :: l) 0 = some a := atI_nat (j := 0) rfl
theorem atI_1 {α : Type} {a b : α} {l : List α} : atI (a :: b :: l) 1 = some b := atI_nat (j := 1) rfl
theorem atI_2 {α : Type} {a b c : α} {l : List α} : atI (a :: b :: c :: l) 2 = some c := atI_nat (j := 2) rfl
theorem ixN_0 : ixN 3 0 = some 0 := by decide
theorem ixN_2 : ixN 3 2 = some 2 := by decide
end
theorem upd_id {H : Hp} {a : Addr} {o : HO} (h : H a = some o) : upd H a o = H := by
  funext b
  by_cases e : b = a
  · rw [e, upd_same, h]
  · rw [upd_ne e]
end G1
namespace G1
open PySem PySem.Spec PyProof.Rows L2
section
variable {X : Cx}
theorem pe_gref {x : Str} {a : Addr} {pos : Pos} (hg : Gl X x) (hm : X.mg x = some (.ref a)) (hd : (x == ("__debug__" : Str)) = false := by decide) : PE X (.Name x pos) (tC (.ref a)) := pe_glob hg hm rfl hd
theorem pe_gty {x : Str} {n : String} {pos : Pos} (hg : Gl X x) (hm : X.mg x = none) (hv : bootBuiltins x = some (.type n)) (hn : x ≠ "__name__" := by decide) (hd : (x == ("__debug__" : Str)) = false := by decide) : PE X (.Name x pos) (tC (.ty n)) := pe_bltn hg hm hv rfl hn hd
end
theorem XAt.same {H H' : Hp} {a C : Addr} {v : V} (h : XAt H a C v) (s : Same H H') : XAt H' a C v := by
  obtain ⟨d, h1, h2⟩ := h
  exact ⟨d, s _ _ h1, s _ _ h2⟩
theorem XAny.same {H H' : Hp} {a C : Addr} (h : XAny H a C) (s : Same H H') : XAny H' a C := by
  obtain ⟨od, h1, h2⟩ := h
  exact ⟨od, s _ _ h1, fun d e => by obtain ⟨fs, h3⟩ := h2 d e; exact ⟨fs, s _ _ h3⟩⟩
theorem same_over {H H1 : Hp} {D : Addr} {o : HO} (s : Same H H1) (n : H D = none) : Same H (upd H1 D o) := fun b x e => by
  rw [upd_ne (ne_none e n)]
  exact s b x e
/-- a comprehension over a tracked list that stands: the kept items by a test and a map of values -/
theorem take_step {α : Type} {xs : List α} {i : Nat} {x : α} (h : xs[i]? = some x) : xs.take (i + 1) = xs.take i ++ [x] := by
  rw [List.take_add_one, h]
  rfl
end G1
namespace G1
open PySem PySem.Spec PyProof.Rows L2
def rRepS : R2 := fun x y H Q => ∃ z n, x = .str z ∧ y = .int n ∧ MulOk z n ∧ Q (.str (Txt.mul z n)) H
section
variable {X : Cx}
theorem op_repS : OpR X (binaryOp .Mult) rRepS := by
  intro pins s σ H x y v u Q I rx ry h
  obtain ⟨z, n, rfl, rfl, hz, q⟩ := h
  obtain ⟨t, rfl⟩ := rx
  obtain ⟨t', rfl⟩ := ry
  exact SB.mul hz fun t' k => ⟨.str _, H, I.tok _, ⟨_, rfl⟩, q⟩
end
end G1
namespace G1
open PySem PySem.Spec PyProof.Rows L2
section
variable {X : Cx}
theorem op_eqDK (K : PySem.W.Frag) (hK : X.K = K) (hu : X.A.units + 64 < cLine) : OpR X (compareOp .Eq) (rEqD K) := hK ▸ op_eqD hu
theorem op_neDK (K : PySem.W.Frag) (hK : X.K = K) (hu : X.A.units + 64 < cLine) : OpR X (compareOp .NotEq) (rNeD K) := hK ▸ op_neD hu
theorem call_isAK (K : PySem.W.Frag) (hK : X.K = K) : CallR X (.builtin "isinstance") (rIsA K) := hK ▸ call_isA
theorem pe_xvK (K : PySem.W.Frag) {e : Expr} {ta : TE} {pos : Pos} (hK : X.K = K) (he : PE X e ta) (hb : attributeBase e "value" X.env (eval e X.env) = eval e X.env) : PE X (.Attribute e "value" pos) (tXv K ta) := hK ▸ pe_xv he hb
end
end G1
namespace G1
open PySem PySem.Spec PyProof.Rows L2
theorem XAt.upd {H : Hp} {a C l : Addr} {v : V} {xs : List V} {o : HO} (h : XAt H a C v) (hl : H l = some (.lst xs)) : XAt (upd H l o) a C v := by
  obtain ⟨d, h1, h2⟩ := h
  have n1 : a ≠ l := fun e => by
    rw [e, hl] at h1
    have z := Option.some.inj h1
    have z' : HO.lst xs = HO.ext _ := z
    cases z'
  have n2 : d ≠ l := fun e => by
    rw [e, hl] at h2
    have z := Option.some.inj h2
    have z' : HO.lst xs = HO.ext _ := z
    cases z'
  exact ⟨d, by rw [upd_ne n1]; exact h1, by rw [upd_ne n2]; exact h2⟩
theorem range_step {α : Type} (f : Nat → α) (j : Nat) : (List.range (j + 1)).map f = (List.range j).map f ++ [f j] := by
  rw [List.range_succ, List.map_append]
  rfl
end G1

namespace G1
open PySem PySem.Spec PyProof.Rows L2
def xA (p1 p2 p3 : Pos) : Arguments := { posonlyargs := [], args := [{ arg := "self", annotation := none, pos := p1 }, { arg := "value", annotation := none, pos := p2 }], vararg := none, kwonlyargs := [], kw_defaults := [], kwarg := none, defaults := [.Constant .none 0 p3] }
def xB (q1 q2 q3 q4 : Pos) : List Stmt := [.Assign [.Attribute (.Name "self" q1) "value" q2] (.Name "value" q3) q4]
def xS : Scope := { kind := .function, names := [(PySem.Str.ofString "self", .local), (PySem.Str.ofString "value", .local)], isGenerator := false, isCoroutine := false, more := [] }
theorem x_scope : FnScope ["self", "value"] ["self", "value"] xS := ⟨rfl, rfl, rfl, by decide +kernel, rfl, by decide +kernel, by decide +kernel⟩
theorem x_ok {P : Program} {w : World} {K : PySem.W.Frag} {mg : Str → Option Value} {base : Heap} {x qual : Str} {C fI : Addr} {fd : FuncData} {p1 p2 p3 q1 q2 q3 q4 : Pos} (T : XC K C) (g : mg x = some (.ref C))
    (iC : PySem.W.findIn K (.ref C) "__init__" = some (some (.ref fI))) (tI : PySem.W.typeIn K (.ref fI) = some (.type "function"))
    (D : FunD K "__init__" qual (xA p1 p2 p3) (xB q1 q2 q3 q4) xS [.non] [] fI fd) : XOk P w K mg base x C := by
  refine ⟨T, g, fI, fd, iC, tI, ?_, ?_, ?_, ?_⟩
  · refine D.ok (CX := CX0) x_scope (fun vs H Q E h => ?_) (fun cdv A outer s H vs Q E hr h => ?_)
    · obtain ⟨_, _, rfl, _⟩ := h
      rfl
    · obtain ⟨a, v, rfl, ha, q⟩ := h
      refine ⟨_, pss_one (ps_ost (pv 0) (pv 1)), ?_⟩
      exact ⟨_, rfl, _, rfl, a, C, rfl, T.ox, T.nv, .inl ⟨ha, fun dx n1 n2 => q dx n1 n2⟩⟩
  · obtain ⟨ds, r, b⟩ := D.binds1 (ps := ["self", "value"]) 2 1 (by simp) rfl (fun T kV doc pm an cdv ct us its h1 h2 => match us, its, h1, h2 with | [_, _], [_], _, _ => ⟨_, rfl, rfl⟩)
    cases r
    exact b
  · exact D.binds1 (ps := ["self", "value"]) 1 0 (by simp) rfl (fun T kV doc pm an cdv ct us its h1 h2 => match us, its, h1, h2 with | [_], [_], _, _ => ⟨_, rfl, rfl⟩)
  · obtain ⟨its, b⟩ := D.kbindsD (ps := ["self", "value"]) 1 ["value"] (fun us _ ws => us ++ ws) (by simp) (fun r1 _ r3 => r1.append r3) (fun T kV doc pm an cdv ct us its ws h1 h2 h3 => match us, its, ws, h1, h2, h3 with | [_], [_], [_], _, _, _ => ⟨_, rfl, rfl⟩)
    exact b
end G1

namespace K08
open PySem PySem.Spec PyProof.Rows L2 G1
def topS (i : Nat) : Stmt := PySem.Challenge.pw_signlanes_k08_errors_by_their_classes.main.body.getD i (.Pass ⟨0, 0, 0, 0⟩)

abbrev s_law_hash : Stmt := topS 24
theorem sc_law_hash : FnScope ["_law_seed", "_law_index", "_law_mixed"] ["_law_seed", "_law_index"] (defScope s_law_hash) := ⟨rfl, rfl, rfl, by decide +kernel, rfl, by decide +kernel, by decide +kernel⟩
abbrev s_law_generator : Stmt := topS 25
theorem sc_law_generator : FnScope ["_law_script", "_law_index", "_law_seed"] ["_law_script", "_law_index"] (defScope s_law_generator) := ⟨rfl, rfl, rfl, by decide +kernel, rfl, by decide +kernel, by decide +kernel⟩
abbrev s_law_random : Stmt := topS 26
theorem sc_law_random : FnScope ["_law_generator_here", "_law_bound", "_law_drawn", "_law_turn"] ["_law_generator_here", "_law_bound"] (defScope s_law_random) := ⟨rfl, rfl, rfl, by decide +kernel, rfl, by decide +kernel, by decide +kernel⟩
abbrev s_law_made : Stmt := topS 27
theorem sc_law_made : FnScope ["_law_number", "_law_value_here", "_law_makers", "_law_error"] ["_law_number", "_law_value_here"] (defScope s_law_made) := ⟨rfl, rfl, rfl, by decide +kernel, rfl, by decide +kernel, by decide +kernel⟩
abbrev s_law_first : Stmt := topS 28
theorem sc_law_first : FnScope ["_law_number", "_law_value_here"] ["_law_number", "_law_value_here"] (defScope s_law_first) := ⟨rfl, rfl, rfl, by decide +kernel, rfl, by decide +kernel, by decide +kernel⟩
abbrev s_law_second : Stmt := topS 29
theorem sc_law_second : FnScope ["_law_number", "_law_value_here"] ["_law_number", "_law_value_here"] (defScope s_law_second) := ⟨rfl, rfl, rfl, by decide +kernel, rfl, by decide +kernel, by decide +kernel⟩
abbrev s_law_third : Stmt := topS 30
theorem sc_law_third : FnScope ["_law_number", "_law_value_here"] ["_law_number", "_law_value_here"] (defScope s_law_third) := ⟨rfl, rfl, rfl, by decide +kernel, rfl, by decide +kernel, by decide +kernel⟩
abbrev s_law_kinds : Stmt := topS 31
theorem sc_law_kinds : FnScope ["_law_error", "_law_found"] ["_law_error"] (defScope s_law_kinds) := ⟨rfl, rfl, rfl, by decide +kernel, rfl, by decide +kernel, by decide +kernel⟩
abbrev s_law_empty : Stmt := topS 32
theorem sc_law_empty : FnScope ["_law_found"] [] (defScope s_law_empty) := ⟨rfl, rfl, rfl, by decide +kernel, rfl, by decide +kernel, by decide +kernel⟩
abbrev s_law_named : Stmt := topS 33
theorem sc_law_named : FnScope ["_law_value_here", "_law_found"] ["_law_value_here"] (defScope s_law_named) := ⟨rfl, rfl, rfl, by decide +kernel, rfl, by decide +kernel, by decide +kernel⟩
abbrev s_law_value : Stmt := topS 34
theorem sc_law_value : FnScope ["_law_generator_here", "_law_kind"] ["_law_generator_here"] (defScope s_law_value) := ⟨rfl, rfl, rfl, by decide +kernel, rfl, by decide +kernel, by decide +kernel⟩
abbrev s_law : Stmt := topS 35
theorem sc_law : FnScope ["_law_script", "_law_generator_here", "_law_value_here", "_law_number", "_law_error", "_law_place", "_law_field"] ["_law_script"] (defScope s_law) := ⟨rfl, rfl, rfl, by decide +kernel, rfl, by decide +kernel, by decide +kernel⟩
local macro_rules | `(tactic| walk_at "rd") => `(tactic| simp only [L2.tSeq, L2.tAsg, L2.tOp, L2.rI, L2.rI0, L2.tVar, L2.tC, L2.tCB, L2.tCons, L2.tNil, L2.tRet, L2.gName, L2.start, L2.tIf, L2.tIfS, L2.tTest, L2.tNext, L2.rIxL, L2.tSl, L2.rSlL, L2.tNoPart, L2.tPart, L2.tLst, L2.tTup, L2.rSum, L2.tBits, L2.gSub, L2.rSetL, L2.rCat, L2.tDrop, L2.tBM, L2.tBM0, L2.rAppend, L2.tYes, L2.tB, L2.tAnd, L2.tOr, L2.tNot, L2.tAndV, L2.tOrV, G1.tCallO, G1.tXm, G1.tXn, G1.tXv, HO.lst.injEq, HO.tup.injEq, Nat.reduceAdd, Nat.zero_add, List.set_cons_zero, List.set_cons_succ, G1.tFor_eq, G1.tLc_eq, G1.rIxM, G1.rLenM, G1.rSlM, G1.atI_0, G1.atI_1, G1.atI_2, G1.ixN_0, G1.ixN_2, L2.upd_same, L2.upd_upd, and_assoc, L2.iRng1, L2.iList, L2.tUn, L2.rU, G1.rRepS, L2.wipe, List.foldl, L2.rEq, L2.rNe, List.map, List.replicate, List.length, List.append, List.set, List.getElem?_cons_zero, List.getElem?_cons_succ, List.cons_append, List.nil_append, Option.some.injEq, V.int.injEq, V.bl.injEq, V.ref.injEq, V.str.injEq, List.cons.injEq, reduceCtorEq, false_and, and_false, exists_false, or_false, false_or, exists_and_left, exists_and_right, exists_eq_left', exists_eq_left, true_and, and_true, Nat.sub_self, decide_eq_true_eq])
structure Txt (P : Program) (w : World) (K : PySem.W.Frag) (mg : Str → Option Value) (base : Heap) (c : Nat → Addr) (cF : Addr) : Prop where
  n_int : mg "int" = none
  n_len : mg "len" = none
  n_sum : mg "sum" = none
  n_max : mg "max" = none
  n_range : mg "range" = none
  n_isinstance : mg "isinstance" = none
  n_list : mg "list" = none
  n_ValueError : mg "ValueError" = none
  x : ∀ i, i < 19 → XOk P w K mg base (["InvalidNumber", "InvalidWord", "InvalidList", "InvalidGroup", "InvalidPicture", "InvalidSketch", "InvalidFold", "InvalidPaper", "InvalidMachine", "InvalidMap", "InvalidMove", "InvalidRow", "InvalidLines", "InvalidDeed", "InvalidFlag", "InvalidBook", "Unlike", "TooLong", "TooMany"].getD i "") (c i)
  n19 : XNk K mg "NothingToUndo" (c 19)
  n20 : XNk K mg "NothingToRedo" (c 20)
  nF : XNk K mg "FoldError" cF
  kit : ∀ i j, i < 21 → j < 21 → PySem.W.kitOne K (.ref (c i)) (.ref (c j)) = some (decide (j = i))
  kitF : ∀ i, i < 21 → PySem.W.kitOne K (.ref (c i)) (.ref cF) = some true
  kitV : ∀ i, i < 21 → PySem.W.kitOne K (.ref (c i)) (.type "ValueError") = some true
  kitFV : PySem.W.kitOne K (.ref cF) (.type "ValueError") = some true
section
variable {P : Program} {w : World} {K : PySem.W.Frag} {mg : Str → Option Value} {base : Heap} {c : Nat → Addr} {cF : Addr}
theorem cmul {i j : Int} (h1 : i.natAbs < 2 ^ 64) (h2 : j.natAbs < 2 ^ 64) : CMulW i j := wide_mul h1 h2 (by decide) (by decide) (by decide)
def spHash : Sp := fun vs H Q _ => ∃ s i : Int, vs = [.int s, .int i] ∧ 0 ≤ s ∧ s < 2147483647 ∧ 0 ≤ i ∧ i ≤ 1000000000 ∧ ∀ h : Int, 0 ≤ h → h < 2147483647 → Q (.int h) H
theorem ok_hash (S : Src K mg "_law_hash" s_law_hash) (T : Txt P w K mg base c cF) : OkD P w K mg base 1 "_law_hash" ["_law_seed", "_law_index"] spHash := by
  refine okd S (fun f fd F => F.ok sc_law_hash (fun vs H Q E h => ?_) (fun cdv A outer s H vs Q E hr h => ?_)) (fun _ _ _ _ _ _ us hl => match us, hl with | [_, _], _ => rfl)
  · obtain ⟨_, _, rfl, _⟩ := h
    rfl
  · obtain ⟨sd, ix, rfl, h0, h1, h2, h3, q⟩ := h
    refine ⟨_, ((pss_cons (ps_set (i := 2) sc_law_hash.nd rfl (.inl rfl) (pe_op op_mod (pe_callTy call_int1 (by rfl) T.n_int PyProof.Rows.boot_int (pa_cons (pe_op op_add (pe_op op_add (pe_op op_add (pe_op op_mulW (pv 0) pe_int) (pe_op op_mulW (pe_op op_mulW pe_int (pv 1)) (pv 1))) (pe_op op_mulW pe_int (pv 1))) pe_int) pa_nil)) pe_int))
      (pss_cons (ps_set (i := 2) sc_law_hash.nd rfl (.inl rfl) (pe_op op_mod (pe_callTy call_int1 (by rfl) T.n_int PyProof.Rows.boot_int (pa_cons (pe_op op_add (pe_op op_add (pe_op op_mulW (pv 2) (pv 2)) (pe_op op_mulW pe_int (pv 1))) pe_int) pa_nil)) pe_int))
      (pss_one (ps_ret (pe_op op_mod (pe_callTy call_int1 (by rfl) T.n_int PyProof.Rows.boot_int (pa_cons (pe_op op_mulW (pv 2) pe_int) pa_nil)) pe_int)))))), ?_⟩
    walk_at "rd"
    have n (x : Int) : 0 ≤ x % 2147483629 ∧ x % 2147483629 < 2147483629 := ⟨Int.emod_nonneg _ (by decide), Int.emod_lt_of_pos _ (by decide)⟩
    have n2 (x : Int) : 0 ≤ x % 2147483587 ∧ x % 2147483587 < 2147483587 := ⟨Int.emod_nonneg _ (by decide), Int.emod_lt_of_pos _ (by decide)⟩
    have n3 (x : Int) : 0 ≤ x % 2147483647 ∧ x % 2147483647 < 2147483647 := ⟨Int.emod_nonneg _ (by decide), Int.emod_lt_of_pos _ (by decide)⟩
    refine ⟨cmul (by omega) (by decide), cmul (by decide) (by omega), cmul (by omega) (by omega), cmul (by decide) (by omega), by decide, ?_, cmul (by decide) (by omega), by decide, ?_, by decide, ?_⟩
    · exact cmul (by have := n (sd * 1299709 + 104729 * ix * ix + 31 * ix + 7); omega) (by have := n (sd * 1299709 + 104729 * ix * ix + 31 * ix + 7); omega)
    · refine cmul ?_ (by decide)
      generalize (sd * 1299709 + 104729 * ix * ix + 31 * ix + 7) = y
      have := n2 (y % 2147483629 * (y % 2147483629) + 48271 * ix + 15485863)
      omega
    · exact q _ (n3 _).1 (n3 _).2
/-- a generator at g -/
def GenAt (H : Hp) (g : Addr) (x y z : Int) : Prop := H g = some (.lst [.int x, .int y, .int z])
def spGen (K : PySem.W.Frag) : Sp := fun vs H Q _ => ∃ (a : Addr) (ns : List Int) (i : Int), vs = [.ref a, .int i] ∧ SqL K H a (ns.map V.int) ∧ ns.length ≤ 63 ∧ 0 ≤ i ∧ i ≤ 1000 ∧
  ∀ (g : Addr) (H' : Hp) (x y : Int), Same H H' → H g = none → GenAt H' g x y (1000 * i) → 0 ≤ x → x < 10 ^ 600 → 0 ≤ y → y < 2147483647 → Q (.ref g) H'
theorem ok_gen (S : Src K mg "_law_generator" s_law_generator) (T : Txt P w K mg base c cF) : OkD P w K mg base 1 "_law_generator" ["_law_script", "_law_index"] (spGen K) := by
  refine okd S (fun f fd F => F.ok sc_law_generator (fun vs H Q E h => ?_) (fun cdv A outer s H vs Q E hr h => ?_)) (fun _ _ _ _ _ _ us hl => match us, hl with | [_, _], _ => rfl)
  · obtain ⟨_, _, _, rfl, _⟩ := h
    rfl
  · obtain ⟨a, ns, ix, rfl, hS, hl, h0, h1, q⟩ := h
    refine ⟨_, ((pss_cons (ps_set (i := 2) sc_law_generator.nd rfl (.inl rfl) (pe_ifExp (pt_cmpR op_lt (pv 1) (pe_callB call_len_seq (by rfl) T.n_len (by decide +kernel) (pa_cons (pv 0) pa_nil)) (nomark _)) (pe_ix ix_list (pv 0) (pv 1) (fun _ _ => rfl)) (pe_op op_mod (pe_callB (cr_sum rfl) (by rfl) T.n_sum (by decide +kernel) (pa_cons (pe_slice sl_list (pv 0) po_none (po_some pe_int)) pa_nil)) pe_int)))
      (pss_one (ps_ret (pe_lst (pa_cons (pe_op op_mod (pe_callTy call_int1 (by rfl) T.n_int PyProof.Rows.boot_int (pa_cons (pe_callB (call_max2 rfl) (by rfl) T.n_max (by decide +kernel) (pa_cons (pe_op op_sub (pv 2) (pe_op op_powW pe_int pe_int)) (pa_cons pe_int pa_nil))) pa_nil)) (pe_op op_powW (pe_op op_powW pe_int pe_int) pe_int)) (pa_cons (pe_op op_mod (pe_callTy call_int1 (by rfl) T.n_int PyProof.Rows.boot_int (pa_cons (pv 2) pa_nil)) pe_int) (pa_cons (pe_op op_mulW pe_int (pv 1)) pa_nil)))))))), ?_⟩
    walk_at "rd"
    obtain ⟨j, rfl⟩ := Int.eq_ofNat_of_zero_le h0
    have fin : ∀ (sd : Int) (H1 : Hp), Same H H1 → CPowW 10 18 ∧ CPowW 10 60 ∧ CPowW (10 ^ Int.toNat 60) 10 ∧ (0 : Int) < (10 ^ Int.toNat 60) ^ Int.toNat 10 ∧ (0 : Int) < 2147483647 ∧ CMulW 1000 (j : Int) ∧ 0 + 1 + 1 + 1 ≤ sizeLine ∧
        ∀ (p : Addr), H1 p = none → Q (V.ref p) (upd H1 p (HO.lst [V.int ((if 0 > sd - 10 ^ Int.toNat 18 then 0 else sd - 10 ^ Int.toNat 18) % (10 ^ Int.toNat 60) ^ Int.toNat 10), V.int (sd % 2147483647), V.int (1000 * (j : Int))])) := fun sd H1 sm => by
      have e10 : ((10 : Int) ^ Int.toNat 60) ^ Int.toNat 10 = 10 ^ 600 := by decide +kernel
      have p10 : (0 : Int) < ((10 : Int) ^ Int.toNat 60) ^ Int.toNat 10 := by decide +kernel
      refine ⟨⟨by decide, by decide +kernel⟩, ⟨by decide, by decide +kernel⟩, ⟨by decide, by decide +kernel⟩, p10, by decide, cmul (by decide) (by omega), by decide, fun p np => ?_⟩
      refine q p _ _ _ (sm.trans (same_upd np)) (sm.free np) upd_same (Int.emod_nonneg _ (Int.ne_of_gt p10)) ?_ (Int.emod_nonneg _ (by decide)) (Int.emod_lt_of_pos _ (by decide))
      rw [← e10]
      exact Int.emod_lt_of_pos _ p10
    refine ⟨_, .inl hS, ?_⟩
    rw [List.length_map]
    split
    · rename_i hj
      have hj' : j < ns.length := by omega
      obtain ⟨f1, f2, f3, f4, f5, f6, f7, f8⟩ := fin ns[j] H (Same.refl H)
      refine ⟨_, hS, _, atI_nat (v := V.int ns[j]) (by rw [List.getElem?_map, List.getElem?_eq_getElem hj']; rfl), f1, _, rfl, f2, f3, f4, .inl ⟨_, rfl, f5, f6, f7, f8⟩⟩
    · refine ⟨_, hS, fun p np => ?_⟩
      obtain ⟨ns', hc⟩ : ∃ ns' : List Int, cutV (ns.map V.int) none (some 1) = ns'.map V.int := ⟨_, by unfold cutV; rw [← List.map_drop, ← List.map_take]⟩
      rw [hc]
      obtain ⟨f1, f2, f3, f4, f5, f6, f7, f8⟩ := fin (ns'.sum % 1000003) _ (same_upd (o := .lst (ns'.map V.int)) np)
      refine ⟨ns', .inl (.inl upd_same), by decide, f1, f2, f3, f4, ?_⟩
      first
        | exact .inl ⟨_, rfl, f5, f6, f7, f8⟩
        | exact ⟨f5, f6, f7, f8⟩
/-- what a draw does: the generator's numbers go on, the rest stays -/
def spRandom : Sp := fun vs H Q _ => ∃ (g : Addr) (b x y z : Int), vs = [.ref g, .int b] ∧ GenAt H g x y z ∧ 0 < b ∧ b.natAbs < 2 ^ 6000 ∧ 0 ≤ x ∧ x < 10 ^ 600 ∧ 0 ≤ y ∧ y < 2147483647 ∧ 0 ≤ z ∧ z ≤ 100000000 ∧
  ∀ d x' z' : Int, 0 ≤ d → d < b → 0 ≤ x' → x' < 10 ^ 600 → z ≤ z' → z' ≤ z + 300 → Q (.int d) (upd H g (.lst [.int x', .int y, .int z']))
theorem ok_random (S : Src K mg "_law_random" s_law_random) (T : Txt P w K mg base c cF) (C_law_hash : OkD P w K mg base 1 "_law_hash" ["_law_seed", "_law_index"] spHash) : OkD P w K mg base 2 "_law_random" ["_law_generator_here", "_law_bound"] spRandom := by
  refine okd S (fun f fd F => F.ok sc_law_random (fun vs H Q E h => ?_) (fun cdv A outer s H vs Q E hr h => ?_)) (fun _ _ _ _ _ _ us hl => match us, hl with | [_, _], _ => rfl)
  · obtain ⟨_, _, _, _, _, rfl, _⟩ := h
    rfl
  · obtain ⟨g, b, x, y, z, rfl, hg, hb, hb2, hx, hx2, hy, hy2, hz, hz2, q⟩ := h
    have hg' : H g = some (.lst [.int x, .int y, .int z]) := hg
    refine ⟨_, ((pss_cons (ps_if (pt_cmpR op_gt (pe_ix ix_lM (pv 0) pe_int (fun _ _ => rfl)) pe_int (nomark _)) (pss_cons (ps_set (i := 2) sc_law_random.nd rfl (.inl rfl) (pe_op op_mod (pe_callTy call_int1 (by rfl) T.n_int PyProof.Rows.boot_int (pa_cons (pe_ix ix_lM (pv 0) pe_int (fun _ _ => rfl)) pa_nil)) (pv 1)))
      (pss_cons (ps_asg (pe_op op_fdivW (pe_ix ix_lM (pv 0) pe_int (fun _ _ => rfl)) (pv 1)) (pg_sub (pv 0) pe_int set_list))
      (pss_one (ps_ret (pv 2))))) pss_nil)
      (pss_cons (ps_set (i := 2) sc_law_random.nd rfl (.inl rfl) pe_int)
      (pss_cons (ps_for PassesOwn.never rfl (pi_range1 (by rfl) T.n_range (pa_cons (pe_op op_add pe_int (pe_op op_fdivW (pe_bits (pv 1)) pe_int)) pa_nil)) (pg_name (i := 3) sc_law_random.nd rfl (.inl rfl)) (pss_cons (ps_asg (pe_op op_add (pe_ix ix_lM (pv 0) pe_int (fun _ _ => rfl)) pe_int) (pg_sub (pv 0) pe_int set_list))
      (pss_one (ps_set (i := 2) sc_law_random.nd rfl (.inl rfl) (pe_op op_add (pe_op op_mulW (pv 2) pe_int) (pe_callO C_law_hash (hr.mono (by decide)) (by rfl) (pa_cons (pe_ix ix_lM (pv 0) pe_int (fun _ _ => rfl)) (pa_cons (pe_ix ix_lM (pv 0) pe_int (fun _ _ => rfl)) pa_nil))))))))
      (pss_one (ps_ret (pe_op op_mod (pe_callTy call_int1 (by rfl) T.n_int PyProof.Rows.boot_int (pa_cons (pv 2) pa_nil)) (pv 1)))))))), ?_⟩
    walk_at "rd"
    simp only [hg']
    walk_at "rd"
    have hbits : Builtin.Int.intBits b ≤ 6000 := PyProof.Rows.intBits_le hb2
    refine ite2 (fun h0 => ?_) (fun h0 => ?_)
    · exact ⟨hb, wide_div hb hb2 (by decide) (by decide), q _ _ _ (Int.emod_nonneg _ (by omega)) (Int.emod_lt_of_pos _ hb) (Int.ediv_nonneg hx (by omega)) (Int.lt_of_le_of_lt (Int.ediv_le_self _ hx) hx2) (Int.le_refl _) (by omega)⟩
    · refine ⟨⟨by decide, by decide⟩, by omega, by omega, ?_⟩
      obtain ⟨n, hn⟩ : ∃ n : Nat, n = (1 + ((Builtin.Int.intBits b : Nat) : Int) / 30).toNat := ⟨_, rfl⟩
      have hn2 : n ≤ 201 := by omega
      rw [← hn]
      refine loop_range (fun i σ H' => ∃ (d : Int) (v : Option V), σ = [some (.ref g), some (.int b), some (.int d), v] ∧ 0 ≤ d ∧ d < 2 ^ (31 * i) ∧ H' = upd H g (.lst [.int x, .int y, .int (z + i)])) ⟨0, none, rfl, by decide, by decide, ?_⟩ ?_ ?_
      · rw [upd_id]
        simpa using hg'
      · rintro i σ H' hi ⟨d, v, rfl, d0, d1, rfl⟩
        walk_at "rd"
        refine ⟨wide_mul (a := 31 * i + 1) (b := 64) ?_ (by decide) (by omega) (by decide) (by omega), ?_⟩
        · have e : (2 : Int) ^ (31 * i) = ((2 ^ (31 * i) : Nat) : Int) := by rw [Int.natCast_pow]; rfl
          rw [e] at d1
          rw [Nat.pow_succ]
          omega
        · refine ⟨y, _, rfl, hy, hy2, by omega, by omega, fun h h0 h1 => ⟨_, rfl, ⟨_, rfl⟩, by omega, ?_, ?_⟩⟩
          · rw [Nat.mul_add, Int.pow_add]
            have : (2 : Int) ^ (31 * 1) = 2147483648 := by decide
            rw [this]
            generalize (2 : Int) ^ (31 * i) = p at d1
            omega
          · rw [show z + ((i + 1 : Nat) : Int) = z + i + 1 by omega]
      · rintro σ H' ⟨d, v, rfl, d0, d1, rfl⟩
        walk_at "rd"
        exact ⟨hb, q _ _ _ (Int.emod_nonneg _ (by omega)) (Int.emod_lt_of_pos _ hb) hx hx2 (by omega) (by omega)⟩
/-! the classes -/
def spFirst (c : Nat → Addr) (lo hi : Nat) : Sp := fun vs H Q _ => ∃ (n : Nat) (v : V), vs = [.int n, v] ∧ n < 19 ∧ (lo ≤ n → n < hi → tXmk (c n) v H Q) ∧ ((n < lo ∨ hi ≤ n) → Q .non H)
theorem chn {n k : Nat} {Z R : Prop} (h1 : n = k → Z) (h2 : n ≠ k → R) : scal (V.int (n : Int)) (V.int (k : Int)) = true ∧ if (n : Int) = (k : Int) then Z else R := by
  refine ⟨rfl, ?_⟩
  by_cases e : n = k
  · rw [if_pos (by omega)]
    exact h1 e
  · rw [if_neg (by omega)]
    exact h2 e
theorem ok_first (S : Src K mg "_law_first" s_law_first) (T : Txt P w K mg base c cF) : OkD P w K mg base 3 "_law_first" ["_law_number", "_law_value_here"] (spFirst c 0 7) := by
  refine okd S (fun f fd F => F.ok sc_law_first (fun vs H Q E h => ?_) (fun cdv A outer s H vs Q E hr h => ?_)) (fun _ _ _ _ _ _ us hl => match us, hl with | [_, _], _ => rfl)
  · obtain ⟨_, _, rfl, _⟩ := h
    rfl
  · obtain ⟨n, v, rfl, hn, q1, q2⟩ := h
    refine ⟨_, ((pss_cons (ps_if (pt_cmpR op_eq (pv 0) pe_int (nomark _)) (pss_one (ps_ret (pe_xmk (T.x 0 (by decide)) (hr.mono (by decide)) (by rfl) (pa_cons (pv 1) pa_nil)))) pss_nil)
      (pss_cons (ps_if (pt_cmpR op_eq (pv 0) pe_int (nomark _)) (pss_one (ps_ret (pe_xmk (T.x 1 (by decide)) (hr.mono (by decide)) (by rfl) (pa_cons (pv 1) pa_nil)))) pss_nil)
      (pss_cons (ps_if (pt_cmpR op_eq (pv 0) pe_int (nomark _)) (pss_one (ps_ret (pe_xmk (T.x 2 (by decide)) (hr.mono (by decide)) (by rfl) (pa_cons (pv 1) pa_nil)))) pss_nil)
      (pss_cons (ps_if (pt_cmpR op_eq (pv 0) pe_int (nomark _)) (pss_one (ps_ret (pe_xmk (T.x 3 (by decide)) (hr.mono (by decide)) (by rfl) (pa_cons (pv 1) pa_nil)))) pss_nil)
      (pss_cons (ps_if (pt_cmpR op_eq (pv 0) pe_int (nomark _)) (pss_one (ps_ret (pe_xmk (T.x 4 (by decide)) (hr.mono (by decide)) (by rfl) (pa_cons (pv 1) pa_nil)))) pss_nil)
      (pss_cons (ps_if (pt_cmpR op_eq (pv 0) pe_int (nomark _)) (pss_one (ps_ret (pe_xmk (T.x 5 (by decide)) (hr.mono (by decide)) (by rfl) (pa_cons (pv 1) pa_nil)))) pss_nil)
      (pss_cons (ps_if (pt_cmpR op_eq (pv 0) pe_int (nomark _)) (pss_one (ps_ret (pe_xmk (T.x 6 (by decide)) (hr.mono (by decide)) (by rfl) (pa_cons (pv 1) pa_nil)))) pss_nil)
      (pss_one (ps_ret pe_non)))))))))), ?_⟩
    walk_at "rd"
    refine chn (k := 0) (fun e => e ▸ q1 (by omega) (by omega)) (fun e0 => ?_)
    refine chn (k := 1) (fun e => e ▸ q1 (by omega) (by omega)) (fun e1 => ?_)
    refine chn (k := 2) (fun e => e ▸ q1 (by omega) (by omega)) (fun e2 => ?_)
    refine chn (k := 3) (fun e => e ▸ q1 (by omega) (by omega)) (fun e3 => ?_)
    refine chn (k := 4) (fun e => e ▸ q1 (by omega) (by omega)) (fun e4 => ?_)
    refine chn (k := 5) (fun e => e ▸ q1 (by omega) (by omega)) (fun e5 => ?_)
    refine chn (k := 6) (fun e => e ▸ q1 (by omega) (by omega)) (fun e6 => ?_)
    exact q2 (by omega)
theorem ok_second (S : Src K mg "_law_second" s_law_second) (T : Txt P w K mg base c cF) : OkD P w K mg base 3 "_law_second" ["_law_number", "_law_value_here"] (spFirst c 7 14) := by
  refine okd S (fun f fd F => F.ok sc_law_second (fun vs H Q E h => ?_) (fun cdv A outer s H vs Q E hr h => ?_)) (fun _ _ _ _ _ _ us hl => match us, hl with | [_, _], _ => rfl)
  · obtain ⟨_, _, rfl, _⟩ := h
    rfl
  · obtain ⟨n, v, rfl, hn, q1, q2⟩ := h
    refine ⟨_, ((pss_cons (ps_if (pt_cmpR op_eq (pv 0) pe_int (nomark _)) (pss_one (ps_ret (pe_xmk (T.x 7 (by decide)) (hr.mono (by decide)) (by rfl) (pa_cons (pv 1) pa_nil)))) pss_nil)
      (pss_cons (ps_if (pt_cmpR op_eq (pv 0) pe_int (nomark _)) (pss_one (ps_ret (pe_xmk (T.x 8 (by decide)) (hr.mono (by decide)) (by rfl) (pa_cons (pv 1) pa_nil)))) pss_nil)
      (pss_cons (ps_if (pt_cmpR op_eq (pv 0) pe_int (nomark _)) (pss_one (ps_ret (pe_xmk (T.x 9 (by decide)) (hr.mono (by decide)) (by rfl) (pa_cons (pv 1) pa_nil)))) pss_nil)
      (pss_cons (ps_if (pt_cmpR op_eq (pv 0) pe_int (nomark _)) (pss_one (ps_ret (pe_xmk (T.x 10 (by decide)) (hr.mono (by decide)) (by rfl) (pa_cons (pv 1) pa_nil)))) pss_nil)
      (pss_cons (ps_if (pt_cmpR op_eq (pv 0) pe_int (nomark _)) (pss_one (ps_ret (pe_xmk (T.x 11 (by decide)) (hr.mono (by decide)) (by rfl) (pa_cons (pv 1) pa_nil)))) pss_nil)
      (pss_cons (ps_if (pt_cmpR op_eq (pv 0) pe_int (nomark _)) (pss_one (ps_ret (pe_xmk (T.x 12 (by decide)) (hr.mono (by decide)) (by rfl) (pa_cons (pv 1) pa_nil)))) pss_nil)
      (pss_cons (ps_if (pt_cmpR op_eq (pv 0) pe_int (nomark _)) (pss_one (ps_ret (pe_xmk (T.x 13 (by decide)) (hr.mono (by decide)) (by rfl) (pa_cons (pv 1) pa_nil)))) pss_nil)
      (pss_one (ps_ret pe_non)))))))))), ?_⟩
    walk_at "rd"
    refine chn (k := 7) (fun e => e ▸ q1 (by omega) (by omega)) (fun e7 => ?_)
    refine chn (k := 8) (fun e => e ▸ q1 (by omega) (by omega)) (fun e8 => ?_)
    refine chn (k := 9) (fun e => e ▸ q1 (by omega) (by omega)) (fun e9 => ?_)
    refine chn (k := 10) (fun e => e ▸ q1 (by omega) (by omega)) (fun e10 => ?_)
    refine chn (k := 11) (fun e => e ▸ q1 (by omega) (by omega)) (fun e11 => ?_)
    refine chn (k := 12) (fun e => e ▸ q1 (by omega) (by omega)) (fun e12 => ?_)
    refine chn (k := 13) (fun e => e ▸ q1 (by omega) (by omega)) (fun e13 => ?_)
    exact q2 (by omega)
theorem ok_third (S : Src K mg "_law_third" s_law_third) (T : Txt P w K mg base c cF) : OkD P w K mg base 3 "_law_third" ["_law_number", "_law_value_here"] (spFirst c 14 19) := by
  refine okd S (fun f fd F => F.ok sc_law_third (fun vs H Q E h => ?_) (fun cdv A outer s H vs Q E hr h => ?_)) (fun _ _ _ _ _ _ us hl => match us, hl with | [_, _], _ => rfl)
  · obtain ⟨_, _, rfl, _⟩ := h
    rfl
  · obtain ⟨n, v, rfl, hn, q1, q2⟩ := h
    refine ⟨_, ((pss_cons (ps_if (pt_cmpR op_eq (pv 0) pe_int (nomark _)) (pss_one (ps_ret (pe_xmk (T.x 14 (by decide)) (hr.mono (by decide)) (by rfl) (pa_cons (pv 1) pa_nil)))) pss_nil)
      (pss_cons (ps_if (pt_cmpR op_eq (pv 0) pe_int (nomark _)) (pss_one (ps_ret (pe_xmk (T.x 15 (by decide)) (hr.mono (by decide)) (by rfl) (pa_cons (pv 1) pa_nil)))) pss_nil)
      (pss_cons (ps_if (pt_cmpR op_eq (pv 0) pe_int (nomark _)) (pss_one (ps_ret (pe_xmk (T.x 16 (by decide)) (hr.mono (by decide)) (by rfl) (pa_cons (pv 1) pa_nil)))) pss_nil)
      (pss_cons (ps_if (pt_cmpR op_eq (pv 0) pe_int (nomark _)) (pss_one (ps_ret (pe_xmk (T.x 17 (by decide)) (hr.mono (by decide)) (by rfl) (pa_cons (pv 1) pa_nil)))) pss_nil)
      (pss_cons (ps_if (pt_cmpR op_eq (pv 0) pe_int (nomark _)) (pss_one (ps_ret (pe_xmk (T.x 18 (by decide)) (hr.mono (by decide)) (by rfl) (pa_cons (pv 1) pa_nil)))) pss_nil)
      (pss_one (ps_ret pe_non)))))))), ?_⟩
    walk_at "rd"
    refine chn (k := 14) (fun e => e ▸ q1 (by omega) (by omega)) (fun e14 => ?_)
    refine chn (k := 15) (fun e => e ▸ q1 (by omega) (by omega)) (fun e15 => ?_)
    refine chn (k := 16) (fun e => e ▸ q1 (by omega) (by omega)) (fun e16 => ?_)
    refine chn (k := 17) (fun e => e ▸ q1 (by omega) (by omega)) (fun e17 => ?_)
    refine chn (k := 18) (fun e => e ▸ q1 (by omega) (by omega)) (fun e18 => ?_)
    exact q2 (by omega)
/-- which of the three helpers made it -/
def spMade (c : Nat → Addr) : Sp := fun vs H Q _ => ∃ (n : Nat) (v : V), vs = [.int n, v] ∧ n < 19 ∧ ∀ a H', Same H H' → XAt H' a (c n) v → Q (.ref a) H'
theorem ok_made (S : Src K mg "_law_made" s_law_made) (T : Txt P w K mg base c cF) (C_law_first : OkD P w K mg base 3 "_law_first" ["_law_number", "_law_value_here"] (spFirst c 0 7))
    (C_law_second : OkD P w K mg base 3 "_law_second" ["_law_number", "_law_value_here"] (spFirst c 7 14)) (C_law_third : OkD P w K mg base 3 "_law_third" ["_law_number", "_law_value_here"] (spFirst c 14 19)) : OkD P w K mg base 4 "_law_made" ["_law_number", "_law_value_here"] (spMade c) := by
  refine okd S (fun f fd F => F.ok sc_law_made (fun vs H Q E h => ?_) (fun cdv A outer s H vs Q E hr h => ?_)) (fun _ _ _ _ _ _ us hl => match us, hl with | [_, _], _ => rfl)
  · obtain ⟨_, _, rfl, _⟩ := h
    rfl
  · obtain ⟨n, v, rfl, hn, q⟩ := h
    refine ⟨_, ((pss_cons (ps_set (i := 2) sc_law_made.nd rfl (.inl rfl) (pe_lst (pa_cons (pe_callO C_law_first (hr.mono (by decide)) (by rfl) (pa_cons (pv 0) (pa_cons (pv 1) pa_nil))) (pa_cons (pe_callO C_law_second (hr.mono (by decide)) (by rfl) (pa_cons (pv 0) (pa_cons (pv 1) pa_nil))) (pa_cons (pe_callO C_law_third (hr.mono (by decide)) (by rfl) (pa_cons (pv 0) (pa_cons (pv 1) pa_nil))) pa_nil)))))
      (pss_one (ps_ret (pe_ix ix_lM (pe_lc (own := [("_law_error", 3)]) (g := gName 3) (by rfl) sc_law_made.nd (pi_list (pv 2)) (blkOk_by (own := [("_law_error", 3)]) (N := ["_law_number", "_law_value_here", "_law_makers", "_law_error"]) (sc := defScope s_law_made) (by decide +kernel)) (fun _ _ _ _ _ => pg_name (i := 3) sc_law_made.nd rfl (Or.inl rfl)) (fun _ _ _ _ _ => (pts_one (pt_cmpR op_notN (pv 3) pe_non (nomark _)))) (fun _ _ _ _ _ => (pv 3))) pe_int (fun _ _ => rfl)))))), ?_⟩
    walk_at "rd"
    have tail : ∀ (x0 x1 x2 : V) (a : Addr) (H1 : Hp), Same H H1 → XAt H1 a (c n) v → ([x0, x1, x2].filter fun v => !decide (v = V.non)) = [.ref a] → ∀ p, H1 p = none →
        (∃ x, SqL K (upd H1 p (HO.lst [x0, x1, x2])) p x) ∧ CompW (Itl K p) (gName 3) (tTest (tOp (fun x y H Q => y = V.non ∧ Q (V.bl !decide (x = V.non)) H) (tVar 3) (tC V.non))) (tVar 3) [3] [some (V.int ↑n), some v, some (V.ref p), none] (upd H1 p (HO.lst [x0, x1, x2])) fun x H1 =>
                        ∃ p, x = V.ref p ∧ ∃ x, H1 p = some (HO.lst x) ∧ ∃ x_3, atI x 0 = some x_3 ∧ Q x_3 H1 := fun x0 x1 x2 a H1 sm xa hf p np => by
      have h1 : (upd H1 p (HO.lst [x0, x1, x2])) p = some (HO.lst [x0, x1, x2]) := upd_same
      have s1 : Same H1 (upd H1 p (HO.lst [x0, x1, x2])) := same_upd np
      refine ⟨⟨_, .inl (.inl h1)⟩, ?_⟩
      generalize upd H1 p (HO.lst [x0, x1, x2]) = H2 at h1 s1
      generalize hxs : [x0, x1, x2] = xs at h1 hf
      refine comp_list (xs := xs) (fun D i H' => Same H2 H' ∧ H' D = some (.lst ((xs.take i).filter fun v => !decide (v = V.non)))) (fun D nD => ⟨same_upd nD, upd_same⟩) (fun D i H' nD hi ⟨sm', _⟩ => .inl (.inl (sm' _ _ h1))) ?_ ?_
      · rintro D i x H' nD hx ⟨sm', hD⟩
        walk_at "rd"
        have hl : (xs.take i).length ≤ 3 := by
          rw [List.length_take, ← hxs]
          exact Nat.min_le_right _ _
        have e := take_step hx
        have hlen : ((xs.take i).filter fun v => !decide (v = V.non)).length < sizeLine := Nat.lt_of_le_of_lt (Nat.le_trans (List.length_filter_le _ _) hl) (by decide)
        by_cases hn : x = V.non
        · rw [if_neg (by simp [hn])]
          refine ⟨sm', ?_⟩
          rw [hD, e, List.filter_append]
          simp [hn]
        · rw [if_pos (by simp [hn])]
          refine ⟨_, hD, hlen, same_over sm' nD, ?_⟩
          rw [e, List.filter_append]
          simp [hn]
      · rintro D H' nD ⟨sm', hD⟩
        rw [List.take_length, hf] at hD
        exact ⟨D, rfl, _, hD, _, atI_0, q a H' ((sm.trans s1).trans sm') ((xa.same s1).same sm')⟩
    have e1 : ∀ H1, Same H H1 → ∀ x : V, True := fun _ _ _ => trivial
    rcases (by omega : n < 7 ∨ (7 ≤ n ∧ n < 14) ∨ 14 ≤ n) with h | h | h
    · refine ⟨n, v, rfl, hn, fun _ _ => ?_, fun z => absurd z (by omega)⟩
      intro a H1 s1 na xa
      refine ⟨n, v, rfl, hn, fun _ _ => absurd h (by omega), fun _ => ⟨n, v, rfl, hn, fun _ _ => absurd h (by omega), fun _ => ⟨by decide, fun p np => tail _ _ _ a H1 s1 xa ?_ p np⟩⟩⟩
      simp
    · refine ⟨n, v, rfl, hn, fun _ _ => absurd h (by omega), fun _ => ⟨n, v, rfl, hn, fun _ _ => ?_, fun z => absurd z (by omega)⟩⟩
      intro a H1 s1 na xa
      refine ⟨n, v, rfl, hn, fun _ _ => absurd h (by omega), fun _ => ⟨by decide, fun p np => tail _ _ _ a H1 s1 xa ?_ p np⟩⟩
      simp
    · refine ⟨n, v, rfl, hn, fun _ _ => absurd h (by omega), fun _ => ⟨n, v, rfl, hn, fun _ _ => absurd h (by omega), fun _ => ⟨n, v, rfl, hn, fun _ _ => ?_, fun z => absurd z (by omega)⟩⟩⟩
      intro a H1 s1 na xa
      exact ⟨by decide, fun p np => tail _ _ _ a H1 s1 xa (by simp) p np⟩
def spKinds (K : PySem.W.Frag) (c : Nat → Addr) : Sp := fun vs H Q _ => ∃ (a : Addr) (n : Nat), vs = [.ref a] ∧ n < 21 ∧ XAny H a (c n) ∧ XC K (c n) ∧ ∀ p H', Same H H' → H' p = some (.lst ((List.range 21).map fun j => V.bl (decide (j = n)))) → Q (.ref p) H'
theorem ok_kinds (S : Src K mg "_law_kinds" s_law_kinds) (T : Txt P w K mg base c cF) : OkD P w K mg base 4 "_law_kinds" ["_law_error"] (spKinds K c) := by
  refine okd S (fun f fd F => F.ok sc_law_kinds (fun vs H Q E h => ?_) (fun cdv A outer s H vs Q E hr h => ?_)) (fun _ _ _ _ _ _ us hl => match us, hl with | [_], _ => rfl)
  · obtain ⟨_, _, rfl, _⟩ := h
    rfl
  · obtain ⟨a, n, rfl, hn, ha, hc, q⟩ := h
    refine ⟨_, ((pss_cons (ps_set (i := 1) sc_law_kinds.nd rfl (.inl rfl) (pe_lst pa_nil))
      (pss_cons (ps_set (i := 1) sc_law_kinds.nd rfl (.inl rfl) (pe_op op_cat (pv 1) (pe_lst (pa_cons (pe_callB (call_isAK K rfl) (by rfl) T.n_isinstance (by decide +kernel) (pa_cons (pv 0) (pa_cons (pe_gref (by rfl) (T.x 0 (by decide)).g) pa_nil))) (pa_cons (pe_callB (call_isAK K rfl) (by rfl) T.n_isinstance (by decide +kernel) (pa_cons (pv 0) (pa_cons (pe_gref (by rfl) (T.x 1 (by decide)).g) pa_nil))) (pa_cons (pe_callB (call_isAK K rfl) (by rfl) T.n_isinstance (by decide +kernel) (pa_cons (pv 0) (pa_cons (pe_gref (by rfl) (T.x 2 (by decide)).g) pa_nil))) (pa_cons (pe_callB (call_isAK K rfl) (by rfl) T.n_isinstance (by decide +kernel) (pa_cons (pv 0) (pa_cons (pe_gref (by rfl) (T.x 3 (by decide)).g) pa_nil))) pa_nil)))))))
      (pss_cons (ps_set (i := 1) sc_law_kinds.nd rfl (.inl rfl) (pe_op op_cat (pv 1) (pe_lst (pa_cons (pe_callB (call_isAK K rfl) (by rfl) T.n_isinstance (by decide +kernel) (pa_cons (pv 0) (pa_cons (pe_gref (by rfl) (T.x 4 (by decide)).g) pa_nil))) (pa_cons (pe_callB (call_isAK K rfl) (by rfl) T.n_isinstance (by decide +kernel) (pa_cons (pv 0) (pa_cons (pe_gref (by rfl) (T.x 5 (by decide)).g) pa_nil))) (pa_cons (pe_callB (call_isAK K rfl) (by rfl) T.n_isinstance (by decide +kernel) (pa_cons (pv 0) (pa_cons (pe_gref (by rfl) (T.x 6 (by decide)).g) pa_nil))) (pa_cons (pe_callB (call_isAK K rfl) (by rfl) T.n_isinstance (by decide +kernel) (pa_cons (pv 0) (pa_cons (pe_gref (by rfl) (T.x 7 (by decide)).g) pa_nil))) pa_nil)))))))
      (pss_cons (ps_set (i := 1) sc_law_kinds.nd rfl (.inl rfl) (pe_op op_cat (pv 1) (pe_lst (pa_cons (pe_callB (call_isAK K rfl) (by rfl) T.n_isinstance (by decide +kernel) (pa_cons (pv 0) (pa_cons (pe_gref (by rfl) (T.x 8 (by decide)).g) pa_nil))) (pa_cons (pe_callB (call_isAK K rfl) (by rfl) T.n_isinstance (by decide +kernel) (pa_cons (pv 0) (pa_cons (pe_gref (by rfl) (T.x 9 (by decide)).g) pa_nil))) (pa_cons (pe_callB (call_isAK K rfl) (by rfl) T.n_isinstance (by decide +kernel) (pa_cons (pv 0) (pa_cons (pe_gref (by rfl) (T.x 10 (by decide)).g) pa_nil))) (pa_cons (pe_callB (call_isAK K rfl) (by rfl) T.n_isinstance (by decide +kernel) (pa_cons (pv 0) (pa_cons (pe_gref (by rfl) (T.x 11 (by decide)).g) pa_nil))) pa_nil)))))))
      (pss_cons (ps_set (i := 1) sc_law_kinds.nd rfl (.inl rfl) (pe_op op_cat (pv 1) (pe_lst (pa_cons (pe_callB (call_isAK K rfl) (by rfl) T.n_isinstance (by decide +kernel) (pa_cons (pv 0) (pa_cons (pe_gref (by rfl) (T.x 12 (by decide)).g) pa_nil))) (pa_cons (pe_callB (call_isAK K rfl) (by rfl) T.n_isinstance (by decide +kernel) (pa_cons (pv 0) (pa_cons (pe_gref (by rfl) (T.x 13 (by decide)).g) pa_nil))) (pa_cons (pe_callB (call_isAK K rfl) (by rfl) T.n_isinstance (by decide +kernel) (pa_cons (pv 0) (pa_cons (pe_gref (by rfl) (T.x 14 (by decide)).g) pa_nil))) (pa_cons (pe_callB (call_isAK K rfl) (by rfl) T.n_isinstance (by decide +kernel) (pa_cons (pv 0) (pa_cons (pe_gref (by rfl) (T.x 15 (by decide)).g) pa_nil))) pa_nil)))))))
      (pss_cons (ps_set (i := 1) sc_law_kinds.nd rfl (.inl rfl) (pe_op op_cat (pv 1) (pe_lst (pa_cons (pe_callB (call_isAK K rfl) (by rfl) T.n_isinstance (by decide +kernel) (pa_cons (pv 0) (pa_cons (pe_gref (by rfl) (T.x 16 (by decide)).g) pa_nil))) (pa_cons (pe_callB (call_isAK K rfl) (by rfl) T.n_isinstance (by decide +kernel) (pa_cons (pv 0) (pa_cons (pe_gref (by rfl) (T.x 17 (by decide)).g) pa_nil))) (pa_cons (pe_callB (call_isAK K rfl) (by rfl) T.n_isinstance (by decide +kernel) (pa_cons (pv 0) (pa_cons (pe_gref (by rfl) (T.x 18 (by decide)).g) pa_nil))) (pa_cons (pe_callB (call_isAK K rfl) (by rfl) T.n_isinstance (by decide +kernel) (pa_cons (pv 0) (pa_cons (pe_gref (by rfl) T.n19.g) pa_nil))) pa_nil)))))))
      (pss_cons (ps_set (i := 1) sc_law_kinds.nd rfl (.inl rfl) (pe_op op_cat (pv 1) (pe_lst (pa_cons (pe_callB (call_isAK K rfl) (by rfl) T.n_isinstance (by decide +kernel) (pa_cons (pv 0) (pa_cons (pe_gref (by rfl) T.n20.g) pa_nil))) pa_nil))))
      (pss_one (ps_ret (pv 1))))))))))), ?_⟩
    walk_at "rd"
    refine ⟨by decide, fun p0 n0 => ?_⟩
    have s0 : Same H (upd H p0 (.lst [])) := same_upd n0
    have h0 : (upd H p0 (.lst [])) p0 = some (.lst []) := upd_same
    generalize upd H p0 (.lst []) = H0 at s0 h0 ⊢
    refine .inl ⟨_, _, _, _, _, rfl, ha.same s0, hc, .own _, T.kit n 0 hn (by decide), ?_⟩
    refine .inl ⟨_, _, _, _, _, rfl, ha.same s0, hc, .own _, T.kit n 1 hn (by decide), ?_⟩
    refine .inl ⟨_, _, _, _, _, rfl, ha.same s0, hc, .own _, T.kit n 2 hn (by decide), ?_⟩
    refine .inl ⟨_, _, _, _, _, rfl, ha.same s0, hc, .own _, T.kit n 3 hn (by decide), ?_⟩
    refine ⟨by decide, fun p n1 => ⟨_, (upd_ne (ne_none h0 n1)).trans h0, (by simp only [List.length_cons, List.length_nil]; decide), fun p1 n2 => ?_⟩⟩
    have s1 : Same H (upd (upd H0 p (.lst [V.bl (decide (0 = n)), V.bl (decide (1 = n)), V.bl (decide (2 = n)), V.bl (decide (3 = n))])) p1 (.lst ([] ++ [V.bl (decide (0 = n)), V.bl (decide (1 = n)), V.bl (decide (2 = n)), V.bl (decide (3 = n))]))) := (s0.trans (same_upd n1)).trans (same_upd n2)
    have h1 : (upd (upd H0 p (.lst [V.bl (decide (0 = n)), V.bl (decide (1 = n)), V.bl (decide (2 = n)), V.bl (decide (3 = n))])) p1 (.lst ([] ++ [V.bl (decide (0 = n)), V.bl (decide (1 = n)), V.bl (decide (2 = n)), V.bl (decide (3 = n))]))) p1 = some (.lst ([] ++ [V.bl (decide (0 = n)), V.bl (decide (1 = n)), V.bl (decide (2 = n)), V.bl (decide (3 = n))])) := upd_same
    generalize upd (upd H0 p (.lst [V.bl (decide (0 = n)), V.bl (decide (1 = n)), V.bl (decide (2 = n)), V.bl (decide (3 = n))])) p1 (.lst ([] ++ [V.bl (decide (0 = n)), V.bl (decide (1 = n)), V.bl (decide (2 = n)), V.bl (decide (3 = n))])) = H1 at s1 h1 ⊢
    simp only [List.nil_append, List.cons_append] at h1
    clear n1 n2 h0 s0
    refine .inl ⟨_, _, _, _, _, rfl, ha.same s1, hc, .own _, T.kit n 4 hn (by decide), ?_⟩
    refine .inl ⟨_, _, _, _, _, rfl, ha.same s1, hc, .own _, T.kit n 5 hn (by decide), ?_⟩
    refine .inl ⟨_, _, _, _, _, rfl, ha.same s1, hc, .own _, T.kit n 6 hn (by decide), ?_⟩
    refine .inl ⟨_, _, _, _, _, rfl, ha.same s1, hc, .own _, T.kit n 7 hn (by decide), ?_⟩
    refine ⟨by decide, fun p n1 => ⟨_, (upd_ne (ne_none h1 n1)).trans h1, (by simp only [List.length_cons, List.length_nil]; decide), fun p2 n2 => ?_⟩⟩
    have s2 : Same H (upd (upd H1 p (.lst [V.bl (decide (4 = n)), V.bl (decide (5 = n)), V.bl (decide (6 = n)), V.bl (decide (7 = n))])) p2 (.lst ([V.bl (decide (0 = n)), V.bl (decide (1 = n)), V.bl (decide (2 = n)), V.bl (decide (3 = n))] ++ [V.bl (decide (4 = n)), V.bl (decide (5 = n)), V.bl (decide (6 = n)), V.bl (decide (7 = n))]))) := (s1.trans (same_upd n1)).trans (same_upd n2)
    have h2 : (upd (upd H1 p (.lst [V.bl (decide (4 = n)), V.bl (decide (5 = n)), V.bl (decide (6 = n)), V.bl (decide (7 = n))])) p2 (.lst ([V.bl (decide (0 = n)), V.bl (decide (1 = n)), V.bl (decide (2 = n)), V.bl (decide (3 = n))] ++ [V.bl (decide (4 = n)), V.bl (decide (5 = n)), V.bl (decide (6 = n)), V.bl (decide (7 = n))]))) p2 = some (.lst ([V.bl (decide (0 = n)), V.bl (decide (1 = n)), V.bl (decide (2 = n)), V.bl (decide (3 = n))] ++ [V.bl (decide (4 = n)), V.bl (decide (5 = n)), V.bl (decide (6 = n)), V.bl (decide (7 = n))])) := upd_same
    generalize upd (upd H1 p (.lst [V.bl (decide (4 = n)), V.bl (decide (5 = n)), V.bl (decide (6 = n)), V.bl (decide (7 = n))])) p2 (.lst ([V.bl (decide (0 = n)), V.bl (decide (1 = n)), V.bl (decide (2 = n)), V.bl (decide (3 = n))] ++ [V.bl (decide (4 = n)), V.bl (decide (5 = n)), V.bl (decide (6 = n)), V.bl (decide (7 = n))])) = H2 at s2 h2 ⊢
    simp only [List.nil_append, List.cons_append] at h2
    clear n1 n2 h1 s1
    refine .inl ⟨_, _, _, _, _, rfl, ha.same s2, hc, .own _, T.kit n 8 hn (by decide), ?_⟩
    refine .inl ⟨_, _, _, _, _, rfl, ha.same s2, hc, .own _, T.kit n 9 hn (by decide), ?_⟩
    refine .inl ⟨_, _, _, _, _, rfl, ha.same s2, hc, .own _, T.kit n 10 hn (by decide), ?_⟩
    refine .inl ⟨_, _, _, _, _, rfl, ha.same s2, hc, .own _, T.kit n 11 hn (by decide), ?_⟩
    refine ⟨by decide, fun p n1 => ⟨_, (upd_ne (ne_none h2 n1)).trans h2, (by simp only [List.length_cons, List.length_nil]; decide), fun p3 n2 => ?_⟩⟩
    have s3 : Same H (upd (upd H2 p (.lst [V.bl (decide (8 = n)), V.bl (decide (9 = n)), V.bl (decide (10 = n)), V.bl (decide (11 = n))])) p3 (.lst ([V.bl (decide (0 = n)), V.bl (decide (1 = n)), V.bl (decide (2 = n)), V.bl (decide (3 = n)), V.bl (decide (4 = n)), V.bl (decide (5 = n)), V.bl (decide (6 = n)), V.bl (decide (7 = n))] ++ [V.bl (decide (8 = n)), V.bl (decide (9 = n)), V.bl (decide (10 = n)), V.bl (decide (11 = n))]))) := (s2.trans (same_upd n1)).trans (same_upd n2)
    have h3 : (upd (upd H2 p (.lst [V.bl (decide (8 = n)), V.bl (decide (9 = n)), V.bl (decide (10 = n)), V.bl (decide (11 = n))])) p3 (.lst ([V.bl (decide (0 = n)), V.bl (decide (1 = n)), V.bl (decide (2 = n)), V.bl (decide (3 = n)), V.bl (decide (4 = n)), V.bl (decide (5 = n)), V.bl (decide (6 = n)), V.bl (decide (7 = n))] ++ [V.bl (decide (8 = n)), V.bl (decide (9 = n)), V.bl (decide (10 = n)), V.bl (decide (11 = n))]))) p3 = some (.lst ([V.bl (decide (0 = n)), V.bl (decide (1 = n)), V.bl (decide (2 = n)), V.bl (decide (3 = n)), V.bl (decide (4 = n)), V.bl (decide (5 = n)), V.bl (decide (6 = n)), V.bl (decide (7 = n))] ++ [V.bl (decide (8 = n)), V.bl (decide (9 = n)), V.bl (decide (10 = n)), V.bl (decide (11 = n))])) := upd_same
    generalize upd (upd H2 p (.lst [V.bl (decide (8 = n)), V.bl (decide (9 = n)), V.bl (decide (10 = n)), V.bl (decide (11 = n))])) p3 (.lst ([V.bl (decide (0 = n)), V.bl (decide (1 = n)), V.bl (decide (2 = n)), V.bl (decide (3 = n)), V.bl (decide (4 = n)), V.bl (decide (5 = n)), V.bl (decide (6 = n)), V.bl (decide (7 = n))] ++ [V.bl (decide (8 = n)), V.bl (decide (9 = n)), V.bl (decide (10 = n)), V.bl (decide (11 = n))])) = H3 at s3 h3 ⊢
    simp only [List.nil_append, List.cons_append] at h3
    clear n1 n2 h2 s2
    refine .inl ⟨_, _, _, _, _, rfl, ha.same s3, hc, .own _, T.kit n 12 hn (by decide), ?_⟩
    refine .inl ⟨_, _, _, _, _, rfl, ha.same s3, hc, .own _, T.kit n 13 hn (by decide), ?_⟩
    refine .inl ⟨_, _, _, _, _, rfl, ha.same s3, hc, .own _, T.kit n 14 hn (by decide), ?_⟩
    refine .inl ⟨_, _, _, _, _, rfl, ha.same s3, hc, .own _, T.kit n 15 hn (by decide), ?_⟩
    refine ⟨by decide, fun p n1 => ⟨_, (upd_ne (ne_none h3 n1)).trans h3, (by simp only [List.length_cons, List.length_nil]; decide), fun p4 n2 => ?_⟩⟩
    have s4 : Same H (upd (upd H3 p (.lst [V.bl (decide (12 = n)), V.bl (decide (13 = n)), V.bl (decide (14 = n)), V.bl (decide (15 = n))])) p4 (.lst ([V.bl (decide (0 = n)), V.bl (decide (1 = n)), V.bl (decide (2 = n)), V.bl (decide (3 = n)), V.bl (decide (4 = n)), V.bl (decide (5 = n)), V.bl (decide (6 = n)), V.bl (decide (7 = n)), V.bl (decide (8 = n)), V.bl (decide (9 = n)), V.bl (decide (10 = n)), V.bl (decide (11 = n))] ++ [V.bl (decide (12 = n)), V.bl (decide (13 = n)), V.bl (decide (14 = n)), V.bl (decide (15 = n))]))) := (s3.trans (same_upd n1)).trans (same_upd n2)
    have h4 : (upd (upd H3 p (.lst [V.bl (decide (12 = n)), V.bl (decide (13 = n)), V.bl (decide (14 = n)), V.bl (decide (15 = n))])) p4 (.lst ([V.bl (decide (0 = n)), V.bl (decide (1 = n)), V.bl (decide (2 = n)), V.bl (decide (3 = n)), V.bl (decide (4 = n)), V.bl (decide (5 = n)), V.bl (decide (6 = n)), V.bl (decide (7 = n)), V.bl (decide (8 = n)), V.bl (decide (9 = n)), V.bl (decide (10 = n)), V.bl (decide (11 = n))] ++ [V.bl (decide (12 = n)), V.bl (decide (13 = n)), V.bl (decide (14 = n)), V.bl (decide (15 = n))]))) p4 = some (.lst ([V.bl (decide (0 = n)), V.bl (decide (1 = n)), V.bl (decide (2 = n)), V.bl (decide (3 = n)), V.bl (decide (4 = n)), V.bl (decide (5 = n)), V.bl (decide (6 = n)), V.bl (decide (7 = n)), V.bl (decide (8 = n)), V.bl (decide (9 = n)), V.bl (decide (10 = n)), V.bl (decide (11 = n))] ++ [V.bl (decide (12 = n)), V.bl (decide (13 = n)), V.bl (decide (14 = n)), V.bl (decide (15 = n))])) := upd_same
    generalize upd (upd H3 p (.lst [V.bl (decide (12 = n)), V.bl (decide (13 = n)), V.bl (decide (14 = n)), V.bl (decide (15 = n))])) p4 (.lst ([V.bl (decide (0 = n)), V.bl (decide (1 = n)), V.bl (decide (2 = n)), V.bl (decide (3 = n)), V.bl (decide (4 = n)), V.bl (decide (5 = n)), V.bl (decide (6 = n)), V.bl (decide (7 = n)), V.bl (decide (8 = n)), V.bl (decide (9 = n)), V.bl (decide (10 = n)), V.bl (decide (11 = n))] ++ [V.bl (decide (12 = n)), V.bl (decide (13 = n)), V.bl (decide (14 = n)), V.bl (decide (15 = n))])) = H4 at s4 h4 ⊢
    simp only [List.nil_append, List.cons_append] at h4
    clear n1 n2 h3 s3
    refine .inl ⟨_, _, _, _, _, rfl, ha.same s4, hc, .own _, T.kit n 16 hn (by decide), ?_⟩
    refine .inl ⟨_, _, _, _, _, rfl, ha.same s4, hc, .own _, T.kit n 17 hn (by decide), ?_⟩
    refine .inl ⟨_, _, _, _, _, rfl, ha.same s4, hc, .own _, T.kit n 18 hn (by decide), ?_⟩
    refine .inl ⟨_, _, _, _, _, rfl, ha.same s4, hc, .own _, T.kit n 19 hn (by decide), ?_⟩
    refine ⟨by decide, fun p n1 => ⟨_, (upd_ne (ne_none h4 n1)).trans h4, (by simp only [List.length_cons, List.length_nil]; decide), fun p5 n2 => ?_⟩⟩
    have s5 : Same H (upd (upd H4 p (.lst [V.bl (decide (16 = n)), V.bl (decide (17 = n)), V.bl (decide (18 = n)), V.bl (decide (19 = n))])) p5 (.lst ([V.bl (decide (0 = n)), V.bl (decide (1 = n)), V.bl (decide (2 = n)), V.bl (decide (3 = n)), V.bl (decide (4 = n)), V.bl (decide (5 = n)), V.bl (decide (6 = n)), V.bl (decide (7 = n)), V.bl (decide (8 = n)), V.bl (decide (9 = n)), V.bl (decide (10 = n)), V.bl (decide (11 = n)), V.bl (decide (12 = n)), V.bl (decide (13 = n)), V.bl (decide (14 = n)), V.bl (decide (15 = n))] ++ [V.bl (decide (16 = n)), V.bl (decide (17 = n)), V.bl (decide (18 = n)), V.bl (decide (19 = n))]))) := (s4.trans (same_upd n1)).trans (same_upd n2)
    have h5 : (upd (upd H4 p (.lst [V.bl (decide (16 = n)), V.bl (decide (17 = n)), V.bl (decide (18 = n)), V.bl (decide (19 = n))])) p5 (.lst ([V.bl (decide (0 = n)), V.bl (decide (1 = n)), V.bl (decide (2 = n)), V.bl (decide (3 = n)), V.bl (decide (4 = n)), V.bl (decide (5 = n)), V.bl (decide (6 = n)), V.bl (decide (7 = n)), V.bl (decide (8 = n)), V.bl (decide (9 = n)), V.bl (decide (10 = n)), V.bl (decide (11 = n)), V.bl (decide (12 = n)), V.bl (decide (13 = n)), V.bl (decide (14 = n)), V.bl (decide (15 = n))] ++ [V.bl (decide (16 = n)), V.bl (decide (17 = n)), V.bl (decide (18 = n)), V.bl (decide (19 = n))]))) p5 = some (.lst ([V.bl (decide (0 = n)), V.bl (decide (1 = n)), V.bl (decide (2 = n)), V.bl (decide (3 = n)), V.bl (decide (4 = n)), V.bl (decide (5 = n)), V.bl (decide (6 = n)), V.bl (decide (7 = n)), V.bl (decide (8 = n)), V.bl (decide (9 = n)), V.bl (decide (10 = n)), V.bl (decide (11 = n)), V.bl (decide (12 = n)), V.bl (decide (13 = n)), V.bl (decide (14 = n)), V.bl (decide (15 = n))] ++ [V.bl (decide (16 = n)), V.bl (decide (17 = n)), V.bl (decide (18 = n)), V.bl (decide (19 = n))])) := upd_same
    generalize upd (upd H4 p (.lst [V.bl (decide (16 = n)), V.bl (decide (17 = n)), V.bl (decide (18 = n)), V.bl (decide (19 = n))])) p5 (.lst ([V.bl (decide (0 = n)), V.bl (decide (1 = n)), V.bl (decide (2 = n)), V.bl (decide (3 = n)), V.bl (decide (4 = n)), V.bl (decide (5 = n)), V.bl (decide (6 = n)), V.bl (decide (7 = n)), V.bl (decide (8 = n)), V.bl (decide (9 = n)), V.bl (decide (10 = n)), V.bl (decide (11 = n)), V.bl (decide (12 = n)), V.bl (decide (13 = n)), V.bl (decide (14 = n)), V.bl (decide (15 = n))] ++ [V.bl (decide (16 = n)), V.bl (decide (17 = n)), V.bl (decide (18 = n)), V.bl (decide (19 = n))])) = H5 at s5 h5 ⊢
    simp only [List.nil_append, List.cons_append] at h5
    clear n1 n2 h4 s4
    refine .inl ⟨_, _, _, _, _, rfl, ha.same s5, hc, .own _, T.kit n 20 hn (by decide), ?_⟩
    refine ⟨by decide, fun p n1 => ⟨_, (upd_ne (ne_none h5 n1)).trans h5, (by simp only [List.length_cons, List.length_nil]; decide), fun p6 n2 => ?_⟩⟩
    have s6 : Same H (upd (upd H5 p (.lst [V.bl (decide (20 = n))])) p6 (.lst ([V.bl (decide (0 = n)), V.bl (decide (1 = n)), V.bl (decide (2 = n)), V.bl (decide (3 = n)), V.bl (decide (4 = n)), V.bl (decide (5 = n)), V.bl (decide (6 = n)), V.bl (decide (7 = n)), V.bl (decide (8 = n)), V.bl (decide (9 = n)), V.bl (decide (10 = n)), V.bl (decide (11 = n)), V.bl (decide (12 = n)), V.bl (decide (13 = n)), V.bl (decide (14 = n)), V.bl (decide (15 = n)), V.bl (decide (16 = n)), V.bl (decide (17 = n)), V.bl (decide (18 = n)), V.bl (decide (19 = n))] ++ [V.bl (decide (20 = n))]))) := (s5.trans (same_upd n1)).trans (same_upd n2)
    have h6 : (upd (upd H5 p (.lst [V.bl (decide (20 = n))])) p6 (.lst ([V.bl (decide (0 = n)), V.bl (decide (1 = n)), V.bl (decide (2 = n)), V.bl (decide (3 = n)), V.bl (decide (4 = n)), V.bl (decide (5 = n)), V.bl (decide (6 = n)), V.bl (decide (7 = n)), V.bl (decide (8 = n)), V.bl (decide (9 = n)), V.bl (decide (10 = n)), V.bl (decide (11 = n)), V.bl (decide (12 = n)), V.bl (decide (13 = n)), V.bl (decide (14 = n)), V.bl (decide (15 = n)), V.bl (decide (16 = n)), V.bl (decide (17 = n)), V.bl (decide (18 = n)), V.bl (decide (19 = n))] ++ [V.bl (decide (20 = n))]))) p6 = some (.lst ([V.bl (decide (0 = n)), V.bl (decide (1 = n)), V.bl (decide (2 = n)), V.bl (decide (3 = n)), V.bl (decide (4 = n)), V.bl (decide (5 = n)), V.bl (decide (6 = n)), V.bl (decide (7 = n)), V.bl (decide (8 = n)), V.bl (decide (9 = n)), V.bl (decide (10 = n)), V.bl (decide (11 = n)), V.bl (decide (12 = n)), V.bl (decide (13 = n)), V.bl (decide (14 = n)), V.bl (decide (15 = n)), V.bl (decide (16 = n)), V.bl (decide (17 = n)), V.bl (decide (18 = n)), V.bl (decide (19 = n))] ++ [V.bl (decide (20 = n))])) := upd_same
    generalize upd (upd H5 p (.lst [V.bl (decide (20 = n))])) p6 (.lst ([V.bl (decide (0 = n)), V.bl (decide (1 = n)), V.bl (decide (2 = n)), V.bl (decide (3 = n)), V.bl (decide (4 = n)), V.bl (decide (5 = n)), V.bl (decide (6 = n)), V.bl (decide (7 = n)), V.bl (decide (8 = n)), V.bl (decide (9 = n)), V.bl (decide (10 = n)), V.bl (decide (11 = n)), V.bl (decide (12 = n)), V.bl (decide (13 = n)), V.bl (decide (14 = n)), V.bl (decide (15 = n)), V.bl (decide (16 = n)), V.bl (decide (17 = n)), V.bl (decide (18 = n)), V.bl (decide (19 = n))] ++ [V.bl (decide (20 = n))])) = H6 at s6 h6 ⊢
    simp only [List.nil_append, List.cons_append] at h6
    clear n1 n2 h5 s5
    refine q _ _ s6 ?_
    rw [h6]
    rfl
def spEmpty : Sp := fun vs H Q _ => vs = [] ∧ ∀ p H', Same H H' → H' p = some (.lst (List.replicate 19 V.non)) → Q (.ref p) H'
def spNamed : Sp := fun vs H Q _ => ∃ v, vs = [v] ∧ ∀ p H', Same H H' → H' p = some (.lst (List.replicate 19 v)) → Q (.ref p) H'
theorem ok_empty (S : Src K mg "_law_empty" s_law_empty) (T : Txt P w K mg base c cF) : OkD P w K mg base 4 "_law_empty" [] spEmpty := by
  refine okd S (fun f fd F => F.ok sc_law_empty (fun vs H Q E h => ?_) (fun cdv A outer s H vs Q E hr h => ?_)) (fun _ _ _ _ _ _ us hl => match us, hl with | [], _ => rfl)
  · obtain ⟨rfl, _⟩ := h
    rfl
  · obtain ⟨rfl, q⟩ := h
    refine ⟨_, ((pss_cons (ps_set (i := 0) sc_law_empty.nd rfl (.inl rfl) (pe_lst pa_nil))
      (pss_cons (ps_set (i := 0) sc_law_empty.nd rfl (.inl rfl) (pe_op op_cat (pv 0) (pe_lst (pa_cons (pe_xvK K rfl (pe_xmk0 (T.x 0 (by decide)) (hr.mono (by decide)) (by rfl)) (by rfl)) (pa_cons (pe_xvK K rfl (pe_xmk0 (T.x 1 (by decide)) (hr.mono (by decide)) (by rfl)) (by rfl)) (pa_cons (pe_xvK K rfl (pe_xmk0 (T.x 2 (by decide)) (hr.mono (by decide)) (by rfl)) (by rfl)) (pa_cons (pe_xvK K rfl (pe_xmk0 (T.x 3 (by decide)) (hr.mono (by decide)) (by rfl)) (by rfl)) (pa_cons (pe_xvK K rfl (pe_xmk0 (T.x 4 (by decide)) (hr.mono (by decide)) (by rfl)) (by rfl)) pa_nil))))))))
      (pss_cons (ps_set (i := 0) sc_law_empty.nd rfl (.inl rfl) (pe_op op_cat (pv 0) (pe_lst (pa_cons (pe_xvK K rfl (pe_xmk0 (T.x 5 (by decide)) (hr.mono (by decide)) (by rfl)) (by rfl)) (pa_cons (pe_xvK K rfl (pe_xmk0 (T.x 6 (by decide)) (hr.mono (by decide)) (by rfl)) (by rfl)) (pa_cons (pe_xvK K rfl (pe_xmk0 (T.x 7 (by decide)) (hr.mono (by decide)) (by rfl)) (by rfl)) (pa_cons (pe_xvK K rfl (pe_xmk0 (T.x 8 (by decide)) (hr.mono (by decide)) (by rfl)) (by rfl)) (pa_cons (pe_xvK K rfl (pe_xmk0 (T.x 9 (by decide)) (hr.mono (by decide)) (by rfl)) (by rfl)) pa_nil))))))))
      (pss_cons (ps_set (i := 0) sc_law_empty.nd rfl (.inl rfl) (pe_op op_cat (pv 0) (pe_lst (pa_cons (pe_xvK K rfl (pe_xmk0 (T.x 10 (by decide)) (hr.mono (by decide)) (by rfl)) (by rfl)) (pa_cons (pe_xvK K rfl (pe_xmk0 (T.x 11 (by decide)) (hr.mono (by decide)) (by rfl)) (by rfl)) (pa_cons (pe_xvK K rfl (pe_xmk0 (T.x 12 (by decide)) (hr.mono (by decide)) (by rfl)) (by rfl)) (pa_cons (pe_xvK K rfl (pe_xmk0 (T.x 13 (by decide)) (hr.mono (by decide)) (by rfl)) (by rfl)) (pa_cons (pe_xvK K rfl (pe_xmk0 (T.x 14 (by decide)) (hr.mono (by decide)) (by rfl)) (by rfl)) pa_nil))))))))
      (pss_cons (ps_set (i := 0) sc_law_empty.nd rfl (.inl rfl) (pe_op op_cat (pv 0) (pe_lst (pa_cons (pe_xvK K rfl (pe_xmk0 (T.x 15 (by decide)) (hr.mono (by decide)) (by rfl)) (by rfl)) (pa_cons (pe_xvK K rfl (pe_xmk0 (T.x 16 (by decide)) (hr.mono (by decide)) (by rfl)) (by rfl)) (pa_cons (pe_xvK K rfl (pe_xmk0 (T.x 17 (by decide)) (hr.mono (by decide)) (by rfl)) (by rfl)) (pa_cons (pe_xvK K rfl (pe_xmk0 (T.x 18 (by decide)) (hr.mono (by decide)) (by rfl)) (by rfl)) pa_nil)))))))
      (pss_one (ps_ret (pv 0))))))))), ?_⟩
    walk_at "rd"
    refine ⟨by decide, fun p0 n0 => ?_⟩
    have s0 : Same H (upd H p0 (.lst [])) := same_upd n0
    have h0 : (upd H p0 (.lst [])) p0 = some (.lst []) := upd_same
    generalize upd H p0 (.lst []) = H0 at s0 h0 ⊢
    have s0_0 := s0
    have h0_0 := h0
    intro a G0_1 sm _ xa
    refine ⟨a, rfl, c 0, V.non, xa, (T.x 0 (by decide)).xc, ?_⟩
    have s0_1 := s0_0.trans sm
    have h0_1 := sm _ _ h0_0
    clear xa
    intro a G0_2 sm _ xa
    refine ⟨a, rfl, c 1, V.non, xa, (T.x 1 (by decide)).xc, ?_⟩
    have s0_2 := s0_1.trans sm
    have h0_2 := sm _ _ h0_1
    clear xa
    intro a G0_3 sm _ xa
    refine ⟨a, rfl, c 2, V.non, xa, (T.x 2 (by decide)).xc, ?_⟩
    have s0_3 := s0_2.trans sm
    have h0_3 := sm _ _ h0_2
    clear xa
    intro a G0_4 sm _ xa
    refine ⟨a, rfl, c 3, V.non, xa, (T.x 3 (by decide)).xc, ?_⟩
    have s0_4 := s0_3.trans sm
    have h0_4 := sm _ _ h0_3
    clear xa
    intro a G0_5 sm _ xa
    refine ⟨a, rfl, c 4, V.non, xa, (T.x 4 (by decide)).xc, ?_⟩
    have s0_5 := s0_4.trans sm
    have h0_5 := sm _ _ h0_4
    clear xa
    refine ⟨by decide, fun p n1 => ⟨_, (upd_ne (ne_none h0_5 n1)).trans h0_5, (by simp only [List.length_cons, List.length_nil]; decide), fun p1 n2 => ?_⟩⟩
    have s1 : Same H (upd (upd G0_5 p (.lst [V.non, V.non, V.non, V.non, V.non])) p1 (.lst ([] ++ [V.non, V.non, V.non, V.non, V.non]))) := (s0_5.trans (same_upd n1)).trans (same_upd n2)
    have h1 : (upd (upd G0_5 p (.lst [V.non, V.non, V.non, V.non, V.non])) p1 (.lst ([] ++ [V.non, V.non, V.non, V.non, V.non]))) p1 = some (.lst ([] ++ [V.non, V.non, V.non, V.non, V.non])) := upd_same
    generalize upd (upd G0_5 p (.lst [V.non, V.non, V.non, V.non, V.non])) p1 (.lst ([] ++ [V.non, V.non, V.non, V.non, V.non])) = H1 at s1 h1 ⊢
    simp only [List.nil_append, List.cons_append] at h1
    clear n1 n2 h0 s0
    have s1_0 := s1
    have h1_0 := h1
    intro a G1_1 sm _ xa
    refine ⟨a, rfl, c 5, V.non, xa, (T.x 5 (by decide)).xc, ?_⟩
    have s1_1 := s1_0.trans sm
    have h1_1 := sm _ _ h1_0
    clear xa
    intro a G1_2 sm _ xa
    refine ⟨a, rfl, c 6, V.non, xa, (T.x 6 (by decide)).xc, ?_⟩
    have s1_2 := s1_1.trans sm
    have h1_2 := sm _ _ h1_1
    clear xa
    intro a G1_3 sm _ xa
    refine ⟨a, rfl, c 7, V.non, xa, (T.x 7 (by decide)).xc, ?_⟩
    have s1_3 := s1_2.trans sm
    have h1_3 := sm _ _ h1_2
    clear xa
    intro a G1_4 sm _ xa
    refine ⟨a, rfl, c 8, V.non, xa, (T.x 8 (by decide)).xc, ?_⟩
    have s1_4 := s1_3.trans sm
    have h1_4 := sm _ _ h1_3
    clear xa
    intro a G1_5 sm _ xa
    refine ⟨a, rfl, c 9, V.non, xa, (T.x 9 (by decide)).xc, ?_⟩
    have s1_5 := s1_4.trans sm
    have h1_5 := sm _ _ h1_4
    clear xa
    refine ⟨by decide, fun p n1 => ⟨_, (upd_ne (ne_none h1_5 n1)).trans h1_5, (by simp only [List.length_cons, List.length_nil]; decide), fun p2 n2 => ?_⟩⟩
    have s2 : Same H (upd (upd G1_5 p (.lst [V.non, V.non, V.non, V.non, V.non])) p2 (.lst ([V.non, V.non, V.non, V.non, V.non] ++ [V.non, V.non, V.non, V.non, V.non]))) := (s1_5.trans (same_upd n1)).trans (same_upd n2)
    have h2 : (upd (upd G1_5 p (.lst [V.non, V.non, V.non, V.non, V.non])) p2 (.lst ([V.non, V.non, V.non, V.non, V.non] ++ [V.non, V.non, V.non, V.non, V.non]))) p2 = some (.lst ([V.non, V.non, V.non, V.non, V.non] ++ [V.non, V.non, V.non, V.non, V.non])) := upd_same
    generalize upd (upd G1_5 p (.lst [V.non, V.non, V.non, V.non, V.non])) p2 (.lst ([V.non, V.non, V.non, V.non, V.non] ++ [V.non, V.non, V.non, V.non, V.non])) = H2 at s2 h2 ⊢
    simp only [List.nil_append, List.cons_append] at h2
    clear n1 n2 h1 s1
    have s2_0 := s2
    have h2_0 := h2
    intro a G2_1 sm _ xa
    refine ⟨a, rfl, c 10, V.non, xa, (T.x 10 (by decide)).xc, ?_⟩
    have s2_1 := s2_0.trans sm
    have h2_1 := sm _ _ h2_0
    clear xa
    intro a G2_2 sm _ xa
    refine ⟨a, rfl, c 11, V.non, xa, (T.x 11 (by decide)).xc, ?_⟩
    have s2_2 := s2_1.trans sm
    have h2_2 := sm _ _ h2_1
    clear xa
    intro a G2_3 sm _ xa
    refine ⟨a, rfl, c 12, V.non, xa, (T.x 12 (by decide)).xc, ?_⟩
    have s2_3 := s2_2.trans sm
    have h2_3 := sm _ _ h2_2
    clear xa
    intro a G2_4 sm _ xa
    refine ⟨a, rfl, c 13, V.non, xa, (T.x 13 (by decide)).xc, ?_⟩
    have s2_4 := s2_3.trans sm
    have h2_4 := sm _ _ h2_3
    clear xa
    intro a G2_5 sm _ xa
    refine ⟨a, rfl, c 14, V.non, xa, (T.x 14 (by decide)).xc, ?_⟩
    have s2_5 := s2_4.trans sm
    have h2_5 := sm _ _ h2_4
    clear xa
    refine ⟨by decide, fun p n1 => ⟨_, (upd_ne (ne_none h2_5 n1)).trans h2_5, (by simp only [List.length_cons, List.length_nil]; decide), fun p3 n2 => ?_⟩⟩
    have s3 : Same H (upd (upd G2_5 p (.lst [V.non, V.non, V.non, V.non, V.non])) p3 (.lst ([V.non, V.non, V.non, V.non, V.non, V.non, V.non, V.non, V.non, V.non] ++ [V.non, V.non, V.non, V.non, V.non]))) := (s2_5.trans (same_upd n1)).trans (same_upd n2)
    have h3 : (upd (upd G2_5 p (.lst [V.non, V.non, V.non, V.non, V.non])) p3 (.lst ([V.non, V.non, V.non, V.non, V.non, V.non, V.non, V.non, V.non, V.non] ++ [V.non, V.non, V.non, V.non, V.non]))) p3 = some (.lst ([V.non, V.non, V.non, V.non, V.non, V.non, V.non, V.non, V.non, V.non] ++ [V.non, V.non, V.non, V.non, V.non])) := upd_same
    generalize upd (upd G2_5 p (.lst [V.non, V.non, V.non, V.non, V.non])) p3 (.lst ([V.non, V.non, V.non, V.non, V.non, V.non, V.non, V.non, V.non, V.non] ++ [V.non, V.non, V.non, V.non, V.non])) = H3 at s3 h3 ⊢
    simp only [List.nil_append, List.cons_append] at h3
    clear n1 n2 h2 s2
    have s3_0 := s3
    have h3_0 := h3
    intro a G3_1 sm _ xa
    refine ⟨a, rfl, c 15, V.non, xa, (T.x 15 (by decide)).xc, ?_⟩
    have s3_1 := s3_0.trans sm
    have h3_1 := sm _ _ h3_0
    clear xa
    intro a G3_2 sm _ xa
    refine ⟨a, rfl, c 16, V.non, xa, (T.x 16 (by decide)).xc, ?_⟩
    have s3_2 := s3_1.trans sm
    have h3_2 := sm _ _ h3_1
    clear xa
    intro a G3_3 sm _ xa
    refine ⟨a, rfl, c 17, V.non, xa, (T.x 17 (by decide)).xc, ?_⟩
    have s3_3 := s3_2.trans sm
    have h3_3 := sm _ _ h3_2
    clear xa
    intro a G3_4 sm _ xa
    refine ⟨a, rfl, c 18, V.non, xa, (T.x 18 (by decide)).xc, ?_⟩
    have s3_4 := s3_3.trans sm
    have h3_4 := sm _ _ h3_3
    clear xa
    refine ⟨by decide, fun p n1 => ⟨_, (upd_ne (ne_none h3_4 n1)).trans h3_4, (by simp only [List.length_cons, List.length_nil]; decide), fun p4 n2 => ?_⟩⟩
    have s4 : Same H (upd (upd G3_4 p (.lst [V.non, V.non, V.non, V.non])) p4 (.lst ([V.non, V.non, V.non, V.non, V.non, V.non, V.non, V.non, V.non, V.non, V.non, V.non, V.non, V.non, V.non] ++ [V.non, V.non, V.non, V.non]))) := (s3_4.trans (same_upd n1)).trans (same_upd n2)
    have h4 : (upd (upd G3_4 p (.lst [V.non, V.non, V.non, V.non])) p4 (.lst ([V.non, V.non, V.non, V.non, V.non, V.non, V.non, V.non, V.non, V.non, V.non, V.non, V.non, V.non, V.non] ++ [V.non, V.non, V.non, V.non]))) p4 = some (.lst ([V.non, V.non, V.non, V.non, V.non, V.non, V.non, V.non, V.non, V.non, V.non, V.non, V.non, V.non, V.non] ++ [V.non, V.non, V.non, V.non])) := upd_same
    generalize upd (upd G3_4 p (.lst [V.non, V.non, V.non, V.non])) p4 (.lst ([V.non, V.non, V.non, V.non, V.non, V.non, V.non, V.non, V.non, V.non, V.non, V.non, V.non, V.non, V.non] ++ [V.non, V.non, V.non, V.non])) = H4 at s4 h4 ⊢
    simp only [List.nil_append, List.cons_append] at h4
    clear n1 n2 h3 s3
    exact q _ _ s4 h4
theorem ok_named (S : Src K mg "_law_named" s_law_named) (T : Txt P w K mg base c cF) : OkD P w K mg base 4 "_law_named" ["_law_value_here"] spNamed := by
  refine okd S (fun f fd F => F.ok sc_law_named (fun vs H Q E h => ?_) (fun cdv A outer s H vs Q E hr h => ?_)) (fun _ _ _ _ _ _ us hl => match us, hl with | [_], _ => rfl)
  · obtain ⟨_, rfl, _⟩ := h
    rfl
  · obtain ⟨v, rfl, q⟩ := h
    refine ⟨_, ((pss_cons (ps_set (i := 1) sc_law_named.nd rfl (.inl rfl) (pe_lst pa_nil))
      (pss_cons (ps_set (i := 1) sc_law_named.nd rfl (.inl rfl) (pe_op op_cat (pv 1) (pe_lst (pa_cons (pe_xvK K rfl (pe_xmkK (T.x 0 (by decide)) (hr.mono (by decide)) (by rfl) (pk_cons (pv 0) pk_nil)) (by rfl)) (pa_cons (pe_xvK K rfl (pe_xmkK (T.x 1 (by decide)) (hr.mono (by decide)) (by rfl) (pk_cons (pv 0) pk_nil)) (by rfl)) (pa_cons (pe_xvK K rfl (pe_xmkK (T.x 2 (by decide)) (hr.mono (by decide)) (by rfl) (pk_cons (pv 0) pk_nil)) (by rfl)) (pa_cons (pe_xvK K rfl (pe_xmkK (T.x 3 (by decide)) (hr.mono (by decide)) (by rfl) (pk_cons (pv 0) pk_nil)) (by rfl)) pa_nil)))))))
      (pss_cons (ps_set (i := 1) sc_law_named.nd rfl (.inl rfl) (pe_op op_cat (pv 1) (pe_lst (pa_cons (pe_xvK K rfl (pe_xmkK (T.x 4 (by decide)) (hr.mono (by decide)) (by rfl) (pk_cons (pv 0) pk_nil)) (by rfl)) (pa_cons (pe_xvK K rfl (pe_xmkK (T.x 5 (by decide)) (hr.mono (by decide)) (by rfl) (pk_cons (pv 0) pk_nil)) (by rfl)) (pa_cons (pe_xvK K rfl (pe_xmkK (T.x 6 (by decide)) (hr.mono (by decide)) (by rfl) (pk_cons (pv 0) pk_nil)) (by rfl)) (pa_cons (pe_xvK K rfl (pe_xmkK (T.x 7 (by decide)) (hr.mono (by decide)) (by rfl) (pk_cons (pv 0) pk_nil)) (by rfl)) pa_nil)))))))
      (pss_cons (ps_set (i := 1) sc_law_named.nd rfl (.inl rfl) (pe_op op_cat (pv 1) (pe_lst (pa_cons (pe_xvK K rfl (pe_xmkK (T.x 8 (by decide)) (hr.mono (by decide)) (by rfl) (pk_cons (pv 0) pk_nil)) (by rfl)) (pa_cons (pe_xvK K rfl (pe_xmkK (T.x 9 (by decide)) (hr.mono (by decide)) (by rfl) (pk_cons (pv 0) pk_nil)) (by rfl)) (pa_cons (pe_xvK K rfl (pe_xmkK (T.x 10 (by decide)) (hr.mono (by decide)) (by rfl) (pk_cons (pv 0) pk_nil)) (by rfl)) (pa_cons (pe_xvK K rfl (pe_xmkK (T.x 11 (by decide)) (hr.mono (by decide)) (by rfl) (pk_cons (pv 0) pk_nil)) (by rfl)) pa_nil)))))))
      (pss_cons (ps_set (i := 1) sc_law_named.nd rfl (.inl rfl) (pe_op op_cat (pv 1) (pe_lst (pa_cons (pe_xvK K rfl (pe_xmkK (T.x 12 (by decide)) (hr.mono (by decide)) (by rfl) (pk_cons (pv 0) pk_nil)) (by rfl)) (pa_cons (pe_xvK K rfl (pe_xmkK (T.x 13 (by decide)) (hr.mono (by decide)) (by rfl) (pk_cons (pv 0) pk_nil)) (by rfl)) (pa_cons (pe_xvK K rfl (pe_xmkK (T.x 14 (by decide)) (hr.mono (by decide)) (by rfl) (pk_cons (pv 0) pk_nil)) (by rfl)) (pa_cons (pe_xvK K rfl (pe_xmkK (T.x 15 (by decide)) (hr.mono (by decide)) (by rfl) (pk_cons (pv 0) pk_nil)) (by rfl)) pa_nil)))))))
      (pss_cons (ps_set (i := 1) sc_law_named.nd rfl (.inl rfl) (pe_op op_cat (pv 1) (pe_lst (pa_cons (pe_xvK K rfl (pe_xmkK (T.x 16 (by decide)) (hr.mono (by decide)) (by rfl) (pk_cons (pv 0) pk_nil)) (by rfl)) (pa_cons (pe_xvK K rfl (pe_xmkK (T.x 17 (by decide)) (hr.mono (by decide)) (by rfl) (pk_cons (pv 0) pk_nil)) (by rfl)) (pa_cons (pe_xvK K rfl (pe_xmkK (T.x 18 (by decide)) (hr.mono (by decide)) (by rfl) (pk_cons (pv 0) pk_nil)) (by rfl)) pa_nil))))))
      (pss_one (ps_ret (pv 1)))))))))), ?_⟩
    walk_at "rd"
    refine ⟨by decide, fun p0 n0 => ?_⟩
    have s0 : Same H (upd H p0 (.lst [])) := same_upd n0
    have h0 : (upd H p0 (.lst [])) p0 = some (.lst []) := upd_same
    generalize upd H p0 (.lst []) = H0 at s0 h0 ⊢
    have s0_0 := s0
    have h0_0 := h0
    intro a G0_1 sm _ xa
    refine ⟨a, rfl, c 0, v, xa, (T.x 0 (by decide)).xc, ?_⟩
    have s0_1 := s0_0.trans sm
    have h0_1 := sm _ _ h0_0
    clear xa
    intro a G0_2 sm _ xa
    refine ⟨a, rfl, c 1, v, xa, (T.x 1 (by decide)).xc, ?_⟩
    have s0_2 := s0_1.trans sm
    have h0_2 := sm _ _ h0_1
    clear xa
    intro a G0_3 sm _ xa
    refine ⟨a, rfl, c 2, v, xa, (T.x 2 (by decide)).xc, ?_⟩
    have s0_3 := s0_2.trans sm
    have h0_3 := sm _ _ h0_2
    clear xa
    intro a G0_4 sm _ xa
    refine ⟨a, rfl, c 3, v, xa, (T.x 3 (by decide)).xc, ?_⟩
    have s0_4 := s0_3.trans sm
    have h0_4 := sm _ _ h0_3
    clear xa
    refine ⟨by decide, fun p n1 => ⟨_, (upd_ne (ne_none h0_4 n1)).trans h0_4, (by simp only [List.length_cons, List.length_nil]; decide), fun p1 n2 => ?_⟩⟩
    have s1 : Same H (upd (upd G0_4 p (.lst [v, v, v, v])) p1 (.lst ([] ++ [v, v, v, v]))) := (s0_4.trans (same_upd n1)).trans (same_upd n2)
    have h1 : (upd (upd G0_4 p (.lst [v, v, v, v])) p1 (.lst ([] ++ [v, v, v, v]))) p1 = some (.lst ([] ++ [v, v, v, v])) := upd_same
    generalize upd (upd G0_4 p (.lst [v, v, v, v])) p1 (.lst ([] ++ [v, v, v, v])) = H1 at s1 h1 ⊢
    simp only [List.nil_append, List.cons_append] at h1
    clear n1 n2 h0 s0
    have s1_0 := s1
    have h1_0 := h1
    intro a G1_1 sm _ xa
    refine ⟨a, rfl, c 4, v, xa, (T.x 4 (by decide)).xc, ?_⟩
    have s1_1 := s1_0.trans sm
    have h1_1 := sm _ _ h1_0
    clear xa
    intro a G1_2 sm _ xa
    refine ⟨a, rfl, c 5, v, xa, (T.x 5 (by decide)).xc, ?_⟩
    have s1_2 := s1_1.trans sm
    have h1_2 := sm _ _ h1_1
    clear xa
    intro a G1_3 sm _ xa
    refine ⟨a, rfl, c 6, v, xa, (T.x 6 (by decide)).xc, ?_⟩
    have s1_3 := s1_2.trans sm
    have h1_3 := sm _ _ h1_2
    clear xa
    intro a G1_4 sm _ xa
    refine ⟨a, rfl, c 7, v, xa, (T.x 7 (by decide)).xc, ?_⟩
    have s1_4 := s1_3.trans sm
    have h1_4 := sm _ _ h1_3
    clear xa
    refine ⟨by decide, fun p n1 => ⟨_, (upd_ne (ne_none h1_4 n1)).trans h1_4, (by simp only [List.length_cons, List.length_nil]; decide), fun p2 n2 => ?_⟩⟩
    have s2 : Same H (upd (upd G1_4 p (.lst [v, v, v, v])) p2 (.lst ([v, v, v, v] ++ [v, v, v, v]))) := (s1_4.trans (same_upd n1)).trans (same_upd n2)
    have h2 : (upd (upd G1_4 p (.lst [v, v, v, v])) p2 (.lst ([v, v, v, v] ++ [v, v, v, v]))) p2 = some (.lst ([v, v, v, v] ++ [v, v, v, v])) := upd_same
    generalize upd (upd G1_4 p (.lst [v, v, v, v])) p2 (.lst ([v, v, v, v] ++ [v, v, v, v])) = H2 at s2 h2 ⊢
    simp only [List.nil_append, List.cons_append] at h2
    clear n1 n2 h1 s1
    have s2_0 := s2
    have h2_0 := h2
    intro a G2_1 sm _ xa
    refine ⟨a, rfl, c 8, v, xa, (T.x 8 (by decide)).xc, ?_⟩
    have s2_1 := s2_0.trans sm
    have h2_1 := sm _ _ h2_0
    clear xa
    intro a G2_2 sm _ xa
    refine ⟨a, rfl, c 9, v, xa, (T.x 9 (by decide)).xc, ?_⟩
    have s2_2 := s2_1.trans sm
    have h2_2 := sm _ _ h2_1
    clear xa
    intro a G2_3 sm _ xa
    refine ⟨a, rfl, c 10, v, xa, (T.x 10 (by decide)).xc, ?_⟩
    have s2_3 := s2_2.trans sm
    have h2_3 := sm _ _ h2_2
    clear xa
    intro a G2_4 sm _ xa
    refine ⟨a, rfl, c 11, v, xa, (T.x 11 (by decide)).xc, ?_⟩
    have s2_4 := s2_3.trans sm
    have h2_4 := sm _ _ h2_3
    clear xa
    refine ⟨by decide, fun p n1 => ⟨_, (upd_ne (ne_none h2_4 n1)).trans h2_4, (by simp only [List.length_cons, List.length_nil]; decide), fun p3 n2 => ?_⟩⟩
    have s3 : Same H (upd (upd G2_4 p (.lst [v, v, v, v])) p3 (.lst ([v, v, v, v, v, v, v, v] ++ [v, v, v, v]))) := (s2_4.trans (same_upd n1)).trans (same_upd n2)
    have h3 : (upd (upd G2_4 p (.lst [v, v, v, v])) p3 (.lst ([v, v, v, v, v, v, v, v] ++ [v, v, v, v]))) p3 = some (.lst ([v, v, v, v, v, v, v, v] ++ [v, v, v, v])) := upd_same
    generalize upd (upd G2_4 p (.lst [v, v, v, v])) p3 (.lst ([v, v, v, v, v, v, v, v] ++ [v, v, v, v])) = H3 at s3 h3 ⊢
    simp only [List.nil_append, List.cons_append] at h3
    clear n1 n2 h2 s2
    have s3_0 := s3
    have h3_0 := h3
    intro a G3_1 sm _ xa
    refine ⟨a, rfl, c 12, v, xa, (T.x 12 (by decide)).xc, ?_⟩
    have s3_1 := s3_0.trans sm
    have h3_1 := sm _ _ h3_0
    clear xa
    intro a G3_2 sm _ xa
    refine ⟨a, rfl, c 13, v, xa, (T.x 13 (by decide)).xc, ?_⟩
    have s3_2 := s3_1.trans sm
    have h3_2 := sm _ _ h3_1
    clear xa
    intro a G3_3 sm _ xa
    refine ⟨a, rfl, c 14, v, xa, (T.x 14 (by decide)).xc, ?_⟩
    have s3_3 := s3_2.trans sm
    have h3_3 := sm _ _ h3_2
    clear xa
    intro a G3_4 sm _ xa
    refine ⟨a, rfl, c 15, v, xa, (T.x 15 (by decide)).xc, ?_⟩
    have s3_4 := s3_3.trans sm
    have h3_4 := sm _ _ h3_3
    clear xa
    refine ⟨by decide, fun p n1 => ⟨_, (upd_ne (ne_none h3_4 n1)).trans h3_4, (by simp only [List.length_cons, List.length_nil]; decide), fun p4 n2 => ?_⟩⟩
    have s4 : Same H (upd (upd G3_4 p (.lst [v, v, v, v])) p4 (.lst ([v, v, v, v, v, v, v, v, v, v, v, v] ++ [v, v, v, v]))) := (s3_4.trans (same_upd n1)).trans (same_upd n2)
    have h4 : (upd (upd G3_4 p (.lst [v, v, v, v])) p4 (.lst ([v, v, v, v, v, v, v, v, v, v, v, v] ++ [v, v, v, v]))) p4 = some (.lst ([v, v, v, v, v, v, v, v, v, v, v, v] ++ [v, v, v, v])) := upd_same
    generalize upd (upd G3_4 p (.lst [v, v, v, v])) p4 (.lst ([v, v, v, v, v, v, v, v, v, v, v, v] ++ [v, v, v, v])) = H4 at s4 h4 ⊢
    simp only [List.nil_append, List.cons_append] at h4
    clear n1 n2 h3 s3
    have s4_0 := s4
    have h4_0 := h4
    intro a G4_1 sm _ xa
    refine ⟨a, rfl, c 16, v, xa, (T.x 16 (by decide)).xc, ?_⟩
    have s4_1 := s4_0.trans sm
    have h4_1 := sm _ _ h4_0
    clear xa
    intro a G4_2 sm _ xa
    refine ⟨a, rfl, c 17, v, xa, (T.x 17 (by decide)).xc, ?_⟩
    have s4_2 := s4_1.trans sm
    have h4_2 := sm _ _ h4_1
    clear xa
    intro a G4_3 sm _ xa
    refine ⟨a, rfl, c 18, v, xa, (T.x 18 (by decide)).xc, ?_⟩
    have s4_3 := s4_2.trans sm
    have h4_3 := sm _ _ h4_2
    clear xa
    refine ⟨by decide, fun p n1 => ⟨_, (upd_ne (ne_none h4_3 n1)).trans h4_3, (by simp only [List.length_cons, List.length_nil]; decide), fun p5 n2 => ?_⟩⟩
    have s5 : Same H (upd (upd G4_3 p (.lst [v, v, v])) p5 (.lst ([v, v, v, v, v, v, v, v, v, v, v, v, v, v, v, v] ++ [v, v, v]))) := (s4_3.trans (same_upd n1)).trans (same_upd n2)
    have h5 : (upd (upd G4_3 p (.lst [v, v, v])) p5 (.lst ([v, v, v, v, v, v, v, v, v, v, v, v, v, v, v, v] ++ [v, v, v]))) p5 = some (.lst ([v, v, v, v, v, v, v, v, v, v, v, v, v, v, v, v] ++ [v, v, v])) := upd_same
    generalize upd (upd G4_3 p (.lst [v, v, v])) p5 (.lst ([v, v, v, v, v, v, v, v, v, v, v, v, v, v, v, v] ++ [v, v, v])) = H5 at s5 h5 ⊢
    simp only [List.nil_append, List.cons_append] at h5
    clear n1 n2 h4 s4
    exact q _ _ s5 h5
end
end K08

namespace K08
open PySem PySem.Spec PyProof.Rows L2 G1
local macro_rules | `(tactic| walk_at "rd") => `(tactic| simp only [L2.tSeq, L2.tAsg, L2.tOp, L2.rI, L2.rI0, L2.tVar, L2.tC, L2.tCB, L2.tCons, L2.tNil, L2.tRet, L2.gName, L2.start, L2.tIf, L2.tIfS, L2.tTest, L2.tNext, L2.rIxL, L2.tSl, L2.rSlL, L2.tNoPart, L2.tPart, L2.tLst, L2.tTup, L2.rSum, L2.tBits, L2.gSub, L2.rSetL, L2.rCat, L2.tDrop, L2.tBM, L2.tBM0, L2.rAppend, L2.tYes, L2.tB, L2.tAnd, L2.tOr, L2.tNot, L2.tAndV, L2.tOrV, G1.tCallO, G1.tXm, G1.tXn, G1.tXv, HO.lst.injEq, HO.tup.injEq, Nat.reduceAdd, Nat.zero_add, List.set_cons_zero, List.set_cons_succ, Bool.not_true, Bool.not_false, Bool.false_eq_true, ↓reduceIte, G1.tFor_eq, G1.tLc_eq, G1.rIxM, G1.rLenM, G1.rSlM, G1.atI_0, G1.atI_1, G1.atI_2, G1.ixN_0, G1.ixN_2, L2.upd_same, L2.upd_upd, and_assoc, L2.iRng1, L2.iList, L2.tUn, L2.rU, G1.rRepS, L2.wipe, List.foldl, L2.rEq, L2.rNe, List.map, List.replicate, List.length, List.append, List.set, List.getElem?_cons_zero, List.getElem?_cons_succ, List.cons_append, List.nil_append, Option.some.injEq, V.int.injEq, V.bl.injEq, V.ref.injEq, V.str.injEq, List.cons.injEq, reduceCtorEq, false_and, and_false, exists_false, or_false, false_or, exists_and_left, exists_and_right, exists_eq_left', exists_eq_left, true_and, and_true, Nat.sub_self, decide_eq_true_eq])
section
variable {P : Program} {w : World} {K : PySem.W.Frag} {mg : Str → Option Value} {base : Heap} {c : Nat → Addr} {cF : Addr}
/-- a drawn value, and what it is as data -/
def DataAt (K : PySem.W.Frag) (H : Hp) (v : V) : Prop := ∃ d, Dp K H v d ∧ SeqAt.shaped d = true
/-- a drawn value, as it stands after n appends -/
def ValOk (H : Hp) (v : V) (n : Nat) : Prop := (∃ i, v = .int i) ∨ (∃ s, v = .str s ∧ PyData.canLay0 (.str s) = true) ∨ v = .non ∨ (∃ l i ns, v = .ref l ∧ H l = some (.lst (.int i :: .non :: (ns : List Int).map .int)) ∧ ns.length ≤ n) ∨
  (∃ p t i, v = .ref p ∧ H p = some (.tup [.int i, .ref t]) ∧ H t = some (.tup [.int 0, .int (-1)]))
def spValue (K : PySem.W.Frag) : Sp := fun vs H Q _ => ∃ (g : Addr) (x y z : Int), vs = [.ref g] ∧ GenAt H g x y z ∧ 0 ≤ x ∧ x < 10 ^ 600 ∧ 0 ≤ y ∧ y < 2147483647 ∧ 0 ≤ z ∧ z ≤ 1000000 ∧
  ∀ H' v, ValOk H' v 0 → Q v H'
theorem str_ab (d : Int) (h0 : 0 ≤ d) (h1 : d < 3) : PyData.canLay0 (.str (Txt.mul "ab" d)) = true := by
  rcases (by omega : d = 0 ∨ d = 1 ∨ d = 2) with rfl | rfl | rfl <;> decide +kernel
theorem ok_value (S : Src K mg "_law_value" s_law_value) (T : Txt P w K mg base c cF) (C_law_random : OkD P w K mg base 2 "_law_random" ["_law_generator_here", "_law_bound"] spRandom) : OkD P w K mg base 3 "_law_value" ["_law_generator_here"] (spValue K) := by
  refine okd S (fun f fd F => F.ok sc_law_value (fun vs H Q E h => ?_) (fun cdv A outer s H vs Q E hr h => ?_)) (fun _ _ _ _ _ _ us hl => match us, hl with | [_], _ => rfl)
  · obtain ⟨_, _, _, _, rfl, _⟩ := h
    rfl
  · obtain ⟨g, x, y, z, rfl, hg, hx, hx2, hy, hy2, hz, hz2, q⟩ := h
    have q1 := fun H' (i : Int) => q H' (.int i) (.inl ⟨i, rfl⟩)
    have q2 := fun H' (s : Str) hs => q H' (.str s) (.inr (.inl ⟨s, rfl, hs⟩))
    have q3 := fun H' => q H' .non (.inr (.inr (.inl rfl)))
    have q4 := fun H' p (i : Int) h => q H' (.ref p) (.inr (.inr (.inr (.inl ⟨p, i, [], rfl, h, Nat.le_refl _⟩))))
    have q5 := fun H' p t (i : Int) h1 h2 => q H' (.ref p) (.inr (.inr (.inr (.inr ⟨p, t, i, rfl, h1, h2⟩))))
    refine ⟨_, ((pss_cons (ps_set (i := 1) sc_law_value.nd rfl (.inl rfl) (pe_callO C_law_random (hr.mono (by decide)) (by rfl) (pa_cons (pv 0) (pa_cons pe_int pa_nil))))
      (pss_cons (ps_if (pt_cmpR op_eq (pv 1) pe_int (nomark _)) (pss_one (ps_ret (pe_callO C_law_random (hr.mono (by decide)) (by rfl) (pa_cons (pv 0) (pa_cons (pe_op op_powW pe_int pe_int) pa_nil))))) pss_nil)
      (pss_cons (ps_if (pt_cmpR op_eq (pv 1) pe_int (nomark _)) (pss_one (ps_ret (pe_op op_repS pe_str (pe_callO C_law_random (hr.mono (by decide)) (by rfl) (pa_cons (pv 0) (pa_cons pe_int pa_nil)))))) pss_nil)
      (pss_cons (ps_if (pt_cmpR op_eq (pv 1) pe_int (nomark _)) (pss_one (ps_ret (pe_lst (pa_cons (pe_callO C_law_random (hr.mono (by decide)) (by rfl) (pa_cons (pv 0) (pa_cons pe_int pa_nil))) (pa_cons pe_non pa_nil))))) pss_nil)
      (pss_one (ps_ret (pe_ifExp (pt_cmpR op_eq (pv 1) pe_int (nomark _)) pe_non (pe_tup (pa_cons (pe_callO C_law_random (hr.mono (by decide)) (by rfl) (pa_cons (pv 0) (pa_cons pe_int pa_nil))) (pa_cons (pe_tup (pa_cons pe_int (pa_cons (pe_un un_neg pe_int) pa_nil))) pa_nil))))))))))), ?_⟩
    walk_at "rd"
    refine ⟨g, 5, x, y, z, rfl, hg, by decide, by decide, hx, hx2, hy, hy2, hz, by omega, fun d x1 z1 d0 d1 hx1 hx1' hz1 hz1' => ?_⟩
    simp only [V.int.injEq]
    have hg1 : GenAt (upd H g (HO.lst [V.int x1, V.int y, V.int z1])) g x1 y z1 := upd_same
    generalize upd H g (HO.lst [V.int x1, V.int y, V.int z1]) = H1 at hg1 ⊢
    have R : ∀ (b : Int) (Qk : VK), 0 < b → b.natAbs < 2 ^ 6000 → (∀ (d : Int) H', 0 ≤ d → d < b → Qk (.int d) H') → spRandom [.ref g, .int b] H1 Qk (fun _ _ _ => False) := fun b Qk h1 h2 k =>
      ⟨g, b, x1, y, z1, rfl, hg1, h1, h2, hx1, hx1', hy, hy2, by omega, by omega, fun d x' z' e1 e2 _ _ _ _ => k d _ e1 e2⟩
    refine ⟨rfl, ite2 (fun _ => ⟨⟨by decide, by decide +kernel⟩, R _ _ (by decide +kernel) (by decide +kernel) fun d H' _ _ => q1 H' d⟩) fun _ => ⟨rfl, ite2 (fun _ => R _ _ (by decide) (by decide) fun d H' e1 e2 => ⟨d, rfl, mulOk_of 2 3 (by decide) (by omega) (by omega) (by decide) (by decide), q2 _ _ (str_ab d e1 e2)⟩) fun _ =>
      ⟨rfl, ite2 (fun _ => R _ _ (by decide) (by decide) fun d H' _ _ => ⟨by decide, fun p np => q4 _ p d upd_same⟩) fun _ => ⟨rfl, ite2 (fun _ => q3 _) fun _ => R _ _ (by decide) (by decide) fun d H' _ _ => ?_⟩⟩⟩⟩
    refine ⟨by decide, fun p np => ⟨by decide, fun p1 np1 => q5 _ p1 p d upd_same ?_⟩⟩
    rw [upd_ne (ne_none upd_same np1), upd_same]
theorem ValOk.same {H H' : Hp} {v : V} {n : Nat} (h : ValOk H v n) (s : Same H H') : ValOk H' v n := by
  rcases h with h | h | h | ⟨l, i, ns, e, h, k⟩ | ⟨p, t, i, e, h1, h2⟩
  · exact .inl h
  · exact .inr (.inl h)
  · exact .inr (.inr (.inl h))
  · exact .inr (.inr (.inr (.inl ⟨l, i, ns, e, s _ _ h, k⟩)))
  · exact .inr (.inr (.inr (.inr ⟨p, t, i, e, s _ _ h1, s _ _ h2⟩)))
theorem ValOk.mono {H : Hp} {v : V} {n m : Nat} (h : ValOk H v n) (k : n ≤ m) : ValOk H v m := by
  rcases h with h | h | h | ⟨l, i, ns, e, h, k'⟩ | h
  · exact .inl h
  · exact .inr (.inl h)
  · exact .inr (.inr (.inl h))
  · exact .inr (.inr (.inr (.inl ⟨l, i, ns, e, h, Nat.le_trans k' k⟩)))
  · exact .inr (.inr (.inr (.inr h)))
theorem dp_ints {K : PySem.W.Frag} {H : Hp} : ∀ ns : List Int, DpAll K H (ns.map V.int) (ns.map PyData.int)
  | [] => .nil
  | n :: ns => .cons (.int n) (dp_ints ns)
theorem dp_bls {K : PySem.W.Frag} {H : Hp} : ∀ bs : List Bool, DpAll K H (bs.map V.bl) (bs.map PyData.bool)
  | [] => .nil
  | n :: ns => .cons (.bl n) (dp_bls ns)
theorem lay_ints : ∀ ns : List Int, PyData.canLayAll0 (ns.map PyData.int) = true
  | [] => rfl
  | n :: ns => by
    simp only [List.map, PyData.canLayAll0, PyData.canLay0, Bool.true_and]
    exact lay_ints ns
theorem dep_ints : ∀ ns : List Int, PyData.depthAll (ns.map PyData.int) = 0
  | [] => rfl
  | n :: ns => by
    simp only [List.map, PyData.depthAll, PyData.depth]
    rw [dep_ints ns]
    rfl
theorem lay_bls : ∀ ns : List Bool, PyData.canLayAll0 (ns.map PyData.bool) = true
  | [] => rfl
  | n :: ns => by
    simp only [List.map, PyData.canLayAll0, PyData.canLay0, Bool.true_and]
    exact lay_bls ns
theorem dep_bls : ∀ ns : List Bool, PyData.depthAll (ns.map PyData.bool) = 0
  | [] => rfl
  | n :: ns => by
    simp only [List.map, PyData.depthAll, PyData.depth]
    rw [dep_bls ns]
    rfl
theorem ValOk.data {K : PySem.W.Frag} {H : Hp} {v : V} {n : Nat} (h : ValOk H v n) : ∃ d, Dp K H v d ∧ SeqAt.shaped d = true ∧ PyData.eqv d d = true := by
  have key : ∃ d, Dp K H v d ∧ SeqAt.shaped d = true := by
    rcases h with ⟨i, rfl⟩ | ⟨s, rfl, hs⟩ | rfl | ⟨l, i, ns, rfl, h, _⟩ | ⟨p, t, i, rfl, h1, h2⟩
    · exact ⟨_, .int i, rfl⟩
    · exact ⟨_, .str s, by unfold SeqAt.shaped; rw [hs]; rfl⟩
    · exact ⟨_, .non, rfl⟩
    · refine ⟨_, .lst (.inl (.inl h)) (.cons (.int i) (.cons .non (dp_ints ns))), ?_⟩
      unfold SeqAt.shaped
      simp only [PyData.canLay0, PyData.canLayAll0, PyData.depth, PyData.depthAll, lay_ints, dep_ints]
      rfl
    · exact ⟨_, .tup (.inl (.inl h1)) (.cons (.int i) (.cons (.tup (.inl (.inl h2)) (.cons (.int 0) (.cons (.int (-1)) .nil))) .nil)), rfl⟩
  obtain ⟨d, h1, h2⟩ := key
  exact ⟨d, h1, h2, SeqAt.eqv_refl d (SeqAt.canLay_of_shaped h2)⟩
/-- two lists of the same truth values -/
theorem bls_eq {K : PySem.W.Frag} {H : Hp} {p q : Addr} {bs : List Bool} (h1 : H p = some (.lst (bs.map V.bl))) (h2 : H q = some (.lst (bs.map V.bl))) {Q : VK} (h : Q (.bl false) H) : rNeD K (.ref p) (.ref q) H Q := by
  have sh : SeqAt.shaped (.list (bs.map PyData.bool)) = true := by
    unfold SeqAt.shaped
    simp only [PyData.canLay0, PyData.depth, lay_bls, dep_bls]
    rfl
  refine ⟨.list (bs.map PyData.bool), .list (bs.map PyData.bool), .lst (.inl (.inl h1)) (dp_bls bs), .lst (.inl (.inl h2)) (dp_bls bs), sh, sh, ?_⟩
  rw [SeqAt.eqv_refl _ (SeqAt.canLay_of_shaped sh)]
  exact h
def spLaw (K : PySem.W.Frag) : Sp := fun vs H Q _ => ∃ (a : Addr) (ns : List Int), vs = [.ref a] ∧ SqL K H a (ns.map V.int) ∧ ns.length ≤ 63 ∧ ∀ H', Q (.bl true) H'
theorem ok_law {f : Addr} {fd : FuncData} (F : Fun K "law" "law" s_law f fd) (T : Txt P w K mg base c cF) (C_law_generator : OkD P w K mg base 1 "_law_generator" ["_law_script", "_law_index"] (spGen K)) (C_law_value : OkD P w K mg base 3 "_law_value" ["_law_generator_here"] (spValue K))
    (C_law_made : OkD P w K mg base 4 "_law_made" ["_law_number", "_law_value_here"] (spMade c)) (C_law_kinds : OkD P w K mg base 4 "_law_kinds" ["_law_error"] (spKinds K c)) (C_law_named : OkD P w K mg base 4 "_law_named" ["_law_value_here"] spNamed) (C_law_empty : OkD P w K mg base 4 "_law_empty" [] spEmpty) :
    FnOk P w K mg base CX0 6 f fd ["_law_script"] (spLaw K) := by
  refine F.ok sc_law (fun vs H Q E h => ?_) (fun cdv A outer s H vs Q E hr h => ?_)
  · obtain ⟨_, _, rfl, _⟩ := h
    rfl
  · obtain ⟨a, ns, rfl, hS, hl, q⟩ := h
    refine ⟨_, ((pss_cons (ps_set (i := 1) sc_law.nd rfl (.inl rfl) (pe_callO C_law_generator (hr.mono (by decide)) (by rfl) (pa_cons (pv 0) (pa_cons pe_int pa_nil))))
      (pss_cons (ps_set (i := 2) sc_law.nd rfl (.inr rfl) (pe_callO C_law_value (hr.mono (by decide)) (by rfl) (pa_cons (pv 1) pa_nil)))
      (pss_cons (ps_for PassesOwn.never rfl (pi_range1 (by rfl) T.n_range (pa_cons pe_int pa_nil)) (pg_name (i := 3) sc_law.nd rfl (.inr rfl)) (pss_cons (ps_set (i := 4) sc_law.nd rfl (.inl rfl) (pe_callO C_law_made (hr.mono (by decide)) (by rfl) (pa_cons (pv 3) (pa_cons (pv 2) pa_nil))))
      (pss_cons (ps_if (PW.pt (pw_or (pt_not (pt_val (pe_callB (call_isAK K rfl) (by rfl) T.n_isinstance (by decide +kernel) (pa_cons (pv 4) (pa_cons (pe_gref (by rfl) T.nF.g) pa_nil))))) (pw_or1 (pt_not (pt_val (pe_callB (call_isAK K rfl) (by rfl) T.n_isinstance (by decide +kernel) (pa_cons (pv 4) (pa_cons (pe_gty (n := "ValueError") (by rfl) T.n_ValueError (by decide +kernel)) pa_nil)))))))) (pss_one (ps_ret pe_bl)) pss_nil)
      (pss_cons (ps_if (pt_cmpR (op_neDK K rfl hr.units) (pe_callO C_law_kinds (hr.mono (by decide)) (by rfl) (pa_cons (pv 4) pa_nil)) (pe_lc (own := [("_law_place", 5)]) (g := gName 5) (tt := tYes) (by rfl) sc_law.nd (pi_range1 (by rfl) T.n_range (pa_cons pe_int pa_nil)) (blkOk_by (own := [("_law_place", 5)]) (N := ["_law_script", "_law_generator_here", "_law_value_here", "_law_number", "_law_error", "_law_place", "_law_field"]) (sc := defScope s_law) (by decide +kernel)) (fun _ _ _ _ _ => pg_name (i := 5) sc_law.nd rfl (Or.inl rfl)) (fun _ _ _ _ _ => pts_nil) (fun _ _ _ _ _ => (pe_cmpR op_eq (pv 5) (pv 3) (nomark _)))) (nomark _)) (pss_one (ps_ret pe_bl)) pss_nil)
      (pss_cons (ps_if (pt_val (pe_callB (call_isAK K rfl) (by rfl) T.n_isinstance (by decide +kernel) (pa_cons (pv 2) (pa_cons (pe_gty (n := "list") (by rfl) T.n_list (by decide +kernel)) pa_nil)))) (pss_one (ps_expr (pe_bm PySem.F.plainAttrs_list PySem.F.slot_list_append PySem.F.type_list_append mt_append (pv 2) (pa_cons (pv 3) pa_nil)))) pss_nil)
      (pss_one (ps_if (PW.pt (pw_or (pt_not (pt_cmpR (op_eqDK K rfl hr.units) (pe_xvK K rfl (pv 4) (by rfl)) (pv 2) (nomark _))) (pw_or1 (pt_cmpR op_ne (pe_cmpR op_isN (pe_xvK K rfl (pv 4) (by rfl)) pe_non (nomark _)) (pe_cmpR op_isN (pv 2) pe_non (nomark _)) (nomark _))))) (pss_one (ps_ret pe_bl)) pss_nil)))))))
      (pss_cons (ps_if (pt_cmpR (op_neDK K rfl hr.units) (pe_lc (own := [("_law_field", 6)]) (g := gName 6) (by rfl) sc_law.nd (pi_list (pe_callO C_law_named (hr.mono (by decide)) (by rfl) (pa_cons (pv 2) pa_nil))) (blkOk_by (own := [("_law_field", 6)]) (N := ["_law_script", "_law_generator_here", "_law_value_here", "_law_number", "_law_error", "_law_place", "_law_field"]) (sc := defScope s_law) (by decide +kernel)) (fun _ _ _ _ _ => pg_name (i := 6) sc_law.nd rfl (Or.inl rfl)) (fun _ _ _ _ _ => (pts_one (pt_not (pt_cmpR (op_eqDK K rfl hr.units) (pv 6) (pv 2) (nomark _))))) (fun _ _ _ _ _ => (pv 6))) (pe_lst pa_nil) (nomark _)) (pss_one (ps_ret pe_bl)) pss_nil)
      (pss_cons (ps_for PassesOwn.never rfl (pi_range1 (by rfl) T.n_range (pa_cons pe_int pa_nil)) (pg_name (i := 3) sc_law.nd rfl (.inr rfl)) (pss_cons (ps_set (i := 4) sc_law.nd rfl (.inl rfl) (pe_ifExp (pt_cmpR op_eq (pv 3) pe_int (nomark _)) (pe_xmn T.n19 (by rfl)) (pe_xmn T.n20 (by rfl))))
      (pss_one (ps_if (PW.pt (pw_or (pt_not (pt_val (pe_callB (call_isAK K rfl) (by rfl) T.n_isinstance (by decide +kernel) (pa_cons (pv 4) (pa_cons (pe_gref (by rfl) T.nF.g) pa_nil))))) (pw_or1 (pt_cmpR (op_neDK K rfl hr.units) (pe_callO C_law_kinds (hr.mono (by decide)) (by rfl) (pa_cons (pv 4) pa_nil)) (pe_lc (own := [("_law_place", 5)]) (g := gName 5) (tt := tYes) (by rfl) sc_law.nd (pi_range1 (by rfl) T.n_range (pa_cons pe_int pa_nil)) (blkOk_by (own := [("_law_place", 5)]) (N := ["_law_script", "_law_generator_here", "_law_value_here", "_law_number", "_law_error", "_law_place", "_law_field"]) (sc := defScope s_law) (by decide +kernel)) (fun _ _ _ _ _ => pg_name (i := 5) sc_law.nd rfl (Or.inl rfl)) (fun _ _ _ _ _ => pts_nil) (fun _ _ _ _ _ => (pe_cmpR op_eq (pv 5) (pe_op op_add pe_int (pv 3)) (nomark _)))) (nomark _))))) (pss_one (ps_ret pe_bl)) pss_nil))))
      (pss_one (ps_ret (pe_and (pe_cmpR (op_eqDK K rfl hr.units) (pe_lc (own := [("_law_field", 6)]) (g := gName 6) (by rfl) sc_law.nd (pi_list (pe_callO0 C_law_empty (hr.mono (by decide)) (by rfl))) (blkOk_by (own := [("_law_field", 6)]) (N := ["_law_script", "_law_generator_here", "_law_value_here", "_law_number", "_law_error", "_law_place", "_law_field"]) (sc := defScope s_law) (by decide +kernel)) (fun _ _ _ _ _ => pg_name (i := 6) sc_law.nd rfl (Or.inl rfl)) (fun _ _ _ _ _ => (pts_one (pt_cmpR op_notN (pv 6) pe_non (nomark _)))) (fun _ _ _ _ _ => (pv 6))) (pe_lst pa_nil) (nomark _)) (pe_one (pe_callB (call_isAK K rfl) (by rfl) T.n_isinstance (by decide +kernel) (pa_cons (pe_xmn T.nF (by rfl)) (pa_cons (pe_gty (n := "ValueError") (by rfl) T.n_ValueError (by decide +kernel)) pa_nil))))))))))))), ?_⟩
    walk_at "rd"
    refine ⟨a, ns, 0, rfl, hS, hl, by decide, by decide, fun g H1 x y sm ng hg hx hx2 hy hy2 => ?_⟩
    refine ⟨g, x, y, 1000 * 0, rfl, hg, hx, hx2, hy, hy2, by decide, by decide, fun H2 v hv => ?_⟩
    refine ⟨by decide, by decide, ?_⟩
    refine loop_range (fun i σ H' => ∃ x3 x4, σ = [some (.ref a), some (.ref g), some v, x3, x4, none, none] ∧ ValOk H' v i) ⟨none, none, rfl, hv⟩ ?_ ?_
    · rintro i σ H' hi ⟨x3, x4, rfl, hv⟩
      have hi' : i < 19 := hi
      walk_at "rd"
      refine ⟨i, v, by rw [Int.zero_add], hi', fun e He sm xe => ?_⟩
      have hx := (T.x i hi').xc
      have hv1 := hv.same sm
      refine .inl ⟨e, c i, _, _, _, rfl, xe.any, hx, .own _, T.kitF i (by omega), ?_⟩
      walk_at "rd"
      refine .inl ⟨e, c i, _, _, _, rfl, xe.any, hx, .ty _, T.kitV i (by omega), ?_⟩
      walk_at "rd"
      refine ⟨e, i, rfl, by omega, xe.any, hx, fun p H3 s3 h3 => ?_⟩
      walk_at "rd"
      refine ⟨by decide, by decide, comp_range (fun D j H' => Same H3 H' ∧ H' D = some (.lst ((List.range j).map fun k => V.bl (decide (k = i))))) (fun D nD => ⟨same_upd nD, upd_same⟩) ?_ ?_⟩
      · rintro D j H' nD hj ⟨s', hD⟩
        walk_at "rd"
        exact ⟨rfl, _, hD, by rw [List.length_map, List.length_range]; exact Nat.lt_of_lt_of_le hj (by decide), same_over s' nD, by rw [range_step]; congr 3; exact decide_eq_decide.mpr (by omega)⟩
      · rintro D H4 nD ⟨s4, hD⟩
        have s34 := s3.trans s4
        have xe4 := xe.same s34
        have hv4 := hv1.same s34
        have h3' := s4 _ _ h3
        have mm : ((List.range 21).map fun j => V.bl (decide (j = i))) = ((List.range 21).map fun j => decide (j = i)).map V.bl := by rw [List.map_map]; rfl
        rw [mm] at h3'
        have hD' : H4 D = some (.lst (((List.range 21).map fun j => decide (j = i)).map V.bl)) := by rw [← mm]; exact hD
        refine bls_eq h3' hD' ?_
        walk_at "rd"
        -- isinstance(value, list), append, value == value
        have fin : ∀ H5 (xe5 : XAt H5 e (c i) v), ValOk H5 v (i + 1) → ∃ x x_1, XAt H5 e x x_1 ∧ XC K x ∧ rEqD K x_1 v H5 fun x H' => ∃ k, x = V.bl k ∧ if (!k) = true then Q (V.bl false) H' else ∃ x x_2, XAt H' e x x_2 ∧ XC K x ∧ scal (V.bl (decide (x_2 = V.non))) (V.bl (decide (v = V.non))) = true ∧
            if (!decide (decide (x_2 = V.non) = decide (v = V.non))) = true then Q (V.bl false) H' else (∃ x, some (V.int (0 + ↑i)) = x) ∧ (∃ x, some (V.ref e) = x) ∧ ValOk H' v (i + 1) := fun H5 xe5 hv5 => by
          obtain ⟨d, d1, d2, d3⟩ := hv5.data (K := K)
          refine ⟨_, _, xe5, hx, d, d, d1, d1, d2, d2, _, rfl, ?_⟩
          rw [d3, if_neg (by decide)]
          refine ⟨_, _, xe5, hx, rfl, ?_⟩
          rw [if_neg (by simp)]
          exact ⟨⟨_, rfl⟩, ⟨_, rfl⟩, hv5⟩
        rcases hv4 with ⟨z, rfl⟩ | ⟨z, rfl, hz⟩ | rfl | ⟨l, z, zs, rfl, hl4, hn⟩ | ⟨p4, t4, z, rfl, h41, h42⟩
        · refine .inr ⟨_, .ty "list", _, _, _, rfl, .ty _, .base (.int z), kit_ty (r := false) (by decide +kernel), _, rfl, ?_⟩
          exact fin _ xe4 (.inl ⟨z, rfl⟩)
        · refine .inr ⟨_, .ty "list", _, _, _, rfl, .ty _, .base (.str z), kit_ty (r := false) (by decide +kernel), _, rfl, ?_⟩
          exact fin _ xe4 (.inr (.inl ⟨z, rfl, hz⟩))
        · refine .inr ⟨_, .ty "list", _, _, _, rfl, .ty _, .base .non, kit_ty (r := false) (by decide +kernel), _, rfl, ?_⟩
          exact fin _ xe4 (.inr (.inr (.inl rfl)))
        · refine .inr ⟨_, .ty "list", _, _, _, rfl, .ty _, .base (.lst hl4), kit_ty (r := true) (by decide +kernel), _, rfl, ?_⟩
          refine ⟨.inl ⟨rfl, _, .inl (.inl hl4)⟩, l, rfl, _, hl4, ?_, ?_⟩
          · simp only [List.length_cons, List.length_map]
            exact Nat.lt_of_le_of_lt (show zs.length + 1 + 1 ≤ 30 by omega) (by decide)
          · refine fin _ (xe4.upd hl4) (.inr (.inr (.inr (.inl ⟨l, z, zs ++ [0 + (i : Int)], rfl, ?_, ?_⟩))))
            · rw [upd_same, List.map_append]
              rfl
            · rw [List.length_append]
              exact Nat.add_le_add_right hn 1
        · refine .inr ⟨_, .ty "list", _, _, _, rfl, .ty _, .base (.tup h41), kit_ty (r := false) (by decide +kernel), _, rfl, ?_⟩
          exact fin _ xe4 (.inr (.inr (.inr (.inr ⟨p4, t4, z, rfl, h41, h42⟩))))
    · rintro σ H' ⟨x3, x4, rfl, hv⟩
      walk_at "rd"
      obtain ⟨dv, d1, d2, d3⟩ := hv.data (K := K)
      refine ⟨v, rfl, fun p H3 s3 h3 => ?_⟩
      have hv3 := hv.same s3
      refine ⟨p, rfl, ⟨_, .inl (.inl h3)⟩, ?_⟩
      refine comp_list (xs := List.replicate 19 v) (fun D i H' => Same H3 H' ∧ H' D = some (.lst [])) (fun D nD => ⟨same_upd nD, upd_same⟩) (fun D i H' nD hi ⟨s', _⟩ => .inl (.inl (s' _ _ h3))) ?_ ?_
      · rintro D i x H' nD hx ⟨s', hD⟩
        have ex : x = v := List.eq_of_mem_replicate (List.mem_of_getElem? hx)
        subst ex
        walk_at "rd"
        obtain ⟨dx, e1, e2, e3⟩ := (hv3.same s').data (K := K)
        refine ⟨dx, dx, e1, e1, e2, e2, _, rfl, ?_⟩
        rw [e3, if_neg (by decide)]
        exact ⟨s', hD⟩
      · rintro D H4 nD ⟨s4, hD⟩
        refine ⟨by decide, fun p5 n5 => ?_⟩
        have hE : H4 D = some (.lst (([] : List Bool).map V.bl)) := hD
        refine bls_eq (bs := []) ((upd_ne (ne_none hD n5)).trans hD) upd_same ?_
        walk_at "rd"
        refine ⟨by decide, by decide, ?_⟩
        refine loop_range (fun i σ H' => ∃ x3 x4, σ = [some (.ref a), some (.ref g), some v, x3, x4, none, none]) ⟨_, _, rfl⟩ ?_ ?_
        · rintro i σ H' hi ⟨x3, x4, rfl⟩
          have hi' : i < 2 := hi
          rcases (by omega : i = 0 ∨ i = 1) with rfl | rfl
          all_goals walk_at "rd"
          · refine ⟨rfl, ?_⟩
            rw [if_pos (by decide)]
            intro e H1 s1 n1 xe
            refine .inl ⟨e, c 19, _, _, _, rfl, xe, T.n19.xc, .own _, T.kitF 19 (by decide), _, rfl, ?_⟩
            rw [if_neg (by decide)]
            refine ⟨e, 19, rfl, by decide, xe, T.n19.xc, fun p H3 s3 h3 => ?_⟩
            refine ⟨by decide, by decide, comp_range (fun D j H' => Same H3 H' ∧ H' D = some (.lst ((List.range j).map fun k => V.bl (decide (k = 19))))) (fun D nD => ⟨same_upd nD, upd_same⟩) ?_ ?_⟩
            · rintro D j H' nD hj ⟨s', hD⟩
              walk_at "rd"
              exact ⟨rfl, _, hD, by rw [List.length_map, List.length_range]; exact Nat.lt_of_lt_of_le hj (by decide), same_over s' nD, by rw [range_step]; congr 3; exact decide_eq_decide.mpr (by omega)⟩
            · rintro D H4 nD ⟨s4, hD⟩
              have h3' := s4 _ _ h3
              have mm : ((List.range 21).map fun j => V.bl (decide (j = 19))) = ((List.range 21).map fun j => decide (j = 19)).map V.bl := by rw [List.map_map]; rfl
              rw [mm] at h3'
              have hD' : H4 D = some (.lst (((List.range 21).map fun j => decide (j = 19)).map V.bl)) := by rw [← mm]; exact hD
              exact bls_eq h3' hD' ⟨_, rfl, by rw [if_neg (by decide)]; exact ⟨⟨_, rfl⟩, ⟨_, rfl⟩⟩⟩
          · refine ⟨rfl, ?_⟩
            rw [if_neg (by decide)]
            intro e H1 s1 n1 xe
            refine .inl ⟨e, c 20, _, _, _, rfl, xe, T.n20.xc, .own _, T.kitF 20 (by decide), _, rfl, ?_⟩
            rw [if_neg (by decide)]
            refine ⟨e, 20, rfl, by decide, xe, T.n20.xc, fun p H3 s3 h3 => ?_⟩
            refine ⟨by decide, by decide, comp_range (fun D j H' => Same H3 H' ∧ H' D = some (.lst ((List.range j).map fun k => V.bl (decide (k = 20))))) (fun D nD => ⟨same_upd nD, upd_same⟩) ?_ ?_⟩
            · rintro D j H' nD hj ⟨s', hD⟩
              walk_at "rd"
              exact ⟨rfl, _, hD, by rw [List.length_map, List.length_range]; exact Nat.lt_of_lt_of_le hj (by decide), same_over s' nD, by rw [range_step]; congr 3; exact decide_eq_decide.mpr (by omega)⟩
            · rintro D H4 nD ⟨s4, hD⟩
              have h3' := s4 _ _ h3
              have mm : ((List.range 21).map fun j => V.bl (decide (j = 20))) = ((List.range 21).map fun j => decide (j = 20)).map V.bl := by rw [List.map_map]; rfl
              rw [mm] at h3'
              have hD' : H4 D = some (.lst (((List.range 21).map fun j => decide (j = 20)).map V.bl)) := by rw [← mm]; exact hD
              exact bls_eq h3' hD' ⟨_, rfl, by rw [if_neg (by decide)]; exact ⟨⟨_, rfl⟩, ⟨_, rfl⟩⟩⟩
        · rintro σ H' ⟨x3, x4, rfl⟩
          walk_at "rd"
          refine ⟨rfl, fun p6 H6 s6 h6 => ?_⟩
          refine ⟨p6, rfl, ⟨_, .inl (.inl h6)⟩, ?_⟩
          refine comp_list (xs := List.replicate 19 V.non) (fun D i H' => Same H6 H' ∧ H' D = some (.lst [])) (fun D nD => ⟨same_upd nD, upd_same⟩) (fun D i H' nD hi ⟨s', _⟩ => .inl (.inl (s' _ _ h6))) ?_ ?_
          · rintro D i x H' nD hx ⟨s', hD⟩
            have ex : x = V.non := List.eq_of_mem_replicate (List.mem_of_getElem? hx)
            subst ex
            walk_at "rd"
            rw [if_neg (by decide)]
            exact ⟨s', hD⟩
          · rintro D H7 nD ⟨s7, hD⟩
            refine ⟨by decide, fun p8 n8 => ?_⟩
            have e1 : (upd H7 p8 (HO.lst [])) D = some (.lst []) := (upd_ne (ne_none hD n8)).trans hD
            refine ⟨.list [], .list [], .lst (.inl (.inl e1)) .nil, .lst (.inl (.inl upd_same)) .nil, rfl, rfl, _, rfl, ?_⟩
            rw [if_pos (by decide)]
            intro e H9 s9 n9 xe
            exact .inl ⟨e, cF, _, _, _, rfl, xe, T.nF.xc, .ty _, T.kitFV, q H9⟩
end
end K08

namespace K08
open PySem PySem.Spec PyProof.Rows L2 G1
/-- what the top says of an exception class -/
structure XF (K : PySem.W.Frag) (x : Str) (C : Addr) : Prop where
  a0 : PySem.W.nsIn K mainGlobals x = some (some (.ref C))
  sa : PySem.W.findIn K (.ref C) "__setattr__" = some (some (.builtin "object.__setattr__"))
  eC : PySem.W.subIn K (.ref C) (.type "BaseException") = some true
  tC : PySem.W.typeIn K (.ref C) = some (.type "type")
  kC : PySem.W.keepIn K (.ref C) = true
  ga : PySem.W.findIn K (.ref C) "__getattribute__" = some (some (.builtin "BaseException.__getattribute__"))
  gg : PySem.W.findIn K (.ref C) "__getattr__" = some none
  cc : PySem.W.findIn K (.ref C) "__class__" = some (some (.builtin "object.__class__"))
  cm : PySem.W.mroIn K C (.type "object") = some true
  hd : PySem.W.hasDictIn K C = true
  nv : PySem.W.findIn K (.ref C) "value" = some none
theorem XF.xc {K : PySem.W.Frag} {x : Str} {C : Addr} (F : XF K x C) (cn : PySem.W.specialIn K (.builtin "object.__class__") "__get__" = some (some (.builtin "getset_descriptor.__get__"))) (ct : PySem.W.takesIn K (.builtin "object.__class__") = some true)
    {nm q : Str} {N : Addr} {bs bm : List Value} {sn : List Str} {sub : List Value} {ab : Bool} {col : Option Bool} {dd : Option Addr} {m0 m1 m2 m3 m5 : Option Value}
    (xL : K.lookup C = some (excClassObj nm q C N bs bm true sn sub ab col dd m0 m1 m2 m3 m5 "ValueError.__new__")) (hbm : PySem.HandSPX.refsVE bm = true) : XC K C :=
  ⟨⟨⟨nm, q, N, bs, bm, sn, sub, ab, col, dd, m0, m1, m2, m3, m5, xL, hbm⟩, F.sa, F.eC, F.tC, F.kC⟩, F.ga, F.gg, F.cc, cn, ct, F.cm, F.hd, F.nv⟩
theorem xok_mk {P : Program} {w : World} {K : PySem.W.Frag} {h : Heap} {mg : Str → Option Value} {base : Heap} {x qual : Str} {C fI T : Addr} {p1 p2 p3 q1 q2 q3 q4 : Pos} (X : K.In h) (G : h.Ns mainGlobals mg) (F : XF K x C) (T0 : XC K C)
    {oc doc pm cdv ct kV : Value} {od an : Option Addr} {osl : Array (Option Value)} {o : Obj} {n : Nat}
    (iC : PySem.W.findIn K (.ref C) "__init__" = some (some (.ref fI))) (tI : PySem.W.typeIn K (.ref fI) = some (.type "function"))
    (l : K.lookup fI = some ⟨oc, od, .func (PySem.W.fnOf "__init__" qual (xA p1 p2 p3) (xB q1 q2 q3 q4) xS (.ref T) kV doc pm an cdv ct), osl⟩) (c : PySem.W.codeIn K cdv qual = true) (kp : PySem.W.keepIn K (.ref fI) = true)
    (lT : K.lookup T = some o) (oT : o.data = .seq #[.none] n) : XOk P w K mg base x C :=
  x_ok T0 (PySem.W.mg_of X G F.a0) iC tI ⟨⟨oc, od, .ref T, kV, doc, pm, an, cdv, ct, osl, rfl, l, c, .inr ⟨by simp, T, o, [.none], n, rfl, lT, oT, .cons rfl .nil⟩, .inl rfl⟩, kp⟩
theorem xnk_mk {K : PySem.W.Frag} {h : Heap} {mg : Str → Option Value} {x : Str} {C : Addr} (X : K.In h) (G : h.Ns mainGlobals mg) (F : XF K x C) (T0 : XC K C) (i : PySem.W.findIn K (.ref C) "__init__" = some (some (.builtin "ValueError.__init__"))) : XNk K mg x C := ⟨T0, PySem.W.mg_of X G F.a0, i⟩
def kitM (K : PySem.W.Frag) (cs : List Addr) : Bool := (List.range 21).all fun i => (List.range 21).all fun j => PySem.W.kitOne K (.ref (cs.getD i 0)) (.ref (cs.getD j 0)) == some (decide (j = i))
def kitO (K : PySem.W.Frag) (cs : List Addr) (v : Value) : Bool := (List.range 21).all fun i => PySem.W.kitOne K (.ref (cs.getD i 0)) v == some true
theorem kitM_of {K : PySem.W.Frag} {cs : List Addr} (h : kitM K cs = true) (i j : Nat) (hi : i < 21) (hj : j < 21) : PySem.W.kitOne K (.ref (cs.getD i 0)) (.ref (cs.getD j 0)) = some (decide (j = i)) := by
  unfold kitM at h
  rw [List.all_eq_true] at h
  have h1 := h i (List.mem_range.mpr hi)
  rw [List.all_eq_true] at h1
  exact beq_iff_eq.mp (h1 j (List.mem_range.mpr hj))
theorem kitO_of {K : PySem.W.Frag} {cs : List Addr} {v : Value} (h : kitO K cs v = true) (i : Nat) (hi : i < 21) : PySem.W.kitOne K (.ref (cs.getD i 0)) v = some true := by
  unfold kitO at h
  rw [List.all_eq_true] at h
  exact beq_iff_eq.mp (h i (List.mem_range.mpr hi))
theorem all_mk {l : PySem.W.OpenLaw} {w : World} {K : PySem.W.Frag} {h : Heap} {mg : Str → Option Value} {fa : Addr} (X : K.In h) (G : h.Ns mainGlobals mg) (hfa : mg "law" = some (.ref fa)) {c0 c1 c2 c3 c4 c5 c6 c7 c8 c9 c10 c11 c12 c13 c14 c15 c16 c17 c18 c19 c20 c21 : Addr}
    (S_law_hash : Src K mg "_law_hash" s_law_hash)
    (S_law_generator : Src K mg "_law_generator" s_law_generator)
    (S_law_random : Src K mg "_law_random" s_law_random)
    (S_law_made : Src K mg "_law_made" s_law_made)
    (S_law_first : Src K mg "_law_first" s_law_first)
    (S_law_second : Src K mg "_law_second" s_law_second)
    (S_law_third : Src K mg "_law_third" s_law_third)
    (S_law_kinds : Src K mg "_law_kinds" s_law_kinds)
    (S_law_empty : Src K mg "_law_empty" s_law_empty)
    (S_law_named : Src K mg "_law_named" s_law_named)
    (S_law_value : Src K mg "_law_value" s_law_value)
    (S_law : Src K mg "law" s_law)
    (x0 : ∀ base, XOk l.prog w K mg base "InvalidNumber" c0)
    (x1 : ∀ base, XOk l.prog w K mg base "InvalidWord" c1)
    (x2 : ∀ base, XOk l.prog w K mg base "InvalidList" c2)
    (x3 : ∀ base, XOk l.prog w K mg base "InvalidGroup" c3)
    (x4 : ∀ base, XOk l.prog w K mg base "InvalidPicture" c4)
    (x5 : ∀ base, XOk l.prog w K mg base "InvalidSketch" c5)
    (x6 : ∀ base, XOk l.prog w K mg base "InvalidFold" c6)
    (x7 : ∀ base, XOk l.prog w K mg base "InvalidPaper" c7)
    (x8 : ∀ base, XOk l.prog w K mg base "InvalidMachine" c8)
    (x9 : ∀ base, XOk l.prog w K mg base "InvalidMap" c9)
    (x10 : ∀ base, XOk l.prog w K mg base "InvalidMove" c10)
    (x11 : ∀ base, XOk l.prog w K mg base "InvalidRow" c11)
    (x12 : ∀ base, XOk l.prog w K mg base "InvalidLines" c12)
    (x13 : ∀ base, XOk l.prog w K mg base "InvalidDeed" c13)
    (x14 : ∀ base, XOk l.prog w K mg base "InvalidFlag" c14)
    (x15 : ∀ base, XOk l.prog w K mg base "InvalidBook" c15)
    (x16 : ∀ base, XOk l.prog w K mg base "Unlike" c16)
    (x17 : ∀ base, XOk l.prog w K mg base "TooLong" c17)
    (x18 : ∀ base, XOk l.prog w K mg base "TooMany" c18)
    (n19 : XNk K mg "NothingToUndo" c19)
    (n20 : XNk K mg "NothingToRedo" c20)
    (nF : XNk K mg "FoldError" c21)
    (z_int : PySem.W.nsIn K mainGlobals "int" = some none)
    (z_len : PySem.W.nsIn K mainGlobals "len" = some none)
    (z_sum : PySem.W.nsIn K mainGlobals "sum" = some none)
    (z_max : PySem.W.nsIn K mainGlobals "max" = some none)
    (z_range : PySem.W.nsIn K mainGlobals "range" = some none)
    (z_isinstance : PySem.W.nsIn K mainGlobals "isinstance" = some none)
    (z_list : PySem.W.nsIn K mainGlobals "list" = some none)
    (z_ValueError : PySem.W.nsIn K mainGlobals "ValueError" = some none)
    (km : kitM K [c0, c1, c2, c3, c4, c5, c6, c7, c8, c9, c10, c11, c12, c13, c14, c15, c16, c17, c18, c19, c20] = true)
    (kF : kitO K [c0, c1, c2, c3, c4, c5, c6, c7, c8, c9, c10, c11, c12, c13, c14, c15, c16, c17, c18, c19, c20] (.ref c21) = true)
    (kV : kitO K [c0, c1, c2, c3, c4, c5, c6, c7, c8, c9, c10, c11, c12, c13, c14, c15, c16, c17, c18, c19, c20] (.type "ValueError") = true)
    (kFV : PySem.W.kitOne K (.ref c21) (.type "ValueError") = some true)
    : ∃ fd : FuncData, (∀ (s : Shared) (v : Value), BindsTo s fd ⟨[v], []⟩ [("_law_script", v)]) ∧ ∀ base : Heap, K.In base → base.Ns mainGlobals mg → FnOk l.prog w K mg base CX0 6 fa fd ["_law_script"] (spLaw K) := by
  have T : ∀ base, Txt l.prog w K mg base (fun i => ([c0, c1, c2, c3, c4, c5, c6, c7, c8, c9, c10, c11, c12, c13, c14, c15, c16, c17, c18, c19, c20] : List Addr).getD i 0) c21 := fun base => {
    n_int := PySem.W.mg_none_of X G z_int
    n_len := PySem.W.mg_none_of X G z_len
    n_sum := PySem.W.mg_none_of X G z_sum
    n_max := PySem.W.mg_none_of X G z_max
    n_range := PySem.W.mg_none_of X G z_range
    n_isinstance := PySem.W.mg_none_of X G z_isinstance
    n_list := PySem.W.mg_none_of X G z_list
    n_ValueError := PySem.W.mg_none_of X G z_ValueError
    x := fun i hi => by
      match i, hi with
      | 0, _ => exact x0 base
      | 1, _ => exact x1 base
      | 2, _ => exact x2 base
      | 3, _ => exact x3 base
      | 4, _ => exact x4 base
      | 5, _ => exact x5 base
      | 6, _ => exact x6 base
      | 7, _ => exact x7 base
      | 8, _ => exact x8 base
      | 9, _ => exact x9 base
      | 10, _ => exact x10 base
      | 11, _ => exact x11 base
      | 12, _ => exact x12 base
      | 13, _ => exact x13 base
      | 14, _ => exact x14 base
      | 15, _ => exact x15 base
      | 16, _ => exact x16 base
      | 17, _ => exact x17 base
      | 18, _ => exact x18 base
      | n + 19, hn => exact absurd hn (by omega)
    n19 := n19, n20 := n20, nF := nF
    kit := fun i j hi hj => kitM_of km i j hi hj, kitF := fun i hi => kitO_of kF i hi, kitV := fun i hi => kitO_of kV i hi, kitFV := kFV }
  obtain ⟨f, fd, F, g⟩ := S_law
  have e := hfa.symm.trans g
  cases e
  refine ⟨fd, ?_, fun base _ _ => ?_⟩
  · obtain ⟨oc, od, kV, doc, pm, an, cdv, ct, osl, rfl, _⟩ := F.ex
    exact fun s v => .of_eq rfl
  · have T := T base
    have h1 := ok_hash (P := l.prog) (w := w) (base := base) S_law_hash T
    have h2 := ok_gen (P := l.prog) (w := w) (base := base) S_law_generator T
    have h3 := ok_random (P := l.prog) (w := w) (base := base) S_law_random T h1
    have h4 := ok_value (P := l.prog) (w := w) (base := base) S_law_value T h3
    have h5 := ok_made (P := l.prog) (w := w) (base := base) S_law_made T (ok_first S_law_first T) (ok_second S_law_second T) (ok_third S_law_third T)
    exact ok_law F T h2 h4 h5 (ok_kinds S_law_kinds T) (ok_named S_law_named T) (ok_empty S_law_empty T)
end K08
open PySem PySem.W PyProof.Rows
set_option maxHeartbeats 0 in
theorem PySem.Challenge.cw_signlanes_k08_errors_by_their_classes_holds : PySem.Challenge.rw_signlanes_k08_errors_by_their_classes.Holds := by
  w_on; o_law; k_head; (case hw => w_witness2)
  k_fill
  refine L2.walk_of (l := PySem.Challenge.rw_signlanes_k08_errors_by_their_classes) (n := 63) (k := 6) (x := "_law_script") (CX := fun _ => L2.CX0) (sp := fun w => K08.spLaw _) rfl (by decide) rfl ⟨rfl, by decide, by decide⟩ (fun w h Y => PySem.W.kIn_of Y) ?F (fun _ _ a ns hl _ hS => ⟨a, ns, rfl, hS, hl, fun _ => rfl⟩) (fun _ _ _ _ _ h => h)
  case F =>
    intro w mg fa h KX G hmg
    refine' K08.all_mk KX G hmg ?S_law_hash ?S_law_generator ?S_law_random ?S_law_made ?S_law_first ?S_law_second ?S_law_third ?S_law_kinds ?S_law_empty ?S_law_named ?S_law_value ?S_law ?x0 ?x1 ?x2 ?x3 ?x4 ?x5 ?x6 ?x7 ?x8 ?x9 ?x10 ?x11 ?x12 ?x13 ?x14 ?x15 ?x16 ?x17 ?x18 ?n19 ?n20 ?nF ?z_int ?z_len ?z_sum ?z_max ?z_range ?z_isinstance ?z_list ?z_ValueError ?km ?kF ?kV ?kFV
    (case S_law_hash => (refine' G1.src_mk KX G ?a ?l ?c ?k; (case a => k_is); (case l => k_is); (case c => k_is); (case k => k_is)))
    (case S_law_generator => (refine' G1.src_mk KX G ?a ?l ?c ?k; (case a => k_is); (case l => k_is); (case c => k_is); (case k => k_is)))
    (case S_law_random => (refine' G1.src_mk KX G ?a ?l ?c ?k; (case a => k_is); (case l => k_is); (case c => k_is); (case k => k_is)))
    (case S_law_made => (refine' G1.src_mk KX G ?a ?l ?c ?k; (case a => k_is); (case l => k_is); (case c => k_is); (case k => k_is)))
    (case S_law_first => (refine' G1.src_mk KX G ?a ?l ?c ?k; (case a => k_is); (case l => k_is); (case c => k_is); (case k => k_is)))
    (case S_law_second => (refine' G1.src_mk KX G ?a ?l ?c ?k; (case a => k_is); (case l => k_is); (case c => k_is); (case k => k_is)))
    (case S_law_third => (refine' G1.src_mk KX G ?a ?l ?c ?k; (case a => k_is); (case l => k_is); (case c => k_is); (case k => k_is)))
    (case S_law_kinds => (refine' G1.src_mk KX G ?a ?l ?c ?k; (case a => k_is); (case l => k_is); (case c => k_is); (case k => k_is)))
    (case S_law_empty => (refine' G1.src_mk KX G ?a ?l ?c ?k; (case a => k_is); (case l => k_is); (case c => k_is); (case k => k_is)))
    (case S_law_named => (refine' G1.src_mk KX G ?a ?l ?c ?k; (case a => k_is); (case l => k_is); (case c => k_is); (case k => k_is)))
    (case S_law_value => (refine' G1.src_mk KX G ?a ?l ?c ?k; (case a => k_is); (case l => k_is); (case c => k_is); (case k => k_is)))
    (case S_law => (refine' G1.src_mk KX G ?a ?l ?c ?k; (case a => k_is); (case l => k_is); (case c => k_is); (case k => k_is)))
    (case x0 => (intro base; refine' K08.xok_mk (qual := "InvalidNumber.__init__") (p1 := ⟨6, 17, 6, 21⟩) (p2 := ⟨6, 23, 6, 28⟩) (p3 := ⟨6, 29, 6, 33⟩) (q1 := ⟨7, 8, 7, 12⟩) (q2 := ⟨7, 8, 7, 18⟩) (q3 := ⟨7, 21, 7, 26⟩) (q4 := ⟨7, 8, 7, 26⟩) KX G ?F (K08.XF.xc ?F ?cn ?ct ?xL ?bm) ?iC ?tI ?l ?c ?kp ?lT ?oT; (case F => (constructor <;> k_is)); (case cn => k_is); (case ct => k_is); (case xL => k_is); (case bm => decide +kernel); (case iC => k_is); (case tI => k_is); (case l => k_is); (case c => k_is); (case kp => k_is); (case lT => k_is); (case oT => rfl)))
    (case x1 => (intro base; refine' K08.xok_mk (qual := "InvalidWord.__init__") (p1 := ⟨10, 17, 10, 21⟩) (p2 := ⟨10, 23, 10, 28⟩) (p3 := ⟨10, 29, 10, 33⟩) (q1 := ⟨11, 8, 11, 12⟩) (q2 := ⟨11, 8, 11, 18⟩) (q3 := ⟨11, 21, 11, 26⟩) (q4 := ⟨11, 8, 11, 26⟩) KX G ?F (K08.XF.xc ?F ?cn ?ct ?xL ?bm) ?iC ?tI ?l ?c ?kp ?lT ?oT; (case F => (constructor <;> k_is)); (case cn => k_is); (case ct => k_is); (case xL => k_is); (case bm => decide +kernel); (case iC => k_is); (case tI => k_is); (case l => k_is); (case c => k_is); (case kp => k_is); (case lT => k_is); (case oT => rfl)))
    (case x2 => (intro base; refine' K08.xok_mk (qual := "InvalidList.__init__") (p1 := ⟨14, 17, 14, 21⟩) (p2 := ⟨14, 23, 14, 28⟩) (p3 := ⟨14, 29, 14, 33⟩) (q1 := ⟨15, 8, 15, 12⟩) (q2 := ⟨15, 8, 15, 18⟩) (q3 := ⟨15, 21, 15, 26⟩) (q4 := ⟨15, 8, 15, 26⟩) KX G ?F (K08.XF.xc ?F ?cn ?ct ?xL ?bm) ?iC ?tI ?l ?c ?kp ?lT ?oT; (case F => (constructor <;> k_is)); (case cn => k_is); (case ct => k_is); (case xL => k_is); (case bm => decide +kernel); (case iC => k_is); (case tI => k_is); (case l => k_is); (case c => k_is); (case kp => k_is); (case lT => k_is); (case oT => rfl)))
    (case x3 => (intro base; refine' K08.xok_mk (qual := "InvalidGroup.__init__") (p1 := ⟨18, 17, 18, 21⟩) (p2 := ⟨18, 23, 18, 28⟩) (p3 := ⟨18, 29, 18, 33⟩) (q1 := ⟨19, 8, 19, 12⟩) (q2 := ⟨19, 8, 19, 18⟩) (q3 := ⟨19, 21, 19, 26⟩) (q4 := ⟨19, 8, 19, 26⟩) KX G ?F (K08.XF.xc ?F ?cn ?ct ?xL ?bm) ?iC ?tI ?l ?c ?kp ?lT ?oT; (case F => (constructor <;> k_is)); (case cn => k_is); (case ct => k_is); (case xL => k_is); (case bm => decide +kernel); (case iC => k_is); (case tI => k_is); (case l => k_is); (case c => k_is); (case kp => k_is); (case lT => k_is); (case oT => rfl)))
    (case x4 => (intro base; refine' K08.xok_mk (qual := "InvalidPicture.__init__") (p1 := ⟨22, 17, 22, 21⟩) (p2 := ⟨22, 23, 22, 28⟩) (p3 := ⟨22, 29, 22, 33⟩) (q1 := ⟨23, 8, 23, 12⟩) (q2 := ⟨23, 8, 23, 18⟩) (q3 := ⟨23, 21, 23, 26⟩) (q4 := ⟨23, 8, 23, 26⟩) KX G ?F (K08.XF.xc ?F ?cn ?ct ?xL ?bm) ?iC ?tI ?l ?c ?kp ?lT ?oT; (case F => (constructor <;> k_is)); (case cn => k_is); (case ct => k_is); (case xL => k_is); (case bm => decide +kernel); (case iC => k_is); (case tI => k_is); (case l => k_is); (case c => k_is); (case kp => k_is); (case lT => k_is); (case oT => rfl)))
    (case x5 => (intro base; refine' K08.xok_mk (qual := "InvalidSketch.__init__") (p1 := ⟨26, 17, 26, 21⟩) (p2 := ⟨26, 23, 26, 28⟩) (p3 := ⟨26, 29, 26, 33⟩) (q1 := ⟨27, 8, 27, 12⟩) (q2 := ⟨27, 8, 27, 18⟩) (q3 := ⟨27, 21, 27, 26⟩) (q4 := ⟨27, 8, 27, 26⟩) KX G ?F (K08.XF.xc ?F ?cn ?ct ?xL ?bm) ?iC ?tI ?l ?c ?kp ?lT ?oT; (case F => (constructor <;> k_is)); (case cn => k_is); (case ct => k_is); (case xL => k_is); (case bm => decide +kernel); (case iC => k_is); (case tI => k_is); (case l => k_is); (case c => k_is); (case kp => k_is); (case lT => k_is); (case oT => rfl)))
    (case x6 => (intro base; refine' K08.xok_mk (qual := "InvalidFold.__init__") (p1 := ⟨30, 17, 30, 21⟩) (p2 := ⟨30, 23, 30, 28⟩) (p3 := ⟨30, 29, 30, 33⟩) (q1 := ⟨31, 8, 31, 12⟩) (q2 := ⟨31, 8, 31, 18⟩) (q3 := ⟨31, 21, 31, 26⟩) (q4 := ⟨31, 8, 31, 26⟩) KX G ?F (K08.XF.xc ?F ?cn ?ct ?xL ?bm) ?iC ?tI ?l ?c ?kp ?lT ?oT; (case F => (constructor <;> k_is)); (case cn => k_is); (case ct => k_is); (case xL => k_is); (case bm => decide +kernel); (case iC => k_is); (case tI => k_is); (case l => k_is); (case c => k_is); (case kp => k_is); (case lT => k_is); (case oT => rfl)))
    (case x7 => (intro base; refine' K08.xok_mk (qual := "InvalidPaper.__init__") (p1 := ⟨34, 17, 34, 21⟩) (p2 := ⟨34, 23, 34, 28⟩) (p3 := ⟨34, 29, 34, 33⟩) (q1 := ⟨35, 8, 35, 12⟩) (q2 := ⟨35, 8, 35, 18⟩) (q3 := ⟨35, 21, 35, 26⟩) (q4 := ⟨35, 8, 35, 26⟩) KX G ?F (K08.XF.xc ?F ?cn ?ct ?xL ?bm) ?iC ?tI ?l ?c ?kp ?lT ?oT; (case F => (constructor <;> k_is)); (case cn => k_is); (case ct => k_is); (case xL => k_is); (case bm => decide +kernel); (case iC => k_is); (case tI => k_is); (case l => k_is); (case c => k_is); (case kp => k_is); (case lT => k_is); (case oT => rfl)))
    (case x8 => (intro base; refine' K08.xok_mk (qual := "InvalidMachine.__init__") (p1 := ⟨38, 17, 38, 21⟩) (p2 := ⟨38, 23, 38, 28⟩) (p3 := ⟨38, 29, 38, 33⟩) (q1 := ⟨39, 8, 39, 12⟩) (q2 := ⟨39, 8, 39, 18⟩) (q3 := ⟨39, 21, 39, 26⟩) (q4 := ⟨39, 8, 39, 26⟩) KX G ?F (K08.XF.xc ?F ?cn ?ct ?xL ?bm) ?iC ?tI ?l ?c ?kp ?lT ?oT; (case F => (constructor <;> k_is)); (case cn => k_is); (case ct => k_is); (case xL => k_is); (case bm => decide +kernel); (case iC => k_is); (case tI => k_is); (case l => k_is); (case c => k_is); (case kp => k_is); (case lT => k_is); (case oT => rfl)))
    (case x9 => (intro base; refine' K08.xok_mk (qual := "InvalidMap.__init__") (p1 := ⟨42, 17, 42, 21⟩) (p2 := ⟨42, 23, 42, 28⟩) (p3 := ⟨42, 29, 42, 33⟩) (q1 := ⟨43, 8, 43, 12⟩) (q2 := ⟨43, 8, 43, 18⟩) (q3 := ⟨43, 21, 43, 26⟩) (q4 := ⟨43, 8, 43, 26⟩) KX G ?F (K08.XF.xc ?F ?cn ?ct ?xL ?bm) ?iC ?tI ?l ?c ?kp ?lT ?oT; (case F => (constructor <;> k_is)); (case cn => k_is); (case ct => k_is); (case xL => k_is); (case bm => decide +kernel); (case iC => k_is); (case tI => k_is); (case l => k_is); (case c => k_is); (case kp => k_is); (case lT => k_is); (case oT => rfl)))
    (case x10 => (intro base; refine' K08.xok_mk (qual := "InvalidMove.__init__") (p1 := ⟨46, 17, 46, 21⟩) (p2 := ⟨46, 23, 46, 28⟩) (p3 := ⟨46, 29, 46, 33⟩) (q1 := ⟨47, 8, 47, 12⟩) (q2 := ⟨47, 8, 47, 18⟩) (q3 := ⟨47, 21, 47, 26⟩) (q4 := ⟨47, 8, 47, 26⟩) KX G ?F (K08.XF.xc ?F ?cn ?ct ?xL ?bm) ?iC ?tI ?l ?c ?kp ?lT ?oT; (case F => (constructor <;> k_is)); (case cn => k_is); (case ct => k_is); (case xL => k_is); (case bm => decide +kernel); (case iC => k_is); (case tI => k_is); (case l => k_is); (case c => k_is); (case kp => k_is); (case lT => k_is); (case oT => rfl)))
    (case x11 => (intro base; refine' K08.xok_mk (qual := "InvalidRow.__init__") (p1 := ⟨50, 17, 50, 21⟩) (p2 := ⟨50, 23, 50, 28⟩) (p3 := ⟨50, 29, 50, 33⟩) (q1 := ⟨51, 8, 51, 12⟩) (q2 := ⟨51, 8, 51, 18⟩) (q3 := ⟨51, 21, 51, 26⟩) (q4 := ⟨51, 8, 51, 26⟩) KX G ?F (K08.XF.xc ?F ?cn ?ct ?xL ?bm) ?iC ?tI ?l ?c ?kp ?lT ?oT; (case F => (constructor <;> k_is)); (case cn => k_is); (case ct => k_is); (case xL => k_is); (case bm => decide +kernel); (case iC => k_is); (case tI => k_is); (case l => k_is); (case c => k_is); (case kp => k_is); (case lT => k_is); (case oT => rfl)))
    (case x12 => (intro base; refine' K08.xok_mk (qual := "InvalidLines.__init__") (p1 := ⟨54, 17, 54, 21⟩) (p2 := ⟨54, 23, 54, 28⟩) (p3 := ⟨54, 29, 54, 33⟩) (q1 := ⟨55, 8, 55, 12⟩) (q2 := ⟨55, 8, 55, 18⟩) (q3 := ⟨55, 21, 55, 26⟩) (q4 := ⟨55, 8, 55, 26⟩) KX G ?F (K08.XF.xc ?F ?cn ?ct ?xL ?bm) ?iC ?tI ?l ?c ?kp ?lT ?oT; (case F => (constructor <;> k_is)); (case cn => k_is); (case ct => k_is); (case xL => k_is); (case bm => decide +kernel); (case iC => k_is); (case tI => k_is); (case l => k_is); (case c => k_is); (case kp => k_is); (case lT => k_is); (case oT => rfl)))
    (case x13 => (intro base; refine' K08.xok_mk (qual := "InvalidDeed.__init__") (p1 := ⟨58, 17, 58, 21⟩) (p2 := ⟨58, 23, 58, 28⟩) (p3 := ⟨58, 29, 58, 33⟩) (q1 := ⟨59, 8, 59, 12⟩) (q2 := ⟨59, 8, 59, 18⟩) (q3 := ⟨59, 21, 59, 26⟩) (q4 := ⟨59, 8, 59, 26⟩) KX G ?F (K08.XF.xc ?F ?cn ?ct ?xL ?bm) ?iC ?tI ?l ?c ?kp ?lT ?oT; (case F => (constructor <;> k_is)); (case cn => k_is); (case ct => k_is); (case xL => k_is); (case bm => decide +kernel); (case iC => k_is); (case tI => k_is); (case l => k_is); (case c => k_is); (case kp => k_is); (case lT => k_is); (case oT => rfl)))
    (case x14 => (intro base; refine' K08.xok_mk (qual := "InvalidFlag.__init__") (p1 := ⟨62, 17, 62, 21⟩) (p2 := ⟨62, 23, 62, 28⟩) (p3 := ⟨62, 29, 62, 33⟩) (q1 := ⟨63, 8, 63, 12⟩) (q2 := ⟨63, 8, 63, 18⟩) (q3 := ⟨63, 21, 63, 26⟩) (q4 := ⟨63, 8, 63, 26⟩) KX G ?F (K08.XF.xc ?F ?cn ?ct ?xL ?bm) ?iC ?tI ?l ?c ?kp ?lT ?oT; (case F => (constructor <;> k_is)); (case cn => k_is); (case ct => k_is); (case xL => k_is); (case bm => decide +kernel); (case iC => k_is); (case tI => k_is); (case l => k_is); (case c => k_is); (case kp => k_is); (case lT => k_is); (case oT => rfl)))
    (case x15 => (intro base; refine' K08.xok_mk (qual := "InvalidBook.__init__") (p1 := ⟨66, 17, 66, 21⟩) (p2 := ⟨66, 23, 66, 28⟩) (p3 := ⟨66, 29, 66, 33⟩) (q1 := ⟨67, 8, 67, 12⟩) (q2 := ⟨67, 8, 67, 18⟩) (q3 := ⟨67, 21, 67, 26⟩) (q4 := ⟨67, 8, 67, 26⟩) KX G ?F (K08.XF.xc ?F ?cn ?ct ?xL ?bm) ?iC ?tI ?l ?c ?kp ?lT ?oT; (case F => (constructor <;> k_is)); (case cn => k_is); (case ct => k_is); (case xL => k_is); (case bm => decide +kernel); (case iC => k_is); (case tI => k_is); (case l => k_is); (case c => k_is); (case kp => k_is); (case lT => k_is); (case oT => rfl)))
    (case x16 => (intro base; refine' K08.xok_mk (qual := "Unlike.__init__") (p1 := ⟨70, 17, 70, 21⟩) (p2 := ⟨70, 23, 70, 28⟩) (p3 := ⟨70, 29, 70, 33⟩) (q1 := ⟨71, 8, 71, 12⟩) (q2 := ⟨71, 8, 71, 18⟩) (q3 := ⟨71, 21, 71, 26⟩) (q4 := ⟨71, 8, 71, 26⟩) KX G ?F (K08.XF.xc ?F ?cn ?ct ?xL ?bm) ?iC ?tI ?l ?c ?kp ?lT ?oT; (case F => (constructor <;> k_is)); (case cn => k_is); (case ct => k_is); (case xL => k_is); (case bm => decide +kernel); (case iC => k_is); (case tI => k_is); (case l => k_is); (case c => k_is); (case kp => k_is); (case lT => k_is); (case oT => rfl)))
    (case x17 => (intro base; refine' K08.xok_mk (qual := "TooLong.__init__") (p1 := ⟨74, 17, 74, 21⟩) (p2 := ⟨74, 23, 74, 28⟩) (p3 := ⟨74, 29, 74, 33⟩) (q1 := ⟨75, 8, 75, 12⟩) (q2 := ⟨75, 8, 75, 18⟩) (q3 := ⟨75, 21, 75, 26⟩) (q4 := ⟨75, 8, 75, 26⟩) KX G ?F (K08.XF.xc ?F ?cn ?ct ?xL ?bm) ?iC ?tI ?l ?c ?kp ?lT ?oT; (case F => (constructor <;> k_is)); (case cn => k_is); (case ct => k_is); (case xL => k_is); (case bm => decide +kernel); (case iC => k_is); (case tI => k_is); (case l => k_is); (case c => k_is); (case kp => k_is); (case lT => k_is); (case oT => rfl)))
    (case x18 => (intro base; refine' K08.xok_mk (qual := "TooMany.__init__") (p1 := ⟨78, 17, 78, 21⟩) (p2 := ⟨78, 23, 78, 28⟩) (p3 := ⟨78, 29, 78, 33⟩) (q1 := ⟨79, 8, 79, 12⟩) (q2 := ⟨79, 8, 79, 18⟩) (q3 := ⟨79, 21, 79, 26⟩) (q4 := ⟨79, 8, 79, 26⟩) KX G ?F (K08.XF.xc ?F ?cn ?ct ?xL ?bm) ?iC ?tI ?l ?c ?kp ?lT ?oT; (case F => (constructor <;> k_is)); (case cn => k_is); (case ct => k_is); (case xL => k_is); (case bm => decide +kernel); (case iC => k_is); (case tI => k_is); (case l => k_is); (case c => k_is); (case kp => k_is); (case lT => k_is); (case oT => rfl)))
    (case n19 => (refine' K08.xnk_mk KX G ?F (K08.XF.xc ?F ?cn ?ct ?xL ?bm) ?i; (case F => (constructor <;> k_is)); (case cn => k_is); (case ct => k_is); (case xL => k_is); (case bm => decide +kernel); (case i => k_is)))
    (case n20 => (refine' K08.xnk_mk KX G ?F (K08.XF.xc ?F ?cn ?ct ?xL ?bm) ?i; (case F => (constructor <;> k_is)); (case cn => k_is); (case ct => k_is); (case xL => k_is); (case bm => decide +kernel); (case i => k_is)))
    (case nF => (refine' K08.xnk_mk KX G ?F (K08.XF.xc ?F ?cn ?ct ?xL ?bm) ?i; (case F => (constructor <;> k_is)); (case cn => k_is); (case ct => k_is); (case xL => k_is); (case bm => decide +kernel); (case i => k_is)))
    (case z_int => k_is)
    (case z_len => k_is)
    (case z_sum => k_is)
    (case z_max => k_is)
    (case z_range => k_is)
    (case z_isinstance => k_is)
    (case z_list => k_is)
    (case z_ValueError => k_is)
    (case km => kernel_rfl)
    (case kF => kernel_rfl)
    (case kV => kernel_rfl)
    (case kFV => kernel_rfl)
