import PyProof.Rows.All
import Wide.All
import OpenK.AllK
import Wide.FinOn
import HandS.ForMost
import HandS.ExcInit
import HandS.Wide
import HandS.WideBits
import HandS.Defaults
import HandS.MakeKw
import HandS.IsInst
import KE.KExcMake
import KE.KExcIs
import HandS.Exc
import HandS.ExcOwn
import HandS.Flow
import HandS.Style
import HandS.StrMore
import HandS.Replace
import HandS.ReplaceList
import HandS.WordsExc
import KE.GoesNew
import HandS.Iter
import KE.LtData
import KE.DataMinKey
import HandS.SortKw
import HandS.DictTup
import HandS.Dict
import HandS.ForDict
import HandS.Deep
import HandS.SlotsOwn
import HandS.MakeKwOnly
import HandS.SetFor
import KE.DataCmp
import HandS.Walk
import HandS.Small
import HandS.Conv
import PySem.Challenge.RW_signlanes_k29_classes_of_words
set_option Elab.async false
set_option linter.all false
set_option maxRecDepth 100000
set_option maxHeartbeats 4000000

namespace G1
open PySem PySem.W PySem.Calls PyProof.Rows PySem.HandSPX
section
variable {M : Model} {A : Around} {E : Value → Shared → Prop} {h : Heap} {g : Array GenState} {d : Drawn} {t : Nat} {os : OsState}
variable {nm q : Str} {C N : Addr} {bs bm bmB : List Value} {hdct : Bool} {sn : List Str} {sub : List Value} {ab : Bool} {col : Option Bool} {dd : Option Addr} {k0 k1 k2 k3 k5 : Option Value} {B newId initId : String}
/-- the check ahead of the new object, keywords too -/
theorem check_newK (F : ExcBaseFacts B newId initId bmB) (hT : ∀ X : String, bm.contains (.type X) = bmB.contains (.type X)) {rest : List Value} {kw : List (Str × Value)} {Q : Unit → Shared → Prop}
    (hC : h.get? C = some (excClassObj nm q C N bs bm hdct sn sub ab col dd k0 k1 k2 k3 k5 newId)) (hq : Q () ⟨h, g, d, t, os⟩) : wpAny M A (checkBuiltinCall newId ⟨.ref C :: rest, kw⟩) Q E ⟨h, g, d, t, os⟩ := by
  have hcont : (Value.ref C :: bm).contains (.type B) = true := by rw [List.contains_cons, hT, F.hasB, Bool.or_true]
  have hstar := F.noStar
  simp only [checkBuiltinCall, F.newKind, F.newSplit, F.newRow]
  repeat (first | refine wpAny_loadPart_at hC ?_ | (refine wpAny_isSubtype_exc hC ?_; rw [hcont]) | refine wpAny_staticBase_exc hC ?_ | refine wpAny_madeBy_exc hC ?_ | simp only [bne_self_eq_false, Bool.false_eq_true, if_false] | wp_step)
  exact hq
end
section
variable {prog : Program} {w : World} {A : Around} {E : Value → Shared → Prop} {R : Result → Shared → Prop} {h : Heap} {g : Array GenState} {d : Drawn} {t : Nat} {os : OsState}
variable {nm q : Str} {C N : Addr} {bs bm bmB : List Value} {hdct : Bool} {sn : List Str} {sub : List Value} {ab : Bool} {col : Option Bool} {dd : Option Addr} {k0 k1 k2 k3 k5 : Option Value} {B newId initId : String}
theorem newK (F : ExcBaseFacts B newId initId bmB) (hT : ∀ X : String, bm.contains (.type X) = bmB.contains (.type X)) {rest : List Value} {kw : List (Str × Value)}
    (hC : h.get? C = some (excClassObj nm q C N bs bm hdct sn sub ab col dd k0 k1 k2 k3 k5 newId))
    (hq : R (.ok (.ret (.ref (h.objs.size + 1)))) ⟨(h.push { cls := .type "tuple", data := .seq rest.toArray }).push
      { cls := .ref C, data := .fields #[.ref h.objs.size, .none, .none, .none, .bool false, .none] }, g, d, t, os⟩) (hrest : rest.length ≤ sizeLine) :
    codeAny (model prog w) A (.builtin newId ⟨.ref C :: rest, kw⟩) R ⟨h, g, d, t, os⟩ := by
  have hends := F.ends
  have hcB : (Value.ref C :: bm).contains (.type B) = true := by rw [List.contains_cons, hT, F.hasB, Bool.or_true]
  have hcA : (Value.ref C :: bm).contains (.type "AttributeError") = false := by rw [List.contains_cons, hT, F.noAttr]; rfl
  have hcN : (Value.ref C :: bm).contains (.type "NameError") = false := by rw [List.contains_cons, hT, F.noName]; rfl
  refine codeAny_builtinAt F.entry ?_
  unfold Builtin.«BaseException.__new__»
  refine PySem.wpAt_bind ?_
  show PySem.wpAt _ _ _ (stack >>= _) _ _ _
  refine PySem.wpAt_bind (PySem.wpAt_stack fun p below => PySem.wpAt_of_wpAny ?_)
  wp_walk
  refine PySem.wpAt_of_wpAny ?_
  rw [F.owner]
  repeat (first | with_reducible refine wpAny_madeHere_exc F.canon hC ?_ | with_reducible refine wpAny_loadPart_at hC ?_ | (with_reducible refine wpAny_isSubtype_exc hC ?_; first | rw [hcB] | rw [hcA] | rw [hcN]) | wp_step)
  show R _ _
  rw [Heap.size_push]
  exact hq
theorem type_callK (F : ExcBaseFacts B newId initId bmB) (hT : ∀ X : String, bm.contains (.type X) = bmB.contains (.type X)) {rest : List Value} {kw : List (Str × Value)} {fI : Addr} {Q : Fin → Shared → Prop}
    (hC : h.get? C = some (excClassObj nm q C N bs bm hdct sn sub ab col dd k0 k1 k2 k3 k5 newId))
    (hi : W.Looks (model prog w) h (typeLookup (.ref C) "__init__") (some (.ref fI))) (hb : ∀ self, W.Looks (model prog w) h (bindSpecial (.ref fI) self) (.ref fI, [self])) (hrest : rest.length ≤ sizeLine)
    (hq : codeAny (model prog w) A (.call (.ref fI) ⟨.ref (h.objs.size + 1) :: rest, kw⟩)
      (fun r s' => match r with | .ok (.ret v) => v = .none ∧ Q (.done (.ret (.ref (h.objs.size + 1)))) s' | .ok _ => False | .error e => E e s')
      ⟨(h.push (W.kdv_tup rest)).push (excO C h.objs.size), g, d, t, os⟩) :
    wpAny (model prog w) A (Builtin.«type.__call__» ⟨.ref C :: rest, kw⟩) Q E ⟨h, g, d, t, os⟩ := by
  repeat (first | with_reducible refine wpAny_loadPart_at hC ?_ | with_reducible refine wpAny_madeBy_exc hC ?_ | wp_step)
  refine codeAny_call_builtin_code (Code.quiet_builtin _ F.quiet) (check_newK F hT hC ?_)
  refine newK F hT hC ?_ hrest
  show wpAny _ _ _ _ _ _
  have k : ∀ b o, h.get? b = some o → ((h.push (W.kdv_tup rest)).push (excO C h.objs.size)).get? b = some o := fun b o e => Heap.get?_push_of_some _ (Heap.get?_push_of_some _ e)
  have hC₁ := k _ _ hC
  have hget : ((h.push (W.kdv_tup rest)).push (excO C h.objs.size)).get? (h.objs.size + 1) = some (excO C h.objs.size) := by heap_get
  have hcC : (Value.ref C :: bm).contains (.ref C) = true := by simp
  have i1 := hi.keeps k
  have b1 := (hb (.ref (h.objs.size + 1))).keeps k
  unfold isInstance
  repeat (first | with_reducible refine wpAny_loadPart_at hget ?_ | (with_reducible refine wpAny_isSubtype_exc hC₁ ?_; rw [hcC]) | wp_step)
  show wpAny _ _ (typeLookup (.ref C) _) _ _ _
  refine i1.at ?_
  refine wpAny_holding (wpAny_bind (b1.at ?_))
  refine wpAny_bind (wpAny_call (codeAny_mono hq fun r s' z => ?_))
  rcases r with e | (v | _ | _ | _) <;> first | exact z | exact z.elim | skip
  obtain ⟨rfl, z⟩ := z
  first
    | exact wpAny_pure (wpAny_pure z)
    | (wp_walk; exact z)
theorem callK (F : ExcBaseFacts B newId initId bmB) (hT : ∀ X : String, bm.contains (.type X) = bmB.contains (.type X)) {rest : List Value} {kw : List (Str × Value)} {fI : Addr}
    (hC : h.get? C = some (excClassObj nm q C N bs bm hdct sn sub ab col dd k0 k1 k2 k3 k5 newId))
    (hi : W.Looks (model prog w) h (typeLookup (.ref C) "__init__") (some (.ref fI))) (hb : ∀ self, W.Looks (model prog w) h (bindSpecial (.ref fI) self) (.ref fI, [self])) (hrest : rest.length ≤ sizeLine)
    (hq : codeAny (model prog w) (A.under (.builtin "type.__call__" ⟨.ref C :: rest, kw⟩)) (.call (.ref fI) ⟨.ref (h.objs.size + 1) :: rest, kw⟩) (W.InitBack (h.objs.size + 1) R)
      ⟨(h.push (W.kdv_tup rest)).push (excO C h.objs.size), g, d, t, os⟩) :
    codeAny (model prog w) A (.call (.ref C) ⟨rest, kw⟩) R ⟨h, g, d, t, os⟩ := by
  have f1 := tc_lookup
  have f2 := tc_bind (.ref C)
  have hTy : (⟨h, g, d, t, os⟩ : Shared).TypeIs (.ref C) "type" := ⟨_, hC, rfl⟩
  refine codeAny_of_tree ?_
  show wpAny _ _ (callAny (.ref C) _) _ _ _
  repeat (any_goals (first | assumption | with_reducible refine wpAny_loadPart_at hC ?_ | wp_step))
  refine ⟨rfl, ?_⟩
  refine codeAny_call_builtin_at (Code.quiet_builtin _ (by decide +kernel)) entry_typeCall (wpAny_check_type_call_sub hC (type_callK F hT hC hi hb hrest ?_))
  refine codeAny_mono hq fun r s' z => ?_
  rcases r with e | (v | _ | _ | _) <;> exact z
end
end G1

namespace G1
open PySem PySem.Spec PyProof.Rows L2
section
variable {X : Cx}
/-- ** within 2 ^ 27 bits -/
def CPowW (i j : Int) : Prop := 0 ≤ j ∧ (Builtin.Int.intBits i : Int) * j ≤ 2 ^ 27
theorem op_powW : OpR X (binaryOp .Pow) (rI CPowW fun i j => .int (i ^ j.toNat)) := opI fun _ _ _ _ _ _ _ hc q => pow_int hc.1 hc.2 q
end
/-- an exception class as the top has left it -/
structure XC (K : PySem.W.Frag) (C : Addr) : Prop where
  ox : OexC K C
  ga : PySem.W.findIn K (.ref C) "__getattribute__" = some (some (.builtin "BaseException.__getattribute__"))
  gg : PySem.W.findIn K (.ref C) "__getattr__" = some none
  cc : PySem.W.findIn K (.ref C) "__class__" = some (some (.builtin "object.__class__"))
  cn : PySem.W.specialIn K (.builtin "object.__class__") "__get__" = some (some (.builtin "getset_descriptor.__get__"))
  ct : PySem.W.takesIn K (.builtin "object.__class__") = some true
  cm : PySem.W.mroIn K C (.type "object") = some true
  hd : PySem.W.hasDictIn K C = true
  nv : PySem.W.findIn K (.ref C) "value" = some none
theorem XC.isC {K : PySem.W.Frag} {C : Addr} (T : XC K C) : (PySem.W.clsIn K C).isSome = true := by
  have h := T.hd
  unfold PySem.W.hasDictIn at h
  cases e : PySem.W.clsIn K C with
  | none => rw [e] at h; cases h
  | some _ => rfl
/-- an exception with its one field -/
def XAt (H : Hp) (a C : Addr) (v : V) : Prop := ∃ d, H a = some (exo a C (some d)) ∧ H d = some (exd d [(("value" : Str), v)])
/-- an exception, whatever it holds -/
def XAny (H : Hp) (a C : Addr) : Prop := ∃ od, H a = some (exo a C od) ∧ ∀ d, od = some d → ∃ fs, H d = some (exd d fs)
theorem XAt.any {H : Hp} {a C : Addr} {v : V} (h : XAt H a C v) : XAny H a C := by
  obtain ⟨d, h1, h2⟩ := h
  exact ⟨some d, h1, fun d' e => by cases e; exact ⟨_, h2⟩⟩
theorem XAny.inst {P : Program} {w : World} {H : Hp} {h : Heap} {a C : Addr} (hok : HOk P w H h) (x : XAny H a C) : ∃ ox od, PySem.W.InstAt h a ox C od := by
  obtain ⟨od, h1, h2⟩ := x
  obtain ⟨t1, e1⟩ := exo_at hok h1
  cases od with
  | none => exact ⟨_, none, ⟨e1, rfl, rfl, trivial⟩⟩
  | some d =>
    obtain ⟨fs, h3⟩ := h2 d rfl
    obtain ⟨mA, ⟨o, es, ep, ho, _⟩, _⟩ := exd_at hok h3
    exact ⟨_, some o, ⟨e1, rfl, rfl, ho⟩⟩
/-- isinstance(e, c), e an exception -/
def rIsX (K : PySem.W.Frag) : List V → Hp → VK → Prop := fun xs H Q => ∃ (a C : Addr) (c : V) (u : Value) (b : Bool), xs = [.ref a, c] ∧ XAny H a C ∧ XC K C ∧ ClsV c u ∧ PySem.W.kitOne K (.ref C) u = some b ∧ Q (.bl b) H
section
variable {X : Cx}
theorem call_isX : CallR X (.builtin "isinstance") (rIsX X.K) := by
  intro pins s σ H xs us Q I r h
  obtain ⟨a, C, c, u, b, rfl, hx, T, k, e, q⟩ := h
  obtain ⟨u1, u2, rfl, r1, r2⟩ := vals2 r
  have e2 := k.eq r2
  subst e2
  cases (show u1 = Value.ref a from r1)
  obtain ⟨ox, od, J⟩ := hx.inst I.hok
  exact PySem.W.kia_one (PySem.W.kitx_exc T.isC T.ga T.gg T.ox.exC T.cc T.cn T.ct T.cm) I.kIn J e (fun z => nomatch z) fun tk => ⟨.bl b, H, I.tok tk, rfl, q⟩
/-- either: a value of a built-in kind, or an exception -/
def rIsA (K : PySem.W.Frag) : List V → Hp → VK → Prop := fun xs H Q => rIsX K xs H Q ∨ rIsi K xs H Q
theorem call_isA : CallR X (.builtin "isinstance") (rIsA X.K) := by
  intro pins s σ H xs us Q I r h
  rcases h with h | h
  · exact call_isX pins s σ H xs us Q I r h
  · exact call_isi pins s σ H xs us Q I r h
/-- e.value -/
def tXv (K : PySem.W.Frag) (ta : TE) : TE := fun σ H Q => ta σ H fun x H1 => ∃ a C v, x = .ref a ∧ XAt H1 a C v ∧ XC K C ∧ Q v H1
theorem pe_xv {e : Expr} {ta : TE} {pos : Pos} (he : PE X e ta) (hb : attributeBase e "value" X.env (eval e X.env) = eval e X.env := by rfl) : PE X (.Attribute e "value" pos) (tXv X.K ta) := by
  refine ⟨fun pins s σ H Q I h => ?_⟩
  refine attr_of hb (thn (he.run pins s σ H _ I h) fun u s1 ⟨x, H1, I1, rx, a, C, v, ex, ⟨d, h1, h2⟩, T, q⟩ => ?_)
  subst ex
  obtain rfl : u = Value.ref a := rx
  obtain ⟨t1, e1⟩ := exo_at I1.hok h1
  obtain ⟨mA, hns, hr⟩ := exd_at I1.hok h2
  obtain ⟨od, ho, hl⟩ := lookIn_ns hns
  have l : List.lookup ("value" : Str) [(("value" : Str), v)] = some v := by simp [List.lookup]
  obtain ⟨u, hu, ru⟩ := RelO.some_of (v := v) (o := mA "value") (by rw [← l]; exact hr "value")
  have J : PySem.W.InstAt s1.heap a _ C (some od) := ⟨e1, rfl, rfl, ho⟩
  exact HandSPX.exc_get I1.kIn J T.ga T.gg T.ox.exC (PySem.W.findObj_own T.hd T.nv rfl (by rw [hl, hu])) (handed_of ru) ⟨v, H1, I1.tok _, ru, q⟩
end
/-- C(..) as a value: a new exception, then its __init__ -/
def tMkX (C : Addr) (sp : Sp) (dvs : List V) (t : TA) : TE := fun σ H Q => t σ H fun vs H1 => vs.length ≤ 1000 ∧ ∀ a, H1 a = none → sp (.ref a :: (vs ++ dvs)) (upd H1 a (exo a C none)) (fun v H2 => v = .non ∧ Q (.ref a) H2) (fun _ _ _ => False)
def tMkXK (C : Addr) (sp : Sp) (gV : List V → List V → List V) (tk : TA) : TE := fun σ H Q => tk σ H fun zs H1 => zs.length = 1 ∧ ∀ a, H1 a = none → sp (gV [.ref a] zs) (upd H1 a (exo a C none)) (fun v H2 => v = .non ∧ Q (.ref a) H2) (fun _ _ _ => False)
section
variable {X : Cx} {CX : CXT} {k : Nat} {fI C : Addr} {fd : FuncData} {ps : List Str} {sp : Sp} {dvs : List V} {ds : List Value} {x : Str} {p pos : Pos} {e : Expr} {es : List Expr} {t : TA}
theorem run_mkx {pins : List (Addr × Obj)} {σ : L2.St} {H : Hp} {s : Shared} {Q : VK} {us : List Value} {vs : List V} (T : OexC X.K C) (iC : PySem.W.findIn X.K (.ref C) "__init__" = some (some (.ref fI))) (tI : PySem.W.typeIn X.K (.ref fI) = some (.type "function"))
    (F1 : FnOk X.prog X.w X.K X.mg X.base CX k fI fd ps sp) (hr : Room (k + 1) X.A) (hb : Binds X.K fd ps ds) (hd : Vals dvs ds) (hx : Passes CX X (fun _ _ _ => False)) (I : Inv X pins σ H s) (r : Vals vs us) (hz : vs.length ≤ 1000)
    (h : ∀ a, H a = none → sp (.ref a :: (vs ++ dvs)) (upd H a (exo a C none)) (fun v H2 => v = .non ∧ Q (.ref a) H2) (fun _ _ _ => False)) :
    wpAny (model X.prog X.w) X.A (call (.ref C) us) (EP X pins σ Q) X.xe s := by
  obtain ⟨nm, q, N, bs, bm, sn, sub, ab, col, dd, k0, k1, k2, k3, k5, hC, hbm⟩ := T.cls
  obtain ⟨hp, g, dr, tk, os⟩ := s
  have hsz : hp.objs.size ≤ hp.objs.size + 1 := Nat.le_succ _
  have hn : H (hp.objs.size + 1) = none := I.hok.fresh hsz
  have hq := h (hp.objs.size + 1) hn
  have kk : ∀ b o, hp.get? b = some o → ((hp.push (PySem.W.kdv_tup us)).push (PySem.HandSPX.excO C hp.objs.size)).get? b = some o := fun b o e => Heap.get?_push_of_some _ (Heap.get?_push_of_some _ e)
  have hget : ((hp.push (PySem.W.kdv_tup us)).push (PySem.HandSPX.excO C hp.objs.size)).get? (hp.objs.size + 1) = some (PySem.HandSPX.excO C hp.objs.size) := by heap_get
  have I2 : Inv X pins σ (upd H (hp.objs.size + 1) (exo (hp.objs.size + 1) C none)) ⟨(hp.push (PySem.W.kdv_tup us)).push (PySem.HandSPX.excO C hp.objs.size), g, dr, tk, os⟩ :=
    I.laid (t' := tk) (a := hp.objs.size + 1) (o := exo (hp.objs.size + 1) C none) (h' := (hp.push (PySem.W.kdv_tup us)).push (PySem.HandSPX.excO C hp.objs.size)) kk hsz (exo_ok hget)
  have r2 : Vals (V.ref (hp.objs.size + 1) :: (vs ++ dvs)) (Value.ref (hp.objs.size + 1) :: (us ++ ds)) := .cons rfl (r.append hd)
  have hl : (Value.ref (hp.objs.size + 1) :: us ++ ds).length = ps.length := by
    have e := r2.length
    rw [F1.len _ _ _ _ hq] at e
    exact e.symm
  have hus : us.length ≤ sizeLine := by
    rw [← Paired.length r, sizeLine_eq]
    omega
  refine wpAny_call (PySem.HandSPX.call_own F.excBase_ValueError (fun Y => PySem.HandSPX.refsVE_contains Y bm hbm) (I.kIn _ _ hC) (PySem.W.looks_findIn I.kIn iC) (fun self => PySem.W.bind_fn I.kIn self tI) hus
    (codeAny_mono (F1.run _ X.stack _ _ ⟨Value.ref (hp.objs.size + 1) :: us, []⟩ (Value.ref (hp.objs.size + 1) :: (us ++ ds)) _ _ (fun _ _ _ => False) (hr.make C us []) (I2.env0.make C us []) (hb _ (Value.ref (hp.objs.size + 1) :: us) I2.kIn hl) r2 hq) fun r s' hq' => ?_))
  cases r with
  | error er => exact hx pins σ _ _ er s' I2 hq'
  | ok fl =>
    cases fl with
    | ret u =>
      obtain ⟨v, H', I3, rv, ev, q3⟩ := I2.after hq'
      subst ev
      exact ⟨rv, ⟨V.ref (hp.objs.size + 1), H', I3, rfl, q3⟩⟩
    | next => exact False.elim hq'
    | brk => exact False.elim hq'
    | cont => exact False.elim hq'
theorem pe_mkx (T : OexC X.K C) (iC : PySem.W.findIn X.K (.ref C) "__init__" = some (some (.ref fI))) (tI : PySem.W.typeIn X.K (.ref fI) = some (.type "function"))
    (F1 : FnOk X.prog X.w X.K X.mg X.base CX k fI fd ps sp) (hr : Room (k + 1) X.A) (hb : Binds X.K fd ps ds) (hd : Vals dvs ds) (hx : Passes CX X (fun _ _ _ => False)) (hg : Gl X x) (hm : X.mg x = some (.ref C)) (ha : PA X (e :: es) t)
    (hdb : (x == ("__debug__" : Str)) = false := by decide) (he : starEach (e :: es) X.env = (false, eval e X.env) :: starEach es X.env := by rfl) (hpl : (backTo pos (starEach es X.env)).any (·.1) = false := by rfl) :
    PE X (.Call (.Name x p) (e :: es) [] pos) (tMkX C sp dvs t) := by
  refine ⟨fun pins s σ H Q I h => ?_⟩
  refine wpAny_Call_Name_kw (ld_glob I hg hm ?_ hdb)
  refine PySem.W.callWith_K (h₀ := X.base) I.ok.mod.kin T.kC (thn (ha.run pos pins s σ H _ I h) fun us s1 ⟨vs, H1, I1, r, hz, q⟩ => ⟨I1.kIn, ?_⟩) he hpl
  exact run_mkx T iC tI F1 hr hb hd hx I1 r hz q
theorem pe_mkx0 (T : OexC X.K C) (iC : PySem.W.findIn X.K (.ref C) "__init__" = some (some (.ref fI))) (tI : PySem.W.typeIn X.K (.ref fI) = some (.type "function"))
    (F1 : FnOk X.prog X.w X.K X.mg X.base CX k fI fd ps sp) (hr : Room (k + 1) X.A) (hb : Binds X.K fd ps ds) (hd : Vals dvs ds) (hx : Passes CX X (fun _ _ _ => False)) (hg : Gl X x) (hm : X.mg x = some (.ref C))
    (hdb : (x == ("__debug__" : Str)) = false := by decide) : PE X (.Call (.Name x p) [] [] pos) (tMkX C sp dvs tNil) := by
  refine ⟨fun pins s σ H Q I h => ?_⟩
  refine wpAny_Call_Name_kw (ld_glob I hg hm ?_ hdb)
  exact PySem.W.callWith_K0 I.kIn T.kC (run_mkx (us := []) T iC tI F1 hr hb hd hx I .nil (Nat.zero_le _) h.2)
end
section
variable {X : Cx} {CX : CXT} {k : Nat} {fI C : Addr} {fd : FuncData} {ps ks : List Str} {sp : Sp} {x : Str} {p pos : Pos} {kws : List Keyword} {tk : TA} {g : List Value → List Value → List Value} {gV : List V → List V → List V}
theorem run_mkxK {pins : List (Addr × Obj)} {σ : L2.St} {H2 : Hp} {s2 : Shared} {Q : VK} {ws : List Value} {zs : List V} (T : OexC X.K C) (iC : PySem.W.findIn X.K (.ref C) "__init__" = some (some (.ref fI))) (tI : PySem.W.typeIn X.K (.ref fI) = some (.type "function"))
    (F1 : FnOk X.prog X.w X.K X.mg X.base CX k fI fd ps sp) (hr : Room (k + 1) X.A) (hb : KBn X.K fd ps 1 ks g gV) (hx : Passes CX X (fun _ _ _ => False)) (I2' : Inv X pins σ H2 s2) (rz : Vals zs ws) (l2 : zs.length = 1) (hk1 : ks.length = 1)
    (q2 : ∀ a, H2 a = none → sp (gV [.ref a] zs) (upd H2 a (exo a C none)) (fun v H3 => v = .non ∧ Q (.ref a) H3) (fun _ _ _ => False)) :
    wpAny (model X.prog X.w) X.A (call (.ref C) [] (ks.zip ws)) (EP X pins σ Q) X.xe s2 := by
  obtain ⟨nm, q, N, bs, bm, sn, sub, ab, col, dd, k0, k1, k2, k3, k5, hC, hbm⟩ := T.cls
  obtain ⟨hp, g', dr, tk, os⟩ := s2
  have hsz : hp.objs.size ≤ hp.objs.size + 1 := Nat.le_succ _
  have hn : H2 (hp.objs.size + 1) = none := I2'.hok.fresh hsz
  have hq := q2 (hp.objs.size + 1) hn
  have kk : ∀ b o, hp.get? b = some o → ((hp.push (PySem.W.kdv_tup [])).push (PySem.HandSPX.excO C hp.objs.size)).get? b = some o := fun b o e => Heap.get?_push_of_some _ (Heap.get?_push_of_some _ e)
  have hget : ((hp.push (PySem.W.kdv_tup [])).push (PySem.HandSPX.excO C hp.objs.size)).get? (hp.objs.size + 1) = some (PySem.HandSPX.excO C hp.objs.size) := by heap_get
  have I2 : Inv X pins σ (upd H2 (hp.objs.size + 1) (exo (hp.objs.size + 1) C none)) ⟨(hp.push (PySem.W.kdv_tup [])).push (PySem.HandSPX.excO C hp.objs.size), g', dr, tk, os⟩ :=
    I2'.laid (t' := tk) (a := hp.objs.size + 1) (o := exo (hp.objs.size + 1) C none) (h' := (hp.push (PySem.W.kdv_tup [])).push (PySem.HandSPX.excO C hp.objs.size)) kk hsz (exo_ok hget)
  have r1 : Vals [V.ref (hp.objs.size + 1)] [Value.ref (hp.objs.size + 1)] := .cons rfl .nil
  have r2 := hb.rel r1 rz
  refine wpAny_call (callK F.excBase_ValueError (fun Y => PySem.HandSPX.refsVE_contains Y bm hbm) (I2'.kIn _ _ hC) (PySem.W.looks_findIn I2'.kIn iC) (fun self => PySem.W.bind_fn I2'.kIn self tI) (Nat.zero_le _)
    (codeAny_mono (F1.run _ X.stack _ _ ⟨[Value.ref (hp.objs.size + 1)], ks.zip ws⟩ (g [Value.ref (hp.objs.size + 1)] ws) _ _ (fun _ _ _ => False) (hr.make C [] (ks.zip ws)) (I2.env0.make C [] (ks.zip ws)) (hb.to _ [Value.ref (hp.objs.size + 1)] ws I2.kIn rfl (rz.length.symm.trans (l2.trans hk1.symm))) r2 hq) fun r s' hq' => ?_))
  cases r with
  | error er => exact hx pins σ _ _ er s' I2 hq'
  | ok fl =>
    cases fl with
    | ret u =>
      obtain ⟨v, H', I3, rv, ev, q3⟩ := I2.after hq'
      subst ev
      exact ⟨rv, ⟨V.ref (hp.objs.size + 1), H', I3, rfl, q3⟩⟩
    | next => exact False.elim hq'
    | brk => exact False.elim hq'
    | cont => exact False.elim hq'
theorem pe_mkxK (T : OexC X.K C) (iC : PySem.W.findIn X.K (.ref C) "__init__" = some (some (.ref fI))) (tI : PySem.W.typeIn X.K (.ref fI) = some (.type "function"))
    (F1 : FnOk X.prog X.w X.K X.mg X.base CX k fI fd ps sp) (hr : Room (k + 1) X.A) (hb : KBn X.K fd ps 1 ks g gV) (hx : Passes CX X (fun _ _ _ => False)) (hg : Gl X x) (hm : X.mg x = some (.ref C)) (hkw : PK X kws tk) (hk1 : ks.length = 1)
    (hall : (backToKw pos (keywordEach kws X.env)).all (·.1.isSome) = true := by rfl) (hks : (backToKw pos (keywordEach kws X.env)).filterMap (·.1) = ks := by rfl) (hdb : (x == ("__debug__" : Str)) = false := by decide)
    (hpl : ((backTo pos (starEach [] X.env)).any (·.1) || (backToKw pos (keywordEach kws X.env)).any (·.1.isNone)) = false := by rfl) :
    PE X (.Call (.Name x p) [] kws pos) (tMkXK C sp gV tk) := by
  refine ⟨fun pins s σ H Q I h => ?_⟩
  refine wpAny_Call_Name_kw (ld_glob I hg hm ?_ hdb)
  refine PySem.W.callWith_KW0 (h₀ := X.base) I.ok.mod.kin T.kC hall ?_ hpl
  refine thn (hkw.run pos pins s σ H _ I h) fun ws s2 ⟨zs, H2, I2', rz, l2, q2⟩ => ⟨I2'.kIn, ?_⟩
  rw [hks]
  exact run_mkxK T iC tI F1 hr hb hx I2' rz l2 hk1 q2
end
/-- C() of a class without an own __init__ -/
def tMkN (C : Addr) : TE := fun _ H Q => ∀ a, H a = none → Q (.ref a) (upd H a (exo a C none))
section
variable {X : Cx} {C : Addr} {x : Str} {p pos : Pos}
theorem pe_mkn (T : OexC X.K C) (iC : PySem.W.findIn X.K (.ref C) "__init__" = some (some (.builtin "ValueError.__init__"))) (hg : Gl X x) (hm : X.mg x = some (.ref C))
    (hdb : (x == ("__debug__" : Str)) = false := by decide) : PE X (.Call (.Name x p) [] [] pos) (tMkN C) := by
  refine ⟨fun pins s σ H Q I h => ?_⟩
  refine wpAny_Call_Name_kw (ld_glob I hg hm ?_ hdb)
  refine PySem.W.callWith_K0 I.kIn T.kC ?_
  obtain ⟨nm, q, N, bs, bm, sn, sub, ab, col, dd, k0, k1, k2, k3, k5, hC, hbm⟩ := T.cls
  obtain ⟨hp, g, dr, tk, os⟩ := s
  refine PySem.W.call_B F.excBase_ValueError (fun Y => PySem.HandSPX.refsVE_contains Y bm hbm) (I.kIn _ _ hC) (PySem.W.looks_findIn I.kIn iC) (Nat.zero_le _) fun h' k e1 e2 => ?_
  have hsz : hp.objs.size ≤ hp.objs.size + 1 := Nat.le_succ _
  have hn : H (hp.objs.size + 1) = none := I.hok.fresh hsz
  exact ⟨.ref (hp.objs.size + 1), _, I.laid (t' := tk) (a := hp.objs.size + 1) (o := exo (hp.objs.size + 1) C none) (h' := h') k hsz (exo_ok e1), rfl, h _ hn⟩
end
end G1

namespace G1
open PySem PySem.Spec PyProof.Rows L2
/-- a def under its name keeps a promise -/
def OkD (P : Program) (w : World) (K : PySem.W.Frag) (mg : Str → Option Value) (base : Heap) (k : Nat) (x : Str) (ps : List Str) (sp : Sp) : Prop :=
  ∃ f fd, FnOk P w K mg base CX0 k f fd ps sp ∧ mg x = some (.ref f) ∧ PySem.W.keepIn K (.ref f) = true ∧ L2.Binds K fd ps []
/-- a def as the top has left it -/
def Src (K : PySem.W.Frag) (mg : Str → Option Value) (x : Str) (st : Stmt) : Prop := ∃ f fd, Fun K x x st f fd ∧ mg x = some (.ref f)
theorem src_mk {K : PySem.W.Frag} {h : Heap} {mg : Str → Option Value} {x : Str} {st : Stmt} {f : Addr} {oc : Value} {od an : Option Addr} {osl : Array (Option Value)} {kV doc pm cdv ct : Value} (X : K.In h) (G : h.Ns mainGlobals mg)
    (a : PySem.W.nsIn K mainGlobals x = some (some (.ref f))) (l : K.lookup f = some ⟨oc, od, .func (PySem.W.fnOf x x (defArgs st) (defBody st) (defScope st) .none kV doc pm an cdv ct), osl⟩)
    (c : PySem.W.codeIn K cdv x = true) (k : PySem.W.keepIn K (.ref f) = true) : Src K mg x st := ⟨f, _, fun_mk l c k, PySem.W.mg_of X G a⟩
section
variable {P : Program} {w : World} {K : PySem.W.Frag} {mg : Str → Option Value} {base : Heap} {x : Str} {st : Stmt} {N ps : List Str} {k : Nat} {sp : Sp}
theorem okd (S : Src K mg x st) (F : ∀ f fd, Fun K x x st f fd → FnOk P w K mg base CX0 k f fd ps sp)
    (h : ∀ (kV doc pm : Value) (an : Option Addr) (cdv ct : Value) (us : List Value), us.length = ps.length → bindArgs (PySem.W.fnOf x x (defArgs st) (defBody st) (defScope st) .none kV doc pm an cdv ct) ⟨us, []⟩ = pure (ps.zip us)) : OkD P w K mg base k x ps sp := by
  obtain ⟨f, fd, F1, g⟩ := S
  exact ⟨f, fd, F f fd F1, g, F1.kp, F1.binds h⟩
end
section
variable {X : Cx} {k j : Nat} {x : Str} {ps : List Str} {sp : Sp} {p pos : Pos} {e : Expr} {es : List Expr} {t : TA}
/-- a call of such a def -/
def tCallO (sp : Sp) (t : TA) : TE := fun σ H Q => t σ H fun vs H1 => sp vs H1 Q (fun _ _ _ => False)
theorem pe_callO (C : OkD X.prog X.w X.K X.mg X.base k x ps sp) (hr : Room k X.A) (hg : Gl X x) (ha : PA X (e :: es) t)
    (hdb : (x == ("__debug__" : Str)) = false := by decide) (he : starEach (e :: es) X.env = (false, eval e X.env) :: starEach es X.env := by rfl) (hpl : (backTo pos (starEach es X.env)).any (·.1) = false := by rfl) :
    PE X (.Call (.Name x p) (e :: es) [] pos) (tCallO sp t) := by
  obtain ⟨f, fd, F, hm, hk, hb⟩ := C
  have z := pe_call (dvs := []) (E := fun _ _ _ => False) (p := p) F hr hg hm hk hb .nil pass0 ha hdb he hpl
  refine ⟨fun pins s σ H Q I h => z.run pins s σ H Q I ?_⟩
  have e : (fun (vs : List V) H1 => sp (vs ++ []) H1 Q (fun _ _ _ => False)) = fun vs H1 => sp vs H1 Q (fun _ _ _ => False) := by
    funext vs H1
    rw [List.append_nil]
  show t σ H (fun vs H1 => sp (vs ++ []) H1 Q (fun _ _ _ => False))
  rw [e]
  exact h
theorem pe_callO0 (C : OkD X.prog X.w X.K X.mg X.base k x ps sp) (hr : Room k X.A) (hg : Gl X x) (hdb : (x == ("__debug__" : Str)) = false := by decide) :
    PE X (.Call (.Name x p) [] [] pos) (tCallO sp tNil) := by
  obtain ⟨f, fd, F, hm, hk, hb⟩ := C
  exact pe_call0 (dvs := []) (E := fun _ _ _ => False) (p := p) F hr hg hm hk hb .nil pass0 hdb
end
/-- a class of exceptions with the one field, by its name -/
structure XOk (P : Program) (w : World) (K : PySem.W.Frag) (mg : Str → Option Value) (base : Heap) (x : Str) (C : Addr) : Prop where
  xc : XC K C
  g : mg x = some (.ref C)
  ini : ∃ fI fd, PySem.W.findIn K (.ref C) "__init__" = some (some (.ref fI)) ∧ PySem.W.typeIn K (.ref fI) = some (.type "function") ∧
    FnOk P w K mg base CX0 1 fI fd ["self", "value"] (fun vs H Q _ => ∃ (a : Addr) (v : V), vs = [.ref a, v] ∧ H a = some (exo a C none) ∧ ∀ dx, H dx = none → dx ≠ a → Q .non (upd (upd H dx (exd dx [(("value" : Str), v)])) a (exo a C (some dx)))) ∧
    L2.Binds K fd ["self", "value"] [] ∧ (∃ ds, Vals [V.non] ds ∧ L2.Binds K fd ["self", "value"] ds) ∧ KBn K fd ["self", "value"] 1 ["value"] (fun us ws => us ++ ws) (fun vs zs => vs ++ zs)
/-- a class of exceptions without an own __init__ -/
structure XNk (K : PySem.W.Frag) (mg : Str → Option Value) (x : Str) (C : Addr) : Prop where
  xc : XC K C
  g : mg x = some (.ref C)
  i : PySem.W.findIn K (.ref C) "__init__" = some (some (.builtin "ValueError.__init__"))
theorem ne_none {H : Hp} {a b : Addr} {o : HO} (h : H b = some o) (n : H a = none) : b ≠ a := fun e => by
  rw [e, n] at h
  cases h
theorem same_upd {H : Hp} {p : Addr} {o : HO} (h : H p = none) : Same H (upd H p o) := fun b x e => by
  rw [upd_ne (ne_none e h)]
  exact e
/-- what is told of a new exception -/
def tXmk (C : Addr) (v : V) (H : Hp) (Q : VK) : Prop := ∀ a H', Same H H' → H a = none → XAt H' a C v → Q (.ref a) H'
section
variable {X : Cx} {x : Str} {C : Addr} {p pos : Pos} {e : Expr} {te : TE}
theorem xmk_of {H : Hp} {Q : VK} {v : V} (h : tXmk C v H Q) {a dx : Addr} (na : H a = none) (nd : (upd H a (exo a C none)) dx = none) (ne : dx ≠ a) :
    Q (.ref a) (upd (upd (upd H a (exo a C none)) dx (exd dx [(("value" : Str), v)])) a (exo a C (some dx))) := by
  have nd' : H dx = none := by rw [upd_ne ne] at nd; exact nd
  refine h a _ (fun b o q => ?_) na ⟨dx, upd_same, ?_⟩
  · rw [upd_ne (ne_none q na), upd_ne (ne_none q nd'), upd_ne (ne_none q na)]
    exact q
  · rw [upd_ne ne, upd_same]
/-- C(e), C(), C(value=e) -/
def tXm (C : Addr) (ta : TA) : TE := fun σ H Q => ta σ H fun vs H1 => ∃ v, vs = [v] ∧ tXmk C v H1 Q
theorem pe_xmk (T : XOk X.prog X.w X.K X.mg X.base x C) (hr : Room 2 X.A) (hg : Gl X x) {ta : TA} (ha : PA X [e] ta) (hdb : (x == ("__debug__" : Str)) = false := by decide)
    (hs : starEach (e :: []) X.env = (false, eval e X.env) :: starEach [] X.env := by rfl) (hpl : (backTo pos (starEach [] X.env)).any (·.1) = false := by rfl) :
    PE X (.Call (.Name x p) [e] [] pos) (tXm C ta) := by
  obtain ⟨fI, fd, iC, tI, F, b0, _, _⟩ := T.ini
  refine ⟨fun pins s σ H Q I h => ?_⟩
  refine wpAny_Call_Name_kw (ld_glob I hg T.g ?_ hdb)
  refine PySem.W.callWith_K (h₀ := X.base) I.ok.mod.kin T.xc.ox.kC (thn (ha.run pos pins s σ H _ I h) fun us s1 ⟨vs, H1, I1, r, v, ev, q⟩ => ⟨I1.kIn, ?_⟩) hs hpl
  subst ev
  refine run_mkx (dvs := []) T.xc.ox iC tI F hr b0 .nil pass0 I1 r (by show 1 ≤ 1000; decide) fun a na => ?_
  exact ⟨a, v, rfl, upd_same, fun dx nd ne => ⟨rfl, xmk_of q na nd ne⟩⟩
theorem pe_xmk0 (T : XOk X.prog X.w X.K X.mg X.base x C) (hr : Room 2 X.A) (hg : Gl X x) (hdb : (x == ("__debug__" : Str)) = false := by decide) :
    PE X (.Call (.Name x p) [] [] pos) (fun σ H Q => tXmk C .non H Q) := by
  obtain ⟨fI, fd, iC, tI, F, _, ⟨ds, rd, b1⟩, _⟩ := T.ini
  refine ⟨fun pins s σ H Q I h => ?_⟩
  refine wpAny_Call_Name_kw (ld_glob I hg T.g ?_ hdb)
  refine PySem.W.callWith_K0 I.kIn T.xc.ox.kC (run_mkx (us := []) (vs := []) T.xc.ox iC tI F hr b1 rd pass0 I .nil (Nat.zero_le _) fun a na => ?_)
  exact ⟨a, .non, rfl, upd_same, fun dx nd ne => ⟨rfl, xmk_of h na nd ne⟩⟩
theorem pe_xmkK (T : XOk X.prog X.w X.K X.mg X.base x C) (hr : Room 2 X.A) (hg : Gl X x) {kws : List Keyword} {tk : TA} (hkw : PK X kws tk)
    (hall : (backToKw pos (keywordEach kws X.env)).all (·.1.isSome) = true := by rfl) (hks : (backToKw pos (keywordEach kws X.env)).filterMap (·.1) = (["value"] : List Str) := by rfl) (hdb : (x == ("__debug__" : Str)) = false := by decide)
    (hpl : ((backTo pos (starEach [] X.env)).any (·.1) || (backToKw pos (keywordEach kws X.env)).any (·.1.isNone)) = false := by rfl) :
    PE X (.Call (.Name x p) [] kws pos) (tXm C tk) := by
  obtain ⟨fI, fd, iC, tI, F, _, _, b2⟩ := T.ini
  have z := pe_mkxK (p := p) T.xc.ox iC tI F hr b2 pass0 hg T.g hkw rfl hall hks hdb hpl
  refine ⟨fun pins s σ H Q I h => ?_⟩
  refine wpAny_Call_Name_kw (ld_glob I hg T.g ?_ hdb)
  refine PySem.W.callWith_KW0 (h₀ := X.base) I.ok.mod.kin T.xc.ox.kC hall ?_ hpl
  refine thn (hkw.run pos pins s σ H _ I h) fun ws s2 ⟨zs, H2, I2, rz, v, ev, q2⟩ => ⟨I2.kIn, ?_⟩
  subst ev
  rw [hks]
  exact run_mkxK T.xc.ox iC tI F hr b2 pass0 I2 rz rfl rfl fun a na => ⟨a, v, rfl, upd_same, fun dx nd ne => ⟨rfl, xmk_of q2 na nd ne⟩⟩
/-- C() without an own __init__ -/
def tXn (C : Addr) : TE := fun _ H Q => ∀ a H', Same H H' → H a = none → XAny H' a C → Q (.ref a) H'
theorem pe_xmn (T : XNk X.K X.mg x C) (hg : Gl X x) (hdb : (x == ("__debug__" : Str)) = false := by decide) : PE X (.Call (.Name x p) [] [] pos) (tXn C) := by
  have z := pe_mkn (X := X) (p := p) (pos := pos) T.xc.ox T.i hg T.g hdb
  refine ⟨fun pins s σ H Q I h => z.run pins s σ H Q I fun a na => ?_⟩
  exact h a _ (same_upd na) na ⟨none, upd_same, fun d e => nomatch e⟩
end
end G1

namespace G1
open PySem PySem.Spec PyProof.Rows L2
/-! loops by names, so that a reading can be unfolded down to them -/
def LoopW (J : It) (g : TG) (tb : TS) (D : Ends) (σ : L2.St) (H1 : Hp) : Prop := ∃ W : Nat → Nat → L2.St → Hp → Prop, (∃ m, W 0 m σ H1) ∧ ∀ i m σ H, W i m σ H →
  (J.stop i H ∧ D.nx σ H) ∨ (J.go i H ∧ ∃ N : L2.St → Hp → Prop, (∀ σ' H', N σ' H' → ∃ m', m' < m ∧ W (i + 1) m' σ' H') ∧ ∀ x H', J.yld i H x H' → g x σ H' fun σ2 H2 => tb { D with nx := N, ct := N, bk := D.nx } σ2 H2)
theorem tFor_eq (wi : TI) (g : TG) (tb : TS) (D : Ends) (σ : L2.St) (H : Hp) : tFor wi g tb D σ H = wi σ H fun J H1 => LoopW J g tb D σ H1 := rfl
def CompW (J : It) (g : TG) (tt : TT) (te : TE) (vs : List Nat) (σ : L2.St) (H1 : Hp) (Q : VK) : Prop := ∀ D, H1 D = none → ∃ W : Nat → Nat → Hp → Prop, (∃ m, W 0 m (upd H1 D (.lst []))) ∧ ∀ i m H, W i m H →
  (J.stop i H ∧ Q (.ref D) H) ∨ (J.go i H ∧ ∃ Nx : Hp → Prop, (∀ H', Nx H' → ∃ m', m' < m ∧ W (i + 1) m' H') ∧ ∀ x H', J.yld i H x H' → g x (wipe σ vs) H' fun σ2 H2 => wipe σ2 vs = wipe σ vs ∧ tt σ2 H2 fun b H3 =>
    if b = true then te σ2 H3 fun y H4 => ∃ acc, H4 D = some (.lst acc) ∧ acc.length < sizeLine ∧ Nx (upd H4 D (.lst (acc ++ [y]))) else Nx H3)
theorem tLc_eq (wi : TI) (g : TG) (tt : TT) (te : TE) (vs : List Nat) (σ : L2.St) (H : Hp) (Q : VK) : tLc wi g tt te vs σ H Q = wi σ H fun J H1 => CompW J g tt te vs σ H1 Q := rfl
theorem loop_range {lo : Int} {n : Nat} {g : TG} {tb : TS} {D : Ends} {σ : L2.St} {H : Hp} (Pv : Nat → L2.St → Hp → Prop) (h0 : Pv 0 σ H)
    (hs : ∀ i σ H, i < n → Pv i σ H → g (.int (lo + i)) σ H fun σ2 H2 => tb { D with nx := Pv (i + 1), ct := Pv (i + 1), bk := D.nx } σ2 H2) (hd : ∀ σ H, Pv n σ H → D.nx σ H) : LoopW (Itr lo n) g tb D σ H := for_range Pv h0 hs hd
theorem loop_list {K : PySem.W.Frag} {a : Addr} {xs : List V} {g : TG} {tb : TS} {D : Ends} {σ : L2.St} {H : Hp} (Pv : Nat → L2.St → Hp → Prop) (h0 : Pv 0 σ H) (hl : ∀ i σ H, i ≤ xs.length → Pv i σ H → SqL K H a xs)
    (hs : ∀ i x σ H, xs[i]? = some x → Pv i σ H → g x σ H fun σ2 H2 => tb { D with nx := Pv (i + 1), ct := Pv (i + 1), bk := D.nx } σ2 H2) (hd : ∀ σ H, Pv xs.length σ H → D.nx σ H) : LoopW (Itl K a) g tb D σ H := for_list Pv h0 hl hs hd
theorem comp_range {lo : Int} {n : Nat} {g : TG} {tt : TT} {te : TE} {vs : List Nat} {σ : L2.St} {H1 : Hp} {Q : VK} (Pv : Addr → Nat → Hp → Prop) (h0 : ∀ D, H1 D = none → Pv D 0 (upd H1 D (.lst [])))
    (hs : ∀ D i H, H1 D = none → i < n → Pv D i H → g (.int (lo + i)) (wipe σ vs) H fun σ2 H2 => wipe σ2 vs = wipe σ vs ∧ tt σ2 H2 fun b H3 =>
      if b = true then te σ2 H3 fun y H4 => ∃ acc, H4 D = some (.lst acc) ∧ acc.length < sizeLine ∧ Pv D (i + 1) (upd H4 D (.lst (acc ++ [y]))) else Pv D (i + 1) H3) (hd : ∀ D H, H1 D = none → Pv D n H → Q (.ref D) H) : CompW (Itr lo n) g tt te vs σ H1 Q :=
  fun D hD => lc_range (Pv D) (h0 D hD) (fun i H => hs D i H hD) fun H => hd D H hD
theorem comp_list {K : PySem.W.Frag} {a : Addr} {xs : List V} {g : TG} {tt : TT} {te : TE} {vs : List Nat} {σ : L2.St} {H1 : Hp} {Q : VK} (Pv : Addr → Nat → Hp → Prop) (h0 : ∀ D, H1 D = none → Pv D 0 (upd H1 D (.lst []))) (hl : ∀ D i H, H1 D = none → i ≤ xs.length → Pv D i H → SqL K H a xs)
    (hs : ∀ D i x H, H1 D = none → xs[i]? = some x → Pv D i H → g x (wipe σ vs) H fun σ2 H2 => wipe σ2 vs = wipe σ vs ∧ tt σ2 H2 fun b H3 =>
      if b = true then te σ2 H3 fun y H4 => ∃ acc, H4 D = some (.lst acc) ∧ acc.length < sizeLine ∧ Pv D (i + 1) (upd H4 D (.lst (acc ++ [y]))) else Pv D (i + 1) H3) (hd : ∀ D H, H1 D = none → Pv D xs.length H → Q (.ref D) H) : CompW (Itl K a) g tt te vs σ H1 Q :=
  fun D hD => lc_list (Pv D) (h0 D hD) (fun i H => hl D i H hD) (fun i x H => hs D i x H hD) fun H => hd D H hD
/-! the same readings over what is tracked alone: the heap tells the list -/
def rIxM : R2 := fun x y H Q => ∃ p xs i v, x = .ref p ∧ y = .int i ∧ H p = some (.lst xs) ∧ atI xs i = some v ∧ Q v H
def rLenM : List V → Hp → VK → Prop := fun vs H Q => ∃ p xs, vs = [.ref p] ∧ H p = some (.lst xs) ∧ Q (.int (xs.length : Nat)) H
def rSlM : V → Option Int → Option Int → Hp → VK → Prop := fun x lo hi H Q => ∃ a xs, x = .ref a ∧ H a = some (.lst xs) ∧ ∀ p, H p = none → Q (.ref p) (upd H p (.lst (cutV xs lo hi)))
section
variable {X : Cx}
theorem ix_lM : IxR X rIxM := fun a b pins s σ H x y v u Q I rx ry q hs => ix_list a b pins s σ H x y v u Q I rx ry (by
  obtain ⟨p, xs, i, w, e1, e2, h, e3, q⟩ := q
  exact ⟨p, xs, i, w, e1, e2, .inl (.inl h), e3, q⟩) hs
theorem call_lenM : CallR X (.builtin "len") rLenM := fun pins s σ H xs us Q I r h => call_len_seq pins s σ H xs us Q I r (by
  obtain ⟨p, xs, e, h, q⟩ := h
  exact ⟨p, xs, e, .inl (.inl (.inl h)), q⟩)
theorem atI_0 {α : Type} {a : α} {l : List α} : atI (a :: l) 0 = some a := atI_nat (j := 0) rfl
theorem atI_1 {α : Type} {a b : α} {l : List α} : atI (a :: b :: l) 1 = some b := atI_nat (j := 1) rfl
theorem atI_2 {α : Type} {a b c : α} {l : List α} : atI (a :: b :: c :: l) 2 = some c := atI_nat (j := 2) rfl
theorem ixN_0 : ixN 3 0 = some 0 := by decide
theorem ixN_2 : ixN 3 2 = some 2 := by decide
end
theorem upd_id {H : Hp} {a : Addr} {o : HO} (h : H a = some o) : upd H a o = H := by
  funext b
  by_cases e : b = a
  · rw [e, upd_same, h]
  · rw [upd_ne e]
end G1
namespace G1
open PySem PySem.Spec PyProof.Rows L2
section
variable {X : Cx}
theorem pe_gref {x : Str} {a : Addr} {pos : Pos} (hg : Gl X x) (hm : X.mg x = some (.ref a)) (hd : (x == ("__debug__" : Str)) = false := by decide) : PE X (.Name x pos) (tC (.ref a)) := pe_glob hg hm rfl hd
theorem pe_gty {x : Str} {n : String} {pos : Pos} (hg : Gl X x) (hm : X.mg x = none) (hv : bootBuiltins x = some (.type n)) (hn : x ≠ "__name__" := by decide) (hd : (x == ("__debug__" : Str)) = false := by decide) : PE X (.Name x pos) (tC (.ty n)) := pe_bltn hg hm hv rfl hn hd
end
theorem XAt.same {H H' : Hp} {a C : Addr} {v : V} (h : XAt H a C v) (s : Same H H') : XAt H' a C v := by
  obtain ⟨d, h1, h2⟩ := h
  exact ⟨d, s _ _ h1, s _ _ h2⟩
theorem XAny.same {H H' : Hp} {a C : Addr} (h : XAny H a C) (s : Same H H') : XAny H' a C := by
  obtain ⟨od, h1, h2⟩ := h
  exact ⟨od, s _ _ h1, fun d e => by obtain ⟨fs, h3⟩ := h2 d e; exact ⟨fs, s _ _ h3⟩⟩
theorem same_over {H H1 : Hp} {D : Addr} {o : HO} (s : Same H H1) (n : H D = none) : Same H (upd H1 D o) := fun b x e => by
  rw [upd_ne (ne_none e n)]
  exact s b x e
/-- a comprehension over a tracked list that stands: the kept items by a test and a map of values -/
theorem take_step {α : Type} {xs : List α} {i : Nat} {x : α} (h : xs[i]? = some x) : xs.take (i + 1) = xs.take i ++ [x] := by
  rw [List.take_add_one, h]
  rfl
end G1
namespace G1
open PySem PySem.Spec PyProof.Rows L2
def rRepS : R2 := fun x y H Q => ∃ z n, x = .str z ∧ y = .int n ∧ MulOk z n ∧ Q (.str (Txt.mul z n)) H
section
variable {X : Cx}
theorem op_repS : OpR X (binaryOp .Mult) rRepS := by
  intro pins s σ H x y v u Q I rx ry h
  obtain ⟨z, n, rfl, rfl, hz, q⟩ := h
  obtain ⟨t, rfl⟩ := rx
  obtain ⟨t', rfl⟩ := ry
  exact SB.mul hz fun t' k => ⟨.str _, H, I.tok _, ⟨_, rfl⟩, q⟩
end
end G1
namespace G1
open PySem PySem.Spec PyProof.Rows L2
section
variable {X : Cx}
theorem op_eqDK (K : PySem.W.Frag) (hK : X.K = K) (hu : X.A.units + 64 < cLine) : OpR X (compareOp .Eq) (rEqD K) := hK ▸ op_eqD hu
theorem op_neDK (K : PySem.W.Frag) (hK : X.K = K) (hu : X.A.units + 64 < cLine) : OpR X (compareOp .NotEq) (rNeD K) := hK ▸ op_neD hu
theorem call_isAK (K : PySem.W.Frag) (hK : X.K = K) : CallR X (.builtin "isinstance") (rIsA K) := hK ▸ call_isA
theorem pe_xvK (K : PySem.W.Frag) {e : Expr} {ta : TE} {pos : Pos} (hK : X.K = K) (he : PE X e ta) (hb : attributeBase e "value" X.env (eval e X.env) = eval e X.env) : PE X (.Attribute e "value" pos) (tXv K ta) := hK ▸ pe_xv he hb
end
end G1
namespace G1
open PySem PySem.Spec PyProof.Rows L2
theorem XAt.upd {H : Hp} {a C l : Addr} {v : V} {xs : List V} {o : HO} (h : XAt H a C v) (hl : H l = some (.lst xs)) : XAt (upd H l o) a C v := by
  obtain ⟨d, h1, h2⟩ := h
  have n1 : a ≠ l := fun e => by
    rw [e, hl] at h1
    have z := Option.some.inj h1
    have z' : HO.lst xs = HO.ext _ := z
    cases z'
  have n2 : d ≠ l := fun e => by
    rw [e, hl] at h2
    have z := Option.some.inj h2
    have z' : HO.lst xs = HO.ext _ := z
    cases z'
  exact ⟨d, by rw [upd_ne n1]; exact h1, by rw [upd_ne n2]; exact h2⟩
theorem range_step {α : Type} (f : Nat → α) (j : Nat) : (List.range (j + 1)).map f = (List.range j).map f ++ [f j] := by
  rw [List.range_succ, List.map_append]
  rfl
end G1

namespace G1
open PySem PySem.Spec PyProof.Rows L2
def xA (p1 p2 p3 : Pos) : Arguments := { posonlyargs := [], args := [{ arg := "self", annotation := none, pos := p1 }, { arg := "value", annotation := none, pos := p2 }], vararg := none, kwonlyargs := [], kw_defaults := [], kwarg := none, defaults := [.Constant .none 0 p3] }
def xB (q1 q2 q3 q4 : Pos) : List Stmt := [.Assign [.Attribute (.Name "self" q1) "value" q2] (.Name "value" q3) q4]
def xS : Scope := { kind := .function, names := [(PySem.Str.ofString "self", .local), (PySem.Str.ofString "value", .local)], isGenerator := false, isCoroutine := false, more := [] }
theorem x_scope : FnScope ["self", "value"] ["self", "value"] xS := ⟨rfl, rfl, rfl, by decide +kernel, rfl, by decide +kernel, by decide +kernel⟩
theorem x_ok {P : Program} {w : World} {K : PySem.W.Frag} {mg : Str → Option Value} {base : Heap} {x qual : Str} {C fI : Addr} {fd : FuncData} {p1 p2 p3 q1 q2 q3 q4 : Pos} (T : XC K C) (g : mg x = some (.ref C))
    (iC : PySem.W.findIn K (.ref C) "__init__" = some (some (.ref fI))) (tI : PySem.W.typeIn K (.ref fI) = some (.type "function"))
    (D : FunD K "__init__" qual (xA p1 p2 p3) (xB q1 q2 q3 q4) xS [.non] [] fI fd) : XOk P w K mg base x C := by
  refine ⟨T, g, fI, fd, iC, tI, ?_, ?_, ?_, ?_⟩
  · refine D.ok (CX := CX0) x_scope (fun vs H Q E h => ?_) (fun cdv A outer s H vs Q E hr h => ?_)
    · obtain ⟨_, _, rfl, _⟩ := h
      rfl
    · obtain ⟨a, v, rfl, ha, q⟩ := h
      refine ⟨_, pss_one (ps_ost (pv 0) (pv 1)), ?_⟩
      exact ⟨_, rfl, _, rfl, a, C, rfl, T.ox, T.nv, .inl ⟨ha, fun dx n1 n2 => q dx n1 n2⟩⟩
  · obtain ⟨ds, r, b⟩ := D.binds1 (ps := ["self", "value"]) 2 1 (by simp) rfl (fun T kV doc pm an cdv ct us its h1 h2 => match us, its, h1, h2 with | [_, _], [_], _, _ => ⟨_, rfl, rfl⟩)
    cases r
    exact b
  · exact D.binds1 (ps := ["self", "value"]) 1 0 (by simp) rfl (fun T kV doc pm an cdv ct us its h1 h2 => match us, its, h1, h2 with | [_], [_], _, _ => ⟨_, rfl, rfl⟩)
  · obtain ⟨its, b⟩ := D.kbindsD (ps := ["self", "value"]) 1 ["value"] (fun us _ ws => us ++ ws) (by simp) (fun r1 _ r3 => r1.append r3) (fun T kV doc pm an cdv ct us its ws h1 h2 h3 => match us, its, ws, h1, h2, h3 with | [_], [_], [_], _, _, _ => ⟨_, rfl, rfl⟩)
    exact b
end G1

namespace G1
open PySem PySem.Spec PyProof.Rows L2
/-! a caught exception kept as a value -/
/-- at a: an exception of the class at C whose own dict stands at d -/
def exq (a C d : Addr) : HO := .ext fun h => ∃ oe vs, h.get? a = some oe ∧ oe.cls = Value.ref C ∧ oe.dict = some d ∧ oe.data = Data.fields vs
theorem exq_ok {P : Program} {w : World} {H : Hp} {h : Heap} {a C d : Addr} {oe : Obj} {vs : Array Value} (e : h.get? a = some oe) (c : oe.cls = .ref C) (k : oe.dict = some d) (f : oe.data = .fields vs) : ObjOk P w H h a (exq a C d) :=
  ⟨⟨oe, vs, e, c, k, f⟩, ⟨oe, e⟩, fun _ _ ⟨o1, v1, e1, r⟩ k1 => ⟨o1, v1, k1 _ e1, r⟩⟩
theorem exq_at {P : Program} {w : World} {H : Hp} {h : Heap} {a C d : Addr} (hok : HOk P w H h) (e : H a = some (exq a C d)) : ∃ oe vs, h.get? a = some oe ∧ oe.cls = .ref C ∧ oe.dict = some d ∧ oe.data = .fields vs := by
  have x : ObjOk P w H h a (.ext fun h => ∃ oe vs, h.get? a = some oe ∧ oe.cls = Value.ref C ∧ oe.dict = some d ∧ oe.data = Data.fields vs) := hok a _ e
  exact x.1
section
variable {X : Cx} {pins : List (Addr × Obj)} {σ : L2.St} {H : Hp} {s : Shared}
/-- an object of ours that nothing tells of is told of -/
theorem track {a : Addr} {o : HO} (I : Inv X pins σ H s) (n0 : X.s_0.heap.get? a = none) (na : H a = none) (nL : a ≠ X.env.locals) (nC : ∀ x c, X.env.cells.lookup x = some c → c ≠ a) (np : ∀ p ∈ X.pn ++ pins, p.1 ≠ a)
    (ob : ObjOk X.prog X.w (upd H a o) s.heap a o) : Inv X pins σ (upd H a o) s where
  ok := I.ok
  os := I.os
  bare := I.bare
  base := {
    keep := I.base.keep
    slot := I.base.slot
    free := fun b u e n x => by
      have q : b ≠ a := fun z => by rw [z, n0] at e; cases e
      rw [upd_ne q]; exact I.base.free b u e n x
    there := I.base.there
    tups := fun b xs e => by rw [upd_ne (ne_none (I.base.tups b xs e) na)]; exact I.base.tups b xs e
    frzs := fun b u v e => by rw [upd_ne (ne_none (I.base.frzs b u v e) na)]; exact I.base.frzs b u v e
    tbls := fun b ps e => by
      obtain ⟨m, q⟩ := I.base.tbls b ps e
      exact ⟨m, by rw [upd_ne (ne_none q na)]; exact q⟩ }
  loc := I.loc
  cell := I.cell
  free := by rw [upd_ne (Ne.symm nL)]; exact I.free
  freeC := fun x c e => by rw [upd_ne (nC x c e)]; exact I.freeC x c e
  pin := fun p hp => by
    obtain ⟨h1, h2, h3⟩ := I.pin p hp
    exact ⟨h1, by rw [upd_ne (np p hp)]; exact h2, h3⟩
  hok := fun b u e => by
    by_cases q : b = a
    · subst q; rw [upd_same] at e; cases e; exact ob
    · rw [upd_ne q] at e
      exact (I.hok b u e).stay (fun _ _ _ z => z) (fun c z => by rw [upd_ne (ne_none z na)]; exact z) (fun c xs z => by rw [upd_ne (ne_none z na)]; exact z)
  len := I.len
end
/-- the wish of «except x as n: y = n»: the exception is kept -/
def wKeep (K : PySem.W.Frag) (c : Value) (i j : Nat) (D : Ends) : WX := fun cls d σ H =>
  PySem.W.exmOne K cls c = some true ∧ ∃ C dd, cls = .ref C ∧ d = some dd ∧ ∀ a, H a = none → D.nx ((((σ.set i (some (.ref a))).set j (some (.ref a)))).set i none) (upd H a (exq a C dd))
section
variable {X : Cx} {x n y : Str} {c : Value} {i j : Nat} {body : List Stmt} {np pos pos' ep yp ap : Pos} {tb : WX → TS}
theorem ps_try_keep (hs : X.stack = X.env :: X.outer) (hf : X.env.frame = some X.env.locals) (hex : X.ex = []) (hN : X.N.Nodup) (hi : X.N[i]? = some n) (hln : X.env.kindOf n = some .local) (hj : X.N[j]? = some y) (hly : Loc X.env.scope y) (hc : Names X x c)
    (hb : ∀ (W : WX) (pn : List (Addr × Obj)) (xe : Value → Shared → Prop), Takes (X.tr pn xe) W → PassesOwn (model X.prog X.w) X.A X.env xe → PSs (X.tr pn xe) body (tb W))
    (hsu : ∀ (a : Addr) (oe : Obj) (cls : Value) (d : Option Addr) (pn : List (Addr × Obj)), Zc cls d oe → (∃ vs, oe.data = .fields vs) → PSs (X.suite a ((a, oe) :: pn)) [.Assign [.Name y yp] (.Name n ep) ap] (tAsg (tVar i) (gName j))) :
    PS X (.Try body [.ExceptHandler (some (.Name x np)) (some n) [.Assign [.Name y yp] (.Name n ep) ap] pos'] [] [] pos) (fun D σ H => tb (wKeep X.K c i j D) D σ H) := by
  constructor
  intro pins s σ H D I h
  have ok := I.ok
  have hfr : X.A.frames = some (X.env :: X.outer) := ok.frames.trans (congrArg some hs)
  apply wpAny_Try_except
  apply wpAny_mono ((hb (wKeep X.K c i j D) (X.pn ++ pins) (fun e s₁ => wpAny (model X.prog X.w) X.A (noteFrame e X.env) (fun _ s₂ => wpAny (model X.prog X.w) X.A (setFlight e none) (fun _ s₃ =>
    wpAny (model X.prog X.w) X.A (handleBy e X.env [.ExceptHandler (some (.Name x np)) (some n) [.Assign [.Name y yp] (.Name n ep) ap] pos']) (SP X pins D) X.xe s₃) X.xe s₂) X.xe s₁) ?_ PassesOwn.looking).run [] s σ H D (I.toTry _) h) ?_ (fun _ _ z => z)
  · rintro u s' ⟨a, B, sI, pins', σ', H', cls, d, rfl, J', nb, up, sky, na, os, ag, hb1, C, dd, rfl, rfl, hyes⟩
    have J : Inv X pins σ' H' sI := J'.ofTry ok
    have sky' : Sky B (X.env :: X.outer) a (Zc (.ref C) (some dd)) X.env.locals s'.heap := hs ▸ sky
    apply Sky.land Zc.steady hfr hf sky'
    intro h3 fl3 up3
    have J3 : Inv X pins σ' H' { s' with heap := h3 } := J.landed nb fl3.1 (up.trans up3) os ag
    obtain ⟨oe3, vs3, he3, hz3, hd3⟩ := fl3.there
    have nfr : a ∉ frs (X.env :: X.outer) := fun hm => by
      obtain ⟨_, o', e', hnf⟩ := fl3.2.2.1.mem hm
      rw [he3] at e'; cases e'; exact hnf _ hd3
    have nL : a ≠ X.env.locals := fun z => nfr (List.mem_filterMap.mpr ⟨X.env, List.mem_cons_self, hf.trans (congrArg some z.symm)⟩)
    have nF : a ∉ X.fs := fun hm => by
      obtain ⟨e, he, q⟩ := List.mem_filterMap.mp hm
      exact nfr (List.mem_filterMap.mpr ⟨e, List.mem_cons_of_mem _ he, q⟩)
    have naI : sI.heap.get? a = none := by
      cases q : sI.heap.get? a with
      | none => rfl
      | some o => exact absurd (fl3.2.1 ▸ nb a o q (hs ▸ nfr)) (by intro z; cases z)
    have n0 : X.s_0.heap.get? a = none := by
      cases q : X.s_0.heap.get? a with
      | none => rfl
      | some o =>
        obtain ⟨o', q'⟩ := J.base.there a o q (by rw [hex]; exact fun z => nomatch z)
        rw [naI] at q'; cases q'
    have nC : ∀ x c, X.env.cells.lookup x = some c → c ≠ a := fun x c e z => by
      obtain ⟨v, o, ho, _⟩ := J.cell x c e
      rw [z, naI] at ho; cases ho
    have np' : ∀ p ∈ X.pn ++ pins, p.1 ≠ a := fun p hp z => by
      have q := (J.pin p hp).1
      rw [z, naI] at q; cases q
    have S3 := J3.suite he3 hd3 na nL nF
    apply wpAny_handleBy_cons (codeAny_handlers_test ?_) (by intro q; cases q)
    have LT : PySem.W.Looks (model X.prog X.w) h3 (typeOf (.ref a)) (.ref C) := fun A Q E s k q => wpAny_typeOf_ref (k _ _ he3) (by rw [hz3.1]; exact q)
    have LM := PySem.W.exm_one (M := model X.prog X.w) (J3.kIn) LT hb1
    have test : ∀ {Q : Value → Shared → Prop} {E : Value → Shared → Prop}, Q c { s' with heap := h3 } → wpAny (model X.prog X.w) (X.A.mark (some (.ref a))) (eval (.Name x np) X.env) Q E { s' with heap := h3 } := fun {Q E} q => by
      rcases hc with ⟨hg, hdbg, hm | ⟨hm, hv, hnn⟩⟩
      · exact ld_glob (X := X.suite a ((a, oe3) :: (X.pn ++ pins))) S3 hg hm q hdbg
      · exact ld_blt (X := X.suite a ((a, oe3) :: (X.pn ++ pins))) S3 hg hm hv q hnn hdbg
    apply test
    apply LM.here
    apply codeAny_handlers_suite_as
    apply HandSPX.lands_againZ fl3
    intro h4 fl4 up4
    have J4 : Inv X pins σ' H' { s' with heap := h4 } := J.landed nb fl4.1 ((up.trans up3).trans up4) os ag
    obtain ⟨oe4, vs4, he4, hz4, hd4⟩ := fl4.there
    have S4 := J4.suite he4 hd4 na nL nF
    apply store_ok (X := X.suite a ((a, oe4) :: (X.pn ++ pins))) (v := .ref a) S4 hN hi (.inl hln) rfl ?_ (.inr hln)
    intro s5 S5
    have hσ : i < σ'.length := by rw [S4.len]; exact (List.getElem?_eq_some_iff.mp hi).1
    apply wpAny_mono ((hsu a oe4 (.ref C) (some dd) (X.pn ++ pins) hz4 ⟨_, hd4⟩).run [] s5 _ H' { nx := fun σ6 H6 => σ6 = (σ'.set i (some (.ref a))).set j (some (.ref a)) ∧ H6 = H', rt := fun _ _ => False } S5 ⟨.ref a, by rw [List.getElem?_set_self hσ], rfl, rfl⟩) ?_ (fun _ _ z => False.elim z)
    intro f s6 hsp
    cases f with
    | next =>
      obtain ⟨σ6, H6, S6, rfl, rfl⟩ := hsp
      have pa := (S6.pin (a, oe4) (List.mem_append_left _ List.mem_cons_self)).1
      have J6 := track (o := exq a C dd) (S6.unsuite ok) n0 na nL nC np' (exq_ok pa hz4.1 hz4.2 hd4)
      exact gone_ok J6 hN hi hln fun s7 J7 => ⟨_, _, J7, hyes a na⟩
    | brk =>
      obtain ⟨_, _, _, z⟩ := hsp
      exact z.elim
    | cont =>
      obtain ⟨_, _, _, z⟩ := hsp
      exact z.elim
    | ret u =>
      obtain ⟨_, _, _, _, _, z⟩ := hsp
      exact z.elim
  · intro f s1 hsp
    cases f with
    | next => exact wpAny_execs_nil (let ⟨a1, a2, a3, a4⟩ := hsp; ⟨a1, a2, a3.ofTry ok, a4⟩)
    | brk => exact (let ⟨a1, a2, a3, a4⟩ := hsp; ⟨a1, a2, a3.ofTry ok, a4⟩)
    | cont => exact (let ⟨a1, a2, a3, a4⟩ := hsp; ⟨a1, a2, a3.ofTry ok, a4⟩)
    | ret u => exact (let ⟨a1, a2, a3, a4, a5, a6⟩ := hsp; ⟨a1, a2, a3, a4.ofTry ok, a5, a6⟩)
end
end G1

namespace G1
open PySem PySem.Spec PyProof.Rows L2
section
variable {X : Cx} {es : List Expr} {ta : TA} {e : Expr} {te : TE}
/-- a reading may be asked more -/
theorem pa_up (ha : PA X es ta) : PA X es (fun σ H Q => ∃ Q0, ta σ H Q0 ∧ ∀ vs H1, Q0 vs H1 → Q vs H1) :=
  ⟨fun pos pins s σ H Q I ⟨Q0, h, k⟩ => thn (ha.run pos pins s σ H Q0 I h) fun us s1 ⟨vs, H1, I1, r, q⟩ => ⟨vs, H1, I1, r, k vs H1 q⟩⟩
theorem pe_up (ha : PE X e te) : PE X e (fun σ H Q => ∃ Q0, te σ H Q0 ∧ ∀ v H1, Q0 v H1 → Q v H1) :=
  ⟨fun pins s σ H Q I ⟨Q0, h, k⟩ => thn (ha.run pins s σ H Q0 I h) fun u s1 ⟨v, H1, I1, r, q⟩ => ⟨v, H1, I1, r, k v H1 q⟩⟩
end
/-- what is told of a raised exception: its class, its own dict with the field -/
def Raised (C : Addr) (v : V) (H : Hp) (E : XK) : Prop := ∀ d H', Same H H' → H d = none → H' d = some (.xd [(("value" : Str), v)]) → E (.ref C) (some d) H'
section
variable {X : Cx} {x : Str} {C : Addr} {p pos : Pos} {e : Expr} {ta : TA}
def tMkR (C : Addr) (ta : TA) : L2.St → Hp → XK → Prop := fun σ H Q => ta σ H fun vs H1 => ∃ v, vs = [v] ∧ Raised C v H1 Q
theorem pmk_x (T : XOk X.prog X.w X.K X.mg X.base x C) (hr : Room 2 X.A) (hg : Gl X x) (ha : PA X [e] ta) (hdb : (x == ("__debug__" : Str)) = false := by decide)
    (hs : starEach (e :: []) X.env = (false, eval e X.env) :: starEach [] X.env := by rfl) (hpl : (backTo pos (starEach [] X.env)).any (·.1) = false := by rfl) : PMk X (.Call (.Name x p) [e] [] pos) (tMkR C ta) := by
  obtain ⟨fI, fd, iC, tI, F, b0, _, _⟩ := T.ini
  have z := pmk_oex (dvs := []) (p := p) T.xc.ox iC tI F hr b0 .nil pass0 hg T.g (pa_up ha) hdb hs hpl
  intro pins s σ H Q I h
  refine z pins s σ H Q I ⟨_, h, ?_⟩
  rintro vs H1 ⟨v, rfl, r⟩
  refine ⟨by show 1 ≤ 1000; decide, fun a na => ⟨a, v, rfl, upd_same, fun dx nd ne => ⟨rfl, dx, [(("value" : Str), v)], upd_same, ?_, ?_, ?_⟩⟩⟩
  · rw [upd_ne ne, upd_same]
  · rw [upd_ne ne] at nd
    exact nd
  · rw [upd_ne ne] at nd
    refine r dx _ (fun b o q => ?_) nd upd_same
    have n1 : b ≠ dx := ne_none q nd
    have n2 : b ≠ a := ne_none q na
    rw [upd_ne n1, del_ne n2, upd_ne n2, upd_ne n1, upd_ne n2]
    exact q
/-- raise C(e) in a def that may raise -/
theorem ps_raiseX {W : WX} {pos2 : Pos} (hc : X.calm = true) (tk : Takes X W) (T : XOk X.prog X.w X.K X.mg X.base x C) (hr : Room 2 X.A) (hg : Gl X x) (ha : PA X [e] ta) (hdb : (x == ("__debug__" : Str)) = false := by decide)
    (hs : starEach (e :: []) X.env = (false, eval e X.env) :: starEach [] X.env := by rfl) (hpl : (backTo pos (starEach [] X.env)).any (·.1) = false := by rfl) :
    PS X (.Raise (some (.Call (.Name x p) [e] [] pos)) none pos2) (fun _ σ H => tMkR C ta σ H fun cls d H' => W cls d σ H') := ps_raise hc tk (pmk_x T hr hg ha hdb hs hpl)
end
/-- a def that may raise, under its name -/
def OkX (P : Program) (w : World) (K : PySem.W.Frag) (mg : Str → Option Value) (base : Heap) (k : Nat) (x : Str) (ps : List Str) (sp : Sp) : Prop :=
  ∃ f fd, FnOk P w K mg base (L2.CX P w) k f fd ps sp ∧ mg x = some (.ref f) ∧ PySem.W.keepIn K (.ref f) = true ∧ L2.Binds K fd ps []
section
variable {P : Program} {w : World} {K : PySem.W.Frag} {mg : Str → Option Value} {base : Heap} {x : Str} {st : Stmt} {N ps : List Str} {k : Nat} {sp : Sp}
theorem okx (S : Src K mg x st) (F : ∀ f fd, Fun K x x st f fd → FnOk P w K mg base (L2.CX P w) k f fd ps sp)
    (h : ∀ (kV doc pm : Value) (an : Option Addr) (cdv ct : Value) (us : List Value), us.length = ps.length → bindArgs (PySem.W.fnOf x x (defArgs st) (defBody st) (defScope st) .none kV doc pm an cdv ct) ⟨us, []⟩ = pure (ps.zip us)) : OkX P w K mg base k x ps sp := by
  obtain ⟨f, fd, F1, g⟩ := S
  exact ⟨f, fd, F f fd F1, g, F1.kp, F1.binds h⟩
end
section
variable {X : Cx} {k j : Nat} {x : Str} {ps : List Str} {sp : Sp} {p pos : Pos} {e : Expr} {es : List Expr} {t : TA} {W : WX}
/-- a call of a def that may raise: W is what is wanted of its exception -/
def tCallX (sp : Sp) (W : WX) (t : TA) : TE := fun σ H Q => t σ H fun vs H1 => sp vs H1 Q (fun cls d H' => W cls d σ H')
theorem pe_callX (tk : Takes X W) (C : OkX X.prog X.w X.K X.mg X.base k x ps sp) (hr : Room k X.A) (hg : Gl X x) (ha : PA X (e :: es) t)
    (hdb : (x == ("__debug__" : Str)) = false := by decide) (he : starEach (e :: es) X.env = (false, eval e X.env) :: starEach es X.env := by rfl) (hpl : (backTo pos (starEach es X.env)).any (·.1) = false := by rfl) :
    PE X (.Call (.Name x p) (e :: es) [] pos) (tCallX sp W t) := by
  obtain ⟨f, fd, F, hm, hk, hb⟩ := C
  exact pe_callS F hr hg hm hk hb (E := WE W) (fun σ => passAt tk σ) ha hdb he hpl
end
end G1

namespace G1
open PySem PySem.Spec PyProof.Rows L2
/-! a def's promise where no repr runs around it -/
structure FnG (P : Program) (w : World) (K : PySem.W.Frag) (mg : Str → Option Value) (base : Heap) (CX : CXT) (k : Nat) (f : Addr) (fd : FuncData) (ps : List Str) (sp : Sp) : Prop where
  len : ∀ vs H Q E, sp vs H Q E → vs.length = ps.length
  run : ∀ (A : Around) (outer : List Env) (s : Shared) (H : Hp) (args : Args) (us : List Value) (vs : List V) (Q : VK) (E : XK), A.guards = some [] → Room k A → Env0 P w K mg base A outer s H → BindsTo s fd args (ps.zip us) → Vals vs us → sp vs H Q E →
    codeAny (model P w) A (.call (.ref f) args) (CR CX outer P w H s Q E) s
theorem fng_of {CX : CXT} {P : Program} {w : World} {K : PySem.W.Frag} {mg : Str → Option Value} {base : Heap} {k : Nat} {f : Addr} {x qual : Str} {st : Stmt} {fd : FuncData} {N ps : List Str} {sp : Sp} (F : Fun K x qual st f fd) (S : FnScope N ps (defScope st))
    (len : ∀ vs H Q E, sp vs H Q E → vs.length = ps.length)
    (hbody : ∀ (cdv : Value) (A : Around) (outer : List Env) (s : Shared) (H : Hp) (vs : List V) (Q : VK) (E : XK), A.guards = some [] → Room k (A.deeper (envOfC qual (defScope st) s.heap.objs.size f cdv)) → sp vs H Q E →
      ∃ t, PSs (cxOf CX P w K mg base N qual (defScope st) f cdv A outer s H E) (defBody st) t ∧ t { nx := fun _ H' => Q .non H', rt := Q } (start N vs) H) : FnG P w K mg base CX (k + 1) f fd ps sp where
  len := len
  run := by
    intro A outer s H args us vs Q E hg hr e0 hb r hsp
    obtain ⟨oc, od, kV, doc, pm, an, cdv, ct, osl, rfl, lk, hcd⟩ := F.ex
    have KX : K.In s.heap := e0.mod.kin.keeps fun b o e => (e0.bs b o e).1
    apply codeAny_call_function hr.depth (KX _ _ lk) rfl S.co S.gen rfl (PySem.W.codeRec_of KX hcd) (hb _ _ _ _ ?_)
    apply wpAny_newFunctionEnv_cells S.kind
    · rintro ⟨n, v⟩ hy
      rcases S.par n (List.of_mem_zip hy).1 with q | q
      · exact Or.inl q
      · exact Or.inr ⟨q, PySem.W.cellsFrom_some _ _ _ (Or.inl q)⟩
    rintro env rfl s1 x
    constructor
    · exact (e0.mod.nolimit.keeps fun b o e => (e0.bs b o e).1).keeps x.toInCall.keep
    apply codeAny_func
    obtain ⟨t, ht, hq⟩ := hbody cdv A outer s H vs Q E hg (hr.deeper _) hsp
    apply wpAny_mono (ht.run [] s1 (start N vs) H _ (inv_start S hr.hd e0 (len _ _ _ _ hsp) r x) hq) ?_ (fun _ _ z => z)
    rintro (_ | _ | _ | u) s' hs
    · exact let ⟨_, H', J, q⟩ := hs; ⟨V.non, H', J.os, J.bare, J.base, J.hok, rfl, q⟩
    · exact let ⟨_, _, _, q⟩ := hs; q.elim
    · exact let ⟨_, _, _, q⟩ := hs; q.elim
    · exact let ⟨v, _, H', J, rv, q⟩ := hs; ⟨v, H', J.os, J.bare, J.base, J.hok, rv, q⟩
end G1
namespace G1
open PySem PySem.Spec PyProof.Rows L2
def OkG (P : Program) (w : World) (K : PySem.W.Frag) (mg : Str → Option Value) (base : Heap) (k : Nat) (x : Str) (ps : List Str) (sp : Sp) : Prop :=
  ∃ f fd, FnG P w K mg base CX0 k f fd ps sp ∧ mg x = some (.ref f) ∧ PySem.W.keepIn K (.ref f) = true ∧ L2.Binds K fd ps []
theorem okg {P : Program} {w : World} {K : PySem.W.Frag} {mg : Str → Option Value} {base : Heap} {x : Str} {st : Stmt} {ps : List Str} {k : Nat} {sp : Sp} (S : Src K mg x st) (F : ∀ f fd, Fun K x x st f fd → FnG P w K mg base CX0 k f fd ps sp)
    (h : ∀ (kV doc pm : Value) (an : Option Addr) (cdv ct : Value) (us : List Value), us.length = ps.length → bindArgs (PySem.W.fnOf x x (defArgs st) (defBody st) (defScope st) .none kV doc pm an cdv ct) ⟨us, []⟩ = pure (ps.zip us)) : OkG P w K mg base k x ps sp :=
  let ⟨f, fd, F1, g⟩ := S
  ⟨f, fd, F f fd F1, g, F1.kp, F1.binds h⟩
section
variable {X : Cx} {k : Nat} {x : Str} {ps : List Str} {sp : Sp} {p pos : Pos} {e : Expr} {es : List Expr} {t : TA}
theorem pe_callG (hgd : X.A.guards = some []) (C : OkG X.prog X.w X.K X.mg X.base k x ps sp) (hr : Room k X.A) (hg : Gl X x) (ha : PA X (e :: es) t)
    (hdb : (x == ("__debug__" : Str)) = false := by decide) (he : starEach (e :: es) X.env = (false, eval e X.env) :: starEach es X.env := by rfl) (hpl : (backTo pos (starEach es X.env)).any (·.1) = false := by rfl) :
    PE X (.Call (.Name x p) (e :: es) [] pos) (tCallO sp t) := by
  obtain ⟨f, fd, F, hm, hk, hb⟩ := C
  constructor
  intro pins s σ H Q I h
  apply wpAny_Call_Name_kw (ld_glob I hg hm ?_ hdb)
  apply PySem.W.callWith_K (h₀ := X.base) I.ok.mod.kin hk (thn (ha.run pos pins s σ H _ I h) ?_) he hpl
  rintro us s1 ⟨vs, H1, I1, r, q⟩
  refine ⟨I1.kIn, ?_⟩
  have hl : us.length = ps.length := by rw [← r.length]; exact F.len _ _ _ _ q
  have b := hb s1 us I1.kIn (by rw [List.append_nil]; exact hl)
  rw [List.append_nil] at b
  apply wpAny_call (codeAny_mono (F.run X.A X.stack s1 H1 ⟨us, []⟩ us vs Q _ hgd hr I1.env0 b r q) ?_)
  rintro (er | (_ | _ | _ | u)) s' z
  · exact pass0 pins σ H1 s1 er s' I1 z
  · exact z.elim
  · exact z.elim
  · exact z.elim
  · exact I1.after z
end
/-! repr of data -/
mutual
/-- a value that stands for data: what is tracked alone, empty dicts too -/
inductive De (K : PySem.W.Frag) (H : Hp) : V → PyData → Prop
  | non : De K H .non .none
  | bl (b : Bool) : De K H (.bl b) (.bool b)
  | int (i : Int) : De K H (.int i) (.int i)
  | str (x : Str) : De K H (.str x) (.str x)
  | lst {a : Addr} {xs : List V} {ds : List PyData} : H a = some (.lst xs) → DeAll K H xs ds → De K H (.ref a) (.list ds)
  | tup {a : Addr} {xs : List V} {ds : List PyData} : H a = some (.tup xs) → DeAll K H xs ds → De K H (.ref a) (.tuple ds)
  | dic {a : Addr} : H a = some (.dK []) → De K H (.ref a) (.dict [])
inductive DeAll (K : PySem.W.Frag) (H : Hp) : List V → List PyData → Prop
  | nil : DeAll K H [] []
  | cons {v : V} {vs : List V} {d : PyData} {ds : List PyData} : De K H v d → DeAll K H vs ds → DeAll K H (v :: vs) (d :: ds)
end
section
variable {X : Cx} {pins : List (Addr × Obj)} {σ : L2.St} {H : Hp} {s : Shared}
mutual
theorem De.reads (I : Inv X pins σ H s) : ∀ (d : PyData) (v : V) (u : Value), De X.K H v d → RelV v u → ∃ as, Reads s.heap u d as ∧ ∀ a ∈ as, H a ≠ none
  | .none, _, _, h, r => by
    cases h
    cases r
    exact ⟨_, Reads.none, fun _ z => nomatch z⟩
  | .bool b, _, _, h, r => by
    cases h
    cases r
    exact ⟨_, Reads.bool b, fun _ z => nomatch z⟩
  | .int i, _, _, h, r => by
    cases h
    obtain ⟨t, rfl⟩ := r
    exact ⟨_, Reads.int i t, fun _ z => nomatch z⟩
  | .str x, _, _, h, r => by
    cases h
    obtain ⟨t, rfl⟩ := r
    exact ⟨_, Reads.str x t, fun _ z => nomatch z⟩
  | .list ds, _, _, h, r => by
    cases h with
    | lst hs ha =>
      cases r
      obtain ⟨its, rv, ⟨o, n, ho, hc, _, hd⟩, _⟩ := I.list (SqL.of hs)
      obtain ⟨as, hr, hn⟩ := De.readsAll I ds _ its ha rv
      refine ⟨_, Reads.list ho hc hd hr, fun b hb => ?_⟩
      rcases List.mem_cons.mp hb with rfl | hb
      · rw [hs]
        exact fun z => nomatch z
      · exact hn b hb
  | .tuple ds, _, _, h, r => by
    cases h with
    | tup hs ha =>
      cases r
      obtain ⟨its, rv, ⟨o, ho, hc, n, hd⟩, _⟩ := I.tuple (SqT.of hs)
      obtain ⟨as, hr, hn⟩ := De.readsAll I ds _ its ha rv
      exact ⟨_, Reads.tuple ho hc hd hr, hn⟩
  | .dict kvs, _, _, h, r => by
    cases h with
    | @dic a hs =>
      cases r
      obtain ⟨_, _, vs, hkv, o, es, ep, ho, hx, hd, _, hp, _⟩ := dk_of I.hok hs
      cases hkv
      have he : es.toList = [] := by
        cases e : es.toList with
        | nil => rfl
        | cons x y => rw [e] at hp; cases hp
      refine ⟨_, Reads.dict ho hx.1 hd (by rw [he]; exact ReadsAll.nil) (by rw [he]; exact ReadsAll.nil), fun b hb => ?_⟩
      have : b = a := by simpa using hb
      rw [this, hs]
      exact fun z => nomatch z
theorem De.readsAll (I : Inv X pins σ H s) : ∀ (ds : List PyData) (vs : List V) (us : List Value), DeAll X.K H vs ds → Vals vs us → ∃ as, ReadsAll s.heap us ds as ∧ ∀ a ∈ as, H a ≠ none
  | [], _, _, h, r => by
    cases h
    cases r
    exact ⟨_, ReadsAll.nil, fun _ z => nomatch z⟩
  | d :: ds, _, _, h, r => by
    cases h with
    | cons h1 h2 =>
      cases r with
      | cons r1 r2 =>
        obtain ⟨as, q1, n1⟩ := De.reads I d _ _ h1 r1
        obtain ⟨bs, q2, n2⟩ := De.readsAll I ds _ _ h2 r2
        exact ⟨_, ReadsAll.cons q1 q2, fun b hb => (List.mem_append.mp hb).elim (n1 b) (n2 b)⟩
end
end
/-- what is asked of a value that repr shows -/
def Shows (K : PySem.W.Frag) (H : Hp) (v : V) (d : PyData) : Prop := De K H v d ∧ d.showable = true ∧ d.depth ≤ 60 ∧ d.shown.length ≤ sizeLine ∧ (d.hasDict = true → d = .dict [])
def rRepr (K : PySem.W.Frag) : List V → Hp → VK → Prop := fun vs H Q => ∃ v d, vs = [v] ∧ Shows K H v d ∧ Q (.str d.shown) H
theorem call_repr {X : Cx} (K : PySem.W.Frag) (hK : X.K = K) (hgd : X.A.guards = some []) (hu : X.A.units + 64 < cLine) : CallR X (.builtin "repr") (rRepr K) := by
  subst hK
  intro pins s σ H xs us Q I r h
  obtain ⟨v, d, rfl, ⟨hd, h1, h2, h3, h4⟩, q⟩ := h
  obtain ⟨u, rfl, rv⟩ := vals1 r
  obtain ⟨as, rd, hn⟩ := De.reads I d v u hd rv
  have hsm : d.hasDict = true → sysModules ∉ as := fun hh => by
    have e := h4 hh
    subst e
    cases hd with
    | @dic a hs =>
      cases rv
      obtain ⟨_, hne, _⟩ := dk_of I.hok hs
      cases rd with
      | @dict _ _ _ _ _ as1 bs1 g1 g2 g3 g4 g5 =>
        have key : ∀ (vs : List Value) (as : List Addr), ReadsAll s.heap vs [] as → as = [] := by
          intro vs as h
          cases h
          rfl
        have n1 := key _ _ g4
        have n2 := key _ _ g5
        subst n1
        subst n2
        intro z
        have : sysModules = a := by simpa using z
        rw [this] at hne
        simp at hne
  by_cases hr : ∃ a, u = .ref a
  · obtain ⟨a, rfl⟩ := hr
    exact repr_of_reads' rd h1 hsm hgd (by omega) (fun _ _ e => e) (fun h' u tk k => ⟨.str _, H, I.kept k, ⟨_, rfl⟩, q⟩) h3
  · cases rd with
    | none => exact PySem.P.repr_of_none ⟨.str _, H, I.tok _, ⟨_, rfl⟩, q⟩
    | bool b => (cases b <;> exact PySem.P.repr_of_bool ⟨.str _, H, I.tok _, ⟨_, rfl⟩, q⟩)
    | int i t => exact PySem.P.repr_of_int (by simpa [PyData.showable] using h1) ⟨.str _, H, I.tok _, ⟨_, rfl⟩, q⟩
    | str x t => exact PySem.P.repr_of_str ⟨.str _, H, I.tok _, ⟨_, rfl⟩, q⟩ h3
    | list _ _ _ _ => exact absurd ⟨_, rfl⟩ hr
    | tuple _ _ _ _ => exact absurd ⟨_, rfl⟩ hr
    | dict _ _ _ _ _ => exact absurd ⟨_, rfl⟩ hr
end G1

namespace G1
open PySem PySem.Spec PyProof.Rows L2
/-- the law's call from the abstract heap H in which nothing but the script at a may be tracked -/
theorem callG_from {P : Program} {w : World} {K : PySem.W.Frag} {mg mb : Str → Option Value} {k : Nat} {fa a : Addr} {fd : FuncData} {x : Str} {sp : Sp} {s₁ : Shared} {o₁ : Obj} {H : Hp}
    (KX : K.In s₁.heap) (hns : s₁.heap.Ns mainGlobals mg) (hb : s₁.heap.Ns builtinsNs mb) (hbb : ∀ x : Str, x ≠ "__name__" → mb x = bootBuiltins x) (hlim : s₁.heap.NoLimit) (hg : s₁.gens = #[]) (ho : s₁.heap.get? a = some o₁) (hnd : ∀ es ep, o₁.data ≠ .dict es ep) (hr : Room k callerA)
    (F : ∀ base : Heap, K.In base → base.Ns mainGlobals mg → FnG P w K mg base CX0 k fa fd [x] sp) (hbind : ∀ (s : Shared) (u : Value), BindsTo s fd ⟨[u], []⟩ [(x, u)]) (hok : HOk P w H s₁.heap)
    (hA : ∀ b u, H b = some u → b = a ∧ ∃ xs, u = .frz o₁ (.lst xs)) (hK : ∀ u, H a = some u → K.lookup a = none) (hsp : sp [.ref a] H (fun v _ => v = .bl true) fun _ _ _ => False) :
    codeAny (model P w) callerA (.call (.ref fa) ⟨[.ref a], []⟩) (fun r s' => r = .ok (.ret (.bool true)) ∧ OldK s₁.heap s'.heap ∧ s'.os = s₁.os ∧ AllBare s'.gens) s₁ := by
  have free : ∀ {b : Addr} {o : Obj} {es : Array DictEntry} {ep : Nat}, s₁.heap.get? b = some o → o.data = .dict es ep → H b = none := by
    intro b o es ep e d
    cases q : H b with
    | none => rfl
    | some u =>
      rw [(hA b u q).1, ho] at e
      cases e
      exact absurd d (hnd _ _)
  have ns' : ∀ {b : Addr} {m : Str → Option Value}, s₁.heap.Ns b m → (hidT s₁.heap H).Ns b m := by
    rintro b m ⟨o, es, ep, e, d, r⟩
    exact ⟨o, es, ep, hidT_get e (free e d), d, r⟩
  have kin : K.In (hidT s₁.heap H) := by
    intro b o e
    apply hidT_get (KX b o e)
    cases q : H b with
    | none => rfl
    | some u =>
      rw [(hA b u q).1] at e q
      exact absurd ((hK u q).symm.trans e) (by intro z; cases z)
  have md : Mod K mg (hidT s₁.heap H) := ⟨kin, ns' hns, ⟨mb, ns' hb, hbb⟩, let ⟨mc, h1, h2⟩ := hlim; ⟨mc, ns' h1, h2⟩⟩
  have none0 : ∀ b : Addr, b ∉ frs [] := by
    intro b z
    cases z
  have e0 : Env0 P w K mg (hidT s₁.heap H) callerA [] s₁ H := ⟨rfl, md, fun b o e => of_hidT e, Nat.le_of_eq (hidT_size _ _), trivial, fun b z => absurd z (none0 b), hok, .of_eq hg⟩
  apply codeAny_mono ((F _ kin (ns' hns)).run callerA [] s₁ H ⟨[.ref a], []⟩ [.ref a] [.ref a] _ _ rfl hr e0 (hbind s₁ (.ref a)) (.cons rfl .nil) hsp)
  rintro (er | (_ | _ | _ | u)) s' z
  · exact z.elim
  · exact z.elim
  · exact z.elim
  · exact z.elim
  · obtain ⟨v, H', os, bare, un, hok', r', rfl⟩ := z
    cases r'
    refine ⟨rfl, OldK.of_keep ?_, os, bare⟩
    intro b o e
    cases q : H b with
    | none => exact un.keep b o e q (none0 b) (by simp)
    | some u =>
      obtain ⟨_, xs, rfl⟩ := hA b u q
      have e1 := (hok b _ q).1
      rw [e] at e1
      cases e1
      exact (hok' b _ (un.frzs b _ _ q)).1
theorem walk_ofG {l : PySem.W.OpenLaw} {n k : Nat} {q : Program} {loose : List Str} {XP : (Str → Option Value) → Heap → Prop} {YP : World → Heap → Prop} {d : DefRec} {K : Params → PySem.W.Frag} {sp : World → Sp} {x : Str}
    (hn : l.most = some n) (hn2 : n ≤ sizeLine) (hdf : d.params.defaults = []) (hr : Room k callerA) (hY : ∀ (w : World) (h : Heap), YP w h → (K w.params).In h)
    (F : ∀ (w : World) (mg : Str → Option Value) (fa : Addr) (h : Heap), (K w.params).In h → h.Ns mainGlobals mg → mg d.name = some (.ref fa) →
      ∃ fd : FuncData, (∀ (s : Shared) (u : Value), BindsTo s fd ⟨[u], []⟩ [(x, u)]) ∧ ∀ base : Heap, (K w.params).In base → base.Ns mainGlobals mg → FnG l.prog w (K w.params) mg base CX0 k fa fd [x] (sp w))
    (hsp : ∀ (w : World) (H : Hp) (a : Addr) (ns : List Int), ns.length ≤ n → SqL (K w.params) H a (ns.map V.int) → sp w [.ref a] H (fun v _ => v = .bl true) fun _ _ _ => False) :
    PySem.W.WalkO q loose XP YP l.row.toRowW d [] (fun f vs => PySem.call f vs) := by
  apply Att.attach_call hn hdf
  intro w s₀ s₁ mg mb fa o pm cd doc a vs ns G Y ho hd hcd hmg hobj hints hlen hg
  have KX := hY w _ Y
  obtain ⟨fd, hb, hF⟩ := F w mg fa _ KX G.T.g hmg
  have rv := vals_ints hints
  have lenV := hints.length
  have hl : ns.length ≤ sizeLine := Nat.le_trans hlen hn2
  cases hk : (K w.params).lookup a with
  | some o =>
    have e := KX a o hk
    rw [hobj] at e
    cases e
    apply callG_from KX G.T.g G.T.b G.T.builtins G.T.nolimit hg hobj (by intro _ _ z; cases z) hr hF hb (H := fun _ => none) (by intro b u z; cases z) (by intro b u z; cases z) (by intro u z; cases z)
    apply hsp w _ a ns hlen
    exact .inr ⟨_, vs.toArray, _, hk, rfl, rfl, rfl, by rw [List.size_toArray, lenV]; exact hl, by simpa using rv⟩
  | none =>
    have at_ : ∀ b u, (if b = a then some (HO.frz { cls := .type "list", data := .seq vs.toArray } (.lst (ns.map V.int))) else none) = some u → b = a ∧ u = .frz { cls := .type "list", data := .seq vs.toArray } (.lst (ns.map V.int)) := by
      intro b u z
      by_cases e : b = a
      · rw [if_pos e] at z
        exact ⟨e, (Option.some.inj z).symm⟩
      · rw [if_neg e] at z
        cases z
    apply callG_from KX G.T.g G.T.b G.T.builtins G.T.nolimit hg hobj (by intro _ _ z; cases z) hr hF hb (H := fun b => if b = a then some (.frz { cls := .type "list", data := .seq vs.toArray } (.lst (ns.map V.int))) else none)
    · intro b u z
      obtain ⟨rfl, rfl⟩ := at_ b u z
      exact ⟨hobj, by rw [List.length_map]; exact hl, vs, _, rv, hobj⟩
    · intro b u z
      obtain ⟨e, r⟩ := at_ b u z
      exact ⟨e, _, r⟩
    · intro u _
      exact hk
    · apply hsp w _ a ns hlen
      exact .inl (.inr ⟨{ cls := .type "list", data := .seq vs.toArray }, if_pos rfl⟩)
/-! a caught exception, read -/
/-- a caught exception that was kept, with its field -/
def XQ (H : Hp) (a C : Addr) (v : V) : Prop := ∃ d, H a = some (exq a C d) ∧ H d = some (.xd [(("value" : Str), v)])
theorem XQ.same {H H' : Hp} {a C : Addr} {v : V} (h : XQ H a C v) (s : Same H H') : XQ H' a C v := let ⟨d, h1, h2⟩ := h; ⟨d, s _ _ h1, s _ _ h2⟩
theorem XQ.inst {P : Program} {w : World} {H : Hp} {h : Heap} {a C : Addr} {v : V} (hok : HOk P w H h) (x : XQ H a C v) : ∃ ox od mA, PySem.W.InstAt h a ox C (some od) ∧ (∃ d, h.Ns1 d mA ∧ h.get? d = some od) ∧ ∀ f, RelO (List.lookup f [(("value" : Str), v)]) (mA f) := by
  obtain ⟨d, h1, h2⟩ := x
  obtain ⟨oe, vs, e1, e2, e3, e4⟩ := exq_at hok h1
  obtain ⟨mA, hns, hr⟩ := (show ObjOk P w H h d (.xd [(("value" : Str), v)]) from hok d _ h2)
  obtain ⟨od, es, ep, ho, hrest⟩ := id hns
  refine ⟨oe, od, mA, ⟨e1, e2, ?_, ?_⟩, ⟨d, hns, ho⟩, hr⟩
  · unfold PySem.W.notCls
    rw [e4]
  · rw [e3]
    exact ho
def rIsQ (K : PySem.W.Frag) : List V → Hp → VK → Prop := fun xs H Q => ∃ (a C : Addr) (v c : V) (u : Value) (b : Bool), xs = [.ref a, c] ∧ XQ H a C v ∧ XC K C ∧ ClsV c u ∧ PySem.W.kitOne K (.ref C) u = some b ∧ Q (.bl b) H
/-- isinstance of a kept exception, or of any value of a built-in kind -/
def rIsB (K : PySem.W.Frag) : List V → Hp → VK → Prop := fun xs H Q => rIsQ K xs H Q ∨ rIsi K xs H Q
section
variable {X : Cx}
theorem call_isB (K : PySem.W.Frag) (hK : X.K = K) : CallR X (.builtin "isinstance") (rIsB K) := by
  subst hK
  intro pins s σ H xs us Q I r h
  rcases h with ⟨a, C, v, c, u, b, rfl, hx, T, k, e, q⟩ | h
  · obtain ⟨u1, u2, rfl, r1, r2⟩ := vals2 r
    cases k.eq r2
    cases (show u1 = Value.ref a from r1)
    obtain ⟨ox, od, mA, J, _⟩ := hx.inst I.hok
    exact PySem.W.kia_one (PySem.W.kitx_exc T.isC T.ga T.gg T.ox.exC T.cc T.cn T.ct T.cm) I.kIn J e (fun z => nomatch z) fun tk => ⟨.bl b, H, I.tok tk, rfl, q⟩
  · exact call_isi pins s σ H xs us Q I r h
def tQv (K : PySem.W.Frag) (ta : TE) : TE := fun σ H Q => ta σ H fun x H1 => ∃ a C v, x = .ref a ∧ XQ H1 a C v ∧ XC K C ∧ Q v H1
theorem pe_qv (K : PySem.W.Frag) (hK : X.K = K) {e : Expr} {ta : TE} {pos : Pos} (he : PE X e ta) (hb : attributeBase e "value" X.env (eval e X.env) = eval e X.env := by rfl) : PE X (.Attribute e "value" pos) (tQv K ta) := by
  subst hK
  constructor
  intro pins s σ H Q I h
  apply attr_of hb
  apply thn (he.run pins s σ H _ I h)
  rintro u s1 ⟨x, H1, I1, rx, a, C, v, rfl, hx, T, q⟩
  cases rx
  obtain ⟨ox, od, mA, J, ⟨d, hns, hod⟩, hr⟩ := hx.inst I1.hok
  obtain ⟨od', ho, hl⟩ := lookIn_ns hns
  rw [hod] at ho
  cases ho
  have l : List.lookup ("value" : Str) [(("value" : Str), v)] = some v := by simp [List.lookup]
  obtain ⟨u, hu, ru⟩ := RelO.some_of (v := v) (o := mA "value") (by rw [← l]; exact hr "value")
  exact HandSPX.exc_get I1.kIn J T.ga T.gg T.ox.exC (PySem.W.findObj_own T.hd T.nv rfl (by rw [hl, hu])) (handed_of ru) ⟨v, H1, I1.tok _, ru, q⟩
end
end G1

namespace G1
open PySem PySem.Spec PyProof.Rows L2
/-! texts: swapcase, turned round, replace of a text put together -/
theorem ep_str {X : Cx} {pins : List (Addr × Obj)} {σ : L2.St} {Q : VK} {x : Str} {t : Tok} {H : Hp} {s : Shared} (I : L2.Inv X pins σ H s) (q : Q (.str x) H) : EP X pins σ Q (.str x t) s := ⟨.str x, H, I, ⟨t, rfl⟩, q⟩
theorem mt_swap {X : Cx} : MtR X "str.swapcase" fun x xs H Q => ∃ a, x = .str a ∧ xs = [] ∧ a.length ≤ 5592405 ∧ Q (.str (Txt.swapcase a)) H := by
  rintro pins s σ H x xs v us Q I r rs ⟨a, rfl, rfl, hl, q⟩
  cases rs
  obtain ⟨t, rfl⟩ := r
  exact SCL.swapcase hl fun _ => ep_str (I.tok _) q
/-- the text from its end -/
def revS (z : Str) : Str := ⟨z.cps.toList.reverse.toArray⟩
theorem rev_by (z : Str) (u : Tok) : Txt.sliceBy z none none (-1, u) = revS z := by
  have h := step_rev_list z u
  have e : (Txt.sliceBy z none none (-1, u)).cps = z.cps.toList.reverse.toArray := by
    apply Array.toList_inj.mp
    rw [h]
    have hz : z.length = z.cps.toList.length := by rw [Array.length_toList]; rfl
    apply List.ext_getElem
    · rw [List.length_map, List.length_range, List.toList_toArray, List.length_reverse, hz]
    · intro i h1 h2
      rw [List.length_map, List.length_range] at h1
      rw [List.getElem_map, List.getElem_range]
      simp only [List.getElem_reverse, List.toList_toArray]
      have hk : z.length - 1 - i < z.cps.size := by
        have : z.length = z.cps.size := rfl
        omega
      rw [Array.getD_eq_getD_getElem?, Array.getElem?_eq_getElem hk, Option.getD_some, ← Array.getElem_toList]
      congr 1
  unfold revS
  rw [← e]
theorem made_rev (z : Str) (t u : Tok) : sliceMade z t none none (some (-1, u)) = Made.str (revS z) := by
  rw [← rev_by z u]
  unfold sliceMade Txt.sliceBy
  simp
def tRevS (te : TE) : TE := fun σ H Q => te σ H fun x H1 => ∃ z, x = .str z ∧ z.length ≤ sizeLine ∧ Q (.str (revS z)) H1
theorem pe_revS {X : Cx} {e : Expr} {te : TE} {k : Nat} {p1 p2 p3 pos : Pos} (he : PE X e te) (hl : ∀ o r : Value, letTemporaryGo e o r = pure () := by intro _ _; rfl) :
    PE X (.Subscript e (.Slice none none (some (.UnaryOp .USub (.Constant (.int 1) k p1) p2)) p3) pos) (tRevS te) := by
  constructor
  intro pins s σ H Q I h
  refine wpAny_Subscript_Slice_step (T := "str") (id := "str.__getitem__") (by rfl) ?_ hl
  apply thn (he.run pins s σ H _ I h)
  rintro u s1 ⟨x, H1, I1, r, z, rfl, hzl, q⟩
  obtain ⟨t, rfl⟩ := r
  apply wpAny_Slice
  apply evalPart_none_step
  apply evalPart_none_step
  apply evalPart_some_step
  apply thn ((pe_un un_neg (pe_int (X := X) (i := 1))).run pins s1 σ H1 (fun v H2 => v = .int (-1) ∧ H2 = H1) I1 ⟨1, rfl, rfl, rfl⟩)
  rintro w s2 ⟨x2, H2, I2, r2, rfl, rfl⟩
  obtain ⟨t2, rfl⟩ := r2
  refine ⟨?_, ?_⟩
  · rfl
  apply wpAny_getItem_str_slice (l := none) (u := none) (st := some (-1, t2)) ⟨_, Heap.get?_push_size _ rfl, rfl, rfl⟩ rfl
  rw [made_rev]
  simp only [Made.post]
  exact ⟨by show (revS z).cps.size ≤ _; unfold revS; simp only [List.size_toArray, List.length_reverse, Array.length_toList]; exact hzl, ep_str ((I2.kept fun b o e => Heap.get?_push_of_some _ e)) q⟩
/-- name.upper(), and that something was made -/
theorem up_name {X : Cx} {i : Nat} {x c : Str} {p apos pos : Pos} {pins : List (Addr × Obj)} {s : Shared} {σ : L2.St} {H : Hp} {Q : Value → Shared → Prop} (hN : X.N[i]? = some x) (hv : Vis X.env.scope x) (I : L2.Inv X pins σ H s) (hσ : σ[i]? = some (some (.str c))) (hc : c.length ≤ 1000)
    (hd : (x == ("__debug__" : Str)) = false) (hcd : (x == ("__classdict__" : Str)) = false) (hat : attributeBase (.Name x p) "upper" X.env (eval (.Name x p) X.env) = eval (.Name x p) X.env) (hl : (apos.endLine == pos.line) = true)
    (k : ∀ t s', 1 ≤ s'.toks → L2.Inv X pins σ H s' → Q (.str (Txt.upper c) t) s') : wpAny (model X.prog X.w) X.A (eval (.Call (.Attribute (.Name x p) "upper" apos) [] [] pos) X.env) Q X.xe s := by
  apply wpAny_Call_method0_late hat hl
  refine L2.raw_name hN hv I hσ ?_ hd hcd
  rintro u ⟨t, rfl⟩
  refine ⟨"str", "str.upper", PySem.F.plainAttrs_str, PySem.F.slot_str_upper, PySem.F.type_str_upper, rfl, (fun _ e => nomatch e), ?_⟩
  refine PyProof.Rows.callWith_method0 (env := X.env) ?_
  refine SCL.upper (by omega) fun _ => ?_
  exact k _ _ (Nat.succ_le_succ (Nat.zero_le _)) (I.tok _)
/-- o.replace(a + b, "") where a is a sign and b its great one, or the other way about -/
def tRepU (ii : Nat) (fl : Bool) (to : TE) : TE := fun σ H Q => to σ H fun v H1 => ∃ z c, v = .str z ∧ σ[ii]? = some (some (.str c)) ∧ c.length = 1 ∧ (Txt.upper c).length = 1 ∧ z.length ≤ 10000 ∧ Q (.str (Txt.replace z (if fl then c ++ Txt.upper c else Txt.upper c ++ c) ⟨#[]⟩)) H1
theorem rep_tail {X : Cx} {pins : List (Addr × Obj)} {s : Shared} {σ : L2.St} {H : Hp} {Q : VK} {z y : Str} {t : Tok} {u : Nat} {j : Nat} {c0 : Pos} (I : L2.Inv X pins σ H s) (hu : 1 ≤ u) (hu2 : u < s.toks) (hy : y.length = 2) (hz : z.length ≤ 10000) (q : Q (.str (Txt.replace z y ⟨#[]⟩)) H) :
    wpAny (model X.prog X.w) X.A (eval (.Constant (.str ⟨#[]⟩) j c0) X.env) (fun v s1 => wpAny (model X.prog X.w) X.A (call (.builtin "str.replace") [.str z t, .str y u, v]) (EP X pins σ Q) X.xe s1) X.xe s := by
  apply wpAny_Constant_str
  refine SC.replace (u := u) (v := s.toks) (Nat.ne_of_gt hu) (Nat.ne_of_gt (Nat.lt_trans hu hu2)) (Nat.ne_of_lt hu2) ?_ ?_ fun t' k => ep_str ?_ q
  · cases e : y == (⟨#[]⟩ : Str) with
    | false => rfl
    | true =>
      have : y = ⟨#[]⟩ := by simpa using e
      rw [this] at hy
      cases hy
  · show z.length + (z.length + 1) * 0 ≤ _
    omega
  · exact (I.tok k)
theorem add_made {x y : Str} {t u : Tok} (h1 : x.length = 1) (h2 : y.length = 1) : (if (x.length == 0) = true then Made.val (Value.str y u) else if (y.length == 0) = true then Made.val (Value.str x t) else Made.str (x ++ y)) = Made.str (x ++ y) := by
  rw [h1, h2]
  rfl
theorem sz2 {x y : Str} (h1 : x.length = 1) (h2 : y.length = 1) : (x ++ y).cps.size = 2 := by
  show (x.cps ++ y.cps).size = 2
  rw [Array.size_append]
  have a : x.cps.size = 1 := h1
  have b : y.cps.size = 1 := h2
  omega
theorem pe_repU {X : Cx} {o : Expr} {to : TE} {ii : Nat} {x : Str} {j : Nat} {fl : Bool} {p1 p2 p3 p4 p5 c0 apos pos : Pos} (ho : PE X o to) (hN : X.N[ii]? = some x) (hv : Vis X.env.scope x)
    {e : Expr} (he0 : e = if fl then .BinOp (.Name x p1) .Add (.Call (.Attribute (.Name x p2) "upper" p3) [] [] p4) p5 else .BinOp (.Call (.Attribute (.Name x p2) "upper" p3) [] [] p4) .Add (.Name x p1) p5)
    (hd : (x == ("__debug__" : Str)) = false := by rfl) (hcd : (x == ("__classdict__" : Str)) = false := by rfl)
    (hat : attributeBase (.Name x p2) "upper" X.env (eval (.Name x p2) X.env) = eval (.Name x p2) X.env := by rfl) (hl : (p3.endLine == p4.line) = true := by rfl)
    (hat2 : attributeBase o "replace" X.env (eval o X.env) = eval o X.env := by rfl) (hl2 : (apos.endLine == pos.line) = true := by rfl)
    (hb : backTo pos (starEach [e, .Constant (.str ⟨#[]⟩) j c0] X.env) = [(false, eval e X.env), (false, eval (.Constant (.str ⟨#[]⟩) j c0) X.env)] := by rfl) (hs1 : starEach [e, .Constant (.str ⟨#[]⟩) j c0] X.env = (false, eval e X.env) :: starEach [.Constant (.str ⟨#[]⟩) j c0] X.env := by rfl)
    (hs : starEach [e, .Constant (.str ⟨#[]⟩) j c0] X.env = [(false, eval e X.env), (false, eval (.Constant (.str ⟨#[]⟩) j c0) X.env)] := by rfl) :
    PE X (.Call (.Attribute o "replace" apos) [e, .Constant (.str ⟨#[]⟩) j c0] [] pos) (tRepU ii fl to) := by
  constructor
  intro pins s σ H Q I h
  apply Call_method2 hat2 hs hl2
  apply thn (ho.run pins s σ H _ I h)
  rintro u s1 ⟨v, H1, I1, r, z, c, rfl, hσ, h1, h2, hz, q⟩
  obtain ⟨tz, rfl⟩ := r
  refine ⟨"str", "str.replace", PySem.F.plainAttrs_str, PySem.F.slot_str_replace, PySem.F.type_str_replace, rfl, (fun _ e => nomatch e), ?_⟩
  have hs2 : backTo pos (starEach [e, .Constant (.str ⟨#[]⟩) j c0] X.env) = [(false, eval e X.env), (false, eval (.Constant (.str ⟨#[]⟩) j c0) X.env)] := hb
  rw [← hs2]
  have fin : ∀ (y : Str) (t2 : Tok) (s2 : Shared), 1 ≤ s2.toks → L2.Inv X pins σ H1 s2 → y.length = 2 → Q (.str (Txt.replace z y ⟨#[]⟩)) H1 →
      (Made.str y).post (fun v s₁ => wpAny (model X.prog X.w) X.A (spliced (backTo pos (starEach [.Constant (.str ⟨#[]⟩) j c0] X.env))) (fun vs s₂ => wpAny (model X.prog X.w) X.A (call (.builtin "str.replace") ([.str z tz] ++ v :: vs)) (EP X pins σ Q) X.xe s₂) X.xe s₁) s2 := by
    intro y t2 s2 k2 I2 hy q
    simp only [Made.post]
    refine ⟨by rw [hy]; decide, ?_⟩
    refine PyProof.Rows.spliced_more ?_ (by rfl)
    refine wpAny_mono (rep_tail (u := s2.toks) (t := tz) (I2.tok (s2.toks + 1)) k2 (Nat.lt_succ_self _) hy hz q) ?_ fun _ _ z => z
    intro v s3 h3
    exact PyProof.Rows.spliced_none h3
  refine PyProof.Rows.callWith_method1 (PyProof.Rows.spliced_more ?_ hs1) hs1 (by rfl)
  cases fl with
  | true =>
    subst he0
    apply wpAny_BinOp
    refine L2.raw_name hN hv I1 hσ ?_ hd hcd
    rintro u ⟨tc, rfl⟩
    refine up_name hN hv I1 hσ (by omega) hd hcd hat hl fun t2 s2 k2 I2 => ?_
    apply P.add_str
    rw [add_made h1 h2]
    exact fin _ 0 _ k2 I2 (by show (c ++ Txt.upper c).cps.size = 2; exact sz2 h1 h2) q
  | false =>
    subst he0
    apply wpAny_BinOp
    refine up_name hN hv I1 hσ (by omega) hd hcd hat hl fun t2 s2 k2 I2 => ?_
    refine L2.raw_name hN hv I2 hσ ?_ hd hcd
    rintro u ⟨tc, rfl⟩
    apply P.add_str
    rw [add_made h2 h1]
    exact fin _ 0 _ k2 I2 (by show (Txt.upper c ++ c).cps.size = 2; exact sz2 h2 h1) q
end G1

namespace MW
/-- the other sign of a pair -/
def inv (c : Nat) : Nat := c ^^^ 32
theorem inv_inv (c : Nat) : inv (inv c) = c := by unfold inv; rw [Nat.xor_assoc, Nat.xor_self, Nat.xor_zero]
theorem inv_ne (c : Nat) : inv c ≠ c := fun h => by
  have h2 : c ^^^ (c ^^^ 32) = c ^^^ c := congrArg (fun x => c ^^^ x) h
  rw [← Nat.xor_assoc, Nat.xor_self, Nat.zero_xor] at h2
  exact absurd h2 (by decide)
/-- the stack, its top first -/
def step (st : List Nat) (c : Nat) : List Nat := match st with
  | [] => [c]
  | t :: r => if t = inv c then r else c :: t :: r
def stk (st l : List Nat) : List Nat := l.foldl step st
def red (l : List Nat) : List Nat := (stk [] l).reverse
/-- no sign stands beside its other one -/
def Plain : List Nat → Prop
  | [] => True
  | [_] => True
  | a :: b :: r => b ≠ inv a ∧ Plain (b :: r)
theorem Plain.tail {a : Nat} {l : List Nat} (h : Plain (a :: l)) : Plain l := by
  cases l with
  | nil => trivial
  | cons b r => exact h.2
theorem ne_inv {a b : Nat} (h : b ≠ inv a) : a ≠ inv b := fun e => h (by rw [e, inv_inv])
theorem step_plain {st : List Nat} (h : Plain st) (c : Nat) : Plain (step st c) := by
  unfold step
  split
  · trivial
  · rename_i t r
    split
    · exact h.tail
    · rename_i n
      exact ⟨n, h⟩
theorem stk_plain : ∀ (l : List Nat) {st : List Nat}, Plain st → Plain (stk st l)
  | [], _, h => h
  | c :: l, _, h => stk_plain l (step_plain h c)
theorem step_back {st : List Nat} (h : Plain st) (c : Nat) : step (step st c) (inv c) = st := by
  unfold step
  cases st with
  | nil => simp [inv_inv]
  | cons t r =>
    dsimp only
    by_cases e : t = inv c
    · rw [if_pos e]
      cases r with
      | nil => simp [e]
      | cons u r =>
        dsimp only
        have : u ≠ inv t := h.1
        rw [if_neg (by rw [inv_inv]; rw [e, inv_inv] at this; exact this), e]
    · rw [if_neg e]
      dsimp only
      rw [if_pos (inv_inv c).symm]
theorem stk_append (st u v : List Nat) : stk st (u ++ v) = stk (stk st u) v := List.foldl_append
/-- two signs that undo one another may go -/
theorem red_pair (u v : List Nat) (c : Nat) : red (u ++ c :: inv c :: v) = red (u ++ v) := by
  unfold red
  rw [stk_append, stk_append]
  show (stk (step (step (stk [] u) c) (inv c)) v).reverse = _
  rw [step_back (stk_plain (st := []) u (show Plain [] from trivial))]
theorem plain_rev_cons {a : Nat} : ∀ {l : List Nat}, Plain (l ++ [a]) → Plain l
  | [], _ => trivial
  | [b], _ => trivial
  | b :: c :: r, h => ⟨h.1, plain_rev_cons (l := c :: r) h.2⟩
theorem plain_snoc {b a : Nat} : ∀ {l : List Nat}, Plain (l ++ [b, a]) → a ≠ inv b
  | [], h => h.1
  | [c], h => h.2.1
  | c :: d :: r, h => plain_snoc (l := d :: r) h.2
theorem plain_add {b a : Nat} (hn : a ≠ inv b) : ∀ {l : List Nat}, Plain (l ++ [b]) → Plain (l ++ [b, a])
  | [], _ => ⟨hn, trivial⟩
  | [c], h => ⟨h.1, hn, trivial⟩
  | c :: d :: r, h => ⟨h.1, plain_add hn (l := d :: r) h.2⟩
theorem plain_reverse : ∀ {l : List Nat}, Plain l → Plain l.reverse
  | [], _ => trivial
  | [a], _ => trivial
  | a :: b :: r, h => by
    have ih := plain_reverse (l := b :: r) h.2
    rw [List.reverse_cons, List.reverse_cons, List.append_assoc]
    rw [List.reverse_cons] at ih
    exact plain_add (ne_inv h.1) ih
theorem red_plain (l : List Nat) : Plain (red l) := plain_reverse (stk_plain (st := []) l (show Plain [] from trivial))
theorem stk_of_plain : ∀ (l : List Nat) (st : List Nat), Plain (st.reverse ++ l) → stk st l = l.reverse ++ st
  | [], _, _ => rfl
  | c :: l, st, h => by
    have e : step st c = c :: st := by
      unfold step
      cases st with
      | nil => rfl
      | cons t r =>
        have h2 : Plain (r.reverse ++ [t, c] ++ l) := by
          rw [List.reverse_cons] at h
          simpa using h
        have h3 : ∀ {x l : List Nat}, Plain (x ++ l) → Plain x := fun {x l} hh => by
          induction l generalizing x with
          | nil => simpa using hh
          | cons y l ih => exact plain_rev_cons (ih (x := x ++ [y]) (by simpa using hh))
        have h4 := plain_snoc (h3 h2)
        dsimp only
        rw [if_neg (ne_inv h4)]
    show stk (step st c) l = _
    rw [e, stk_of_plain l (c :: st) (by simpa using h)]
    simp
theorem red_of_plain {l : List Nat} (h : Plain l) : red l = l := by
  unfold red
  rw [stk_of_plain l [] (by simpa using h)]
  simp
theorem red_red (l : List Nat) : red (red l) = red l := red_of_plain (red_plain l)
/-- what is reached by taking pairs away -/
theorem red_left (u v : List Nat) : red (red u ++ v) = red (u ++ v) := by
  have h : stk [] (red u) = stk [] u := by
    rw [stk_of_plain (red u) [] (by simpa using red_plain u)]
    unfold red
    simp
  unfold red at h ⊢
  rw [stk_append, stk_append, h]
/-- the word undone -/
def opp (l : List Nat) : List Nat := (l.map inv).reverse
theorem opp_opp (l : List Nat) : opp (opp l) = l := by
  unfold opp
  rw [List.map_reverse, List.reverse_reverse, List.map_map]
  have : (inv ∘ inv) = id := by funext x; exact inv_inv x
  rw [this, List.map_id]
theorem opp_append (u v : List Nat) : opp (u ++ v) = opp v ++ opp u := by
  unfold opp
  rw [List.map_append, List.reverse_append]
theorem red_mid : ∀ (l u v : List Nat), red (u ++ (l ++ opp l) ++ v) = red (u ++ v)
  | [], u, v => by simp [opp]
  | c :: l, u, v => by
    have e : u ++ (c :: l ++ opp (c :: l)) ++ v = (u ++ [c]) ++ (l ++ opp l) ++ (inv c :: v) := by
      simp [opp]
    rw [e, red_mid l (u ++ [c]) (inv c :: v)]
    have e2 : u ++ [c] ++ inv c :: v = u ++ c :: inv c :: v := by simp
    rw [e2, red_pair]
theorem red_undo (l : List Nat) : red (l ++ opp l) = [] := by
  have h := red_mid l [] []
  simpa [red, stk] using h
theorem red_undo2 (l : List Nat) : red (opp l ++ l) = [] := by
  have h := red_undo (opp l)
  rw [opp_opp] at h
  exact h
theorem plain_opp {l : List Nat} (h : Plain l) : Plain (opp l) := by
  unfold opp
  apply plain_reverse
  induction l with
  | nil => trivial
  | cons a l ih =>
    cases l with
    | nil => trivial
    | cons b r =>
      refine ⟨fun e => h.1 ?_, ih h.2⟩
      rw [← inv_inv b, e, inv_inv]
/-! taking away all of one pair, from the left -/
def cut (c : Nat) : List Nat → List Nat
  | [] => []
  | [a] => [a]
  | a :: b :: r => if a = c ∧ b = inv c then cut c r else a :: cut c (b :: r)
theorem cut_len (c : Nat) : ∀ l : List Nat, (cut c l).length ≤ l.length
  | [] => Nat.le_refl _
  | [a] => Nat.le_refl _
  | a :: b :: r => by
    unfold cut
    split
    · exact Nat.le_trans (cut_len c r) (by simp only [List.length_cons]; omega)
    · exact Nat.succ_le_succ (cut_len c (b :: r))
/-- no such pair stands there -/
def NoP (c : Nat) : List Nat → Prop
  | [] => True
  | [_] => True
  | a :: b :: r => ¬ (a = c ∧ b = inv c) ∧ NoP c (b :: r)
theorem cut_same (c : Nat) : ∀ l : List Nat, (cut c l).length = l.length → cut c l = l ∧ NoP c l
  | [], _ => ⟨rfl, trivial⟩
  | [a], _ => ⟨rfl, trivial⟩
  | a :: b :: r, h => by
    unfold cut at h ⊢
    by_cases e : a = c ∧ b = inv c
    · rw [if_pos e] at h
      have := cut_len c r
      simp only [List.length_cons] at h
      omega
    · rw [if_neg e] at h ⊢
      obtain ⟨h1, h2⟩ := cut_same c (b :: r) (by simpa using h)
      exact ⟨by rw [h1], e, h2⟩
theorem stk_cut (c : Nat) : ∀ (l st : List Nat), Plain st → stk st (cut c l) = stk st l
  | [], _, _ => rfl
  | [a], _, _ => rfl
  | a :: b :: r, st, h => by
    unfold cut
    by_cases e : a = c ∧ b = inv c
    · rw [if_pos e, stk_cut c r st h]
      obtain ⟨rfl, rfl⟩ := e
      show _ = stk (step (step st a) (inv a)) r
      rw [step_back h]
    · rw [if_neg e]
      exact stk_cut c (b :: r) (step st a) (step_plain h a)
theorem red_cut (c : Nat) (l : List Nat) : red (cut c l) = red l := by
  unfold red
  rw [stk_cut c l [] (show Plain [] from trivial)]
theorem mem_cut (c : Nat) : ∀ (l : List Nat) (x : Nat), x ∈ cut c l → x ∈ l
  | [], _, h => h
  | [a], _, h => h
  | a :: b :: r, x, h => by
    unfold cut at h
    split at h
    · exact List.mem_cons_of_mem _ (List.mem_cons_of_mem _ (mem_cut c r x h))
    · rcases List.mem_cons.mp h with h | h
      · exact h ▸ List.mem_cons_self
      · exact List.mem_cons_of_mem _ (mem_cut c (b :: r) x h)
theorem plain_of_nop {cs : List Nat} : ∀ {l : List Nat}, (∀ c ∈ cs, NoP c l) → (∀ x ∈ l, x ∈ cs) → Plain l
  | [], _, _ => trivial
  | [_], _, _ => trivial
  | a :: b :: r, h, m => by
    refine ⟨fun e => (h a (m a List.mem_cons_self)).1 ⟨rfl, e⟩, plain_of_nop (fun c hc => (h c hc).2) fun x hx => m x (List.mem_cons_of_mem _ hx)⟩
theorem mem_stk : ∀ (l st : List Nat) (x : Nat), x ∈ stk st l → x ∈ st ∨ x ∈ l
  | [], st, x, h => .inl h
  | c :: l, st, x, h => by
    rcases mem_stk l (step st c) x h with h | h
    · unfold step at h
      split at h
      · exact .inr (by rw [List.mem_singleton.mp h]; exact List.mem_cons_self)
      · split at h
        · exact .inl (List.mem_cons_of_mem _ h)
        · rcases List.mem_cons.mp h with h | h
          · exact .inr (h ▸ List.mem_cons_self)
          · exact .inl h
    · exact .inr (List.mem_cons_of_mem _ h)
theorem mem_red {l : List Nat} {x : Nat} (h : x ∈ red l) : x ∈ l := by
  unfold red at h
  rcases mem_stk l [] x (List.mem_reverse.mp h) with h | h
  · cases h
  · exact h
theorem len_stk : ∀ (l st : List Nat), (stk st l).length ≤ st.length + l.length
  | [], st => Nat.le_refl _
  | c :: l, st => by
    refine Nat.le_trans (len_stk l (step st c)) ?_
    have : (step st c).length ≤ st.length + 1 := by
      unfold step
      split
      · simp
      · split <;> simp only [List.length_cons] <;> omega
    simp only [List.length_cons]
    omega
theorem len_red (l : List Nat) : (red l).length ≤ l.length := by
  unfold red
  rw [List.length_reverse]
  simpa using len_stk l []
/-- pushing on a stack: what a word says is enough -/
theorem stk_red (l : List Nat) : ∀ st, Plain st → stk st (red l) = stk st l := by
  -- by the word's length, sign by sign from the left: the stack of the first signs, read again
  have key : ∀ (l s st : List Nat), Plain st → Plain s → stk st ((stk s l).reverse) = stk (stk st s.reverse) l := by
    intro l
    induction l with
    | nil => intro s st _ _; rfl
    | cons c l ih =>
      intro s st hst hs
      show stk st ((stk (step s c) l).reverse) = stk (step (stk st s.reverse) c) l
      rw [ih (step s c) st hst (step_plain hs c)]
      congr 1
      cases s with
      | nil => rfl
      | cons t r =>
        unfold step
        dsimp only
        by_cases e : t = inv c
        · rw [if_pos e, List.reverse_cons, stk_append]
          show stk st r.reverse = step (step (stk st r.reverse) t) c
          have hc : c = inv t := by rw [e, inv_inv]
          rw [hc, step_back (stk_plain r.reverse hst)]
        · rw [if_neg e, List.reverse_cons, stk_append]
          rfl
  intro st hst
  have h := key l [] st hst (show Plain [] from trivial)
  exact h
/-- the opposite of what a word says -/
theorem red_opp (l : List Nat) : red (opp l) = opp (red l) := by
  -- opp l · l and opp (red l) · l say nothing; so both say the same
  have h1 : red (opp (red l) ++ l) = [] := by
    have : red (opp (red l) ++ l) = red (opp (red l) ++ red l) := by
      have e : ∀ u, red (u ++ red l) = red (u ++ l) := fun u => by
        have a1 : red (red (u ++ l)) = red (u ++ l) := red_red _
        have a2 : red (red u ++ l) = red (u ++ l) := red_left u l
        have a3 : stk (stk [] u) (red l) = stk (stk [] u) l := by
          -- the right part may be shortened under any stack
          have gen : ∀ (l st : List Nat), Plain st → stk st (red l) = stk st l := fun l => by
            intro st hst
            exact stk_red l st hst
          exact gen l _ (stk_plain u (show Plain [] from trivial))
        unfold red at a3 ⊢
        rw [stk_append, stk_append, a3]
      rw [e]
    rw [this, red_undo2]
  have h2 : red (opp (red l) ++ (l ++ opp l)) = red (opp (red l)) := by
    have := red_mid l (opp (red l)) []
    simpa using this
  have h3 : red (red (opp (red l) ++ l) ++ opp l) = red (opp (red l) ++ l ++ opp l) := red_left _ _
  rw [h1, List.nil_append] at h3
  rw [h3, List.append_assoc, h2]
  exact red_of_plain (plain_opp (red_plain l))
end MW

namespace MW
open PySem PySem.Spec PyProof.Rows L2 G1
/-- the twelve signs -/
abbrev sgs : List Nat := [97, 65, 98, 66, 99, 67, 100, 68, 101, 69, 102, 70]
/-- the text of these code points -/
abbrev W (l : List Nat) : Str := ⟨l.toArray⟩
theorem W_eta (x : Str) : W x.cps.toList = x := by
  cases x
  simp [W]
theorem W_inj {a b : List Nat} (h : W a = W b) : a = b := by
  have := congrArg (fun s : Str => s.cps.toList) h
  simpa using this
theorem W_len (l : List Nat) : (W l).length = l.length := by
  show (W l).cps.size = _
  simp
theorem W_list (l : List Nat) : (W l).cps.toList = l := by simp
/-- a text of signs -/
def Sg (l : List Nat) : Prop := ∀ c ∈ l, c ∈ sgs
theorem Sg.append {a b : List Nat} (h : Sg a) (k : Sg b) : Sg (a ++ b) := fun c hc => (List.mem_append.mp hc).elim (h c) (k c)
theorem swap_sign : ∀ c ∈ sgs, c ≠ 931 ∧ (if Unicode.isUpper c = true then Unicode.lowerOf c else if Unicode.isLower c = true then Unicode.upperOf c else [c]) = [inv c] := by decide +kernel
theorem inv_sgs : ∀ c ∈ sgs, inv c ∈ sgs := by decide +kernel
theorem Sg.inv {l : List Nat} (h : Sg l) : Sg (l.map inv) := by
  intro c hc
  obtain ⟨d, hd, rfl⟩ := List.mem_map.mp hc
  exact inv_sgs d (h d hd)
theorem Sg.rev {l : List Nat} (h : Sg l) : Sg l.reverse := fun c hc => h c (List.mem_reverse.mp hc)
theorem Sg.opp {l : List Nat} (h : Sg l) : Sg (opp l) := h.inv.rev
theorem Sg.red {l : List Nat} (h : Sg l) : Sg (red l) := fun c hc => h c (mem_red hc)
theorem swap_W {l : List Nat} (h : Sg l) : Txt.swapcase (W l) = W (l.map inv) := by
  unfold Txt.swapcase
  rw [placed_single (W l) _ inv]
  · simp [W]
  · intro i c e
    rw [W_list] at e
    have hc := h c (List.mem_of_getElem? e)
    obtain ⟨n, k⟩ := swap_sign c hc
    rw [← k]
    have e2 : (W l).cps[i]? = some c := by simpa [W] using e
    unfold Unicode.lowerAt
    rw [e2]
    have : (c == 931) = false := by simpa using n
    simp [this]
theorem swap_one {c : Nat} (h : c ∈ sgs) : Txt.swapcase ⟨#[c]⟩ = ⟨#[inv c]⟩ := swap_W (l := [c]) fun d hd => by
  rw [List.mem_singleton.mp hd]
  exact h
theorem rev_W (l : List Nat) : revS (W l) = W l.reverse := by
  unfold revS
  rw [W_list]
theorem cat_W (a b : List Nat) : W a ++ W b = W (a ++ b) := by
  show (⟨(W a).cps ++ (W b).cps⟩ : Str) = _
  simp [W]
theorem cut_W (l : List Nat) (lo hi : Option Int) : cutS (W l) lo hi = W (List.take (HT.sIx l.length l.length hi - HT.sIx l.length 0 lo) (List.drop (HT.sIx l.length 0 lo) l)) := by
  unfold cutS
  rw [W_len, W_list]
/-- texts, one behind the other -/
theorem glued_W : ∀ (ys : List (List Nat)) (a : List Nat), (List.foldl (fun acc p => acc ++ (⟨#[]⟩ : Str).cps ++ p.cps) a.toArray (ys.map W)) = (a ++ ys.flatten).toArray
  | [], a => by simp
  | y :: ys, a => by
    rw [List.map_cons, List.foldl_cons]
    have : a.toArray ++ (⟨#[]⟩ : Str).cps ++ (W y).cps = (a ++ y).toArray := by simp [W]
    rw [this, glued_W ys (a ++ y)]
    simp
theorem join_W (ys : List (List Nat)) : Txt.join ⟨#[]⟩ (ys.map W) = W ys.flatten := by
  show Builtin.Str.glued _ _ = _
  unfold Builtin.Str.glued
  cases ys with
  | nil => rfl
  | cons y ys =>
    rw [List.map_cons, List.headD_cons, List.drop_succ_cons, List.drop_zero]
    have := glued_W ys y
    simp only [W, List.flatten_cons] at this ⊢
    rw [this]
theorem len_W (ys : List (List Nat)) : ((ys.map W).map (·.length)).sum = ys.flatten.length := by
  induction ys with
  | nil => rfl
  | cons y ys ih =>
    rw [List.map_cons, List.map_cons, List.sum_cons, ih, W_len, List.flatten_cons, List.length_append]
theorem tw_all {p : Nat → Bool} : ∀ {l : List Nat}, (∀ c ∈ l, p c = true) → List.takeWhile p l = l
  | [], _ => rfl
  | a :: l, h => by
    rw [List.takeWhile_cons, h a List.mem_cons_self, if_pos rfl, tw_all fun c hc => h c (List.mem_cons_of_mem _ hc)]
theorem tw_mem {p : Nat → Bool} : ∀ {l : List Nat} {c : Nat}, c ∈ List.takeWhile p l → p c = true
  | [], _, h => nomatch h
  | a :: l, c, h => by
    rw [List.takeWhile_cons] at h
    by_cases e : p a = true
    · rw [if_pos e] at h
      rcases List.mem_cons.mp h with h | h
      · rw [h]; exact e
      · exact tw_mem h
    · rw [if_neg e] at h
      exact nomatch h
theorem dw_nil {p : Nat → Bool} : ∀ {l : List Nat}, List.dropWhile p l = [] → ∀ c ∈ l, p c = true
  | [], _, _, h => nomatch h
  | a :: l, e, c, h => by
    rw [List.dropWhile_cons] at e
    by_cases k : p a = true
    · rw [if_pos k] at e
      rcases List.mem_cons.mp h with h | h
      · rw [h]; exact k
      · exact dw_nil e c h
    · rw [if_neg k] at e
      cases e
/-- nothing is left when signs are stripped exactly if there are no others -/
theorem strip_W (l s : List Nat) : (Txt.stripChars (W l) (W s) = ⟨#[]⟩) ↔ ∀ c ∈ l, c ∈ s := by
  unfold Txt.stripChars
  rw [stripBy_eq]
  have hg : ∀ c, (W s).cps.contains c = true ↔ c ∈ s := fun c => by simp [W]
  generalize (W s).cps.contains = goes at hg
  unfold stripLo stripHi Builtin.Str.strSub
  simp only [if_true, W_list, W_len]
  constructor
  · intro h c hc
    have h2 := congrArg (fun s : Str => s.cps.toList) h
    simp only [W, List.extract_toArray, List.extract_eq_drop_take] at h2
    have h3 : List.take (l.length - (List.takeWhile goes (List.drop (List.takeWhile goes l).length l).reverse).length - (List.takeWhile goes l).length) (List.drop (List.takeWhile goes l).length l) = [] := h2
    have dr : List.drop (List.takeWhile goes l).length l = List.dropWhile goes l := by
      have e := List.takeWhile_append_dropWhile (p := goes) (l := l)
      have e2 : List.drop (List.takeWhile goes l).length (List.takeWhile goes l ++ List.dropWhile goes l) = List.dropWhile goes l := List.drop_left
      rw [e] at e2
      exact e2
    rw [dr] at h3
    -- a sign that doesn't go stands ahead in what is dropped
    cases q : List.dropWhile goes l with
    | nil =>
      have := dw_nil q c hc
      exact (hg c).mp this
    | cons d r =>
      exfalso
      have hd : goes d = false := by
        have := List.head?_dropWhile_not (p := goes) (l := l)
        rw [q] at this
        simpa using this
      rw [q] at h3
      have hlen := congrArg List.length (List.takeWhile_append_dropWhile (p := goes) (l := l))
      rw [List.length_append, q, List.length_cons] at hlen
      have htw : (List.takeWhile goes (d :: r).reverse).length ≤ r.length := by
        rw [List.reverse_cons]
        rcases Nat.lt_or_ge r.length (List.takeWhile goes (r.reverse ++ [d])).length with h5 | h5
        · exfalso
          have h6 : (List.takeWhile goes (r.reverse ++ [d])) = r.reverse ++ [d] := by
            have pre := List.takeWhile_prefix goes (l := r.reverse ++ [d])
            apply pre.eq_of_length_le
            simp only [List.length_append, List.length_reverse, List.length_singleton]
            omega
          have : d ∈ List.takeWhile goes (r.reverse ++ [d]) := by rw [h6]; simp
          have := tw_mem this
          rw [hd] at this
          cases this
        · exact h5
      have h7 := congrArg List.length h3
      rw [List.length_take, List.length_cons, List.length_nil] at h7
      omega
  · intro h
    have all : List.takeWhile goes l = l := by
      exact tw_all fun c hc => (hg c).mpr (h c hc)
    rw [all]
    simp
end MW

namespace G1
open PySem PySem.Spec PyProof.Rows L2
/-! defs of two that may raise, called by place or by both names the other way about -/
def OkX2 (P : Program) (w : World) (K : PySem.W.Frag) (mg : Str → Option Value) (base : Heap) (k : Nat) (x p1 p2 : Str) (sp : Sp) : Prop :=
  ∃ f fd, FnOk P w K mg base (L2.CX P w) k f fd [p1, p2] sp ∧ mg x = some (.ref f) ∧ PySem.W.keepIn K (.ref f) = true ∧ L2.Binds K fd [p1, p2] [] ∧ ∀ (s : Shared) (u1 u2 : Value), BindsTo s fd ⟨[], [(p2, u1), (p1, u2)]⟩ [(p1, u2), (p2, u1)]
theorem OkX2.okX {P : Program} {w : World} {K : PySem.W.Frag} {mg : Str → Option Value} {base : Heap} {k : Nat} {x p1 p2 : Str} {sp : Sp} (h : OkX2 P w K mg base k x p1 p2 sp) : OkX P w K mg base k x [p1, p2] sp :=
  let ⟨f, fd, h1, h2, h3, h4, _⟩ := h
  ⟨f, fd, h1, h2, h3, h4⟩
theorem okx2 {P : Program} {w : World} {K : PySem.W.Frag} {mg : Str → Option Value} {base : Heap} {x p1 p2 : Str} {st : Stmt} {k : Nat} {sp : Sp} (S : Src K mg x st) (F : ∀ f fd, Fun K x x st f fd → FnOk P w K mg base (L2.CX P w) k f fd [p1, p2] sp)
    (h : ∀ (kV doc pm : Value) (an : Option Addr) (cdv ct : Value) (us : List Value), us.length = [p1, p2].length → bindArgs (PySem.W.fnOf x x (defArgs st) (defBody st) (defScope st) .none kV doc pm an cdv ct) ⟨us, []⟩ = pure ([p1, p2].zip us))
    (h2 : ∀ (kV doc pm : Value) (an : Option Addr) (cdv ct u1 u2 : Value), bindArgs (PySem.W.fnOf x x (defArgs st) (defBody st) (defScope st) .none kV doc pm an cdv ct) ⟨[], [(p2, u1), (p1, u2)]⟩ = pure [(p1, u2), (p2, u1)]) : OkX2 P w K mg base k x p1 p2 sp := by
  obtain ⟨f, fd, F1, g⟩ := S
  refine ⟨f, fd, F f fd F1, g, F1.kp, F1.binds h, ?_⟩
  obtain ⟨oc, od, kV, doc, pm, an, cdv, ct, osl, rfl, lk, hcd⟩ := F1.ex
  intro s u1 u2 M A E Q q
  rw [h2 kV doc pm an cdv ct u1 u2]
  exact wpAny_pure q
section
variable {X : Cx} {k j : Nat} {x p1 p2 : Str} {ps : List Str} {sp : Sp} {p pos : Pos} {e : Expr} {es : List Expr} {t : TA}
theorem passC : ∀ {P : Program} {w : World}, Passes (L2.CX P w) X (fun _ _ _ => False) := by
  rintro P w pins σ H s e s' I ⟨a, B, H', cls, d, h⟩
  exact h.2.2.2.2.2.2.2.elim
/-- a call of a def that may raise, where it doesn't -/
theorem pe_callC (C : OkX X.prog X.w X.K X.mg X.base k x ps sp) (hr : Room k X.A) (hg : Gl X x) (ha : PA X (e :: es) t)
    (hdb : (x == ("__debug__" : Str)) = false := by decide) (he : starEach (e :: es) X.env = (false, eval e X.env) :: starEach es X.env := by rfl) (hpl : (backTo pos (starEach es X.env)).any (·.1) = false := by rfl) :
    PE X (.Call (.Name x p) (e :: es) [] pos) (tCallO sp t) := by
  obtain ⟨f, fd, F, hm, hk, hb⟩ := C
  have z := pe_call (dvs := []) (E := fun _ _ _ => False) (p := p) F hr hg hm hk hb .nil passC ha hdb he hpl
  refine ⟨fun pins s σ H Q I h => z.run pins s σ H Q I ?_⟩
  have e : (fun (vs : List V) H1 => sp (vs ++ []) H1 Q (fun _ _ _ => False)) = fun vs H1 => sp vs H1 Q (fun _ _ _ => False) := by
    funext vs H1
    rw [List.append_nil]
  show t σ H (fun vs H1 => sp (vs ++ []) H1 Q (fun _ _ _ => False))
  rw [e]
  exact h
/-- by both names, the second one first -/
def tCallK2 (sp : Sp) (tk : TA) : TE := fun σ H Q => tk σ H fun zs H1 => ∃ v1 v2, zs = [v2, v1] ∧ sp [v1, v2] H1 Q (fun _ _ _ => False)
theorem pe_callK2 {kws : List Keyword} {tk : TA} (C : OkX2 X.prog X.w X.K X.mg X.base k x p1 p2 sp) (hr : Room k X.A) (hg : Gl X x) (hkw : PK X kws tk)
    (hks : (backToKw pos (keywordEach kws X.env)).filterMap (·.1) = [p2, p1] := by rfl) (hall : (backToKw pos (keywordEach kws X.env)).all (·.1.isSome) = true := by rfl) (hdb : (x == ("__debug__" : Str)) = false := by decide)
    (hpl : ((backTo pos (starEach [] X.env)).any (·.1) || (backToKw pos (keywordEach kws X.env)).any (·.1.isNone)) = false := by rfl) :
    PE X (.Call (.Name x p) [] kws pos) (tCallK2 sp tk) := by
  obtain ⟨f, fd, F, hm, hk, hb, hb2⟩ := C
  constructor
  intro pins s σ H Q I h
  apply wpAny_Call_Name_kw (ld_glob I hg hm ?_ hdb)
  apply PySem.W.callWith_KW0 (h₀ := X.base) I.ok.mod.kin hk hall ?_ hpl
  apply thn (hkw.run pos pins s σ H _ I h)
  rintro ws s2 ⟨zs, H2, I2, rz, v1, v2, rfl, q⟩
  refine ⟨I2.kIn, ?_⟩
  rw [hks]
  obtain ⟨w2, w1, rfl, r2, r1⟩ := vals2 rz
  show wpAny (model X.prog X.w) X.A (call (.ref f) [] [(p2, w2), (p1, w1)]) (EP X pins σ Q) X.xe s2
  apply wpAny_call (codeAny_mono (F.run X.A X.stack s2 H2 ⟨[], [(p2, w2), (p1, w1)]⟩ [w1, w2] _ Q _ hr I2.env0 (hb2 s2 w2 w1) (.cons r1 (.cons r2 .nil)) q) ?_)
  rintro (er | (_ | _ | _ | u)) s' z
  · exact passC pins σ H2 s2 er s' I2 z
  · exact z.elim
  · exact z.elim
  · exact z.elim
  · exact I2.after z
end
/-! values of the built-in kinds -/
inductive Any (H : Hp) : V → String → Prop
  | non : Any H .non "NoneType"
  | bl (b : Bool) : Any H (.bl b) "bool"
  | int (i : Int) : Any H (.int i) "int"
  | str (x : Str) : Any H (.str x) "str"
  | lst {a : Addr} {xs : List V} (h : H a = some (.lst xs)) : Any H (.ref a) "list"
  | tup {a : Addr} {xs : List V} (h : H a = some (.tup xs)) : Any H (.ref a) "tuple"
  | dic {a : Addr} {kvs : List (Key × V)} (h : H a = some (.dK kvs)) : Any H (.ref a) "dict"
theorem Any.ty {K : PySem.W.Frag} {H : Hp} {v : V} {t : String} (h : Any H v t) : TyX K H v (.type t) := by
  cases h with
  | non => exact .base .non
  | bl b => exact .base (.bl b)
  | int i => exact .base (.int i)
  | str x => exact .base (.str x)
  | lst h => exact .base (.lst h)
  | tup h => exact .base (.tup h)
  | dic h => exact .base (.dK h)
theorem Any.same {H H' : Hp} (s : Same H H') {v : V} {t : String} (h : Any H v t) : Any H' v t := by
  cases h with
  | non => exact .non
  | bl b => exact .bl b
  | int i => exact .int i
  | str x => exact .str x
  | lst h => exact .lst (s _ _ h)
  | tup h => exact .tup (s _ _ h)
  | dic h => exact .dic (s _ _ h)
theorem Any.mem {H : Hp} {v : V} {t : String} (h : Any H v t) : t ∈ ["NoneType", "bool", "int", "str", "list", "tuple", "dict"] := by
  cases h <;> decide
/-- what isinstance tells of such a value -/
theorem Any.kit {K : PySem.W.Frag} {H : Hp} {v : V} {t : String} (h : Any H v t) : 
    PySem.W.kitOne K (.type t) (.type "int") = some (decide (t = "int" ∨ t = "bool")) ∧ PySem.W.kitOne K (.type t) (.type "bool") = some (decide (t = "bool")) ∧
    PySem.W.kitOne K (.type t) (.type "str") = some (decide (t = "str")) ∧ PySem.W.kitOne K (.type t) (.type "list") = some (decide (t = "list")) := by
  have m := h.mem
  simp only [List.mem_cons, List.not_mem_nil, or_false] at m
  rcases m with rfl | rfl | rfl | rfl | rfl | rfl | rfl <;> exact ⟨kit_ty (by decide +kernel), kit_ty (by decide +kernel), kit_ty (by decide +kernel), kit_ty (by decide +kernel)⟩
/-- what isinstance tells -/
def isT (t c : String) : Bool := decide (t = c) || (decide (t = "bool") && decide (c = "int"))
theorem isT_kit {K : PySem.W.Frag} {H : Hp} {v : V} {t c : String} (h : Any H v t) (hc : c ∈ ["int", "bool", "str", "list"]) : PySem.W.kitOne K (.type t) (.type c) = some (isT t c) := by
  have m := h.mem
  simp only [List.mem_cons, List.not_mem_nil, or_false] at m hc
  rcases hc with rfl | rfl | rfl | rfl <;> rcases m with rfl | rfl | rfl | rfl | rfl | rfl | rfl <;> exact kit_ty (by decide +kernel)
def rIsV : List V → Hp → VK → Prop := fun xs H Q => ∃ v c, xs = [v, .ty c] ∧ c ∈ ["int", "bool", "str", "list"] ∧ ∃ t, Any H v t ∧ Q (.bl (isT t c)) H
theorem mk_int : (("int" : String) ∈ ["int", "bool", "str", "list"]) = True := by simp
theorem mk_bool : (("bool" : String) ∈ ["int", "bool", "str", "list"]) = True := by simp
theorem mk_str : (("str" : String) ∈ ["int", "bool", "str", "list"]) = True := by simp
theorem mk_list : (("list" : String) ∈ ["int", "bool", "str", "list"]) = True := by simp
theorem call_isV {X : Cx} : CallR X (.builtin "isinstance") rIsV := by
  rintro pins s σ H xs us Q I r ⟨v, c, rfl, hc, t, hv, q⟩
  exact call_isi pins s σ H _ us Q I r ⟨v, .ty c, _, _, _, rfl, .ty c, hv.ty, isT_kit hv hc, q⟩
theorem loop_str {x : Str} {g : TG} {tb : TS} {D : Ends} {σ : L2.St} {H : Hp} (Pv : Nat → L2.St → Hp → Prop) (h0 : Pv 0 σ H)
    (hs : ∀ i c σ H, x.cps[i]? = some c → Pv i σ H → g (.str ⟨#[c]⟩) σ H fun σ2 H2 => tb { D with nx := Pv (i + 1), ct := Pv (i + 1), bk := D.nx } σ2 H2) (hd : ∀ σ H, Pv x.cps.size σ H → D.nx σ H) : LoopW (Its x) g tb D σ H := by
  refine ⟨fun i m σ H => i + m = x.cps.size ∧ Pv i σ H, ⟨x.cps.size, Nat.zero_add _, h0⟩, ?_⟩
  rintro i m σ H ⟨e, p⟩
  cases m with
  | zero =>
    have e' : i = x.cps.size := e
    subst e'
    exact .inl ⟨Nat.le_refl _, hd _ _ p⟩
  | succ m =>
    refine .inr ⟨by show i < x.cps.size; omega, Pv (i + 1), fun σ' H' q => ⟨m, Nat.lt_succ_self m, by omega, q⟩, ?_⟩
    rintro v H' ⟨rfl, c, hc, rfl⟩
    exact hs i c σ _ hc p
theorem comp_str {x : Str} {g : TG} {tt : TT} {te : TE} {vs : List Nat} {σ : L2.St} {H1 : Hp} {Q : VK} (Pv : Addr → Nat → Hp → Prop) (h0 : ∀ D, H1 D = none → Pv D 0 (upd H1 D (.lst [])))
    (hs : ∀ D i c H, H1 D = none → x.cps[i]? = some c → Pv D i H → g (.str ⟨#[c]⟩) (wipe σ vs) H fun σ2 H2 => wipe σ2 vs = wipe σ vs ∧ tt σ2 H2 fun b H3 =>
      if b = true then te σ2 H3 fun y H4 => ∃ acc, H4 D = some (.lst acc) ∧ acc.length < sizeLine ∧ Pv D (i + 1) (upd H4 D (.lst (acc ++ [y]))) else Pv D (i + 1) H3) (hd : ∀ D H, H1 D = none → Pv D x.cps.size H → Q (.ref D) H) : CompW (Its x) g tt te vs σ H1 Q := by
  intro D hD
  refine ⟨fun i m H => i + m = x.cps.size ∧ Pv D i H, ⟨x.cps.size, Nat.zero_add _, h0 D hD⟩, ?_⟩
  rintro i m H ⟨e, p⟩
  cases m with
  | zero =>
    have e' : i = x.cps.size := e
    subst e'
    exact .inl ⟨Nat.le_refl _, hd D _ hD p⟩
  | succ m =>
    refine .inr ⟨by show i < x.cps.size; omega, Pv D (i + 1), fun H' q => ⟨m, Nat.lt_succ_self m, by omega, q⟩, ?_⟩
    rintro v H' ⟨rfl, c, hc, rfl⟩
    exact hs D i c _ hD hc p
end G1

namespace G1
open PySem PySem.Spec PyProof.Rows L2
/-! enumerate of a text -/
def Itx (x : Str) : It :=
  { go := fun i _ => i < x.cps.size
    yld := fun i H v H' => ∃ T c, v = V.ref T ∧ H T = none ∧ H' = upd H T (.tup [.int i, .str ⟨#[c]⟩]) ∧ x.cps[i]? = some c
    stop := fun i _ => x.cps.size ≤ i }
theorem inv_turned {X : Cx} {pins : List (Addr × Obj)} {σ : L2.St} {H : Hp} {s : Shared} {h' : Heap} {t' : Nat} {ch : List Addr} (I : L2.Inv X pins σ H s)
    (k : ∀ b o, b ∉ ch → s.heap.get? b = some o → h'.get? b = some o) (hf : ∀ b ∈ ch, FpOk X pins H b) : L2.Inv X pins σ H { heap := h', gens := s.gens, drawn := s.drawn, toks := t', os := s.os } := by
  have nit : ∀ b u, H b = some u → b ∉ ch := fun b u e hb => by rw [(hf b hb).1] at e; cases e
  refine L2.Inv.step (ch := ch) I (fun b hb => ⟨(hf b hb).2.2.2.1, (hf b hb).2.1, (hf b hb).2.2.2.2.1, (hf b hb).2.2.2.2.2⟩) (fun b o _ _ hc e _ => k b o hc e) (fun b o _ _ hc e _ => ⟨o.slots, k b o hc e⟩) (fun _ _ _ _ n => n) (fun b o hc e => ⟨o, k b o hc e⟩) (fun _ _ e => e) (fun _ _ _ e => e) (fun b ps e => ⟨#[], by rw [e]; simp⟩) ?_ ?_ I.bare
  · rintro m ⟨o, es, ep, ho, r⟩
    exact ⟨o, es, ep, k _ o (fun hb => (hf _ hb).2.1 rfl) ho, r⟩
  · intro b u e
    exact (I.hok b u e).stay (fun c v hc q => k c v (hc.elim (fun z => by rw [z]; exact nit b u e) fun z => nit c _ z) q) (fun _ q => q) fun _ _ q => q
theorem turn_enumS {P : Program} {w : World} {K : PySem.W.Frag} {elts : List Expr} {kk : Nat} {tpos : Pos} (e it : Addr) (x : Str) (t : Tok) (ne : e ≠ it) :
    Turn P w K (.Tuple elts kk tpos) (Itx x) [e, it] e (fun i h => (∃ old, IsEnum h e it (i : Int) old) ∧ h.IsStrIter it (strIterType x) x t i ∧ i ≤ x.cps.size) where
  mem := List.mem_cons_self
  obj := by
    rintro i h ⟨⟨old, h1⟩, ⟨o, h2, h3, h4⟩, _⟩ b hb
    rcases List.mem_cons.mp hb with rfl | hb
    · exact ⟨_, h1, fun v z => nomatch z⟩
    · rw [List.mem_singleton.mp hb]
      exact ⟨_, h2, fun v z => by rw [h4] at z; cases z⟩
  keep := by
    rintro i h h' ⟨⟨old, h1⟩, ⟨o, h2, h3, h4⟩, h5⟩ k
    exact ⟨⟨old, k e List.mem_cons_self _ h1⟩, ⟨o, k it (List.mem_cons_of_mem _ List.mem_cons_self) _ h2, h3, h4⟩, h5⟩
  item := by
    rintro X rfl rfl rfl hc i pins s σ H E I hfp ⟨⟨old, h1⟩, h2, h3⟩ hgo
    have G := GoesN.enumFrom (prog := X.prog) (w := X.w) (A := X.A) (elts := elts) (x1 := kk) (pos := tpos) (it := it) (fp := [it]) 0 (Draws.text (A := X.A.in1) (show X.A.in1.handled = none from I.ok.hd hc) it x t) e ne (by simpa using ne) List.mem_cons_self
    refine wpAny_mono (G.goes i s (fun v s2 => ∃ y H', L2.Inv X pins σ H' s2 ∧ L2.RelV y v ∧ (Itx x).yld i H y H' ∧ ((∃ old, IsEnum s2.heap e it ((i + 1 : Nat) : Int) old) ∧ s2.heap.IsStrIter it (strIterType x) x t (i + 1) ∧ i + 1 ≤ x.cps.size) ∧ ∀ b, b ∈ [e, it] → H' b = none) E hgo ⟨⟨old, by rw [Int.zero_add]; exact h1⟩, h2⟩ ?_) ?_ fun _ _ z => z
    · rintro v h' tk ⟨T, tt, y, rfl, hT, ⟨c, u, hcx, rfl⟩, hTup⟩ ⟨⟨old', h4⟩, h5⟩ keep htk
      have nT : H T = none := I.hok.fresh hT
      have gone : ∀ b, b ∈ [e, it] → H b = none := fun b hb => (hfp b hb).1
      have neT : ∀ b, b ∈ [e, it] → b ≠ T := by
        intro b hb z
        have hlt : ∃ o, s.heap.get? b = some o := by
          rcases List.mem_cons.mp hb with rfl | hb
          · exact ⟨_, h1⟩
          · rw [List.mem_singleton.mp hb]
            exact ⟨_, h2.choose_spec.1⟩
        obtain ⟨o, ho⟩ := hlt
        have := Heap.lt_size ho
        rw [z] at this
        exact absurd this (Nat.not_lt.mpr hT)
      refine ⟨.ref T, upd H T (.tup [.int i, .str ⟨#[c]⟩]), ?_, rfl, ⟨T, c, rfl, nT, rfl, hcx⟩, ⟨⟨old', ?_⟩, h5, hgo⟩, ?_⟩
      · refine I.turnedNew keep hfp hT ?_
        rw [Int.zero_add] at hTup
        exact ⟨by show 2 ≤ sizeLine; decide, [_, _], .cons ⟨tt, rfl⟩ (.cons ⟨u, rfl⟩ .nil), hTup⟩
      · rw [Int.zero_add] at h4
        exact h4
      · intro b hb
        rw [upd_ne (neT b hb)]
        exact gone b hb
    · rintro r s1 ⟨v, rfl, h⟩
      refine ⟨v, rfl, ?_⟩
      exact wpAny_mono h (fun _ s2 z => z) fun _ _ z => z
  done := by
    rintro X rfl rfl rfl hc i pins s σ H E I hfp ⟨⟨old, h1⟩, h2, h3⟩ hst
    have hi : i = x.cps.size := Nat.le_antisymm h3 hst
    have G := GoesN.enumFrom (prog := X.prog) (w := X.w) (A := X.A) (elts := elts) (x1 := kk) (pos := tpos) (it := it) (fp := [it]) 0 (Draws.text (A := X.A.in1) (show X.A.in1.handled = none from I.ok.hd hc) it x t) e ne (by simpa using ne) List.mem_cons_self
    refine G.stops s (fun s1 => L2.Inv X pins σ H s1) E ?_ ?_
    · rw [← hi]
      exact ⟨⟨old, by rw [Int.zero_add]; exact h1⟩, h2⟩
    · intro h' tk keep _
      exact inv_turned I keep hfp
  self := by
    rintro A i s Q E ⟨⟨old, h1⟩, h2⟩ q
    exact wpAny_pyIter_enum h1 q
def iEnumS (te : TE) : TI := fun σ H R => te σ H fun v H1 => ∃ x, v = V.str x ∧ R (Itx x) H1
theorem pi_enumS {X : Cx} {e : Expr} {te : TE} {p pos tpos : Pos} {elts : List Expr} {kk : Nat} (hg : Gl X "enumerate") (hm : X.mg "enumerate" = none) (he : PE X e te) (hs : starEach [e] X.env = [(false, eval e X.env)] := by rfl) :
    PI X (.Tuple elts kk tpos) (.Call (.Name "enumerate" p) [e] [] pos) (iEnumS te) := by
  constructor
  intro pins s σ H R I h
  apply wpAny_Call_Name_kw
  refine ld_blt I hg hm (u := .type "enumerate") (by decide +kernel) ?_
  refine PyProof.Rows.callWith_type1 (PyProof.Rows.spliced_more ?_ hs) hs (by rfl)
  apply thn (he.run pins s σ H _ I h)
  rintro u s1 ⟨v, H1, I1, r, x, rfl, q⟩
  obtain ⟨t, rfl⟩ := r
  apply PyProof.Rows.spliced_none
  refine call_enumerate_str fun h' h1 h2 h3 h4 => ?_
  refine wpAny_pyIter_enum h1 ?_
  have I2 : L2.Inv X pins σ H1 { heap := h', gens := s1.gens, drawn := s1.drawn, toks := s1.toks, os := s1.os } := I1.kept h4
  have ne : s1.heap.objs.size + 1 ≠ s1.heap.objs.size := Nat.succ_ne_self _
  refine ⟨_, [s1.heap.objs.size + 1, s1.heap.objs.size], _, Itx x, H1, rfl, I2, turn_enumS (s1.heap.objs.size + 1) s1.heap.objs.size x t ne, ⟨⟨_, h1⟩, h2, Nat.zero_le _⟩, ?_, q⟩
  intro b hb
  have hle : s1.heap.objs.size ≤ b := by
    rcases List.mem_cons.mp hb with rfl | hb
    · exact Nat.le_succ _
    · rw [List.mem_singleton.mp hb]
      exact Nat.le_refl _
  have f := I1.fpOk hle (I1.hok.fresh hle)
  exact f
theorem comp_enumS {x : Str} {g : TG} {tt : TT} {te : TE} {vs : List Nat} {σ : L2.St} {H1 : Hp} {Q : VK} (Pv : Addr → Nat → Hp → Prop) (h0 : ∀ D, H1 D = none → Pv D 0 (upd H1 D (.lst [])))
    (hs : ∀ D i c H T, H1 D = none → x.cps[i]? = some c → Pv D i H → H T = none → g (.ref T) (wipe σ vs) (upd H T (.tup [.int i, .str ⟨#[c]⟩])) fun σ2 H2 => wipe σ2 vs = wipe σ vs ∧ tt σ2 H2 fun b H3 =>
      if b = true then te σ2 H3 fun y H4 => ∃ acc, H4 D = some (.lst acc) ∧ acc.length < sizeLine ∧ Pv D (i + 1) (upd H4 D (.lst (acc ++ [y]))) else Pv D (i + 1) H3) (hd : ∀ D H, H1 D = none → Pv D x.cps.size H → Q (.ref D) H) : CompW (Itx x) g tt te vs σ H1 Q := by
  intro D hD
  refine ⟨fun i m H => i + m = x.cps.size ∧ Pv D i H, ⟨x.cps.size, Nat.zero_add _, h0 D hD⟩, ?_⟩
  rintro i m H ⟨e, p⟩
  cases m with
  | zero =>
    have e' : i = x.cps.size := e
    subst e'
    exact .inl ⟨Nat.le_refl _, hd D _ hD p⟩
  | succ m =>
    refine .inr ⟨by show i < x.cps.size; omega, Pv D (i + 1), fun H' q => ⟨m, Nat.lt_succ_self m, by omega, q⟩, ?_⟩
    rintro v H' ⟨T, c, rfl, hT, rfl, hc⟩
    exact hs D i c _ T hD hc p hT
end G1

namespace G1
open PySem PySem.Spec PyProof.Rows L2
/-- as fng_of, where nothing is raised -/
theorem fng_ofn {P : Program} {w : World} {K : PySem.W.Frag} {mg : Str → Option Value} {base : Heap} {k : Nat} {f : Addr} {x qual : Str} {st : Stmt} {fd : FuncData} {N ps : List Str} {sp : Sp} (F : Fun K x qual st f fd) (S : FnScope N ps (defScope st))
    (len : ∀ vs H Q E, sp vs H Q E → vs.length = ps.length)
    (hbody : ∀ (cdv : Value) (A : Around) (outer : List Env) (s : Shared) (H : Hp) (vs : List V) (Q : VK) (E : XK), A.guards = some [] → Room k (A.deeper (envOfC qual (defScope st) s.heap.objs.size f cdv)) → sp vs H Q E →
      ∃ t, PSs (cxOf CX0 P w K mg base N qual (defScope st) f cdv A outer s H E).nox (defBody st) t ∧ t { nx := fun _ H' => Q .non H', rt := Q } (start N vs) H) : FnG P w K mg base CX0 (k + 1) f fd ps sp where
  len := len
  run := by
    intro A outer s H args us vs Q E hg hr e0 hb r hsp
    obtain ⟨oc, od, kV, doc, pm, an, cdv, ct, osl, rfl, lk, hcd⟩ := F.ex
    have KX : K.In s.heap := e0.mod.kin.keeps fun b o e => (e0.bs b o e).1
    apply codeAny_call_function hr.depth (KX _ _ lk) rfl S.co S.gen rfl (PySem.W.codeRec_of KX hcd) (hb _ _ _ _ ?_)
    apply wpAny_newFunctionEnv_cells S.kind
    · rintro ⟨n, v⟩ hy
      rcases S.par n (List.of_mem_zip hy).1 with q | q
      · exact Or.inl q
      · exact Or.inr ⟨q, PySem.W.cellsFrom_some _ _ _ (Or.inl q)⟩
    rintro env rfl s1 x
    constructor
    · exact (e0.mod.nolimit.keeps fun b o e => (e0.bs b o e).1).keeps x.toInCall.keep
    apply codeAny_func
    obtain ⟨t, ht, hq⟩ := hbody cdv A outer s H vs Q E hg (hr.deeper _) hsp
    have I0 := inv_start (CX := CX0) (E := E) S hr.hd e0 (len _ _ _ _ hsp) r x
    apply wpAny_mono (ht.run [] s1 (start N vs) H _ (I0.wish _) hq) ?_ (fun _ _ z => False.elim z)
    rintro (_ | _ | _ | u) s' hs
    · exact let ⟨_, H', J, q⟩ := hs; ⟨V.non, H', J.os, J.bare, J.base, J.hok, rfl, q⟩
    · exact let ⟨_, _, _, q⟩ := hs; q.elim
    · exact let ⟨_, _, _, q⟩ := hs; q.elim
    · exact let ⟨v, _, H', J, rv, q⟩ := hs; ⟨v, H', J.os, J.bare, J.base, J.hok, rv, q⟩
theorem cr_maxK {X : Cx} (K : PySem.W.Frag) (hK : X.K = K) (hc : X.calm = true) : CallR X (.builtin "max") (rMax K) := hK ▸ cr_max hc
end G1

namespace G1
open PySem PySem.Spec PyProof.Rows L2
theorem vals3' {x y z : V} {us : List Value} (r : Vals [x, y, z] us) : ∃ u w' t', us = [u, w', t'] ∧ RelV x u ∧ RelV y w' ∧ RelV z t' := by
  cases r with
  | cons h r => cases r with
    | cons h2 r => cases r with
      | cons h3 r => cases r with
        | nil => exact ⟨_, _, _, rfl, h, h2, h3⟩
/-! defs of three that may raise, called by place or by all three names the other way about -/
def OkX3 (P : Program) (w : World) (K : PySem.W.Frag) (mg : Str → Option Value) (base : Heap) (k : Nat) (x p1 p2 p3 : Str) (sp : Sp) : Prop :=
  ∃ f fd, FnOk P w K mg base (L2.CX P w) k f fd [p1, p2, p3] sp ∧ mg x = some (.ref f) ∧ PySem.W.keepIn K (.ref f) = true ∧ L2.Binds K fd [p1, p2, p3] [] ∧ ∀ (s : Shared) (u1 u2 u3 : Value), BindsTo s fd ⟨[], [(p3, u1), (p2, u2), (p1, u3)]⟩ [(p1, u3), (p2, u2), (p3, u1)]
theorem OkX3.okX {P : Program} {w : World} {K : PySem.W.Frag} {mg : Str → Option Value} {base : Heap} {k : Nat} {x p1 p2 p3 : Str} {sp : Sp} (h : OkX3 P w K mg base k x p1 p2 p3 sp) : OkX P w K mg base k x [p1, p2, p3] sp :=
  let ⟨f, fd, h1, h2, h3, h4, _⟩ := h
  ⟨f, fd, h1, h2, h3, h4⟩
theorem okx3 {P : Program} {w : World} {K : PySem.W.Frag} {mg : Str → Option Value} {base : Heap} {x p1 p2 p3 : Str} {st : Stmt} {k : Nat} {sp : Sp} (S : Src K mg x st) (F : ∀ f fd, Fun K x x st f fd → FnOk P w K mg base (L2.CX P w) k f fd [p1, p2, p3] sp)
    (h : ∀ (kV doc pm : Value) (an : Option Addr) (cdv ct : Value) (us : List Value), us.length = [p1, p2, p3].length → bindArgs (PySem.W.fnOf x x (defArgs st) (defBody st) (defScope st) .none kV doc pm an cdv ct) ⟨us, []⟩ = pure ([p1, p2, p3].zip us))
    (h2 : ∀ (kV doc pm : Value) (an : Option Addr) (cdv ct u1 u2 u3 : Value), bindArgs (PySem.W.fnOf x x (defArgs st) (defBody st) (defScope st) .none kV doc pm an cdv ct) ⟨[], [(p3, u1), (p2, u2), (p1, u3)]⟩ = pure [(p1, u3), (p2, u2), (p3, u1)]) : OkX3 P w K mg base k x p1 p2 p3 sp := by
  obtain ⟨f, fd, F1, g⟩ := S
  refine ⟨f, fd, F f fd F1, g, F1.kp, F1.binds h, ?_⟩
  obtain ⟨oc, od, kV, doc, pm, an, cdv, ct, osl, rfl, lk, hcd⟩ := F1.ex
  intro s u1 u2 u3 M A E Q q
  rw [h2 kV doc pm an cdv ct u1 u2 u3]
  exact wpAny_pure q
section
variable {X : Cx} {k : Nat} {x p1 p2 p3 : Str} {sp : Sp} {p pos : Pos}
/-- by all three names, the last one first -/
def tCallK3 (sp : Sp) (tk : TA) : TE := fun σ H Q => tk σ H fun zs H1 => ∃ v1 v2 v3, zs = [v3, v2, v1] ∧ sp [v1, v2, v3] H1 Q (fun _ _ _ => False)
theorem pe_callK3 {kws : List Keyword} {tk : TA} (C : OkX3 X.prog X.w X.K X.mg X.base k x p1 p2 p3 sp) (hr : Room k X.A) (hg : Gl X x) (hkw : PK X kws tk)
    (hks : (backToKw pos (keywordEach kws X.env)).filterMap (·.1) = [p3, p2, p1] := by rfl) (hall : (backToKw pos (keywordEach kws X.env)).all (·.1.isSome) = true := by rfl) (hdb : (x == ("__debug__" : Str)) = false := by decide)
    (hpl : ((backTo pos (starEach [] X.env)).any (·.1) || (backToKw pos (keywordEach kws X.env)).any (·.1.isNone)) = false := by rfl) :
    PE X (.Call (.Name x p) [] kws pos) (tCallK3 sp tk) := by
  obtain ⟨f, fd, F, hm, hk, hb, hb2⟩ := C
  constructor
  intro pins s σ H Q I h
  apply wpAny_Call_Name_kw (ld_glob I hg hm ?_ hdb)
  apply PySem.W.callWith_KW0 (h₀ := X.base) I.ok.mod.kin hk hall ?_ hpl
  apply thn (hkw.run pos pins s σ H _ I h)
  rintro ws s2 ⟨zs, H2, I2, rz, v1, v2, v3, rfl, q⟩
  refine ⟨I2.kIn, ?_⟩
  rw [hks]
  obtain ⟨w3, w2, w1, rfl, r3, r2, r1⟩ := vals3' rz
  show wpAny (model X.prog X.w) X.A (call (.ref f) [] [(p3, w3), (p2, w2), (p1, w1)]) (EP X pins σ Q) X.xe s2
  apply wpAny_call (codeAny_mono (F.run X.A X.stack s2 H2 ⟨[], [(p3, w3), (p2, w2), (p1, w1)]⟩ [w1, w2, w3] _ Q _ hr I2.env0 (hb2 s2 w3 w2 w1) (.cons r1 (.cons r2 (.cons r3 .nil))) q) ?_)
  rintro (er | (_ | _ | _ | u)) s' z
  · exact passC pins σ H2 s2 er s' I2 z
  · exact z.elim
  · exact z.elim
  · exact z.elim
  · exact I2.after z
end
end G1

namespace G1
open PySem PySem.Spec PyProof.Rows L2
namespace MT
theorem entry_mt : entryFor table "str.maketrans" = some Builtin.«str.maketrans» := entryFor_of_tree (by kernel_rfl)
theorem plain_mt : plainId "str.maketrans" = true := by decide +kernel
theorem quiet_mt {as : Args} : (Code.builtin "str.maketrans" as).quiet = true := Code.quiet_builtin _ (by decide +kernel)
theorem cls_mt (K : PySem.W.Frag) : PySem.W.findCls K (.type "str") (.type "type") (Str.ofString "maketrans") = some (.val (.builtin "str.maketrans")) := by kernel_rfl
theorem check_mt (x y : Str) (t u : Tok) : checkBuiltinCall "str.maketrans" ⟨[.str x t, .str y u], []⟩ = pure () := by first | rfl | kernel_rfl
section
variable {prog : Program} {w : World} {A : Around} {E : Value → Shared → Prop} {s : Shared}
/-- str.maketrans is looked up on the type -/
theorem getm {K : PySem.W.Frag} {pl : Sem Bool} {Q : Value × List Value → Shared → Prop} (X : K.In s.heap) (h : Q (.builtin "str.maketrans", []) { s with toks := s.toks + 1 }) :
    wpAny (model prog w) A (getMethod (.type "str") (Str.ofString "maketrans") pl) Q E s := by
  have hstub : opaqueClassAbove (.type "str") = pure none := by unfold opaqueClassAbove; dsimp only; rw [show Manifest.isStub "str" = false by decide +kernel]; all_goals rfl
  have ht : typeOf (.type "str") = pure (.type "type") := by first | rfl | kernel_rfl
  have L0 : PySem.W.Looks (model prog w) s.heap (typeOf (.type "str")) (.type "type") := PySem.W.Looks.of_pure ht
  have hg : PySem.W.findIn K (.type "type") "__getattribute__" = some (some (.builtin "type.__getattribute__")) := PySem.W.type_tga
  unfold getMethod specialOf
  refine wpAny_bind (wpAny_bind (L0.here ((PySem.W.looks_findIn X hg).here ?_)))
  dsimp only
  rw [if_pos PySem.W.canon_tga]
  refine wpAny_bind (wpAny_mono (Q := fun v => Q (v, [])) (E := E) ?_ (fun _ _ z => wpAny_pure z) fun _ _ z => z)
  have LO : PySem.W.Looks (model prog w) s.heap (opaqueClassAbove (.type "str")) none := PySem.W.Looks.of_pure hstub
  refine PySem.W.cls_open X LO L0 hg (PySem.W.looks_hook X (r := none) (by rfl)) (by show PySem.W.subIn K _ _ = _; rfl) (cls_mt K) ?_
  show wpAny _ _ (ret (.builtin "str.maketrans")) _ _ _
  exact wpAny_pure (wpAny_pure h)
/-- what the table holds -/
def mtK (l : List (Nat × Nat)) : List (Key × V) := l.map fun ab => (Sum.inl (ab.1 : Int), V.int (ab.2 : Int))
theorem putK_len (kvs : List (Key × V)) (k : Key) (v : V) : (putK kvs k v).length ≤ kvs.length + 1 := by
  unfold putK
  split
  · rw [List.length_map]; omega
  · simp
theorem mergeK_snoc (l : List (Key × V)) (p : Key × V) : mergeK [] (l ++ [p]) = putK (mergeK [] l) p.1 p.2 := by
  unfold mergeK
  rw [List.foldl_append]
  rfl
theorem mergeK_len : ∀ (l : List (Key × V)) (a : List (Key × V)), (l.foldl (fun acc kv => putK acc kv.1 kv.2) a).length ≤ a.length + l.length
  | [], a => Nat.le_refl _
  | p :: l, a => by
    have h1 := mergeK_len l (putK a p.1 p.2)
    have h2 := putK_len a p.1 p.2
    rw [List.foldl_cons, List.length_cons]
    omega
theorem new_dict {M : Model} {Q : Value → Shared → Prop} (h : Q (.ref s.heap.objs.size) { s with heap := s.heap.push { cls := .type "dict", data := .dict #[] } }) : wpAny M A newDict Q E s := by
  simp only [newDict, newObj]
  exact wpAny_bind (wpAny_alloc (wpAny_pure h))
theorem run_mt {x y : Str} {t u : Tok} {Q : Value → Shared → Prop} (hl : x.length = y.length) (hn : x.length ≤ 1000)
    (hQ : ∀ h' tk vs, KV (mergeK [] (mtK (x.cps.toList.zip y.cps.toList))) vs → h'.DictOf (mixKind prog w) s.heap.objs.size vs → (∀ b o, s.heap.get? b = some o → h'.get? b = some o) → Q (.ref s.heap.objs.size) { s with heap := h', toks := tk }) :
    wpAny (model prog w) A (call (.builtin "str.maketrans") [.str x t, .str y u]) Q E s := by
  refine wpAny_call (codeAny_call_builtin plain_mt entry_mt (wpAny_of_eq (check_mt x y t u) ?_))
  unfold Builtin.«str.maketrans»
  refine wpAny_bind (wpAny_of_eq (a := ()) rfl ?_)
  refine wpAny_bind (wpAny_of_eq (a := ()) rfl ?_)
  refine wpAny_bind (wpAny_of_eq (a := some y) (by rfl) ?_)
  refine wpAny_bind (wpAny_of_eq (a := none) (by rfl) ?_)
  refine wpAny_bind (new_dict ?_)
  refine wpAny_bind (wpAny_holding ?_)
  refine wpAny_bind (wpAny_of_eq (a := some x) (by rfl) ?_)
  refine PySem.W.KFB.if_not (by simp [hl]) ?_
  have hd0 : (s.heap.push { cls := .type "dict", data := .dict #[] }).DictOf (mixKind prog w) s.heap.objs.size [] := Heap.DictOf.new s.heap
  dsimp only
  refine wpAny_bind (wpAny_forIn_list _ (fun rest _ s' => ∃ done h' tk vs, done ++ rest = x.cps.toList.zip y.cps.toList ∧ s' = { s with heap := h', toks := tk } ∧ KV (mergeK [] (mtK done)) vs ∧ h'.DictOf (mixKind prog w) s.heap.objs.size vs ∧ ∀ b o, s.heap.get? b = some o → h'.get? b = some o) _ ?_ ?_ _ _
    ⟨[], _, s.toks, [], rfl, rfl, Paired.nil, hd0, fun b o e => Heap.get?_push_of_some _ e⟩)
  · rintro ⟨a, b⟩ rest _ s' ⟨done, h', tk, vs, hdn, rfl, hkv, hd, hk⟩
    dsimp only
    refine wpAny_bind (wpAny_mkInt (wpAny_bind (wpAny_mkInt ?_)))
    have hlen : vs.length ≤ sizeLine := by
      have h1 := hkv.length
      have h2 := mergeK_len (mtK done) []
      have h3 := congrArg List.length hdn
      rw [List.length_append, List.length_zip] at h3
      have h4 : (mergeK [] (mtK done)).length ≤ 0 + (mtK done).length := h2
      have h5 : (mtK done).length = done.length := by unfold mtK; rw [List.length_map]
      have h6 : x.cps.toList.length ≤ 1000 := by rw [Array.length_toList]; exact hn
      rw [sizeLine_eq]
      omega
    refine wpAny_bind (wpAny_dictSet_pairs (k := (Sum.inl (a : Int) : Key)) (kV_is ⟨_, rfl⟩) hd (fun h2 hd2 hs2 => ?_) hlen)
    refine wpAny_pure ⟨done ++ [(a, b)], h2, _, _, by rw [List.append_assoc]; exact hdn, rfl, ?_, hd2, fun c o e => ?_⟩
    · have e : mtK (done ++ [(a, b)]) = mtK done ++ [(Sum.inl (a : Int), V.int (b : Int))] := by unfold mtK; rw [List.map_append]; rfl
      rw [e, mergeK_snoc]
      exact hkv.put (Sum.inl (a : Int)) ⟨_, rfl⟩
    · have := hk c o e
      rw [hs2.2 c (fun z => by rw [z] at e; exact absurd (Heap.lt_size e) (Nat.lt_irrefl _))]
      exact this
  · rintro _ s' ⟨done, h', tk, vs, hdn, rfl, hkv, hd, hk⟩
    rw [List.append_nil] at hdn
    subst hdn
    refine wpAny_bind (wpAny_of_eq (a := PUnit.unit) (by first | rfl | simp [Str.empty]) ?_)
    refine wpAny_pure (wpAny_pure ?_)
    exact hQ h' tk vs hkv hd hk
end
/-! word.translate(table) -/
section
variable {prog : Program} {w : World} {A : Around} {E : Value → Shared → Prop} {s : Shared}
theorem look_tr {B : Around} {F : Value → Shared → Prop} {d : Addr} {kvs : List (Key × V)} {vs : List (Key × Value)} {c e : Nat} {Q : Builtin.Str.Mapped → Shared → Prop} (hkv : KV kvs vs) (hd : s.heap.DictOf (mixKind prog w) d vs) (he : e < 128)
    (hv : valV kvs (Sum.inl (c : Int)) = some (V.int (e : Int))) (h : ∀ tk, Q (.char e) { s with toks := tk }) : wpAny (model prog w) B (Builtin.Str.tableLookup (.ref d) c) Q F s := by
  have hr := hkv.val (Sum.inl (c : Int))
  rw [hv] at hr
  obtain ⟨u, hu, t, rfl⟩ := RelO.some_of hr
  unfold Builtin.Str.tableLookup
  refine wpAny_bind (wpAny_attempt (wpAny_bind (wpAny_mkInt ?_)))
  refine wpAny_getItem_of (k := (Sum.inl (c : Int) : Key)) (kV_is ⟨_, rfl⟩) (s := { s with toks := s.toks + 1 }) hd.mapOf hu ?_
  refine wpAny_bind (wpAny_of_eq (a := some (e : Int)) (by rfl) ?_)
  dsimp only
  refine PySem.W.KFB.if_not (by rw [Bool.or_eq_false_iff, decide_eq_false_iff_not, decide_eq_false_iff_not]; omega) ?_
  exact wpAny_pure (h _)
/-- the loop's state behind some signs -/
def TrI (g : Nat → Nat) (x : List Nat) (s : Shared) (rest : List Nat) (b : List Str × Nat × Bool × List (Nat × Option Nat) × Bool) (s' : Shared) : Prop :=
  ∃ done tk, done ++ rest = x ∧ s' = { s with toks := tk } ∧ b.1 = (done.map fun c => (⟨#[g c]⟩ : Str)).reverse ∧ b.2.1 = done.length ∧ b.2.2.1 = true ∧ (∀ c a, b.2.2.2.1.lookup c = some a → a = some (g c)) ∧ b.2.2.2.2 = false
theorem fold_pieces : ∀ (l : List Nat) (acc : Array Nat), List.foldl (fun acc (p : Str) => acc ++ p.cps) acc (l.map fun c => (⟨#[c]⟩ : Str)) = acc ++ l.toArray
  | [], acc => by simp
  | c :: l, acc => by
    rw [List.map_cons, List.foldl_cons, fold_pieces l]
    simp
theorem run_tr {B : Around} {x : Str} {t : Tok} {d : Addr} {kvs : List (Key × V)} {vs : List (Key × Value)} {g : Nat → Nat} {P : Fin → Shared → Prop} (hn : x.length ≤ 100000) (hkv : KV kvs vs) (hd : s.heap.DictOf (mixKind prog w) d vs)
    (hg : ∀ c ∈ x.cps.toList, c < 128 ∧ g c < 128 ∧ valV kvs (Sum.inl (c : Int)) = some (V.int (g c : Int)))
    (hP : ∀ tk tk2, P (.done (.ret (.str ⟨(x.cps.toList.map g).toArray⟩ tk2))) { s with toks := tk }) :
    wpAny (model prog w) B (Builtin.«str.translate» ⟨[.str x t, .ref d], []⟩) P E s := by
  unfold Builtin.«str.translate»
  refine wpAny_bind (wpAny_of_eq (a := (.str x t, x, .ref d)) (by rfl) ?_)
  dsimp only
  by_cases h0 : (x.length == 0) = true
  · rw [if_pos h0]
    refine wpAny_bind (wpAny_rule (wpAny_bind (wpAny_of_eq (a := .str x t) (by rfl) ?_)))
    have e : x = ⟨(x.cps.toList.map g).toArray⟩ := by
      have hz : x.cps.toList = [] := by
        rw [beq_iff_eq] at h0
        have : x.cps.size = 0 := h0
        exact List.length_eq_zero_iff.mp (by rw [Array.length_toList]; exact this)
      rw [hz]
      cases x with
      | mk cps =>
        simp at hz
        simp [hz]
    have := hP s.toks t
    rw [← e] at this
    exact wpAny_pure this
  · rw [if_neg h0]
    have hfast : (x.cps.all fun c => decide (c < 128)) = true := by
      rw [Array.all_eq_true_iff_forall_mem]
      intro c hc
      rw [decide_eq_true_eq]
      exact (hg c (Array.mem_toList_iff.mpr hc)).1
    rw [hfast]
    refine wpAny_bind (PySem.MeetsSeq2.wpAny_forIn_array _ (TrI g x.cps.toList s) _ ?_ ?_ _ _ ⟨[], s.toks, rfl, rfl, rfl, rfl, rfl, fun c a e => by simp at e, rfl⟩)
    · rintro c rest ⟨pieces, total, fast, known, afterDrop⟩ s' ⟨done, tk, hdn, rfl, hp, ht, hf, hk, ha⟩
      dsimp only at hp ht hf hk ha ⊢
      subst hp ht hf ha
      have hc : c ∈ x.cps.toList := by rw [← hdn]; simp
      obtain ⟨g1, g2, g3⟩ := hg c hc
      have hlen : done.length + 1 ≤ 100000 := by
        have h3 := congrArg List.length hdn
        rw [List.length_append, List.length_cons] at h3
        have h4 : x.cps.toList.length ≤ 100000 := by rw [Array.length_toList]; exact hn
        omega
      refine PySem.W.KFB.if_not (by unfold PySem.Builtin.Str.tooLong; rw [decide_eq_false_iff_not, sizeLine_eq]; omega) ?_
      rw [if_pos rfl]
      have fin : ∀ (known' : List (Nat × Option Nat)) (tk' : Nat), (∀ c a, known'.lookup c = some a → a = some (g c)) → TrI g x.cps.toList s rest ((⟨#[g c]⟩ : Str) :: (done.map fun c => (⟨#[g c]⟩ : Str)).reverse, done.length + 1, true, known', false) { s with toks := tk' } := fun known' tk' hk' =>
        ⟨done ++ [c], tk', by rw [List.append_assoc]; exact hdn, rfl, by simp, by simp, rfl, hk', rfl⟩
      cases hlk : List.lookup c known with
      | some a =>
        have := hk c a hlk
        subst this
        dsimp only
        refine wpAny_bind (wpAny_pure ?_)
        exact wpAny_pure (fin known _ hk)
      | none =>
        dsimp only
        refine wpAny_bind (look_tr hkv hd g2 g3 fun tk' => ?_)
        dsimp only
        rw [if_pos g2]
        dsimp only
        refine wpAny_bind (wpAny_pure ?_)
        refine wpAny_pure (fin ((c, some (g c)) :: known) _ fun c' a e => ?_)
        rw [List.lookup_cons] at e
        by_cases hcc : (c' == c) = true
        · rw [hcc] at e
          rw [beq_iff_eq] at hcc
          subst hcc
          exact (Option.some.inj e).symm
        · have : (c' == c) = false := by simpa using hcc
          rw [this] at e
          exact hk c' a e
    · rintro ⟨pieces, total, fast, known, afterDrop⟩ s' ⟨done, tk, hdn, rfl, hp, ht, hf, hk, ha⟩
      dsimp only at hp ht hf hk ha ⊢
      subst hp ht hf ha
      rw [List.append_nil] at hdn
      subst hdn
      have hlen : x.cps.toList.length ≤ 100000 := by rw [Array.length_toList]; exact hn
      refine PySem.W.KFB.if_not (by unfold PySem.Builtin.Str.tooLong; rw [decide_eq_false_iff_not, sizeLine_eq]; omega) ?_
      rw [List.reverse_reverse]
      have e := fold_pieces (x.cps.toList.map g) #[]
      rw [List.map_map] at e
      have e2 : (fun c => (⟨#[g c]⟩ : Str)) = (fun c => (⟨#[c]⟩ : Str)) ∘ g := rfl
      rw [e2, e, show #[] ++ (List.map g x.cps.toList).toArray = (List.map g x.cps.toList).toArray by simp]
      unfold retStr
      exact wpAny_bind (wpAny_mkStr (wpAny_pure (hP _ _)))
end
end MT
section
variable {X : Cx} {e : Expr} {es : List Expr} {ta : TA}
/-- str.maketrans(x, y) -/
def tMt (t : TA) : TE := fun σ H Q => t σ H fun vs H1 => ∃ x y : Str, vs = [V.str x, V.str y] ∧ x.length = y.length ∧ x.length ≤ 1000 ∧ ∀ p, H1 p = none → Q (.ref p) (upd H1 p (.dK (mergeK [] (MT.mtK (x.cps.toList.zip y.cps.toList)))))
theorem pe_maketrans {p apos pos : Pos} {pl : Sem Bool} (hg : Gl X "str") (hm : X.mg "str" = none) (ha : PA X (e :: es) ta)
    (he : eval (.Call (.Attribute (.Name "str" p) "maketrans" apos) (e :: es) [] pos) X.env = (do
      let ov ← eval (.Name "str" p) X.env
      standAt apos.atName
      let (f, first) ← holding [ov] (getMethod ov "maketrans" pl)
      callWith pos f first (backTo pos (starEach (e :: es) X.env)) (backToKw pos (keywordEach [] X.env))) := by rfl)
    (hs : starEach (e :: es) X.env = (false, eval e X.env) :: starEach es X.env := by rfl) (hplain : (backTo pos (starEach es X.env)).any (·.1) = false := by rfl) : PE X (.Call (.Attribute (.Name "str" p) "maketrans" apos) (e :: es) [] pos) (tMt ta) := by
  refine ⟨fun pins s σ H Q I h => ?_⟩
  refine PySem.W.methodCall_KW (ld_blt I hg hm (by decide +kernel : bootBuiltins "str" = some (.type "str")) ?_ (by decide) (by decide)) he
  refine MT.getm I.kIn ?_
  have I1 : Inv X pins σ H { s with toks := s.toks + 1 } := I.tok _
  have hA := ha.run pos pins _ σ H _ I1 h
  show wpAny _ _ (callWith pos (.builtin "str.maketrans") [] (backTo pos (starEach (e :: es) X.env)) []) _ _ _
  rw [hs] at hA ⊢
  refine Calls.callWith_builtin (by show (false || (backTo pos (starEach es X.env)).any (·.1)) = false; rw [hplain] <;> rfl) (Calls.evalArgs_plain ?_)
  refine thn hA fun us s2 ⟨vs, H2, I2, r2, x, y, ev, hl, hn, q⟩ => ?_
  subst ev
  obtain ⟨u1, u2, rfl, ⟨t1, rfl⟩, ⟨t2, rfl⟩⟩ := vals2 r2
  refine MT.run_mt hl hn fun h' tk vs hkv hd hk => ?_
  have hlen : (mergeK [] (MT.mtK (x.cps.toList.zip y.cps.toList))).length ≤ sizeLine := by
    have h2 := MT.mergeK_len (MT.mtK (x.cps.toList.zip y.cps.toList)) []
    have h5 : (MT.mtK (x.cps.toList.zip y.cps.toList)).length ≤ 1000 := by
      unfold MT.mtK
      rw [List.length_map, List.length_zip]
      have h6 : x.cps.toList.length ≤ 1000 := by rw [Array.length_toList]; exact hn
      omega
    have h7 : (mergeK [] (MT.mtK (x.cps.toList.zip y.cps.toList))).length ≤ 0 + (MT.mtK (x.cps.toList.zip y.cps.toList)).length := h2
    rw [sizeLine_eq]
    omega
  exact ⟨.ref s2.heap.objs.size, _, I2.laid hk (Nat.le_refl _) (show ObjOk X.prog X.w _ _ _ (.dK _) from ⟨hlen, beq_eq_false_iff_ne.mpr (Ne.symm (Nat.ne_of_lt I2.big)), vs, hkv, hd⟩), rfl, q _ (I2.hok.fresh (Nat.le_refl _))⟩
/-- text.translate(table) -/
def rTr : V → List V → Hp → VK → Prop := fun x xs H Q => ∃ (z : Str) (d : Addr) (kvs : List (Key × V)) (g : Nat → Nat), x = .str z ∧ xs = [V.ref d] ∧ H d = some (.dK kvs) ∧ z.length ≤ 100000 ∧ (∀ c ∈ z.cps.toList, c < 128 ∧ g c < 128 ∧ valV kvs (Sum.inl (c : Int)) = some (V.int (g c : Int))) ∧ Q (.str ⟨(z.cps.toList.map g).toArray⟩) H
theorem mt_translate : MtR X "str.translate" rTr := by
  intro pins s σ H x xs v us Q I rx rs h
  obtain ⟨z, d, kvs, g, rfl, rfl, hd, hn, hg, q⟩ := h
  obtain ⟨t, rfl⟩ := rx
  obtain ⟨u, rfl, ru⟩ := rs.one
  cases ru
  obtain ⟨_, _, vs, hkv, dd⟩ := dk_of I.hok hd
  refine wpAny_call_entry PySem.F.slot_str_translate (typeIs_str _ _ _) PySem.F.entry_str_translate ?_ (PySem.F.args_str_translate_2 _ _)
  refine MT.run_tr hn hkv dd hg fun tk tk2 => ?_
  exact ⟨_, rfl, .str _, H, I.tok _, ⟨_, rfl⟩, q⟩
end
end G1

namespace G1
open PySem PySem.Spec PyProof.Rows L2
/-- the comparison of nested data -/
def rLtD (K : PySem.W.Frag) : R2 := fun x y H Q => ∃ d1 d2, Dp K H x d1 ∧ Dp K H y d2 ∧ PySem.W.alike d1 d2 = true ∧ d1 ≠ PyData.none ∧ min d1.depth d2.depth ≤ 32 ∧ Q (.bl (PySem.W.dataLt d1 d2)) H
section
variable {X : Cx}
theorem op_ltD (K : PySem.W.Frag) (hK : X.K = K) (hu : X.A.units + 64 < cLine) : OpR X (compareOp .Lt) (rLtD K) := by
  intro pins s σ H x y v u Q I rx ry h
  obtain ⟨d1, d2, h1, h2, ha, hn, hd, q⟩ := h
  subst hK
  obtain ⟨as, r1⟩ := Dp.reads I d1 x v h1 rx
  obtain ⟨bs, r2⟩ := Dp.reads I d2 y u h2 ry
  exact PySem.W.rcLt_alike d1 d2 X.A s v u as bs r1 r2 ha hn (by omega) X.prog X.w _ _ ⟨.bl _, H, I, ⟨rfl, q⟩⟩
end
def intsD (ns : List Int) : List PyData := ns.map PyData.int
theorem alike_ints : ∀ ns ms : List Int, PySem.W.alikeAll (intsD ns) (intsD ms) = true
  | [], [] => by rfl
  | [], _ :: _ => by rfl
  | _ :: _, [] => by rfl
  | n :: ns, m :: ms => by
    show PySem.W.alikeAll (.int n :: intsD ns) (.int m :: intsD ms) = true
    simp only [PySem.W.alikeAll, PySem.W.alike, alike_ints ns ms, Bool.and_self]
theorem dp_ints {K : PySem.W.Frag} {H : Hp} : ∀ ns : List Int, DpAll K H (ns.map V.int) (intsD ns)
  | [] => .nil
  | n :: ns => .cons (.int n) (dp_ints ns)
theorem dep_ints : ∀ ns : List Int, PyData.depthAll (intsD ns) ≤ 1
  | [] => by decide
  | n :: ns => by
    have := dep_ints ns
    simp only [intsD, List.map_cons, PyData.depthAll, PyData.depth] at this ⊢
    omega
theorem toks_ints : ∀ ns : List Int, PySem.W.keyToksAll (intsD ns) = (ns.flatMap fun n => [Sum.inl 1, Sum.inl n]) ++ [Sum.inl 0]
  | [] => by rfl
  | n :: ns => by
    show PySem.W.keyToksAll (.int n :: intsD ns) = _
    simp only [PySem.W.keyToksAll, PySem.W.keyToks, toks_ints ns, List.flatMap_cons, List.cons_append, List.nil_append]
def lx (xs ys : List (Int ⊕ List Nat)) : Bool := PyProof.Rows.lexLt itemOrd xs ys
theorem lex_cons (a b : Int ⊕ List Nat) (xs ys : List (Int ⊕ List Nat)) : lx (a :: xs) (b :: ys) = (PyProof.Rows.itemLt a b || (!PyProof.Rows.itemLt b a && lx xs ys)) := by
  rfl
theorem lx_nil : lx [] [] = false := rfl
theorem it_i (a b : Int) : PyProof.Rows.itemLt (.inl a) (.inl b) = decide (a < b) := rfl
theorem it_s (a b : List Nat) : PyProof.Rows.itemLt (.inr a) (.inr b) = decide (a < b) := rfl
theorem lex_ints : ∀ ns ms : List Int, lx ((ns.flatMap fun n => [Sum.inl 1, Sum.inl n]) ++ [Sum.inl 0]) ((ms.flatMap fun n => [Sum.inl 1, Sum.inl n]) ++ [Sum.inl 0]) = HT.lexLt ns ms
  | [], [] => by rfl
  | [], m :: ms => by rfl
  | n :: ns, [] => by rfl
  | n :: ns, m :: ms => by
    simp only [List.flatMap_cons, List.cons_append, List.nil_append, lex_cons, it_i, it_s, HT.lexLt]
    rw [lex_ints ns ms]
    by_cases h : n = m
    · subst h
      simp
    · rw [if_neg h]
      rcases Int.lt_or_gt_of_ne h with k | k
      · simp [k]
      · have : ¬ n < m := by omega
        simp [k, this]
theorem lt_ints (ns ms : List Int) : PySem.W.dataLt (.list (intsD ns)) (.list (intsD ms)) = HT.lexLt ns ms := by
  rw [← lex_ints]
  show lx (PySem.W.keyToks _) (PySem.W.keyToks _) = _
  simp only [PySem.W.keyToks, toks_ints]
/-- pairs of a number and a text -/
def pD (n : Int) (x : Str) : PyData := .tuple [.int n, .str x]
theorem lt_pair (n m : Int) (x y : Str) : PySem.W.dataLt (pD n x) (pD m y) = (decide (n < m) || (decide (n = m) && decide (x.cps.toList < y.cps.toList))) := by
  show lx (PySem.W.keyToks _) (PySem.W.keyToks _) = _
  simp only [pD, PySem.W.keyToks, PySem.W.keyToksAll, List.cons_append, List.nil_append, lex_cons, it_i, it_s, lx_nil]
  by_cases h : n = m
  · subst h
    simp
  · rcases Int.lt_or_gt_of_ne h with k | k
    · simp [k]
    · have : ¬ n < m := by omega
      simp [k, this, h]
theorem alike_pair (n m : Int) (x y : Str) : PySem.W.alike (pD n x) (pD m y) = true := by rfl
theorem dep_pair (n : Int) (x : Str) : (pD n x).depth ≤ 3 := by
  simp [pD, PyData.depth, PyData.depthAll]
end G1

namespace G1
open PySem PySem.Spec PyProof.Rows L2
/-! defs of three that may raise, called by place or by all three names the last two the other way about -/
def OkX3b (P : Program) (w : World) (K : PySem.W.Frag) (mg : Str → Option Value) (base : Heap) (k : Nat) (x p1 p2 p3 : Str) (sp : Sp) : Prop :=
  ∃ f fd, FnOk P w K mg base (L2.CX P w) k f fd [p1, p2, p3] sp ∧ mg x = some (.ref f) ∧ PySem.W.keepIn K (.ref f) = true ∧ L2.Binds K fd [p1, p2, p3] [] ∧ ∀ (s : Shared) (u1 u2 u3 : Value), BindsTo s fd ⟨[], [(p1, u1), (p3, u2), (p2, u3)]⟩ [(p1, u1), (p2, u3), (p3, u2)]
theorem OkX3b.okX {P : Program} {w : World} {K : PySem.W.Frag} {mg : Str → Option Value} {base : Heap} {k : Nat} {x p1 p2 p3 : Str} {sp : Sp} (h : OkX3b P w K mg base k x p1 p2 p3 sp) : OkX P w K mg base k x [p1, p2, p3] sp :=
  let ⟨f, fd, h1, h2, h3, h4, _⟩ := h
  ⟨f, fd, h1, h2, h3, h4⟩
theorem okx3b {P : Program} {w : World} {K : PySem.W.Frag} {mg : Str → Option Value} {base : Heap} {x p1 p2 p3 : Str} {st : Stmt} {k : Nat} {sp : Sp} (S : Src K mg x st) (F : ∀ f fd, Fun K x x st f fd → FnOk P w K mg base (L2.CX P w) k f fd [p1, p2, p3] sp)
    (h : ∀ (kV doc pm : Value) (an : Option Addr) (cdv ct : Value) (us : List Value), us.length = [p1, p2, p3].length → bindArgs (PySem.W.fnOf x x (defArgs st) (defBody st) (defScope st) .none kV doc pm an cdv ct) ⟨us, []⟩ = pure ([p1, p2, p3].zip us))
    (h2 : ∀ (kV doc pm : Value) (an : Option Addr) (cdv ct u1 u2 u3 : Value), bindArgs (PySem.W.fnOf x x (defArgs st) (defBody st) (defScope st) .none kV doc pm an cdv ct) ⟨[], [(p1, u1), (p3, u2), (p2, u3)]⟩ = pure [(p1, u1), (p2, u3), (p3, u2)]) : OkX3b P w K mg base k x p1 p2 p3 sp := by
  obtain ⟨f, fd, F1, g⟩ := S
  refine ⟨f, fd, F f fd F1, g, F1.kp, F1.binds h, ?_⟩
  obtain ⟨oc, od, kV, doc, pm, an, cdv, ct, osl, rfl, lk, hcd⟩ := F1.ex
  intro s u1 u2 u3 M A E Q q
  rw [h2 kV doc pm an cdv ct u1 u2 u3]
  exact wpAny_pure q
section
variable {X : Cx} {k : Nat} {x p1 p2 p3 : Str} {sp : Sp} {p pos : Pos}
/-- by all three names, the last two the other way about -/
def tCallK3b (sp : Sp) (tk : TA) : TE := fun σ H Q => tk σ H fun zs H1 => ∃ v1 v2 v3, zs = [v1, v3, v2] ∧ sp [v1, v2, v3] H1 Q (fun _ _ _ => False)
theorem pe_callK3b {kws : List Keyword} {tk : TA} (C : OkX3b X.prog X.w X.K X.mg X.base k x p1 p2 p3 sp) (hr : Room k X.A) (hg : Gl X x) (hkw : PK X kws tk)
    (hks : (backToKw pos (keywordEach kws X.env)).filterMap (·.1) = [p1, p3, p2] := by rfl) (hall : (backToKw pos (keywordEach kws X.env)).all (·.1.isSome) = true := by rfl) (hdb : (x == ("__debug__" : Str)) = false := by decide)
    (hpl : ((backTo pos (starEach [] X.env)).any (·.1) || (backToKw pos (keywordEach kws X.env)).any (·.1.isNone)) = false := by rfl) :
    PE X (.Call (.Name x p) [] kws pos) (tCallK3b sp tk) := by
  obtain ⟨f, fd, F, hm, hk, hb, hb2⟩ := C
  constructor
  intro pins s σ H Q I h
  apply wpAny_Call_Name_kw (ld_glob I hg hm ?_ hdb)
  apply PySem.W.callWith_KW0 (h₀ := X.base) I.ok.mod.kin hk hall ?_ hpl
  apply thn (hkw.run pos pins s σ H _ I h)
  rintro ws s2 ⟨zs, H2, I2, rz, v1, v2, v3, rfl, q⟩
  refine ⟨I2.kIn, ?_⟩
  rw [hks]
  obtain ⟨w1, w3, w2, rfl, r1, r3, r2⟩ := vals3' rz
  show wpAny (model X.prog X.w) X.A (call (.ref f) [] [(p1, w1), (p3, w3), (p2, w2)]) (EP X pins σ Q) X.xe s2
  apply wpAny_call (codeAny_mono (F.run X.A X.stack s2 H2 ⟨[], [(p1, w1), (p3, w3), (p2, w2)]⟩ [w1, w2, w3] _ Q _ hr I2.env0 (hb2 s2 w1 w3 w2) (.cons r1 (.cons r2 (.cons r3 .nil))) q) ?_)
  rintro (er | (_ | _ | _ | u)) s' z
  · exact passC pins σ H2 s2 er s' I2 z
  · exact z.elim
  · exact z.elim
  · exact z.elim
  · exact I2.after z
end
end G1

namespace G1
open PySem PySem.Spec PyProof.Rows L2
/-! what a call made is left untracked again, but for its tuples -/
def tupsOf (H2 H3 : Hp) : Hp := fun b => match H2 b with
  | some o => some o
  | none => match H3 b with
    | some (.tup ys) => some (.tup ys)
    | _ => none
theorem tupsOf_le {H2 H3 : Hp} {b : Addr} {o : HO} (h : H2 b = some o) : tupsOf H2 H3 b = some o := by
  unfold tupsOf
  rw [h]
theorem tupsOf_tup {H2 H3 : Hp} (s : Same H2 H3) {b : Addr} {ys : List V} (h : H3 b = some (.tup ys)) : tupsOf H2 H3 b = some (.tup ys) := by
  unfold tupsOf
  cases e : H2 b with
  | some o =>
    have := s _ _ e
    rw [h] at this
    exact this.symm
  | none => simp only [h]
theorem tupsOf_cases {H2 H3 : Hp} {b : Addr} {o : HO} (h : tupsOf H2 H3 b = some o) : H2 b = some o ∨ H2 b = none ∧ ∃ ys, o = .tup ys ∧ H3 b = some (.tup ys) := by
  unfold tupsOf at h
  cases e : H2 b with
  | some o' =>
    rw [e] at h
    exact .inl h
  | none =>
    rw [e] at h
    cases e3 : H3 b with
    | none => simp only [e3] at h; cases h
    | some o3 =>
      cases o3 with
      | tup ys => simp only [e3] at h; cases h; exact .inr ⟨rfl, ys, rfl, rfl⟩
      | _ => simp only [e3] at h; cases h
theorem tupsOf_none {H2 H3 : Hp} (s : Same H2 H3) {b : Addr} (h : H3 b = none) : tupsOf H2 H3 b = none := by
  cases e : tupsOf H2 H3 b with
  | none => rfl
  | some o =>
    rcases tupsOf_cases e with h2 | ⟨_, ys, _, h3⟩
    · rw [s _ _ h2] at h
      cases h
    · rw [h3] at h
      cases h
theorem paired_mono' {α β : Type} {R R' : α → β → Prop} (k : ∀ a b, R a b → R' a b) : ∀ {as : List α} {bs : List β}, Paired R as bs → Paired R' as bs
  | _, _, .nil => .nil
  | _, _, .cons h t => .cons (k _ _ h) (paired_mono' k t)
theorem obj_forget {P : Program} {w : World} {H2 H3 H' : Hp} {h h' : Heap} (hle : ∀ b o, H2 b = some o → H3 b = some o) (ht : ∀ b ys, H' b = some (.tup ys) → H3 b = some (.tup ys)) {a : Addr} : ∀ o : HO, ObjOk P w H2 h a o → ObjOk P w H' h' a o → ObjOk P w H3 h' a o
  | .lst _, _, k => by simp only [ObjOk] at k ⊢; exact k
  | .tup _, _, k => by simp only [ObjOk] at k ⊢; exact k
  | .dK _, _, k => by simp only [ObjOk] at k ⊢; exact k
  | .dT kvs, _, k => by
    simp only [ObjOk] at k ⊢
    obtain ⟨k1, k2, xs, k3, k4⟩ := k
    exact ⟨k1, k2, xs, paired_mono' (fun p q z => ⟨z.1, ht _ _ z.2.1, z.2.2⟩) k3, k4⟩
  | .set _ _, _, k => by simp only [ObjOk] at k ⊢; exact k
  | .ins C dx fs, j, k => by
    simp only [ObjOk] at j k ⊢
    exact ⟨hle _ _ j.1, k.2⟩
  | .own _, _, k => by simp only [ObjOk] at k ⊢; exact k
  | .xd _, _, k => by simp only [ObjOk] at k ⊢; exact k
  | .rng _ _, _, k => by simp only [ObjOk] at k ⊢; exact k
  | .frz o u, j, k => by
    simp only [ObjOk] at j k ⊢
    exact ⟨k.1, obj_forget hle ht u j.2 k.2⟩
  | .tbl _, _, k => by simp only [ObjOk] at k ⊢; exact k
  | .met _ _, _, k => by simp only [ObjOk] at k ⊢; exact k
  | .ext _, _, k => by simp only [ObjOk] at k ⊢; exact k
theorem forget {X : Cx} {pins : List (Addr × Obj)} {σ : L2.St} {H2 H3 : Hp} {s s' : Shared} (I2 : L2.Inv X pins σ H2 s) (I3 : L2.Inv X pins σ H3 s') (sm : Same H2 H3) : L2.Inv X pins σ (tupsOf H2 H3) s' :=
  { ok := I3.ok
    os := I3.os
    bare := I3.bare
    base :=
      { keep := I3.base.keep
        slot := I3.base.slot
        free := fun b o a e f => tupsOf_none sm (I3.base.free b o a e f)
        there := I3.base.there
        tups := fun b ys e => tupsOf_le (I2.base.tups b ys e)
        frzs := fun b o u e => tupsOf_le (I2.base.frzs b o u e)
        tbls := fun b ps e => let ⟨m, z⟩ := I2.base.tbls b ps e; ⟨m, tupsOf_le z⟩ }
    loc := I3.loc
    cell := I3.cell
    free := tupsOf_none sm I3.free
    freeC := fun x c e => tupsOf_none sm (I3.freeC x c e)
    pin := fun p hp => let ⟨a, b, r⟩ := I3.pin p hp; ⟨a, tupsOf_none sm b, r⟩
    hok := fun a o e => by
      rcases tupsOf_cases e with h2 | ⟨_, ys, rfl, h3⟩
      · exact obj_forget (fun b o z => tupsOf_le z) (fun b ys z => tupsOf_tup sm z) o (I2.hok a o h2) (I3.hok a o (sm _ _ h2))
      · have k := I3.hok a _ h3
        simp only [ObjOk] at k ⊢
        exact k
    len := I3.len }
theorem get_lt {h : Heap} {b : Addr} {o : Obj} (e : h.get? b = some o) : b < h.objs.size := by
  rcases Nat.lt_or_ge b h.objs.size with k | k
  · exact k
  · unfold Heap.get? at e
    rw [Array.getElem?_eq_none k] at e
    cases e
theorem frs_there {h base : Heap} : ∀ {l : List Env}, h.FunFrames base l → ∀ b ∈ frs l, ∃ o, h.get? b = some o
  | [], _, b, hb => nomatch hb
  | e :: l, f, b, hb => by
    rw [Heap.FunFrames.eq_2] at f
    obtain ⟨_, ⟨L, o, e1, _, e3, _⟩, f2⟩ := f
    unfold frs at hb
    rw [List.filterMap_cons, e1] at hb
    rcases List.mem_cons.mp hb with rfl | hb
    · exact ⟨o, e3⟩
    · exact frs_there f2 b hb
theorem vals_at : ∀ {xs : List V} {its : List Value}, Vals xs its → ∀ {i : Nat} {v : Value}, its[i]? = some v → ∃ x, xs[i]? = some x ∧ RelV x v
  | _, _, .nil, _, _, e => by simp at e
  | _, _, .cons r t, 0, v, e => by
    simp only [List.getElem?_cons_zero, Option.some.injEq] at e
    subst e
    exact ⟨_, rfl, r⟩
  | _, _, .cons r t, i + 1, v, e => by
    simp only [List.getElem?_cons_succ] at e
    exact vals_at t e
/-- min(list, key=f): the item that stands first of those with the least key; the keys are pairs of a number and a text -/
def keyBt (kn : Nat → Int) (kz : Nat → Str) (i j : Nat) : Bool := PySem.W.dataLt (pD (kn i) (kz i)) (pD (kn j) (kz j))
def rMinK (mg : Str → Option Value) (x : Str) (sp : Sp) : List V → List V → Hp → VK → Prop := fun vs zs H Q => ∃ (a f : Addr) (xs : List V) (kn : Nat → Int) (kz : Nat → Str), vs = [.ref a] ∧ zs = [.ref f] ∧ mg x = some (.ref f) ∧ H a = some (.lst xs) ∧ xs ≠ [] ∧
  (∀ i z, xs[i]? = some z → ∀ H2 R, Same H H2 → (∀ p H3, Same H2 H3 → H2 p = none → H3 p = some (.tup [.int (kn i), .str (kz i)]) → R (.ref p) H3) → sp [z] H2 R (fun _ _ _ => False)) ∧
  ∀ z H2, xs[argBest (keyBt kn kz) (xs.length - 1)]? = some z → Same H H2 → Q z H2
section
variable {X : Cx}
theorem walk_mine {A : Around} (hA : A.handled = none) {I a : Addr} (ne : a ≠ I) (xs : List V) : Walks X.prog X.w A I [I, a] [I] xs.length (fun i v => ∃ x, xs[i]? = some x ∧ RelV x v) (fun i h => h.IsListIter I a i ∧ ∃ its, Vals xs its ∧ h.IsList a its.toArray) where
  sub := fun b hb => by rw [List.mem_singleton.mp hb]; exact List.mem_cons_self
  frame := fun i h h' ⟨⟨o, e1, e2, e3⟩, its, hv, o2, f1, f2, f3⟩ k => ⟨⟨o, k I List.mem_cons_self o e1, e2, e3⟩, its, hv, o2, k a (List.mem_cons_of_mem _ List.mem_cons_self) o2 f1, f2, f3⟩
  item := fun i s Q E hi ⟨it, its, hv, hl⟩ q => by
    have hlen := Paired.length hv
    refine (Walks.list hA I a ne its.toArray).item i s Q E (by simpa using (by omega : i < its.length)) ⟨it, hl⟩ fun v h' tk hvv hst hk => ?_
    refine q v h' tk ?_ ⟨hst.1, its, hv, hst.2⟩ hk
    have hi2 : i < its.length := by omega
    have e1 : its[i]? = some v := by simpa using hvv
    obtain ⟨x, hx, hr⟩ := vals_at hv e1
    exact ⟨x, hx, hr⟩
  done := fun s Q E ⟨it, its, hv, hl⟩ q => by
    have hlen := Paired.length hv
    refine (Walks.list hA I a ne its.toArray).done s Q E ⟨by simpa [hlen] using it, hl⟩ q
  self := fun i s Q E ⟨it, its, hv, hl⟩ q => (Walks.list hA I a ne its.toArray).self i s Q E ⟨it, hl⟩ q
/-- what stands through the walk -/
def mJ (X : Cx) (pins : List (Addr × Obj)) (σ : L2.St) (H : Hp) (I S : Addr) (s : Shared) : Prop := ∃ H2, L2.Inv X pins σ H2 s ∧ Same H H2 ∧ (∀ b o, H2 b = some o → H b = none → ∃ ys, o = HO.tup ys) ∧ H2 I = none ∧ H2 S = none
/-- a key that was told -/
def mV (X : Cx) (H : Hp) (I S : Addr) (kn : Nat → Int) (kz : Nat → Str) (i : Nat) (k : Value) (s : Shared) : Prop := ∃ p, k = .ref p ∧ (∃ its, Vals [.int (kn i), .str (kz i)] its ∧ IsTup s.heap p its.toArray) ∧ H p = none ∧ p ∉ frs X.stack ∧ p ≠ I ∧ p ≠ S
theorem isTup_un {h : Heap} {p : Addr} {a b : Array Value} (x : IsTup h p a) (y : IsTup h p b) : a = b := by
  obtain ⟨o, e1, _, n, e2⟩ := x
  obtain ⟨o', f1, _, n', f2⟩ := y
  rw [e1] at f1
  cases f1
  rw [e2] at f2
  cases f2
  rfl
theorem isTup_keep {h h' : Heap} {p : Addr} {a : Array Value} (x : IsTup h p a) (k : ∀ o, h.get? p = some o → h'.get? p = some o) : IsTup h' p a := by
  obtain ⟨o, e1, e2⟩ := x
  exact ⟨o, k o e1, e2⟩
theorem relV_int {y : V} {i : Int} {t : Tok} (b : RelV y (.int i t)) : y = .int i := by
  cases y with
  | int j => obtain ⟨t', e⟩ := b; cases e; rfl
  | non => cases b
  | bl _ => cases b
  | ref _ => cases b
  | ty _ => cases b
  | _ => obtain ⟨_, e⟩ := b; cases e
theorem relV_str {y : V} {z : Str} {t : Tok} (b : RelV y (.str z t)) : y = .str z := by
  cases y with
  | str j => obtain ⟨t', e⟩ := b; cases e; rfl
  | non => cases b
  | bl _ => cases b
  | ref _ => cases b
  | ty _ => cases b
  | _ => obtain ⟨_, e⟩ := b; cases e
theorem vals_pair {n : Int} {z : Str} {its : List Value} (h : Vals [.int n, .str z] its) : ∃ t t', its = [.int n t, .str z t'] := by
  obtain ⟨u, u', rfl, ⟨t, rfl⟩, ⟨t', rfl⟩⟩ := vals2 h
  exact ⟨t, t', rfl⟩
theorem vals_pair' {n : Int} {z : Str} {t t' : Tok} {ys : List V} (h : Vals ys [.int n t, .str z t']) : ys = [.int n, .str z] := by
  cases h with
  | cons a h =>
    cases h with
    | cons b h =>
      cases h
      rw [relV_int a, relV_str b]
theorem mJ_keep {pins : List (Addr × Obj)} {σ : L2.St} {H : Hp} {I S : Addr} {s s' : Shared}
    (hS : ∀ b, b ∈ [S, I] → (b ∈ X.ex ∨ X.s_0.heap.objs.size ≤ b) ∧ b ≠ X.env.locals ∧ (∀ (x : Str) (c : Addr), List.lookup x X.env.cells = some c → c ≠ b) ∧ ∀ p : Addr × Obj, p ∈ X.pn ++ pins → p.fst ≠ b)
    (j : mJ X pins σ H I S s) (m : Moved [S, I] (fun a b => b = a) s s') : mJ X pins σ H I S s' := by
  obtain ⟨H2, I2, sm, tp, nI, nS⟩ := j
  refine ⟨H2, ?_, sm, tp, nI, nS⟩
  obtain ⟨h', g', d', t', o'⟩ := s'
  have eo : o' = s.os := m.os
  subst eo
  have nm : ∀ b, (∃ o, H2 b = some o) → b ∉ [S, I] := fun b ⟨o, e⟩ z => by
    rcases List.mem_cons.mp z with rfl | z
    · rw [nS] at e; cases e
    · rw [List.mem_singleton.mp z, nI] at e; cases e
  refine Inv.call (ch := [S, I]) I2 ?_ (fun a o e => ?_) ?_ hS
  · exact { keep := fun b o e _ _ n => m.heap b o n e
            slot := fun b o e _ _ n => ⟨o.slots, m.heap b o n e⟩
            free := fun b o _ e _ => e
            there := fun b o e n => ⟨o, m.heap b o n e⟩
            tups := fun b ys e => e
            frzs := fun b o u e => e
            tbls := fun b ps e => ⟨#[], by simpa using e⟩ }
  · refine ObjOk.stay (I2.hok a o e) (fun b u hb hg => m.heap b u (nm b ?_) hg) (fun b z => z) (fun b ys z => z)
    rcases hb with rfl | hb
    · exact ⟨o, e⟩
    · exact ⟨_, hb⟩
  · have : g' = s.gens := m.gens
    rw [this]
    exact I2.bare
theorem mV_keep {H : Hp} {I S : Addr} {kn : Nat → Int} {kz : Nat → Str} {i : Nat} {k : Value} {s s' : Shared} {G : Array GenState → Array GenState → Prop} (v : mV X H I S kn kz i k s) (m : Moved [S, I] G s s') : mV X H I S kn kz i k s' := by
  obtain ⟨p, rfl, ⟨its, hv, ht⟩, n, nf, nI, nS⟩ := v
  refine ⟨p, rfl, ⟨its, hv, isTup_keep ht fun o e => m.heap p o (fun z => ?_) e⟩, n, nf, nI, nS⟩
  rcases List.mem_cons.mp z with e | e
  · exact nS e
  · exact nI (List.mem_singleton.mp e)
theorem mReads {H : Hp} {I S : Addr} {kn : Nat → Int} {kz : Nat → Str} {i : Nat} {k : Value} {s : Shared} (v : mV X H I S kn kz i k s) : ∃ as, Reads s.heap k (pD (kn i) (kz i)) as := by
  obtain ⟨p, rfl, ⟨its, hv, o, e1, e2, n, e3⟩, _⟩ := v
  obtain ⟨t, t', rfl⟩ := vals_pair hv
  exact ⟨_, .tuple e1 e2 e3 (.cons (.int _ t) (.cons (.str _ t') .nil))⟩
theorem cr_minK {k : Nat} {x pn : Str} {sp : Sp} (C : OkD X.prog X.w X.K X.mg X.base k x [pn] sp) (hr : Room (k + 1) X.A) : CallRK X (.builtin "min") ["key"] (rMinK X.mg x sp) := by
  intro pins s σ H vs zs us ws Q I0 rv rz h
  obtain ⟨a, f, xs, kn, kz, rfl, rfl, hf, ha, hne, hkey, hQ⟩ := h
  obtain ⟨f', fd, F, hm, _, hb⟩ := C
  rw [hf] at hm
  cases hm
  obtain ⟨u, rfl, ru⟩ := rv.one
  obtain ⟨u', rfl, ru'⟩ := rz.one
  cases ru
  cases ru'
  have oa := I0.hok a _ ha
  simp only [ObjOk] at oa
  obtain ⟨hxl, its, n0, hv, hl⟩ := oa
  have hA : X.A.in1.handled = none := (Room.in1 hr).hd
  show wpAny _ X.A (call (.builtin "min") [.ref a] [("key", .ref f)]) _ _ _
  refine call_min_walkK (wpAny_pyIter_list ⟨_, hl, rfl, _, rfl⟩ ?_)
  have haI : a ≠ s.heap.objs.size := Nat.ne_of_lt (get_lt hl)
  have kpush : ∀ (b : Addr) (o : Obj), s.heap.get? b = some o → (s.heap.push { cls := Value.type "list_iterator", data := Data.fields #[Value.ref a, Value.int 0 0] }).get? b = some o := fun b o e => Heap.get?_push_of_some _ e
  have hsz : (s.heap.push { cls := Value.type "list_iterator", data := Data.fields #[Value.ref a, Value.int 0 0] }).objs.size = s.heap.objs.size + 1 := by
    simp [Heap.push]
  have I1 : L2.Inv X pins σ H { s with heap := s.heap.push { cls := Value.type "list_iterator", data := Data.fields #[Value.ref a, Value.int 0 0] } } := I0.kept kpush
  have hfr : ∀ b ∈ frs X.stack, b < s.heap.objs.size := fun b hb => let ⟨o, e⟩ := frs_there I0.env0.funs b hb; get_lt e
  have hloc : X.env.locals < s.heap.objs.size := let ⟨_, ns, _⟩ := I0.loc; ns.lt
  have habove := I0.ok.above
  have hcell : ∀ (x : Str) (c : Addr), List.lookup x X.env.cells = some c → c < s.heap.objs.size := fun x c e => let ⟨_, o, e1, _⟩ := I0.cell x c e; get_lt e1
  have hpin : ∀ p : Addr × Obj, p ∈ X.pn ++ pins → p.fst < s.heap.objs.size := fun p hp => get_lt (I0.pin p hp).1
  generalize hI : s.heap.objs.size = I at *
  have hS2 : (s.heap.push { cls := Value.type "list_iterator", data := Data.fields #[Value.ref a, Value.int 0 0] }).objs.size = I + 1 := hsz
  have fresh : ∀ b, b ∈ [I + 1, I] → (b ∈ X.ex ∨ X.s_0.heap.objs.size ≤ b) ∧ b ≠ X.env.locals ∧ (∀ (x : Str) (c : Addr), List.lookup x X.env.cells = some c → c ≠ b) ∧ ∀ p : Addr × Obj, p ∈ X.pn ++ pins → p.fst ≠ b := by
    intro b hb
    have hbI : I ≤ b := by
      rcases List.mem_cons.mp hb with rfl | hb
      · exact Nat.le_succ I
      · rw [List.mem_singleton.mp hb]
        exact Nat.le_refl _
    refine ⟨.inr (Nat.le_trans (Nat.le_trans habove (Nat.le_of_lt hloc)) hbI), fun e => ?_, fun x c e z => ?_, fun p hp z => ?_⟩
    · rw [e] at hbI
      exact Nat.not_lt.mpr hbI hloc
    · rw [← z] at hbI
      exact Nat.not_lt.mpr hbI (hcell x c e)
    · rw [← z] at hbI
      exact Nat.not_lt.mpr hbI (hpin p hp)
  refine ⟨I, [I, a], [I], fun a b => b = a, xs.length, fun i v => ∃ x, xs[i]? = some x ∧ RelV x v, fun i s' => s'.heap.IsListIter I a i ∧ ∃ its, Vals xs its ∧ s'.heap.IsList a its.toArray, mJ X pins σ H I (I + 1), mV X H I (I + 1) kn kz, keyBt kn kz, rfl, ?_, ?_, ?_, List.length_pos_iff.mpr hne, ?_, ?_, ?_⟩
  · exact (walk_mine (X := X) hA haI xs).toS
  · exact ⟨⟨_, Heap.get?_push_at hI.symm rfl, rfl, rfl⟩, its, hv, _, kpush _ _ hl, rfl, _, rfl⟩
  · intro b hb
    show b < (s.heap.push _).objs.size
    rw [hS2]
    rcases List.mem_cons.mp hb with rfl | hb
    · exact Nat.lt_succ_self _
    · rw [List.mem_singleton.mp hb]
      have h9 := get_lt hl
      rw [hI] at h9
      exact Nat.lt_succ_of_lt h9
  · show KeyRun _ _ _ _ _ (s.heap.push _).objs.size _ _ _ _ _ _ _ _
    rw [hS2]
    refine ⟨fun st st' j m => mJ_keep fresh j m, fun i k st st' v m => mV_keep v m, ?_, ?_⟩
    · rintro i v st o Q' E' hi ⟨z, hz, rz⟩ ⟨H2, I2, sm, tp, nI, nS⟩ ⟨⟨oI, gI, cI, dI⟩, its', hv', hl'⟩ ho q
      apply wpAny_call
      refine codeAny_mono (F.run X.A.in1 X.stack st H2 ⟨[v], []⟩ [v] [z] (fun v H3 => ∃ p, v = .ref p ∧ Same H2 H3 ∧ H2 p = none ∧ H3 p = some (.tup [.int (kn i), .str (kz i)])) (fun _ _ _ => False) (Room.in1 hr) I2.env0.in1 (hb st [v] I2.kIn rfl) (.cons rz .nil) (hkey i z hz H2 _ sm fun p H3 s3 np hp => ⟨p, rfl, s3, np, hp⟩)) ?_
      rintro (er | (_ | _ | _ | u)) s' zz
      · exact zz.elim
      · exact zz.elim
      · exact zz.elim
      · exact zz.elim
      · obtain ⟨v', H3, eos, bare, un, hok, rv', p, rfl, s3, np, hp⟩ := zz
        cases rv'
        obtain ⟨h', g', d', t', o'⟩ := s'
        have eo : o' = st.os := eos
        subst eo
        have I3 : L2.Inv X pins σ H3 { heap := h', gens := g', drawn := d', toks := t', os := st.os } := Inv.call (ch := []) I2 un hok bare (fun b hb => nomatch hb)
        have fI : I ∉ frs X.stack := fun z => Nat.lt_irrefl _ (hfr _ z)
        have fS : I + 1 ∉ frs X.stack := fun z => Nat.lt_irrefl _ (Nat.lt_of_succ_lt (hfr _ z))
        have n3I : H3 I = none := un.free I oI gI nI (fun z => nomatch z)
        have n3S : H3 (I + 1) = none := un.free (I + 1) o ho nS (fun z => nomatch z)
        have nfp : p ∉ frs X.stack := fun z => by
          have := I3.env0.frf p z
          rw [hp] at this
          cases this
        refine q (.ref p) _ ⟨tupsOf H2 H3, forget I2 I3 s3, fun b o e => tupsOf_le (sm _ _ e), fun b o e n => (tupsOf_cases e).elim (fun h2 => tp b o h2 n) (fun ⟨_, ys, e, _⟩ => ⟨ys, e⟩), tupsOf_none s3 n3I, tupsOf_none s3 n3S⟩ ⟨⟨oI, un.keep I oI gI nI fI (fun z => nomatch z), cI, dI⟩, ?_⟩ (un.keep (I + 1) o ho nS fS (fun z => nomatch z)) ⟨p, rfl, ?_, ?_, nfp, fun z => ?_, fun z => ?_⟩ ?_
        · have k := hok a _ (s3 _ _ (sm _ _ ha))
          simp only [ObjOk] at k
          obtain ⟨_, its2, n2, hv2, hl2⟩ := k
          exact ⟨its2, hv2, _, hl2, rfl, _, rfl⟩
        · have k := hok p _ hp
          simp only [ObjOk] at k
          exact k.2
        · cases e : H p with
          | none => rfl
          | some o =>
            have := sm _ _ e
            rw [np] at this
            cases this
        · rw [z, n3I] at hp
          cases hp
        · rw [z, n3S] at hp
          cases hp
        · rintro j k' ⟨p', rfl, ⟨its3, hv3, ht3⟩, n, nf, nI', nS'⟩
          refine ⟨p', rfl, ?_, n, nf, nI', nS'⟩
          cases e : H2 p' with
          | none => exact ⟨its3, hv3, isTup_keep ht3 fun o e' => un.keep p' o e' e nf (fun z => nomatch z)⟩
          | some oo =>
            obtain ⟨ys, rfl⟩ := tp p' oo e n
            have k := I2.hok p' _ e
            simp only [ObjOk] at k
            obtain ⟨_, its4, hv4, ht4⟩ := k
            have e4 : its3 = its4 := by simpa using isTup_un ht3 ht4
            subst e4
            obtain ⟨t1, t2, rfl⟩ := vals_pair hv3
            have ey := vals_pair' hv4
            subst ey
            have k := hok p' _ (s3 _ _ e)
            simp only [ObjOk] at k
            exact k.2
    · intro i j ki kj st Q' E' _ vi vj q
      obtain ⟨as, r1⟩ := mReads vi
      obtain ⟨bs, r2⟩ := mReads vj
      have hun := (Room.in1 hr).un
      have hd := dep_pair (kn i) (kz i)
      exact PySem.W.rcLt_alike _ _ X.A.in1 st ki kj as bs r1 r2 (alike_pair _ _ _ _) (fun z => nomatch z) (by omega) X.prog X.w _ _ q
  · exact ⟨H, I1, .refl H, fun b o e n => (by rw [e] at n; cases n), I0.hok.fresh (Nat.le_of_eq hI), I0.hok.fresh (by rw [hI]; exact Nat.le_succ I)⟩
  · rintro v s' ⟨z, hz, rz⟩ ⟨H2, I2, sm, _⟩
    exact ⟨z, H2, I2, rz, hQ z H2 hz sm⟩
end
end G1

namespace G1
open PySem PySem.Spec PyProof.Rows L2
section
variable {X : Cx} {k : Nat} {x pn : Str} {sp : Sp} {e : Expr} {ta : TE} {p p2 pos kp : Pos}
/-- the name of a def, as a value -/
def tFn (mg : Str → Option Value) (x : Str) : TE := fun σ H Q => ∀ f, mg x = some (.ref f) → Q (.ref f) H
theorem pe_fnref (C : OkD X.prog X.w X.K X.mg X.base k x [pn] sp) (hg : Gl X x) (hdb : (x == ("__debug__" : Str)) = false := by decide) : PE X (.Name x p) (tFn X.mg x) := by
  obtain ⟨f, fd, F, hm, _⟩ := C
  exact ⟨fun pins s σ H Q I h => (pe_gref (a := f) hg hm hdb).run pins s σ H Q I (h f hm)⟩
/-- min(list, key=f) -/
def tMinK (mg : Str → Option Value) (x : Str) (sp : Sp) (ta : TE) : TE := fun σ H Q => ta σ H fun v H1 => ∀ f, mg x = some (.ref f) → rMinK mg x sp [v] [.ref f] H1 Q
theorem pe_minK (C : OkD X.prog X.w X.K X.mg X.base k x [pn] sp) (hr : Room (k + 1) X.A) (hg : Gl X "min") (hm : X.mg "min" = none) (hgx : Gl X x) (he : PE X e ta) (hdb : (x == ("__debug__" : Str)) = false := by decide)
    (h3 : backTo pos (starEach [e] X.env) = (false, eval e X.env) :: backTo pos (starEach [] X.env)   := by rfl)
    (h5 : starEach [e] X.env = (false, eval e X.env) :: starEach [] X.env := by rfl) (h4 : ((backTo pos (starEach [e] X.env)).any fun x => x.fst) = false := by rfl) :
    PE X (.Call (.Name "min" p) [e] [⟨some "key", .Name x p2, kp⟩] pos) (tMinK X.mg x sp ta) := by
  refine ⟨fun pins s σ H Q I h => ?_⟩
  refine (pe_callBK (cr_minK C hr) hg hm (by decide +kernel) (pa_cons he pa_nil h5) (pk_cons (pe_fnref C hgx hdb) pk_nil) (by decide) (by decide) h3 h4 (by rfl) (by rfl) (by rfl)).run pins s σ H Q I h
end
theorem isT_kitT {K : PySem.W.Frag} {H : Hp} {v : V} {t : String} (h : Any H v t) : PySem.W.kitOne K (.type t) (.type "tuple") = some (isT t "tuple") := by
  have m := h.mem
  simp only [List.mem_cons, List.not_mem_nil, or_false] at m
  rcases m with rfl | rfl | rfl | rfl | rfl | rfl | rfl <;> exact kit_ty (by decide +kernel)
/-- isinstance(x, tuple) -/
def rIsTu : List V → Hp → VK → Prop := fun xs H Q => ∃ v, xs = [v, .ty "tuple"] ∧ ∃ t, Any H v t ∧ Q (.bl (isT t "tuple")) H
theorem call_isTu {X : Cx} : CallR X (.builtin "isinstance") rIsTu := by
  rintro pins s σ H xs us Q I r ⟨v, rfl, t, hv, q⟩
  exact call_isi pins s σ H _ us Q I r ⟨v, .ty "tuple", _, _, _, rfl, .ty "tuple", hv.ty, isT_kitT hv, q⟩
end G1

namespace G1
open PySem PySem.Spec PyProof.Rows L2
/-! text.find(other, start): the first place from there on -/
def occStep (q : Nat → Bool) (len : Nat) (p : Array Nat × Nat) (i : Nat) : Array Nat × Nat := if (decide (p.1.size < 1) && decide (p.2 ≤ i) && q i) = true then (p.1.push i, i + len) else p
theorem occ_full (q : Nat → Bool) (len : Nat) : ∀ (L : List Nat) (p : Array Nat × Nat), ¬ p.1.size < 1 → L.foldl (occStep q len) p = p
  | [], p, _ => rfl
  | i :: L, p, h => by
    rw [List.foldl_cons]
    have : occStep q len p i = p := by
      unfold occStep
      rw [if_neg (by simp [h])]
    rw [this]
    exact occ_full q len L p h
theorem occ_find (q : Nat → Bool) (len lo : Nat) : ∀ (L : List Nat), (∀ i ∈ L, lo ≤ i) → ((L.foldl (occStep q len) (#[], lo)).1.toList = (L.find? q).toList)
  | [], _ => rfl
  | i :: L, h => by
    rw [List.foldl_cons, List.find?_cons]
    by_cases e : q i = true
    · have : occStep q len (#[], lo) i = (#[i], i + len) := by
        unfold occStep
        rw [if_pos (by simp [e, h i List.mem_cons_self])]
        rfl
      rw [this, occ_full q len L _ (by simp), e]
      rfl
    · have : occStep q len (#[], lo) i = (#[], lo) := by
        unfold occStep
        rw [if_neg (by simp [e])]
      rw [this, occ_find q len lo L (fun i hi => h i (List.mem_cons_of_mem _ hi))]
      rw [show q i = false by simpa using e]
def occQ (s sub : Str) (hi : Nat) (i : Nat) : Bool := decide (i + sub.length ≤ hi) && Builtin.Str.subAt s sub i
theorem occ_one (s sub : Str) (lo hi : Nat) : Builtin.Str.occurrences s sub lo hi 1 = ((List.range' lo (hi + 1 - lo)).find? (occQ s sub hi)).toList := by
  rw [← occ_find (occQ s sub hi) sub.length lo _ (fun i hi => (List.mem_range'_1.mp hi).1)]
  unfold Builtin.Str.occurrences
  simp only [Std.Legacy.Range.forIn_eq_forIn_range', Std.Legacy.Range.size, Nat.sub_zero, Nat.add_sub_cancel, Nat.div_one]
  generalize List.range' lo (hi + 1 - lo) = L
  have key : ∀ (L : List Nat) (p : Array Nat × Nat), (forIn (m := Id) L p fun i r => if (decide (r.1.size < 1) && decide (r.2 ≤ i) && decide (i + sub.length ≤ hi) && Builtin.Str.subAt s sub i) = true then (pure (ForInStep.yield (r.1.push i, i + sub.length)) : Id _) else pure (ForInStep.yield (r.1, r.2))) = (L.foldl (occStep (occQ s sub hi) sub.length) p : Id _) := by
    intro L
    induction L with
    | nil => intro p; rfl
    | cons i L ih =>
      intro p
      rw [List.forIn_cons, List.foldl_cons]
      have es : occStep (occQ s sub hi) sub.length p i = if (decide (p.1.size < 1) && decide (p.2 ≤ i) && decide (i + sub.length ≤ hi) && Builtin.Str.subAt s sub i) = true then (p.1.push i, i + sub.length) else p := by
        unfold occStep occQ
        simp only [Bool.and_assoc]
      rw [es]
      split
      · exact ih _
      · exact ih _
  exact congrArg (fun p : Array Nat × Nat => p.1.toList) (key L (#[], lo))
/-- the first place from a place on where the other text stands -/
theorem find3_at {s sub : Str} {lo k : Nat} (h1 : lo ≤ k) (h2 : k + sub.length ≤ s.length) (h3 : Builtin.Str.subAt s sub k = true) (h4 : ∀ i, lo ≤ i → i < k → Builtin.Str.subAt s sub i = false) : Txt.find3 s sub (lo : Int) = (k : Int) := by
  have e1 : fromIndex s.length (lo : Int) = lo := by
    unfold fromIndex
    rw [if_neg (by omega)]
    omega
  unfold Txt.find3
  rw [e1, occ_one]
  have e2 : (List.range' lo (s.length + 1 - lo)).find? (occQ s sub s.length) = some k := by
    rw [List.find?_eq_some_iff_append]
    refine ⟨by unfold occQ; simp [h2, h3], List.range' lo (k - lo), List.range' (k + 1) (s.length - k), ?_, fun i hi => ?_⟩
    · have : s.length + 1 - lo = (k - lo) + (1 + (s.length - k)) := by omega
      rw [this, ← List.range'_append_1, show lo + (k - lo) = k by omega, Nat.add_comm 1, List.range'_succ]
    · have := List.mem_range'_1.mp hi
      unfold occQ
      rw [h4 i this.1 (by omega)]
      simp
  rw [e2]
  rfl
end G1

namespace G1
open PySem PySem.Spec PyProof.Rows L2
/-! defs of three that may raise, called by place or by all three names in another order -/
def OkX3c (P : Program) (w : World) (K : PySem.W.Frag) (mg : Str → Option Value) (base : Heap) (k : Nat) (x p1 p2 p3 : Str) (sp : Sp) : Prop :=
  ∃ f fd, FnOk P w K mg base (L2.CX P w) k f fd [p1, p2, p3] sp ∧ mg x = some (.ref f) ∧ PySem.W.keepIn K (.ref f) = true ∧ L2.Binds K fd [p1, p2, p3] [] ∧ ∀ (s : Shared) (u1 u2 u3 : Value), BindsTo s fd ⟨[], [(p3, u3), (p1, u1), (p2, u2)]⟩ [(p1, u1), (p2, u2), (p3, u3)]
theorem OkX3c.okX {P : Program} {w : World} {K : PySem.W.Frag} {mg : Str → Option Value} {base : Heap} {k : Nat} {x p1 p2 p3 : Str} {sp : Sp} (h : OkX3c P w K mg base k x p1 p2 p3 sp) : OkX P w K mg base k x [p1, p2, p3] sp :=
  let ⟨f, fd, h1, h2, h3, h4, _⟩ := h
  ⟨f, fd, h1, h2, h3, h4⟩
theorem okx3c {P : Program} {w : World} {K : PySem.W.Frag} {mg : Str → Option Value} {base : Heap} {x p1 p2 p3 : Str} {st : Stmt} {k : Nat} {sp : Sp} (S : Src K mg x st) (F : ∀ f fd, Fun K x x st f fd → FnOk P w K mg base (L2.CX P w) k f fd [p1, p2, p3] sp)
    (h : ∀ (kV doc pm : Value) (an : Option Addr) (cdv ct : Value) (us : List Value), us.length = [p1, p2, p3].length → bindArgs (PySem.W.fnOf x x (defArgs st) (defBody st) (defScope st) .none kV doc pm an cdv ct) ⟨us, []⟩ = pure ([p1, p2, p3].zip us))
    (h2 : ∀ (kV doc pm : Value) (an : Option Addr) (cdv ct u1 u2 u3 : Value), bindArgs (PySem.W.fnOf x x (defArgs st) (defBody st) (defScope st) .none kV doc pm an cdv ct) ⟨[], [(p3, u3), (p1, u1), (p2, u2)]⟩ = pure [(p1, u1), (p2, u2), (p3, u3)]) : OkX3c P w K mg base k x p1 p2 p3 sp := by
  obtain ⟨f, fd, F1, g⟩ := S
  refine ⟨f, fd, F f fd F1, g, F1.kp, F1.binds h, ?_⟩
  obtain ⟨oc, od, kV, doc, pm, an, cdv, ct, osl, rfl, lk, hcd⟩ := F1.ex
  intro s u1 u2 u3 M A E Q q
  rw [h2 kV doc pm an cdv ct u1 u2 u3]
  exact wpAny_pure q
section
variable {X : Cx} {k : Nat} {x p1 p2 p3 : Str} {sp : Sp} {p pos : Pos}
/-- by all three names, in another order -/
def tCallK3c (sp : Sp) (tk : TA) : TE := fun σ H Q => tk σ H fun zs H1 => ∃ v1 v2 v3, zs = [v3, v1, v2] ∧ sp [v1, v2, v3] H1 Q (fun _ _ _ => False)
theorem pe_callK3c {kws : List Keyword} {tk : TA} (C : OkX3c X.prog X.w X.K X.mg X.base k x p1 p2 p3 sp) (hr : Room k X.A) (hg : Gl X x) (hkw : PK X kws tk)
    (hks : (backToKw pos (keywordEach kws X.env)).filterMap (·.1) = [p3, p1, p2] := by rfl) (hall : (backToKw pos (keywordEach kws X.env)).all (·.1.isSome) = true := by rfl) (hdb : (x == ("__debug__" : Str)) = false := by decide)
    (hpl : ((backTo pos (starEach [] X.env)).any (·.1) || (backToKw pos (keywordEach kws X.env)).any (·.1.isNone)) = false := by rfl) :
    PE X (.Call (.Name x p) [] kws pos) (tCallK3c sp tk) := by
  obtain ⟨f, fd, F, hm, hk, hb, hb2⟩ := C
  constructor
  intro pins s σ H Q I h
  apply wpAny_Call_Name_kw (ld_glob I hg hm ?_ hdb)
  apply PySem.W.callWith_KW0 (h₀ := X.base) I.ok.mod.kin hk hall ?_ hpl
  apply thn (hkw.run pos pins s σ H _ I h)
  rintro ws s2 ⟨zs, H2, I2, rz, v1, v2, v3, rfl, q⟩
  refine ⟨I2.kIn, ?_⟩
  rw [hks]
  obtain ⟨w3, w1, w2, rfl, r3, r1, r2⟩ := vals3' rz
  show wpAny (model X.prog X.w) X.A (call (.ref f) [] [(p3, w3), (p1, w1), (p2, w2)]) (EP X pins σ Q) X.xe s2
  apply wpAny_call (codeAny_mono (F.run X.A X.stack s2 H2 ⟨[], [(p3, w3), (p1, w1), (p2, w2)]⟩ [w1, w2, w3] _ Q _ hr I2.env0 (hb2 s2 w1 w2 w3) (.cons r1 (.cons r2 (.cons r3 .nil))) q) ?_)
  rintro (er | (_ | _ | _ | u)) s' z
  · exact passC pins σ H2 s2 er s' I2 z
  · exact z.elim
  · exact z.elim
  · exact z.elim
  · exact I2.after z
end
end G1
namespace G1
open PySem PySem.Spec PyProof.Rows L2
/-! defs of three that may raise, called by place or by all three names in another order -/
def OkX3d (P : Program) (w : World) (K : PySem.W.Frag) (mg : Str → Option Value) (base : Heap) (k : Nat) (x p1 p2 p3 : Str) (sp : Sp) : Prop :=
  ∃ f fd, FnOk P w K mg base (L2.CX P w) k f fd [p1, p2, p3] sp ∧ mg x = some (.ref f) ∧ PySem.W.keepIn K (.ref f) = true ∧ L2.Binds K fd [p1, p2, p3] [] ∧ ∀ (s : Shared) (u1 u2 u3 : Value), BindsTo s fd ⟨[], [(p2, u2), (p3, u3), (p1, u1)]⟩ [(p1, u1), (p2, u2), (p3, u3)]
theorem OkX3d.okX {P : Program} {w : World} {K : PySem.W.Frag} {mg : Str → Option Value} {base : Heap} {k : Nat} {x p1 p2 p3 : Str} {sp : Sp} (h : OkX3d P w K mg base k x p1 p2 p3 sp) : OkX P w K mg base k x [p1, p2, p3] sp :=
  let ⟨f, fd, h1, h2, h3, h4, _⟩ := h
  ⟨f, fd, h1, h2, h3, h4⟩
theorem okx3d {P : Program} {w : World} {K : PySem.W.Frag} {mg : Str → Option Value} {base : Heap} {x p1 p2 p3 : Str} {st : Stmt} {k : Nat} {sp : Sp} (S : Src K mg x st) (F : ∀ f fd, Fun K x x st f fd → FnOk P w K mg base (L2.CX P w) k f fd [p1, p2, p3] sp)
    (h : ∀ (kV doc pm : Value) (an : Option Addr) (cdv ct : Value) (us : List Value), us.length = [p1, p2, p3].length → bindArgs (PySem.W.fnOf x x (defArgs st) (defBody st) (defScope st) .none kV doc pm an cdv ct) ⟨us, []⟩ = pure ([p1, p2, p3].zip us))
    (h2 : ∀ (kV doc pm : Value) (an : Option Addr) (cdv ct u1 u2 u3 : Value), bindArgs (PySem.W.fnOf x x (defArgs st) (defBody st) (defScope st) .none kV doc pm an cdv ct) ⟨[], [(p2, u2), (p3, u3), (p1, u1)]⟩ = pure [(p1, u1), (p2, u2), (p3, u3)]) : OkX3d P w K mg base k x p1 p2 p3 sp := by
  obtain ⟨f, fd, F1, g⟩ := S
  refine ⟨f, fd, F f fd F1, g, F1.kp, F1.binds h, ?_⟩
  obtain ⟨oc, od, kV, doc, pm, an, cdv, ct, osl, rfl, lk, hcd⟩ := F1.ex
  intro s u1 u2 u3 M A E Q q
  rw [h2 kV doc pm an cdv ct u1 u2 u3]
  exact wpAny_pure q
section
variable {X : Cx} {k : Nat} {x p1 p2 p3 : Str} {sp : Sp} {p pos : Pos}
/-- by all three names, in another order -/
def tCallK3d (sp : Sp) (tk : TA) : TE := fun σ H Q => tk σ H fun zs H1 => ∃ v1 v2 v3, zs = [v2, v3, v1] ∧ sp [v1, v2, v3] H1 Q (fun _ _ _ => False)
theorem pe_callK3d {kws : List Keyword} {tk : TA} (C : OkX3d X.prog X.w X.K X.mg X.base k x p1 p2 p3 sp) (hr : Room k X.A) (hg : Gl X x) (hkw : PK X kws tk)
    (hks : (backToKw pos (keywordEach kws X.env)).filterMap (·.1) = [p2, p3, p1] := by rfl) (hall : (backToKw pos (keywordEach kws X.env)).all (·.1.isSome) = true := by rfl) (hdb : (x == ("__debug__" : Str)) = false := by decide)
    (hpl : ((backTo pos (starEach [] X.env)).any (·.1) || (backToKw pos (keywordEach kws X.env)).any (·.1.isNone)) = false := by rfl) :
    PE X (.Call (.Name x p) [] kws pos) (tCallK3d sp tk) := by
  obtain ⟨f, fd, F, hm, hk, hb, hb2⟩ := C
  constructor
  intro pins s σ H Q I h
  apply wpAny_Call_Name_kw (ld_glob I hg hm ?_ hdb)
  apply PySem.W.callWith_KW0 (h₀ := X.base) I.ok.mod.kin hk hall ?_ hpl
  apply thn (hkw.run pos pins s σ H _ I h)
  rintro ws s2 ⟨zs, H2, I2, rz, v1, v2, v3, rfl, q⟩
  refine ⟨I2.kIn, ?_⟩
  rw [hks]
  obtain ⟨w2, w3, w1, rfl, r2, r3, r1⟩ := vals3' rz
  show wpAny (model X.prog X.w) X.A (call (.ref f) [] [(p2, w2), (p3, w3), (p1, w1)]) (EP X pins σ Q) X.xe s2
  apply wpAny_call (codeAny_mono (F.run X.A X.stack s2 H2 ⟨[], [(p2, w2), (p3, w3), (p1, w1)]⟩ [w1, w2, w3] _ Q _ hr I2.env0 (hb2 s2 w1 w2 w3) (.cons r1 (.cons r2 (.cons r3 .nil))) q) ?_)
  rintro (er | (_ | _ | _ | u)) s' z
  · exact passC pins σ H2 s2 er s' I2 z
  · exact z.elim
  · exact z.elim
  · exact z.elim
  · exact I2.after z
end
end G1

namespace MW
/-! hair and ring of a plain word; powers -/
theorem plain_app_iff : ∀ (u v : List Nat), Plain (u ++ v) ↔ Plain u ∧ Plain v ∧ ∀ a b, u.getLast? = some a → v.head? = some b → b ≠ inv a
  | [], v => by simp [Plain]
  | [a], [] => by simp [Plain]
  | [a], b :: v => by
    simp only [List.singleton_append, Plain, List.getLast?_singleton, List.head?_cons, Option.some.injEq]
    constructor
    · rintro ⟨h1, h2⟩
      exact ⟨trivial, h2, fun x y hx hy => by subst hx; subst hy; exact h1⟩
    · rintro ⟨_, h2, h3⟩
      exact ⟨h3 a b rfl rfl, h2⟩
  | a :: c :: u, v => by
    have ih := plain_app_iff (c :: u) v
    simp only [List.cons_append, Plain] at ih ⊢
    rw [List.getLast?_cons_cons, ih]
    constructor
    · rintro ⟨h1, h2, h3, h4⟩
      exact ⟨⟨h1, h2⟩, h3, h4⟩
    · rintro ⟨⟨h1, h2⟩, h3, h4⟩
      exact ⟨h1, h2, h3, h4⟩
/-- empty, or its last sign is not the other one of its first -/
def Round (r : List Nat) : Prop := ∀ a b, r.getLast? = some a → r.head? = some b → b ≠ inv a
instance (r : List Nat) : Decidable (Round r) := by
  unfold Round
  cases r with
  | nil => exact .isTrue fun a b h => by simp at h
  | cons x r =>
    by_cases e : x = inv ((x :: r).getLast (by simp))
    · exact .isFalse fun h => h _ _ (List.getLast?_eq_some_getLast (by simp)) rfl e
    · refine .isTrue fun a b h1 h2 => ?_
      rw [List.getLast?_eq_some_getLast (by simp)] at h1
      cases h1
      cases h2
      exact e
/-- the sign at k and the k-th one from the end undo one another -/
def Meets (l : List Nat) (k : Nat) : Prop := 2 * k < l.length ∧ l[k]? = (l[l.length - 1 - k]?).map inv
instance (l : List Nat) (k : Nat) : Decidable (Meets l k) := inferInstanceAs (Decidable (_ ∧ _))
/-- so many signs at both ends undo one another, and no more -/
def HairK (l : List Nat) (k : Nat) : Prop := (∀ i, i < k → Meets l i) ∧ ¬ Meets l k
theorem HairK.uniq {l : List Nat} {a b : Nat} (h : HairK l a) (k : HairK l b) : a = b := by
  rcases Nat.lt_trichotomy a b with e | e | e
  · exact absurd (k.1 a e) h.2
  · exact e
  · exact absurd (h.1 b e) k.2
def hairW (l : List Nat) (k : Nat) : List Nat := l.take k
def ringW (l : List Nat) (k : Nat) : List Nat := (l.drop k).take (l.length - k - k)
theorem HairK.le {l : List Nat} {k : Nat} (h : HairK l k) : 2 * k ≤ l.length := by
  cases k with
  | zero => omega
  | succ k =>
    obtain ⟨h1, h2⟩ := h.1 k (Nat.lt_succ_self k)
    rcases Nat.lt_or_ge (2 * k + 1) l.length with e | e
    · omega
    · exfalso
      have e1 : l.length - 1 - k = k := by omega
      rw [e1] at h2
      have hk : k < l.length := by omega
      rw [List.getElem?_eq_getElem hk] at h2
      exact inv_ne _ (Option.some.inj h2).symm
theorem opp_len' (l : List Nat) : (opp l).length = l.length := by
  unfold opp
  rw [List.length_reverse, List.length_map]
theorem opp_get {l : List Nat} {i : Nat} (h : i < l.length) : (opp l)[i]? = (l[l.length - 1 - i]?).map inv := by
  unfold opp
  rw [List.getElem?_reverse (by rw [List.length_map]; exact h), List.length_map, List.getElem?_map]
/-- the parts, one behind the other -/
theorem HairK.parts {l : List Nat} {k : Nat} (h : HairK l k) : l = hairW l k ++ ringW l k ++ opp (hairW l k) := by
  have h2 := h.le
  have e3 : opp (hairW l k) = l.drop (l.length - k) := by
    apply List.ext_getElem?
    intro i
    have hl : (hairW l k).length = k := by unfold hairW; rw [List.length_take]; omega
    rcases Nat.lt_or_ge i k with e | e
    · rw [opp_get (by rw [hl]; exact e), hl]
      have m := h.1 (k - 1 - i) (by omega)
      rw [List.getElem?_drop]
      unfold hairW
      rw [List.getElem?_take_of_lt (by omega), m.2, Option.map_map]
      have : (inv ∘ inv) = id := by funext x; exact inv_inv x
      rw [this, Option.map_id]
      simp only [id]
      congr 1
      omega
    · rw [List.getElem?_eq_none (by rw [opp_len', hl]; omega), List.getElem?_eq_none (by rw [List.length_drop]; omega)]
  rw [e3]
  unfold hairW ringW
  rw [show l.length - k - k = (l.length - k) - k by omega, ← List.drop_take]
  have e4 : List.take k l ++ List.drop k (List.take (l.length - k) l) = List.take (l.length - k) l := by
    have := List.take_append_drop k (List.take (l.length - k) l)
    rw [List.take_take, Nat.min_eq_left (by omega)] at this
    exact this
  rw [e4, List.take_append_drop]
theorem last_get (l : List Nat) : l.getLast? = l[l.length - 1]? := List.getLast?_eq_getElem?
theorem HairK.round {l : List Nat} {k : Nat} (h : HairK l k) : Round (ringW l k) := by
  have h2 := h.le
  intro a b ha hb e
  apply h.2
  have hl : (ringW l k).length = l.length - k - k := by unfold ringW; rw [List.length_take, List.length_drop]; omega
  have hpos : 0 < (ringW l k).length := by
    cases hh : ringW l k with
    | nil => rw [hh] at hb; cases hb
    | cons x y => simp
  rw [List.head?_eq_getElem?] at hb
  rw [last_get, hl] at ha
  unfold ringW at ha hb
  rw [List.getElem?_take_of_lt (by omega), List.getElem?_drop] at ha hb
  refine ⟨by omega, ?_⟩
  rw [Nat.add_zero] at hb
  rw [hb, e, show l.length - 1 - k = k + (l.length - k - k - 1) by omega, ha]
  rfl
theorem hair_of {h r : List Nat} (R : Round r) : HairK (h ++ r ++ opp h) h.length := by
  have hl : (h ++ r ++ opp h).length = h.length + r.length + h.length := by simp [opp_len', Nat.add_assoc]
  constructor
  · intro i hi
    refine ⟨by omega, ?_⟩
    rw [hl]
    rw [List.append_assoc, List.getElem?_append_left hi, ← List.append_assoc]
    rw [List.getElem?_append_right (by rw [List.length_append]; omega), List.length_append, opp_get (by omega), Option.map_map]
    have : (inv ∘ inv) = id := by funext x; exact inv_inv x
    rw [this, Option.map_id]
    simp only [id]
    congr 1
    omega
  · rintro ⟨h1, h2⟩
    rw [hl] at h1 h2
    have hr : 0 < r.length := by omega
    rw [List.append_assoc, List.getElem?_append_right (Nat.le_refl _), Nat.sub_self, List.getElem?_append_left hr,
      List.getElem?_append_right (by omega), List.getElem?_append_left (by omega)] at h2
    have hb : r.head? = r[0]? := List.head?_eq_getElem?
    have ha := last_get r
    rw [show h.length + r.length + h.length - 1 - h.length - h.length = r.length - 1 by omega] at h2
    rw [List.getElem?_eq_getElem hr, List.getElem?_eq_getElem (show r.length - 1 < r.length by omega)] at h2
    refine R r[r.length - 1] r[0] ?_ ?_ (Option.some.inj h2)
    · rw [ha, List.getElem?_eq_getElem]
    · rw [hb, List.getElem?_eq_getElem hr]
theorem parts_of {h r : List Nat} : hairW (h ++ r ++ opp h) h.length = h ∧ ringW (h ++ r ++ opp h) h.length = r := by
  constructor
  · unfold hairW
    rw [List.append_assoc, List.take_left]
  · unfold ringW
    rw [List.append_assoc, List.drop_left]
    have : (h ++ (r ++ opp h)).length - h.length - h.length = r.length := by simp [opp_len']
    rw [this, List.take_left]
/-- the hair's number of signs -/
def hk (l : List Nat) : Nat := ((List.range l.length).takeWhile fun k => decide (Meets l k)).length
theorem tw_range (p : Nat → Bool) : ∀ (n s : Nat), (∀ i, i < ((List.range' s n).takeWhile p).length → p (s + i) = true) ∧ (((List.range' s n).takeWhile p).length < n → p (s + ((List.range' s n).takeWhile p).length) = false)
  | 0, s => ⟨fun i h => absurd h (Nat.not_lt_zero i), fun h => absurd h (Nat.not_lt_zero _)⟩
  | n + 1, s => by
    rw [List.range'_succ, List.takeWhile_cons]
    by_cases h : p s = true
    · rw [if_pos h]
      obtain ⟨h1, h2⟩ := tw_range p n (s + 1)
      constructor
      · intro i hi
        cases i with
        | zero => exact h
        | succ i =>
          have := h1 i (by rw [List.length_cons] at hi; omega)
          rw [show s + (i + 1) = s + 1 + i by omega]
          exact this
      · intro hlt
        rw [List.length_cons] at hlt ⊢
        have := h2 (by omega)
        rw [← this]
        congr 1
        omega
    · rw [if_neg h]
      exact ⟨fun i hi => absurd hi (Nat.not_lt_zero i), fun _ => by simpa using h⟩
theorem hk_spec (l : List Nat) : HairK l (hk l) := by
  obtain ⟨h1, h2⟩ := tw_range (fun k => decide (Meets l k)) l.length 0
  unfold hk
  rw [List.range_eq_range']
  refine ⟨fun i hi => by simpa using h1 i hi, fun hm => ?_⟩
  have := hm.1
  have h3 := h2 (by omega)
  rw [Nat.zero_add] at h3
  simp only [decide_eq_false_iff_not] at h3
  exact h3 hm
def hair (l : List Nat) : List Nat := hairW l (hk l)
def ring (l : List Nat) : List Nat := ringW l (hk l)
theorem hr_eq (l : List Nat) : l = hair l ++ ring l ++ opp (hair l) := (hk_spec l).parts
theorem ring_round (l : List Nat) : Round (ring l) := (hk_spec l).round
theorem hr_of {h r : List Nat} (R : Round r) : hair (h ++ r ++ opp h) = h ∧ ring (h ++ r ++ opp h) = r := by
  have e : hk (h ++ r ++ opp h) = h.length := (hk_spec _).uniq (hair_of R)
  unfold hair ring
  rw [e]
  exact parts_of
theorem round_opp {r : List Nat} (R : Round r) : Round (opp r) := by
  intro a b ha hb e
  unfold opp at ha hb
  rw [List.getLast?_reverse, List.head?_map] at ha
  rw [List.head?_reverse, List.getLast?_map] at hb
  cases h1 : r.head? with
  | none => rw [h1] at ha; cases ha
  | some x =>
    rw [h1] at ha
    cases h2 : r.getLast? with
    | none => rw [h2] at hb; cases hb
    | some y =>
      rw [h2] at hb
      cases ha
      cases hb
      rw [inv_inv] at e
      exact R y x h2 h1 e.symm
theorem hr_opp (l : List Nat) : hair (opp l) = hair l ∧ ring (opp l) = opp (ring l) := by
  have e : opp l = hair l ++ opp (ring l) ++ opp (hair l) := by
    have h := congrArg opp (hr_eq l)
    rw [opp_append, opp_append, opp_opp] at h
    rw [h, List.append_assoc]
  have h2 := hr_of (h := hair l) (round_opp (ring_round l))
  rw [← e] at h2
  exact h2
theorem hr_len (l : List Nat) : 2 * (hair l).length + (ring l).length = l.length := by
  have := congrArg List.length (hr_eq l)
  rw [List.length_append, List.length_append, opp_len'] at this
  omega
theorem ring_nil {l : List Nat} (hp : Plain l) (h : ring l = []) : l = [] := by
  have e := hr_eq l
  rw [h, List.append_nil] at e
  have h1 := red_of_plain hp
  rw [e, red_undo] at h1
  rw [e]
  exact h1.symm
/-! so many times -/
def rep (n : Nat) (l : List Nat) : List Nat := (List.replicate n l).flatten
theorem rep_zero (l : List Nat) : rep 0 l = [] := rfl
theorem rep_succ (n : Nat) (l : List Nat) : rep (n + 1) l = l ++ rep n l := by
  unfold rep
  rw [List.replicate_succ, List.flatten_cons]
theorem rep_succ' (n : Nat) (l : List Nat) : rep (n + 1) l = rep n l ++ l := by
  unfold rep
  rw [List.replicate_succ', List.flatten_append]
  simp
theorem rep_len (n : Nat) (l : List Nat) : (rep n l).length = n * l.length := by
  induction n with
  | zero => simp [rep]
  | succ n ih => rw [rep_succ, List.length_append, ih, Nat.succ_mul]; omega
theorem rep_nil (n : Nat) : rep n [] = [] := by
  induction n with
  | zero => rfl
  | succ n ih => rw [rep_succ, ih]; rfl
theorem rep_opp (n : Nat) (l : List Nat) : opp (rep n l) = rep n (opp l) := by
  induction n with
  | zero => rfl
  | succ n ih => rw [rep_succ, opp_append, ih, rep_succ']
theorem rep_mem {n : Nat} {l : List Nat} {c : Nat} (h : c ∈ rep n l) : c ∈ l := by
  unfold rep at h
  obtain ⟨y, hy, hc⟩ := List.mem_flatten.mp h
  rw [List.mem_replicate] at hy
  rw [← hy.2]
  exact hc
theorem rep_head {n : Nat} {l : List Nat} (hl : l ≠ []) : (rep (n + 1) l).head? = l.head? := by
  rw [rep_succ]
  cases l with
  | nil => exact absurd rfl hl
  | cons a l => rfl
theorem rep_last {n : Nat} {l : List Nat} (hl : l ≠ []) : (rep (n + 1) l).getLast? = l.getLast? := by
  rw [rep_succ', List.getLast?_append]
  cases h : l.getLast? with
  | none => exact absurd (List.getLast?_eq_none_iff.mp h) hl
  | some a => rfl
theorem rep_plain {l : List Nat} (hp : Plain l) (R : Round l) (hl : l ≠ []) : ∀ n, Plain (rep n l)
  | 0 => trivial
  | n + 1 => by
    rw [rep_succ', plain_app_iff]
    refine ⟨rep_plain hp R hl n, hp, fun a b ha hb => ?_⟩
    cases n with
    | zero => cases ha
    | succ n =>
      rw [rep_last hl] at ha
      exact R a b ha hb
theorem red_right (u v : List Nat) : red (u ++ red v) = red (u ++ v) := by
  unfold red
  rw [stk_append, stk_append]
  have := stk_red v (stk [] u) (stk_plain u (show Plain [] from trivial))
  unfold red at this
  rw [this]
theorem red_cong {u u' v v' : List Nat} (h : red u = red u') (k : red v = red v') : red (u ++ v) = red (u' ++ v') := by
  rw [← red_left u v, h, red_left, ← red_right u' v, k, red_right]
/-- the power of a plain word, as the program writes it -/
def pw (b : List Nat) (n : Nat) : List Nat := if b = [] ∨ n = 0 then [] else hair b ++ rep n (ring b) ++ opp (hair b)
theorem red_rep (b : List Nat) (n : Nat) : red (rep n b) = red (hair b ++ rep n (ring b) ++ opp (hair b)) := by
  induction n with
  | zero =>
    rw [rep_zero, rep_zero, List.append_nil, red_undo]
    rfl
  | succ n ih =>
    rw [rep_succ, ← red_right b, ih, red_right]
    have e : b ++ (hair b ++ rep n (ring b) ++ opp (hair b)) = (hair b ++ ring b) ++ (opp (hair b) ++ opp (opp (hair b))) ++ (rep n (ring b) ++ opp (hair b)) := by
      have h := hr_eq b
      generalize hair b = x at h ⊢
      generalize ring b = y at h ⊢
      rw [h, opp_opp]
      simp only [List.append_assoc]
    rw [e, red_mid, rep_succ]
    simp only [List.append_assoc]
theorem pw_plain {b : List Nat} (hp : Plain b) (n : Nat) : Plain (pw b n) := by
  unfold pw
  split
  · trivial
  · rename_i h
    have hb : b ≠ [] := fun e => h (.inl e)
    obtain ⟨m, rfl⟩ : ∃ m, n = m + 1 := ⟨n - 1, by have : n ≠ 0 := fun e => h (.inr e); omega⟩
    have hr : ring b ≠ [] := fun e => hb (ring_nil hp e)
    have hp2 := hp
    rw [hr_eq b, plain_app_iff, plain_app_iff] at hp2
    obtain ⟨⟨p1, p2, j1⟩, p3, j2⟩ := hp2
    rw [plain_app_iff, plain_app_iff]
    refine ⟨⟨p1, rep_plain p2 (ring_round b) hr _, fun x y hx hy => ?_⟩, p3, fun x y hx hy => ?_⟩
    · rw [rep_head hr] at hy
      exact j1 x y hx hy
    · refine j2 x y ?_ hy
      rw [List.getLast?_append, rep_last hr] at hx
      rw [List.getLast?_append]
      exact hx
theorem pw_red {b : List Nat} (hp : Plain b) (n : Nat) : pw b n = red (rep n b) := by
  rw [← red_of_plain (pw_plain hp n), red_rep]
  unfold pw
  split
  · rename_i h
    rcases h with rfl | rfl
    · have : hair ([] : List Nat) = [] := by unfold hair hairW; simp
      have h2 : ring ([] : List Nat) = [] := by unfold ring ringW; simp
      rw [this, h2, rep_nil]
      rfl
    · rw [rep_zero, List.append_nil, red_undo]
      rfl
  · rfl
/-- the power for a whole number -/
def pwi (b : List Nat) (t : Int) : List Nat := pw (if 0 < t then b else opp b) t.natAbs
def gp (b : List Nat) (t : Int) : List Nat := rep t.natAbs (if 0 < t then b else opp b)
theorem pwi_red {b : List Nat} (hp : Plain b) (t : Int) : pwi b t = red (gp b t) := by
  unfold pwi gp
  split
  · exact pw_red hp _
  · exact pw_red (plain_opp hp) _
theorem pwi_plain {b : List Nat} (hp : Plain b) (t : Int) : Plain (pwi b t) := by
  rw [pwi_red hp]
  exact red_plain _
theorem gp_zero (b : List Nat) : gp b 0 = [] := rfl
theorem gp_up (b : List Nat) (t : Int) : red (b ++ gp b t) = red (gp b (t + 1)) := by
  unfold gp
  by_cases h : 0 ≤ t
  · obtain ⟨n, rfl⟩ := Int.eq_ofNat_of_zero_le h
    rw [if_pos (show (0 : Int) < (n : Int) + 1 by omega)]
    have e : ((n : Int) + 1).natAbs = n + 1 := by omega
    rw [e, rep_succ, Int.natAbs_natCast]
    cases n with
    | zero => rfl
    | succ n => rw [if_pos (by omega)]
  · obtain ⟨n, rfl⟩ : ∃ n : Nat, t = -((n : Int) + 1) := ⟨(-t - 1).toNat, by omega⟩
    rw [if_neg (by omega), if_neg (by omega)]
    have e1 : (-((n : Int) + 1)).natAbs = n + 1 := by omega
    have e2 : (-((n : Int) + 1) + 1).natAbs = n := by omega
    rw [e1, e2, rep_succ, ← List.append_assoc]
    have := red_mid b [] (rep n (opp b))
    simpa using this
theorem gp_down (b : List Nat) (t : Int) : red (opp b ++ gp b t) = red (gp b (t - 1)) := by
  have h := gp_up b (t - 1)
  rw [Int.sub_add_cancel] at h
  rw [← red_right, ← h, red_right, ← List.append_assoc]
  have := red_mid (opp b) [] (gp b (t - 1))
  rw [opp_opp] at this
  simpa using this
theorem gp_add (b : List Nat) (s t : Int) : red (gp b s ++ gp b t) = red (gp b (s + t)) := by
  have up : ∀ n : Nat, red (gp b n ++ gp b t) = red (gp b (n + t)) := by
    intro n
    induction n with
    | zero => rw [show ((0 : Nat) : Int) = 0 from rfl, gp_zero, List.nil_append, Int.zero_add]
    | succ n ih =>
      have h := gp_up b n
      have e : ((n + 1 : Nat) : Int) = (n : Int) + 1 := by omega
      rw [e, ← red_left, ← h, red_left, List.append_assoc, ← red_right, ih, red_right, gp_up]
      congr 2
      omega
  have down : ∀ n : Nat, red (gp b (-(n : Int)) ++ gp b t) = red (gp b (-(n : Int) + t)) := by
    intro n
    induction n with
    | zero => rw [show (-((0 : Nat) : Int)) = 0 from rfl, gp_zero, List.nil_append, Int.zero_add]
    | succ n ih =>
      have h := gp_down b (-(n : Int))
      have e : (-((n + 1 : Nat) : Int)) = -(n : Int) - 1 := by omega
      rw [e, ← red_left, ← h, red_left, List.append_assoc, ← red_right, ih, red_right, gp_down]
      congr 2
      omega
  by_cases h : 0 ≤ s
  · obtain ⟨n, rfl⟩ := Int.eq_ofNat_of_zero_le h
    exact up n
  · obtain ⟨n, rfl⟩ : ∃ n : Nat, s = -(n : Int) := ⟨(-s).toNat, by omega⟩
    exact down n
theorem gp_cong {u v : List Nat} (h : red u = red v) (t : Int) : red (gp u t) = red (gp v t) := by
  have key : ∀ (n : Nat) (u v : List Nat), red u = red v → red (rep n u) = red (rep n v) := by
    intro n
    induction n with
    | zero => intro u v _; rfl
    | succ n ih => intro u v h; rw [rep_succ, rep_succ]; exact red_cong h (ih u v h)
  unfold gp
  split
  · exact key _ _ _ h
  · exact key _ _ _ (by rw [red_opp, red_opp, h])
theorem gp_neg (b : List Nat) (t : Int) : gp b (-t) = opp (gp b t) := by
  unfold gp
  rw [rep_opp, Int.natAbs_neg]
  by_cases h0 : t = 0
  · subst h0; rfl
  · by_cases h : 0 < t
    · rw [if_pos h, if_neg (by omega)]
    · rw [if_neg h, if_pos (by omega), opp_opp]
theorem pwi_neg {b : List Nat} (hp : Plain b) (t : Int) : pwi b (-t) = opp (pwi b t) := by
  rw [pwi_red hp, pwi_red hp, gp_neg, red_opp]
theorem pwi_add {b : List Nat} (hp : Plain b) (s t : Int) : red (pwi b s ++ pwi b t) = pwi b (s + t) := by
  rw [pwi_red hp, pwi_red hp, pwi_red hp, red_left, red_right, gp_add]
theorem gp_mul (b : List Nat) (s t : Int) : red (gp (gp b s) t) = red (gp b (s * t)) := by
  have up : ∀ n : Nat, red (gp (gp b s) n) = red (gp b (s * n)) := by
    intro n
    induction n with
    | zero => rw [show ((0 : Nat) : Int) = 0 from rfl, Int.mul_zero]; rfl
    | succ n ih =>
      have e : ((n + 1 : Nat) : Int) = (n : Int) + 1 := by omega
      rw [e, ← gp_up, ← red_right, ih, red_right, gp_add]
      congr 2
      rw [Int.mul_add, Int.mul_one]
      omega
  by_cases h : 0 ≤ t
  · obtain ⟨n, rfl⟩ := Int.eq_ofNat_of_zero_le h
    exact up n
  · obtain ⟨n, rfl⟩ : ∃ n : Nat, t = -(n : Int) := ⟨(-t).toNat, by omega⟩
    rw [gp_neg, red_opp, up, ← red_opp, ← gp_neg]
    congr 2
    rw [Int.mul_neg]
theorem pwi_mul {b : List Nat} (hp : Plain b) (s t : Int) : pwi (pwi b s) t = pwi b (s * t) := by
  rw [pwi_red (pwi_plain hp s), pwi_red hp (s * t), ← gp_mul]
  exact gp_cong (by rw [pwi_red hp, red_red]) t
end MW

namespace G1
open PySem PySem.Spec PyProof.Rows L2
/-! min(list) of texts -/
def ltZ (zs : List Str) (i j : Nat) : Bool := decide ((zs.getD i ⟨#[]⟩).cps.toList < (zs.getD j ⟨#[]⟩).cps.toList)
def rMinS (K : PySem.W.Frag) : List V → Hp → VK → Prop := fun vs H Q => ∃ (a : Addr) (zs : List Str), vs = [.ref a] ∧ SqL K H a (zs.map V.str) ∧ zs ≠ [] ∧ ∀ z, zs[argBest (ltZ zs) (zs.length - 1)]? = some z → Q (.str z) H
section
variable {prog : Program} {w : World} {A : Around} {E : Value → Shared → Prop} {s : Shared} {l : Addr} {xs : Array Value}
theorem iter_any {Q : Value → Shared → Prop} (hl : s.heap.IsList l xs)
    (h : ∀ s₂ : Shared, s₂ = { s with heap := s.heap.push { cls := .type "list_iterator", data := .fields #[.ref l, .int 0 0] } } →
      (s₂.heap.IsListIter s.heap.objs.size l 0 ∧ s₂.heap.IsList l xs) → (∀ b ∈ [s.heap.objs.size, l], b < s₂.heap.objs.size) → l ≠ s.heap.objs.size → Q (.ref s.heap.objs.size) s₂) :
    wpAny (model prog w) A (pyIter (.ref l)) Q E s := by
  have hlt : l < s.heap.objs.size := by obtain ⟨_, e, _⟩ := hl; exact Heap.lt_size e
  refine wpAny_pyIter_list hl (h _ rfl ⟨⟨_, Heap.get?_push_size _ rfl, rfl, rfl⟩, hl.push _⟩ (fun b hb => ?_) (Nat.ne_of_lt hlt))
  show b < (s.heap.push _).objs.size
  rw [Heap.size_push]
  rcases List.mem_cons.mp hb with rfl | hb
  · exact Nat.lt_succ_self _
  · rcases List.mem_cons.mp hb with rfl | hb
    · exact Nat.lt_succ_of_lt hlt
    · cases hb
end
theorem vals_get {zs : List Str} {its : List Value} (h : Vals (zs.map V.str) its) {i : Nat} {v : Value} (e : its[i]? = some v) : ∃ t, v = .str (zs.getD i ⟨#[]⟩) t ∧ zs[i]? = some (zs.getD i ⟨#[]⟩) := by
  obtain ⟨x, hx, r⟩ := vals_at h e
  rw [List.getElem?_map] at hx
  obtain ⟨z, hz, rfl⟩ := Option.map_eq_some_iff.mp hx
  obtain ⟨t, rfl⟩ := r
  exact ⟨t, by rw [List.getD_eq_getElem?_getD, hz]; rfl, by rw [List.getD_eq_getElem?_getD, hz]; rfl⟩
theorem cr_minS {X : Cx} (hc : X.calm = true) : CallR X (.builtin "min") (rMinS X.K) := by
  intro pins s σ H vs us Q I r h
  obtain ⟨a, zs, rfl, hs, hne, q⟩ := h
  obtain ⟨its, rv, hl, _⟩ := I.list hs
  rw [Vals.ref1 r]
  have hlen := rv.length
  rw [List.length_map] at hlen
  have hp := List.length_pos_iff.mpr hne
  refine call_min_walk (iter_any hl.isList fun s₂ e st hfp hlI => ?_)
  subst e
  refine ⟨_, _, _, _, _, _, ltZ zs, rfl, Walks.list (A := X.A.in1) (I.ok.hd hc) _ a hlI its.toArray, st, hfp, by simpa [← hlen] using hp, ?_, fun v h' tk hP hk => ?_⟩
  · intro i j vi vj s' Q' E' hi hj hq
    obtain ⟨t, rfl, _⟩ := vals_get rv (by simpa using hi)
    obtain ⟨t', rfl, _⟩ := vals_get rv (by simpa using hj)
    exact (PyProof.Rows.lt_str hq : wpAny _ _ (compareOp .Lt _ _) _ _ _)
  · have hP' : its[argBest (ltZ zs) (zs.length - 1)]? = some v := by simpa [← hlen] using hP
    obtain ⟨t, rfl, hz⟩ := vals_get rv hP'
    exact ⟨.str _, H, I.kept (old_kept hk), ⟨_, rfl⟩, q _ hz⟩
theorem cr_minSK {X : Cx} (K : PySem.W.Frag) (hK : X.K = K) (hc : X.calm = true) : CallR X (.builtin "min") (rMinS K) := hK ▸ cr_minS hc
end G1

namespace G1
open PySem PySem.Spec PyProof.Rows L2
/-! defs of three that may raise, called by place or by all three names in another order -/
def OkX3e (P : Program) (w : World) (K : PySem.W.Frag) (mg : Str → Option Value) (base : Heap) (k : Nat) (x p1 p2 p3 : Str) (sp : Sp) : Prop :=
  ∃ f fd, FnOk P w K mg base (L2.CX P w) k f fd [p1, p2, p3] sp ∧ mg x = some (.ref f) ∧ PySem.W.keepIn K (.ref f) = true ∧ L2.Binds K fd [p1, p2, p3] [] ∧ ∀ (s : Shared) (u1 u2 u3 : Value), BindsTo s fd ⟨[], [(p3, u3), (p2, u2), (p1, u1)]⟩ [(p1, u1), (p2, u2), (p3, u3)]
theorem OkX3e.okX {P : Program} {w : World} {K : PySem.W.Frag} {mg : Str → Option Value} {base : Heap} {k : Nat} {x p1 p2 p3 : Str} {sp : Sp} (h : OkX3e P w K mg base k x p1 p2 p3 sp) : OkX P w K mg base k x [p1, p2, p3] sp :=
  let ⟨f, fd, h1, h2, h3, h4, _⟩ := h
  ⟨f, fd, h1, h2, h3, h4⟩
theorem okx3e {P : Program} {w : World} {K : PySem.W.Frag} {mg : Str → Option Value} {base : Heap} {x p1 p2 p3 : Str} {st : Stmt} {k : Nat} {sp : Sp} (S : Src K mg x st) (F : ∀ f fd, Fun K x x st f fd → FnOk P w K mg base (L2.CX P w) k f fd [p1, p2, p3] sp)
    (h : ∀ (kV doc pm : Value) (an : Option Addr) (cdv ct : Value) (us : List Value), us.length = [p1, p2, p3].length → bindArgs (PySem.W.fnOf x x (defArgs st) (defBody st) (defScope st) .none kV doc pm an cdv ct) ⟨us, []⟩ = pure ([p1, p2, p3].zip us))
    (h2 : ∀ (kV doc pm : Value) (an : Option Addr) (cdv ct u1 u2 u3 : Value), bindArgs (PySem.W.fnOf x x (defArgs st) (defBody st) (defScope st) .none kV doc pm an cdv ct) ⟨[], [(p3, u3), (p2, u2), (p1, u1)]⟩ = pure [(p1, u1), (p2, u2), (p3, u3)]) : OkX3e P w K mg base k x p1 p2 p3 sp := by
  obtain ⟨f, fd, F1, g⟩ := S
  refine ⟨f, fd, F f fd F1, g, F1.kp, F1.binds h, ?_⟩
  obtain ⟨oc, od, kV, doc, pm, an, cdv, ct, osl, rfl, lk, hcd⟩ := F1.ex
  intro s u1 u2 u3 M A E Q q
  rw [h2 kV doc pm an cdv ct u1 u2 u3]
  exact wpAny_pure q
section
variable {X : Cx} {k : Nat} {x p1 p2 p3 : Str} {sp : Sp} {p pos : Pos}
/-- by all three names, in another order -/
def tCallK3e (sp : Sp) (tk : TA) : TE := fun σ H Q => tk σ H fun zs H1 => ∃ v1 v2 v3, zs = [v3, v2, v1] ∧ sp [v1, v2, v3] H1 Q (fun _ _ _ => False)
theorem pe_callK3e {kws : List Keyword} {tk : TA} (C : OkX3e X.prog X.w X.K X.mg X.base k x p1 p2 p3 sp) (hr : Room k X.A) (hg : Gl X x) (hkw : PK X kws tk)
    (hks : (backToKw pos (keywordEach kws X.env)).filterMap (·.1) = [p3, p2, p1] := by rfl) (hall : (backToKw pos (keywordEach kws X.env)).all (·.1.isSome) = true := by rfl) (hdb : (x == ("__debug__" : Str)) = false := by decide)
    (hpl : ((backTo pos (starEach [] X.env)).any (·.1) || (backToKw pos (keywordEach kws X.env)).any (·.1.isNone)) = false := by rfl) :
    PE X (.Call (.Name x p) [] kws pos) (tCallK3e sp tk) := by
  obtain ⟨f, fd, F, hm, hk, hb, hb2⟩ := C
  constructor
  intro pins s σ H Q I h
  apply wpAny_Call_Name_kw (ld_glob I hg hm ?_ hdb)
  apply PySem.W.callWith_KW0 (h₀ := X.base) I.ok.mod.kin hk hall ?_ hpl
  apply thn (hkw.run pos pins s σ H _ I h)
  rintro ws s2 ⟨zs, H2, I2, rz, v1, v2, v3, rfl, q⟩
  refine ⟨I2.kIn, ?_⟩
  rw [hks]
  obtain ⟨w3, w2, w1, rfl, r3, r2, r1⟩ := vals3' rz
  show wpAny (model X.prog X.w) X.A (call (.ref f) [] [(p3, w3), (p2, w2), (p1, w1)]) (EP X pins σ Q) X.xe s2
  apply wpAny_call (codeAny_mono (F.run X.A X.stack s2 H2 ⟨[], [(p3, w3), (p2, w2), (p1, w1)]⟩ [w1, w2, w3] _ Q _ hr I2.env0 (hb2 s2 w1 w2 w3) (.cons r1 (.cons r2 (.cons r3 .nil))) q) ?_)
  rintro (er | (_ | _ | _ | u)) s' z
  · exact passC pins σ H2 s2 er s' I2 z
  · exact z.elim
  · exact z.elim
  · exact z.elim
  · exact I2.after z
end
end G1
namespace G1
open PySem PySem.Spec PyProof.Rows L2
theorem comp_tup {K : PySem.W.Frag} {a : Addr} {xs : List V} {g : TG} {tt : TT} {te : TE} {vs : List Nat} {σ : L2.St} {H1 : Hp} {Q : VK} (Pv : Addr → Nat → Hp → Prop) (h0 : ∀ D, H1 D = none → Pv D 0 (upd H1 D (.lst []))) (hl : ∀ D i H, H1 D = none → i ≤ xs.length → Pv D i H → SqT K H a xs)
    (hs : ∀ D i x H, H1 D = none → xs[i]? = some x → Pv D i H → g x (wipe σ vs) H fun σ2 H2 => wipe σ2 vs = wipe σ vs ∧ tt σ2 H2 fun b H3 =>
      if b = true then te σ2 H3 fun y H4 => ∃ acc, H4 D = some (.lst acc) ∧ acc.length < sizeLine ∧ Pv D (i + 1) (upd H4 D (.lst (acc ++ [y]))) else Pv D (i + 1) H3) (hd : ∀ D H, H1 D = none → Pv D xs.length H → Q (.ref D) H) : CompW (Itt K a) g tt te vs σ H1 Q :=
  fun D hD => lc_tup (Pv D) (h0 D hD) (fun i H => hl D i H hD) (fun i x H => hs D i x H hD) fun H => hd D H hD
theorem loop_tup {K : PySem.W.Frag} {a : Addr} {xs : List V} {g : TG} {tb : TS} {D : Ends} {σ : L2.St} {H : Hp} (Pv : Nat → L2.St → Hp → Prop) (h0 : Pv 0 σ H) (hl : ∀ i σ H, i ≤ xs.length → Pv i σ H → SqT K H a xs)
    (hs : ∀ i x σ H, xs[i]? = some x → Pv i σ H → g x σ H fun σ2 H2 => tb { D with nx := Pv (i + 1), ct := Pv (i + 1), bk := D.nx } σ2 H2) (hd : ∀ σ H, Pv xs.length σ H → D.nx σ H) : LoopW (Itt K a) g tb D σ H := for_tup Pv h0 hl hs hd
end G1

namespace G1
open PySem PySem.Spec PyProof.Rows L2
theorem vals4 {x y z a : V} {us : List Value} (r : Vals [x, y, z, a] us) : ∃ u w' t' b', us = [u, w', t', b'] ∧ RelV x u ∧ RelV y w' ∧ RelV z t' ∧ RelV a b' := by
  cases r with
  | cons h r => cases r with
    | cons h2 r => cases r with
      | cons h3 r => cases r with
        | cons h4 r => cases r with
          | nil => exact ⟨_, _, _, _, rfl, h, h2, h3, h4⟩
/-! defs of four that may raise, called by place or by all four names the other way about -/
def OkX4 (P : Program) (w : World) (K : PySem.W.Frag) (mg : Str → Option Value) (base : Heap) (k : Nat) (x p1 p2 p3 p4 : Str) (sp : Sp) : Prop :=
  ∃ f fd, FnOk P w K mg base (L2.CX P w) k f fd [p1, p2, p3, p4] sp ∧ mg x = some (.ref f) ∧ PySem.W.keepIn K (.ref f) = true ∧ L2.Binds K fd [p1, p2, p3, p4] [] ∧ ∀ (s : Shared) (u1 u2 u3 u4 : Value), BindsTo s fd ⟨[], [(p4, u1), (p3, u2), (p2, u3), (p1, u4)]⟩ [(p1, u4), (p2, u3), (p3, u2), (p4, u1)]
theorem OkX4.okX {P : Program} {w : World} {K : PySem.W.Frag} {mg : Str → Option Value} {base : Heap} {k : Nat} {x p1 p2 p3 p4 : Str} {sp : Sp} (h : OkX4 P w K mg base k x p1 p2 p3 p4 sp) : OkX P w K mg base k x [p1, p2, p3, p4] sp :=
  let ⟨f, fd, h1, h2, h3, h4, _⟩ := h
  ⟨f, fd, h1, h2, h3, h4⟩
theorem okx4 {P : Program} {w : World} {K : PySem.W.Frag} {mg : Str → Option Value} {base : Heap} {x p1 p2 p3 p4 : Str} {st : Stmt} {k : Nat} {sp : Sp} (S : Src K mg x st) (F : ∀ f fd, Fun K x x st f fd → FnOk P w K mg base (L2.CX P w) k f fd [p1, p2, p3, p4] sp)
    (h : ∀ (kV doc pm : Value) (an : Option Addr) (cdv ct : Value) (us : List Value), us.length = [p1, p2, p3, p4].length → bindArgs (PySem.W.fnOf x x (defArgs st) (defBody st) (defScope st) .none kV doc pm an cdv ct) ⟨us, []⟩ = pure ([p1, p2, p3, p4].zip us))
    (h2 : ∀ (kV doc pm : Value) (an : Option Addr) (cdv ct u1 u2 u3 u4 : Value), bindArgs (PySem.W.fnOf x x (defArgs st) (defBody st) (defScope st) .none kV doc pm an cdv ct) ⟨[], [(p4, u1), (p3, u2), (p2, u3), (p1, u4)]⟩ = pure [(p1, u4), (p2, u3), (p3, u2), (p4, u1)]) : OkX4 P w K mg base k x p1 p2 p3 p4 sp := by
  obtain ⟨f, fd, F1, g⟩ := S
  refine ⟨f, fd, F f fd F1, g, F1.kp, F1.binds h, ?_⟩
  obtain ⟨oc, od, kV, doc, pm, an, cdv, ct, osl, rfl, lk, hcd⟩ := F1.ex
  intro s u1 u2 u3 u4 M A E Q q
  rw [h2 kV doc pm an cdv ct u1 u2 u3 u4]
  exact wpAny_pure q
section
variable {X : Cx} {k : Nat} {x p1 p2 p3 p4 : Str} {sp : Sp} {p pos : Pos}
/-- by all four names, the last one first -/
def tCallK4 (sp : Sp) (tk : TA) : TE := fun σ H Q => tk σ H fun zs H1 => ∃ v1 v2 v3 v4, zs = [v4, v3, v2, v1] ∧ sp [v1, v2, v3, v4] H1 Q (fun _ _ _ => False)
theorem pe_callK4 {kws : List Keyword} {tk : TA} (C : OkX4 X.prog X.w X.K X.mg X.base k x p1 p2 p3 p4 sp) (hr : Room k X.A) (hg : Gl X x) (hkw : PK X kws tk)
    (hks : (backToKw pos (keywordEach kws X.env)).filterMap (·.1) = [p4, p3, p2, p1] := by rfl) (hall : (backToKw pos (keywordEach kws X.env)).all (·.1.isSome) = true := by rfl) (hdb : (x == ("__debug__" : Str)) = false := by decide)
    (hpl : ((backTo pos (starEach [] X.env)).any (·.1) || (backToKw pos (keywordEach kws X.env)).any (·.1.isNone)) = false := by rfl) :
    PE X (.Call (.Name x p) [] kws pos) (tCallK4 sp tk) := by
  obtain ⟨f, fd, F, hm, hk, hb, hb2⟩ := C
  constructor
  intro pins s σ H Q I h
  apply wpAny_Call_Name_kw (ld_glob I hg hm ?_ hdb)
  apply PySem.W.callWith_KW0 (h₀ := X.base) I.ok.mod.kin hk hall ?_ hpl
  apply thn (hkw.run pos pins s σ H _ I h)
  rintro ws s2 ⟨zs, H2, I2, rz, v1, v2, v3, v4, rfl, q⟩
  refine ⟨I2.kIn, ?_⟩
  rw [hks]
  obtain ⟨w4, w3, w2, w1, rfl, r4, r3, r2, r1⟩ := vals4 rz
  show wpAny (model X.prog X.w) X.A (call (.ref f) [] [(p4, w4), (p3, w3), (p2, w2), (p1, w1)]) (EP X pins σ Q) X.xe s2
  apply wpAny_call (codeAny_mono (F.run X.A X.stack s2 H2 ⟨[], [(p4, w4), (p3, w3), (p2, w2), (p1, w1)]⟩ [w1, w2, w3, w4] _ Q _ hr I2.env0 (hb2 s2 w4 w3 w2 w1) (.cons r1 (.cons r2 (.cons r3 (.cons r4 .nil)))) q) ?_)
  rintro (er | (_ | _ | _ | u)) s' z
  · exact passC pins σ H2 s2 er s' I2 z
  · exact z.elim
  · exact z.elim
  · exact z.elim
  · exact I2.after z
end
end G1
namespace G1
open PySem PySem.Spec PyProof.Rows L2
section
variable {X : Cx}
theorem sl_listK (K : PySem.W.Frag) (hK : X.K = K) : SlR X (rSlL K) := hK ▸ sl_list
end
end G1

namespace G1
open PySem PySem.Spec PyProof.Rows L2
/-! an except suite that makes values of the caught exception -/
/-- the wish of «except x as n: suite» where the suite reads the exception as a kept value -/
def wVal (K : PySem.W.Frag) (c : Value) (i : Nat) (ts : TS) (D : Ends) : WX := fun cls d σ H =>
  PySem.W.exmOne K cls c = some true ∧ ∃ C dd, cls = .ref C ∧ d = some dd ∧ ∀ a, H a = none → ts { nx := fun σ' H' => D.nx (σ'.set i none) H', rt := fun _ _ => False } (σ.set i (some (.ref a))) (upd H a (exq a C dd))
section
variable {X : Cx} {x n : Str} {c : Value} {i : Nat} {body suite : List Stmt} {b₀ : Stmt} {np pos pos' : Pos} {tb : WX → TS} {ts : TS}
theorem Inv.toSuite {pins : List (Addr × Obj)} {σ : L2.St} {H : Hp} {s : Shared} (I : Inv X pins σ H s) (a : Addr) : Inv (X.suite a (X.pn ++ pins)) [] σ H s :=
  ⟨I.ok.suite _ _, I.os, I.bare, I.base, I.loc, I.cell, I.free, I.freeC, fun p hp => I.pin p (by rw [List.append_nil] at hp; exact hp), I.hok, I.len⟩
theorem Inv.ofSuite {pins pn' : List (Addr × Obj)} {σ : L2.St} {H : Hp} {s : Shared} {a : Addr} (I : Inv (X.suite a (X.pn ++ pins)) pn' σ H s) (ok : X.Ok) : Inv X pins σ H s :=
  ⟨ok, I.os, I.bare, I.base, I.loc, I.cell, I.free, I.freeC, fun p hp => I.pin p (List.mem_append_left _ hp), I.hok, I.len⟩
theorem ps_try_val (hs : X.stack = X.env :: X.outer) (hf : X.env.frame = some X.env.locals) (hex : X.ex = []) (hN : X.N.Nodup) (hi : X.N[i]? = some n) (hln : X.env.kindOf n = some .local) (hc : Names X x c)
    (hb : ∀ (W : WX) (pn : List (Addr × Obj)) (xe : Value → Shared → Prop), Takes (X.tr pn xe) W → PassesOwn (model X.prog X.w) X.A X.env xe → PSs (X.tr pn xe) body (tb W))
    (hsu : ∀ (a : Addr) (pn : List (Addr × Obj)), PSs (X.suite a pn) (b₀ :: suite) ts) :
    PS X (.Try body [.ExceptHandler (some (.Name x np)) (some n) (b₀ :: suite) pos'] [] [] pos) (fun D σ H => tb (wVal X.K c i ts D) D σ H) := by
  constructor
  intro pins s σ H D I h
  have ok := I.ok
  have hfr : X.A.frames = some (X.env :: X.outer) := ok.frames.trans (congrArg some hs)
  apply wpAny_Try_except
  apply wpAny_mono ((hb (wVal X.K c i ts D) (X.pn ++ pins) (fun e s₁ => wpAny (model X.prog X.w) X.A (noteFrame e X.env) (fun _ s₂ => wpAny (model X.prog X.w) X.A (setFlight e none) (fun _ s₃ =>
    wpAny (model X.prog X.w) X.A (handleBy e X.env [.ExceptHandler (some (.Name x np)) (some n) (b₀ :: suite) pos']) (SP X pins D) X.xe s₃) X.xe s₂) X.xe s₁) ?_ PassesOwn.looking).run [] s σ H D (I.toTry _) h) ?_ (fun _ _ z => z)
  · rintro u s' ⟨a, B, sI, pins', σ', H', cls, d, rfl, J', nb, up, sky, na, os, ag, hb1, C, dd, rfl, rfl, hyes⟩
    have J : Inv X pins σ' H' sI := J'.ofTry ok
    have sky' : Sky B (X.env :: X.outer) a (Zc (.ref C) (some dd)) X.env.locals s'.heap := hs ▸ sky
    apply Sky.land Zc.steady hfr hf sky'
    intro h3 fl3 up3
    have J3 : Inv X pins σ' H' { s' with heap := h3 } := J.landed nb fl3.1 (up.trans up3) os ag
    obtain ⟨oe3, vs3, he3, hz3, hd3⟩ := fl3.there
    have nfr : a ∉ frs (X.env :: X.outer) := fun hm => by
      obtain ⟨_, o', e', hnf⟩ := fl3.2.2.1.mem hm
      rw [he3] at e'; cases e'; exact hnf _ hd3
    have nL : a ≠ X.env.locals := fun z => nfr (List.mem_filterMap.mpr ⟨X.env, List.mem_cons_self, hf.trans (congrArg some z.symm)⟩)
    have nF : a ∉ X.fs := fun hm => by
      obtain ⟨e, he, q⟩ := List.mem_filterMap.mp hm
      exact nfr (List.mem_filterMap.mpr ⟨e, List.mem_cons_of_mem _ he, q⟩)
    have naI : sI.heap.get? a = none := by
      cases q : sI.heap.get? a with
      | none => rfl
      | some o => exact absurd (fl3.2.1 ▸ nb a o q (hs ▸ nfr)) (by intro z; cases z)
    have n0 : X.s_0.heap.get? a = none := by
      cases q : X.s_0.heap.get? a with
      | none => rfl
      | some o =>
        obtain ⟨o', q'⟩ := J.base.there a o q (by rw [hex]; exact fun z => nomatch z)
        rw [naI] at q'; cases q'
    have nC : ∀ x c, X.env.cells.lookup x = some c → c ≠ a := fun x c e z => by
      obtain ⟨v, o, ho, _⟩ := J.cell x c e
      rw [z, naI] at ho; cases ho
    have np' : ∀ p ∈ X.pn ++ pins, p.1 ≠ a := fun p hp z => by
      have q := (J.pin p hp).1
      rw [z, naI] at q; cases q
    have S3 := J3.suite he3 hd3 na nL nF
    apply wpAny_handleBy_cons (codeAny_handlers_test ?_) (by intro q; cases q)
    have LT : PySem.W.Looks (model X.prog X.w) h3 (typeOf (.ref a)) (.ref C) := fun A Q E s k q => wpAny_typeOf_ref (k _ _ he3) (by rw [hz3.1]; exact q)
    have LM := PySem.W.exm_one (M := model X.prog X.w) (J3.kIn) LT hb1
    have test : ∀ {Q : Value → Shared → Prop} {E : Value → Shared → Prop}, Q c { s' with heap := h3 } → wpAny (model X.prog X.w) (X.A.mark (some (.ref a))) (eval (.Name x np) X.env) Q E { s' with heap := h3 } := fun {Q E} q => by
      rcases hc with ⟨hg, hdbg, hm | ⟨hm, hv, hnn⟩⟩
      · exact ld_glob (X := X.suite a ((a, oe3) :: (X.pn ++ pins))) S3 hg hm q hdbg
      · exact ld_blt (X := X.suite a ((a, oe3) :: (X.pn ++ pins))) S3 hg hm hv q hnn hdbg
    apply test
    apply LM.here
    apply codeAny_handlers_suite_as
    apply HandSPX.lands_againZ fl3
    intro h4 fl4 up4
    have J4 : Inv X pins σ' H' { s' with heap := h4 } := J.landed nb fl4.1 ((up.trans up3).trans up4) os ag
    obtain ⟨oe4, vs4, he4, hz4, hd4⟩ := fl4.there
    have S4 := Inv.toSuite (track (o := exq a C dd) J4 n0 na nL nC np' (exq_ok he4 hz4.1 hz4.2 hd4)) a
    apply store_ok (X := X.suite a (X.pn ++ pins)) (v := .ref a) S4 hN hi (.inl hln) rfl ?_ (.inr hln)
    intro s5 S5
    apply wpAny_mono ((hsu a (X.pn ++ pins)).run [] s5 _ _ _ S5 (hyes a na)) ?_ (fun _ _ z => False.elim z)
    intro f s6 hsp
    cases f with
    | next =>
      obtain ⟨σ6, H6, S6, z⟩ := hsp
      exact gone_ok (Inv.ofSuite S6 ok) hN hi hln fun s7 J7 => ⟨_, _, J7, z⟩
    | brk =>
      obtain ⟨_, _, _, z⟩ := hsp
      exact z.elim
    | cont =>
      obtain ⟨_, _, _, z⟩ := hsp
      exact z.elim
    | ret u =>
      obtain ⟨_, _, _, _, _, z⟩ := hsp
      exact z.elim
  · intro f s1 hsp
    cases f with
    | next => exact wpAny_execs_nil (let ⟨a1, a2, a3, a4⟩ := hsp; ⟨a1, a2, a3.ofTry ok, a4⟩)
    | brk => exact (let ⟨a1, a2, a3, a4⟩ := hsp; ⟨a1, a2, a3.ofTry ok, a4⟩)
    | cont => exact (let ⟨a1, a2, a3, a4⟩ := hsp; ⟨a1, a2, a3.ofTry ok, a4⟩)
    | ret u => exact (let ⟨a1, a2, a3, a4, a5, a6⟩ := hsp; ⟨a1, a2, a3, a4.ofTry ok, a5, a6⟩)
end
end G1

namespace G1
open PySem PySem.Spec PyProof PyProof.Rows L2 MW
/-! the text of nested data: how long, of which characters -/
theorem slen (x y : Str) : (x ++ y).length = x.length + y.length := by
  show (x.cps ++ y.cps).size = _
  rw [Array.size_append]
  rfl
theorem textFrom_le : ∀ (ts : List Str) (k : Nat) (acc : Str), (textFrom k acc ts).length ≤ acc.length + piled ts
  | [], _, acc => Nat.le_add_right _ _
  | t :: ts, k, acc => by
    have h := textFrom_le ts (k + 1) (acc ++ (if k > 0 then ", " else "" : String) ++ t)
    have e : ((if k > 0 then ", " else "" : String) : Str).length ≤ 2 := by
      split
      · exact Nat.le_refl _
      · exact Nat.zero_le _
    rw [slen, slen] at h
    rw [piled_cons]
    show (textFrom (k + 1) _ ts).length ≤ _
    omega
theorem listText_le (ts : List Str) : (listText ts).length ≤ 2 + piled ts := by
  unfold listText
  rw [slen]
  have h := textFrom_le ts 0 "["
  have e1 : (("[" : String) : Str).length = 1 := rfl
  have e2 : (("]" : String) : Str).length = 1 := rfl
  rw [e1] at h
  rw [e2]
  omega
theorem tupleText_le (ts : List Str) : (tupleText ts).length ≤ 3 + piled ts := by
  unfold tupleText
  rw [slen, slen]
  have e1 : (("(" : String) : Str).length = 1 := rfl
  have e2 : ((if ts.length == 1 then ",)" else ")" : String) : Str).length ≤ 2 := by
    split
    · exact Nat.le_refl _
    · exact Nat.le_succ _
  have h : (Str.join ", " ts).length ≤ piled ts := by
    cases ts with
    | nil => exact Nat.le_refl _
    | cons t ts =>
      have := join_length_add (t :: ts) (by simp)
      omega
  rw [e1]
  omega
theorem sOk_app {x y : Str} (h : PyData.strOk x = true) (k : PyData.strOk y = true) : PyData.strOk (x ++ y) = true := by
  show (x.cps ++ y.cps).all _ = true
  rw [Array.all_append]
  have h' : x.cps.all (fun x => decide (x < 1114112)) = true := h
  have k' : y.cps.all (fun x => decide (x < 1114112)) = true := k
  rw [h', k']
  rfl
theorem sOk_of (s : String) : PyData.strOk (PySem.Str.ofString s) = true := by
  rw [PySem.Str.ofString_eq_toList]
  unfold PyData.strOk
  simp only [List.all_toArray, List.all_map, List.all_eq_true]
  intro ch _
  simp only [Function.comp, decide_eq_true_eq]
  show ch.val.toNat < 1114112
  rcases ch.valid with h | ⟨_, h⟩
  · have : ch.val.toNat < 55296 := h
    omega
  · exact h
theorem textFrom_ok : ∀ (ts : List Str) (k : Nat) (acc : Str), PyData.strOk acc = true → (∀ t ∈ ts, PyData.strOk t = true) → PyData.strOk (textFrom k acc ts) = true
  | [], _, acc, h, _ => h
  | t :: ts, k, acc, h, k2 => textFrom_ok ts (k + 1) _ (sOk_app (sOk_app h (sOk_of _)) (k2 t List.mem_cons_self)) fun x hx => k2 x (List.mem_cons_of_mem _ hx)
theorem listText_ok {ts : List Str} (h : ∀ t ∈ ts, PyData.strOk t = true) : PyData.strOk (listText ts) = true := sOk_app (textFrom_ok ts 0 _ (sOk_of _) h) (sOk_of _)
theorem join_ok : ∀ ts : List Str, (∀ t ∈ ts, PyData.strOk t = true) → PyData.strOk (Str.join ", " ts) = true
  | [], _ => sOk_of ""
  | [x], h => h x List.mem_cons_self
  | x :: y :: r, h => by
    show PyData.strOk (x ++ ", " ++ Str.join ", " (y :: r)) = true
    exact sOk_app (sOk_app (h x List.mem_cons_self) (sOk_of _)) (join_ok (y :: r) fun z hz => h z (List.mem_cons_of_mem _ hz))
theorem tupleText_ok {ts : List Str} (h : ∀ t ∈ ts, PyData.strOk t = true) : PyData.strOk (tupleText ts) = true := sOk_app (sOk_app (sOk_of _) (join_ok ts h)) (sOk_of _)
/-- data that may be shown: nested at most n deep, a text of at most B characters -/
structure Fine (n B : Nat) (d : PyData) : Prop where
  sw : d.showable = true
  dp : d.depth ≤ n
  ln : d.shown.length ≤ B
  ok : PyData.strOk d.shown = true
  nd : d.hasDict = false
theorem Fine.mono {n n' B B' : Nat} {d : PyData} (h : Fine n B d) (k : n ≤ n') (l : B ≤ B') : Fine n' B' d := ⟨h.sw, Nat.le_trans h.dp k, Nat.le_trans h.ln l, h.ok, h.nd⟩
theorem fine_all {n B : Nat} : ∀ {ds : List PyData}, (∀ d ∈ ds, Fine n B d) → PyData.showableAll ds = true ∧ PyData.depthAll ds ≤ n ∧ piled (PyData.shownAll ds) ≤ (B + 2) * ds.length ∧ (∀ t ∈ PyData.shownAll ds, PyData.strOk t = true) ∧ PyData.hasDictAll ds = false
  | [], _ => ⟨rfl, Nat.zero_le _, Nat.zero_le _, (fun _ z => nomatch z), rfl⟩
  | d :: ds, h => by
    obtain ⟨a1, a2, a3, a4, a5⟩ := fine_all fun x hx => h x (List.mem_cons_of_mem _ hx)
    have f := h d List.mem_cons_self
    refine ⟨?_, ?_, ?_, ?_, ?_⟩
    · rw [PyData.showableAll, f.sw, a1]
      rfl
    · rw [PyData.depthAll]
      have := f.dp
      omega
    · rw [PyData.shownAll, piled_cons, List.length_cons, Nat.mul_succ]
      have := f.ln
      omega
    · intro t ht
      rw [PyData.shownAll] at ht
      rcases List.mem_cons.mp ht with rfl | ht
      · exact f.ok
      · exact a4 t ht
    · rw [PyData.hasDictAll, f.nd, a5]
      rfl
theorem Fine.list {n B : Nat} {ds : List PyData} (h : ∀ d ∈ ds, Fine n B d) : Fine (n + 1) (2 + (B + 2) * ds.length) (.list ds) := by
  obtain ⟨a1, a2, a3, a4, a5⟩ := fine_all h
  refine ⟨by rw [PyData.showable]; exact a1, by rw [PyData.depth]; omega, ?_, by rw [PyData.shown]; exact listText_ok a4, by rw [PyData.hasDict]; exact a5⟩
  rw [PyData.shown]
  exact Nat.le_trans (listText_le _) (by omega)
theorem Fine.tuple {n B : Nat} {ds : List PyData} (h : ∀ d ∈ ds, Fine n B d) : Fine (n + 1) (3 + (B + 2) * ds.length) (.tuple ds) := by
  obtain ⟨a1, a2, a3, a4, a5⟩ := fine_all h
  refine ⟨by rw [PyData.showable]; exact a1, by rw [PyData.depth]; omega, ?_, by rw [PyData.shown]; exact tupleText_ok a4, by rw [PyData.hasDict]; exact a5⟩
  rw [PyData.shown]
  exact Nat.le_trans (tupleText_le _) (by omega)
theorem Fine.int {i : Int} (h : i.natAbs < 10 ^ 100) : Fine 0 200 (.int i) := by
  refine ⟨?_, Nat.zero_le _, ?_, sOk_of _, rfl⟩
  · show decide (i.natAbs.log2 < 1920) = true
    rw [decide_eq_true_eq]
    by_cases h0 : i.natAbs = 0
    · rw [h0]; decide
    · exact (Nat.log2_lt h0).mpr (Nat.lt_of_lt_of_le h (by decide +kernel))
  · show (PySem.Str.ofString (toString i)).length ≤ 200
    rw [PySem.ofString_length]
    have := PySem.int_text_length_le10 (k := 100) (by decide) h
    omega
theorem Fine.bool (b : Bool) : Fine 0 5 (.bool b) := ⟨rfl, Nat.zero_le _, by cases b <;> decide, by cases b <;> exact sOk_of _, rfl⟩
theorem Fine.none : Fine 0 4 .none := ⟨rfl, Nat.zero_le _, by decide, sOk_of _, rfl⟩
theorem quote_or (x : Str) : reprQuote x = 39 ∨ reprQuote x = 34 := by
  unfold reprQuote
  split
  · exact .inr rfl
  · exact .inl rfl
theorem rc_sgs {q : Nat} (h : q = 39 ∨ q = 34) : ∀ c ∈ sgs, Builtin.Str.reprChar q c = [c] := by
  rcases h with rfl | rfl <;> decide +kernel
theorem fold_sgs {q : Nat} (hq : q = 39 ∨ q = 34) : ∀ (l : List Nat), (∀ ch ∈ l, ch ∈ sgs) → ∀ acc : Array Nat, (acc.all fun x => decide (x < 1114112)) = true → ((l.foldl (fun out ch => out ++ (Builtin.Str.reprChar q ch).toArray) acc).all fun x => decide (x < 1114112)) = true
  | [], _, acc, h => h
  | ch :: l, hl, acc, h => by
    rw [List.foldl_cons]
    refine fold_sgs hq l (fun c hc => hl c (List.mem_cons_of_mem _ hc)) _ ?_
    have hc := hl ch List.mem_cons_self
    have h2 : ∀ c ∈ sgs, c < 1114112 := by decide
    rw [rc_sgs hq ch hc, Array.all_append, h]
    simp [h2 ch hc]
theorem Fine.word {l : List Nat} (h : ∀ c ∈ l, c ∈ sgs) : Fine 0 (10 * l.length + 2) (.str ⟨l.toArray⟩) := by
  refine ⟨rfl, Nat.zero_le _, ?_, ?_, rfl⟩
  · have hx := StrLaws.reprText_len ⟨l.toArray⟩ fun c hc => by
      have h2 : ∀ c ∈ sgs, c < 16 ^ 8 := by decide
      exact h2 c (h c (by simpa using hc))
    have e : (⟨l.toArray⟩ : Str).length = l.length := by show l.toArray.size = _; simp
    rw [e] at hx
    exact hx
  · show PyData.strOk (reprText ⟨l.toArray⟩) = true
    have q := quote_or ⟨l.toArray⟩
    unfold PyData.strOk reprText
    simp only [Array.all_push, ← Array.foldl_toList, Bool.and_eq_true, decide_eq_true_eq]
    refine ⟨fold_sgs q _ h _ ?_, ?_⟩
    · rcases q with e | e <;> rw [e] <;> simp
    · rcases q with e | e <;> rw [e] <;> decide
theorem Fine.shows {K : PySem.W.Frag} {H : Hp} {v : V} {n B : Nat} {d : PyData} (h : Fine n B d) (e : De K H v d) (hn : n ≤ 60) (hB : B ≤ sizeLine) : Shows K H v d :=
  ⟨e, h.sw, Nat.le_trans h.dp hn, Nat.le_trans h.ln hB, fun z => by rw [h.nd] at z; cases z⟩
end G1

namespace G1
open PySem PySem.Spec PyProof.Rows L2
/-! what an expression makes, by its data alone, in any heap behind a first one: no address is named -/
section
variable {K : PySem.W.Frag}
mutual
theorem De.same {H H' : Hp} (s : Same H H') : ∀ (d : PyData) (v : V), De K H v d → De K H' v d
  | _, _, .non => .non
  | _, _, .bl b => .bl b
  | _, _, .int i => .int i
  | _, _, .str x => .str x
  | _, _, .dic h => .dic (s _ _ h)
  | .list ds, _, .lst h q => .lst (s _ _ h) (DeAll.same s ds _ q)
  | .tuple ds, _, .tup h q => .tup (s _ _ h) (DeAll.same s ds _ q)
theorem DeAll.same {H H' : Hp} (s : Same H H') : ∀ (ds : List PyData) (vs : List V), DeAll K H vs ds → DeAll K H' vs ds
  | [], _, .nil => .nil
  | d :: ds, _, .cons a b => .cons (De.same s d _ a) (DeAll.same s ds _ b)
end
theorem deAll_len {H : Hp} : ∀ {xs : List V} {ds : List PyData}, DeAll K H xs ds → xs.length = ds.length
  | _, _, .nil => rfl
  | _, _, .cons _ t => by rw [List.length_cons, List.length_cons, deAll_len t]
theorem deAll_app {H : Hp} : ∀ {xs ys : List V} {ds es : List PyData}, DeAll K H xs ds → DeAll K H ys es → DeAll K H (xs ++ ys) (ds ++ es)
  | _, _, _, _, .nil, h => h
  | _, _, _, _, .cons a t, h => .cons a (deAll_app t h)
theorem deAll_take {H : Hp} : ∀ {xs : List V} {ds : List PyData} (n : Nat), DeAll K H xs ds → DeAll K H (xs.take n) (ds.take n)
  | _, _, 0, _ => .nil
  | _, _, n + 1, .nil => .nil
  | _, _, n + 1, .cons a t => .cons a (deAll_take n t)
theorem deAll_drop {H : Hp} : ∀ {xs : List V} {ds : List PyData} (n : Nat), DeAll K H xs ds → DeAll K H (xs.drop n) (ds.drop n)
  | _, _, 0, h => h
  | _, _, n + 1, .nil => .nil
  | _, _, n + 1, .cons a t => deAll_drop n t
/-- a heap without some addresses -/
def hid (l : List Addr) (H : Hp) : Hp := fun b => if b ∈ l then none else H b
theorem hid_in {l : List Addr} {H : Hp} {b : Addr} (h : b ∉ l) : hid l H b = H b := if_neg h
theorem hid_sub (l : List Addr) (H : Hp) : Same (hid l H) H := fun b o e => by
  unfold hid at e
  split at e
  · cases e
  · exact e
theorem hid_same {B : List Addr} {H H' : Hp} (s : Same H H') : Same (hid B H) (hid B H') := fun b o e => by
  unfold hid at e
  split at e
  · cases e
  · rename_i n
    rw [hid_in n]
    exact s b o e
/-- addresses that stand -/
def In (B : List Addr) (H : Hp) : Prop := ∀ b ∈ B, H b ≠ none
theorem In.same {B : List Addr} {H H' : Hp} (h : In B H) (s : Same H H') : In B H' := fun b hb e => by
  cases k : H b with
  | none => exact h b hb k
  | some o => rw [s b o k] at e; cases e
theorem In.new {B : List Addr} {H : Hp} (h : In B H) {p : Addr} (np : H p = none) : p ∉ B := fun hp => h p hp np
/-- t makes data d of what stands in H0, and of new things alone, whatever else stands -/
def Ev (K : PySem.W.Frag) (t : TE) (σ : L2.St) (d : PyData) (H0 : Hp) : Prop := ∀ H Q B, In B H → Same H0 (hid B H) → (∀ v H', Same H H' → De K (hid B H') v d → Q v H') → t σ H Q
def EvA (K : PySem.W.Frag) (t : TA) (σ : L2.St) (ds : List PyData) (H0 : Hp) : Prop := ∀ H Q B, In B H → Same H0 (hid B H) → (∀ vs H', Same H H' → DeAll K (hid B H') vs ds → Q vs H') → t σ H Q
variable {σ : L2.St} {H0 : Hp}
theorem Ev.int (i : Int) : Ev K (tC (.int i)) σ (.int i) H0 := fun H Q B hB s q => q _ _ (.refl H) (.int i)
theorem Ev.str (x : Str) : Ev K (tC (.str x)) σ (.str x) H0 := fun H Q B hB s q => q _ _ (.refl H) (.str x)
theorem Ev.bl (b : Bool) : Ev K (tC (.bl b)) σ (.bool b) H0 := fun H Q B hB s q => q _ _ (.refl H) (.bl b)
theorem Ev.non : Ev K (tC .non) σ .none H0 := fun H Q B hB s q => q _ _ (.refl H) .non
theorem Ev.var {i : Nat} {v : V} {d : PyData} (h : σ[i]? = some (some v)) (e : De K H0 v d) : Ev K (tVar i) σ d H0 := fun H Q B hB s q => ⟨v, h, q v H (.refl H) (De.same s d v e)⟩
theorem Ev.dict : Ev K tDNewK σ (.dict []) H0 := fun H Q B hB s q p np => q _ _ (same_upd np) (.dic (by rw [hid_in (hB.new np)]; exact upd_same))
theorem EvA.nil : EvA K tNil σ [] H0 := fun H Q B hB s q => q _ _ (.refl H) .nil
theorem EvA.cons {ta : TE} {tr : TA} {d : PyData} {ds : List PyData} (h1 : Ev K ta σ d H0) (h2 : EvA K tr σ ds H0) : EvA K (tCons ta tr) σ (d :: ds) H0 :=
  fun H Q B hB s q => h1 H _ B hB s fun x H1 s1 e1 => h2 H1 _ B (hB.same s1) (s.trans (hid_same s1)) fun xs H2 s2 e2 => q _ _ (s1.trans s2) (.cons (De.same (hid_same s2) _ _ e1) e2)
theorem Ev.lst {ta : TA} {ds : List PyData} (h : EvA K ta σ ds H0) (hl : ds.length ≤ sizeLine) : Ev K (tLst ta) σ (.list ds) H0 :=
  fun H Q B hB s q => h H _ B hB s fun xs H1 s1 e => ⟨by rw [deAll_len e]; exact hl, fun p np => q _ _ (s1.trans (same_upd np)) (.lst (by rw [hid_in ((hB.same s1).new np)]; exact upd_same) (DeAll.same (hid_same (same_upd np)) _ _ e))⟩
theorem Ev.tup {ta : TA} {ds : List PyData} (h : EvA K ta σ ds H0) (hl : ds.length ≤ sizeLine) : Ev K (tTup ta) σ (.tuple ds) H0 :=
  fun H Q B hB s q => h H _ B hB s fun xs H1 s1 e => ⟨by rw [deAll_len e]; exact hl, fun p np => q _ _ (s1.trans (same_upd np)) (.tup (by rw [hid_in ((hB.same s1).new np)]; exact upd_same) (DeAll.same (hid_same (same_upd np)) _ _ e))⟩
theorem de_list {H : Hp} {B : List Addr} {v : V} {ds : List PyData} (h : De K (hid B H) v (.list ds)) : ∃ a xs, v = .ref a ∧ H a = some (.lst xs) ∧ DeAll K (hid B H) xs ds := by
  cases h with
  | lst h k => exact ⟨_, _, rfl, hid_sub _ _ _ _ h, k⟩
theorem Ev.cat {ta tb : TE} {xs ys : List PyData} (h1 : Ev K ta σ (.list xs) H0) (h2 : Ev K tb σ (.list ys) H0) (hl : xs.length + ys.length ≤ sizeLine) : Ev K (tOp rCat ta tb) σ (.list (xs ++ ys)) H0 :=
  fun H Q B hB s q => h1 H _ B hB s fun v H1 s1 e1 => h2 H1 _ B (hB.same s1) (s.trans (hid_same s1)) fun w H2 s2 e2 => by
    obtain ⟨a, us, rfl, ha, ka⟩ := de_list (De.same (hid_same s2) _ _ e1)
    obtain ⟨b, zs, rfl, hb, kb⟩ := de_list e2
    exact ⟨a, b, us, zs, rfl, rfl, ha, hb, by rw [deAll_len ka, deAll_len kb]; exact hl, fun p np => q _ _ ((s1.trans s2).trans (same_upd np)) (.lst (by rw [hid_in ((hB.same (s1.trans s2)).new np)]; exact upd_same) (DeAll.same (hid_same (same_upd np)) _ _ (deAll_app ka kb)))⟩
theorem Ev.op {ta tb : TE} {f : Int → Int → V} {i j k : Int} (h1 : Ev K ta σ (.int i) H0) (h2 : Ev K tb σ (.int j) H0) (hf : f i j = .int k) : Ev K (tOp (rI0 f) ta tb) σ (.int k) H0 :=
  fun H Q B hB s q => h1 H _ B hB s fun v H1 s1 e1 => h2 H1 _ B (hB.same s1) (s.trans (hid_same s1)) fun w H2 s2 e2 => by
    cases e1
    cases e2
    exact ⟨i, j, rfl, rfl, by rw [hf]; exact q _ _ (s1.trans s2) (.int k)⟩
theorem Ev.neg {ta : TE} {i : Int} (h1 : Ev K ta σ (.int i) H0) : Ev K (tUn (rU fun i => .int (-i)) ta) σ (.int (-i)) H0 :=
  fun H Q B hB s q => h1 H _ B hB s fun v H1 s1 e1 => by
    cases e1
    exact ⟨i, rfl, q _ _ s1 (.int _)⟩
theorem Ev.len {ta : TE} {xs : List PyData} (h : Ev K ta σ (.list xs) H0) : Ev K (tCB rLenM (tCons ta tNil)) σ (.int (xs.length : Nat)) H0 :=
  fun H Q B hB s q => h H _ B hB s fun v H1 s1 e1 => by
    obtain ⟨a, us, rfl, ha, ka⟩ := de_list e1
    refine ⟨a, us, rfl, ha, ?_⟩
    rw [deAll_len ka]
    exact q _ _ s1 (.int _)
theorem Ev.rep {ta tb : TE} {xs : List PyData} {k : Int} (h1 : Ev K ta σ (.list xs) H0) (h2 : Ev K tb σ (.int k) H0) (k0 : -(2 ^ 63) ≤ k) (k1 : k < 2 ^ 63) (hl : xs.length * k.toNat ≤ sizeLine) : Ev K (tOp rRep ta tb) σ (.list (List.replicate k.toNat xs).flatten) H0 :=
  fun H Q B hB s q => h1 H _ B hB s fun v H1 s1 e1 => h2 H1 _ B (hB.same s1) (s.trans (hid_same s1)) fun w H2 s2 e2 => by
    obtain ⟨a, us, rfl, ha, ka⟩ := de_list (De.same (hid_same s2) _ _ e1)
    cases e2
    have kr : ∀ n : Nat, DeAll K (hid B H2) (List.replicate n us).flatten (List.replicate n xs).flatten := by
      intro n
      induction n with
      | zero => exact .nil
      | succ n ih =>
        rw [List.replicate_succ, List.replicate_succ, List.flatten_cons, List.flatten_cons]
        exact deAll_app ka ih
    exact ⟨a, k, us, rfl, rfl, ha, k0, k1, by rw [deAll_len ka]; exact hl, fun p np => q _ _ ((s1.trans s2).trans (same_upd np)) (.lst (by rw [hid_in ((hB.same (s1.trans s2)).new np)]; exact upd_same) (DeAll.same (hid_same (same_upd np)) _ _ (kr _)))⟩
theorem Ev.tupOf {ta : TE} {xs : List PyData} (h : Ev K ta σ (.list xs) H0) : Ev K (tCB (fun xs H Q => ∃ p ys, xs = [.ref p] ∧ ((SqL K H p ys ∧ ∀ l, H l = none → Q (.ref l) (upd H l (.tup ys))) ∨ (SqT K H p ys ∧ Q (.ref p) H))) (tCons ta tNil)) σ (.tuple xs) H0 :=
  fun H Q B hB s q => h H _ B hB s fun v H1 s1 e1 => by
    obtain ⟨a, us, rfl, ha, ka⟩ := de_list e1
    exact ⟨a, us, rfl, .inl ⟨SqL.of ha, fun l nl => q _ _ (s1.trans (same_upd nl)) (.tup (by rw [hid_in ((hB.same s1).new nl)]; exact upd_same) (DeAll.same (hid_same (same_upd nl)) _ _ ka))⟩⟩
theorem deAll_get {H : Hp} : ∀ {xs : List V} {ds : List PyData}, DeAll K H xs ds → ∀ {i : Nat} {x : V}, xs[i]? = some x → ∃ d, ds[i]? = some d ∧ De K H x d
  | _, _, .nil, _, _, h => by cases h
  | _, _, .cons a t, 0, _, h => by
    cases h
    exact ⟨_, rfl, a⟩
  | _, _, .cons a t, i + 1, _, h => deAll_get t (i := i) h
theorem hid_upd {B : List Addr} {D : Addr} {H : Hp} {o : HO} (h : D ∈ B) : hid B (upd H D o) = hid B H := by
  funext b
  unfold hid
  split
  · rfl
  · rename_i n
    rw [upd_ne (fun z : b = D => n (by rw [z]; exact h))]
theorem hid_more {D : Addr} {B : List Addr} {H : Hp} : Same (hid (D :: B) H) (hid B H) := fun b o e => by
  unfold hid at e
  split at e
  · cases e
  · rename_i n
    rw [hid_in fun z => n (List.mem_cons_of_mem _ z)]
    exact e
/-- a comprehension over a list of data -/
theorem Ev.comp {g : TG} {te : TE} {vs : List Nat} {tl : TE} {xs : List PyData} {f : PyData → PyData} (h : Ev K tl σ (.list xs) H0) (hl : xs.length ≤ 1000)
    (hs : ∀ (x : PyData) (v : V) (H : Hp) (Q : VK) (B : List Addr) (P : Hp → Prop), x ∈ xs → In B H → Same H0 (hid B H) → De K (hid B H) v x → (∀ y H', Same H H' → De K (hid B H') y (f x) → Q y H') → g v (wipe σ vs) H fun σ2 H2 => wipe σ2 vs = wipe σ vs ∧ tYes σ2 H2 fun b H3 => if b = true then te σ2 H3 Q else P H3) :
    Ev K (fun σ H Q => tl σ H fun v H1 => ∃ a, v = .ref a ∧ (∃ ys, SqL K H1 a ys) ∧ CompW (Itl K a) g tYes te vs σ H1 Q) σ (.list (xs.map f)) H0 :=
  fun H Q B hB s q => h H _ B hB s fun v H1 s1 e1 => by
    obtain ⟨a, us, rfl, ha, ka⟩ := de_list e1
    have hul := deAll_len ka
    have hz := sizeLine_eq
    have hB1 := hB.same s1
    refine ⟨a, rfl, ⟨_, SqL.of ha⟩, ?_⟩
    refine comp_list (xs := us) (fun D i H' => Same H1 H' ∧ ∃ ys, H' D = some (.lst ys) ∧ ys.length = i ∧ DeAll K (hid (D :: B) H') ys ((xs.take i).map f)) (fun D nD => ⟨same_upd nD, [], upd_same, rfl, .nil⟩) (fun D i H' nD hi ⟨s', _⟩ => SqL.of (s' _ _ ha)) ?_ ?_
    · rintro D i x H' nD hi ⟨s', ys, hD, hyl, hA⟩
      obtain ⟨dx, hdx, ex⟩ := deAll_get ka hi
      have hBD : In (D :: B) H' := fun b hb e => by
        rcases List.mem_cons.mp hb with rfl | hb
        · rw [hD] at e; cases e
        · exact hB1.same s' b hb e
      have sD : Same (hid B H1) (hid (D :: B) H') := fun b o e => by
        have nbB : b ∉ B := fun z => by unfold hid at e; rw [if_pos z] at e; cases e
        rw [hid_in nbB] at e
        rw [hid_in (by simp [nbB, ne_none e nD])]
        exact s' b o e
      refine hs dx x H' _ (D :: B) _ (List.mem_of_getElem? hdx) hBD ((s.trans (hid_same s1)).trans sD) (De.same sD _ _ ex) fun y H4 s4 ey => ⟨ys, s4 _ _ hD, by rw [hyl]; have := (List.getElem?_eq_some_iff.mp hdx).1; omega, same_over (s'.trans s4) nD, ys ++ [y], upd_same, by rw [List.length_append, hyl]; rfl, ?_⟩
      rw [hid_upd List.mem_cons_self, take_step hdx, List.map_append]
      exact deAll_app (DeAll.same (hid_same s4) _ _ hA) (.cons ey .nil)
    · rintro D H' nD ⟨s', ys, hD, hyl, hA⟩
      rw [hul, List.take_length] at hA
      exact q _ _ (s1.trans s') (.lst (by rw [hid_in (hB1.new nD)]; exact hD) (DeAll.same hid_more _ _ hA))
end
end G1

namespace G1
open PySem PySem.Spec PyProof.Rows L2
/-! rows of a def over data: stores, the return, slices, comprehensions over numbers -/
section
variable {K : PySem.W.Frag} {σ : L2.St} {H0 : Hp}
theorem hid_nil (H : Hp) : hid [] H = H := by
  funext b
  exact hid_in (by simp)
theorem Ev.run {te : TE} {d : PyData} {H : Hp} {Q : VK} (h : Ev K te σ d H) (q : ∀ v H', Same H H' → De K H' v d → Q v H') : te σ H Q :=
  h H Q [] (fun _ z => nomatch z) (by rw [hid_nil]; exact .refl H) fun v H' s e => q v H' s (by rw [hid_nil] at e; exact e)
theorem ev_store {te : TE} {i : Nat} {u : TS} {D : Ends} {d : PyData} {H : Hp} (h : Ev K te σ d H) (q : ∀ v H', Same H H' → De K H' v d → u D (σ.set i (some v)) H') : tSeq (tAsg te (gName i)) u D σ H := h.run q
theorem ev_ret {te : TE} {D : Ends} {d : PyData} {H : Hp} (h : Ev K te σ d H) (q : ∀ v H', Same H H' → De K H' v d → D.rt v H') : tRet te D σ H := h.run q
theorem Ev.lit {ta : TA} {ds : List PyData} {d : PyData} (h : EvA K ta σ ds H0) (hd : d = .list ds) (hl : ds.length ≤ sizeLine) : Ev K (tLst ta) σ d H0 := by
  subst hd
  exact Ev.lst h hl
/-- xs[:k] -/
theorem Ev.take {te th : TE} {xs : List PyData} {k : Nat} (h : Ev K te σ (.list xs) H0) (h2 : Ev K th σ (.int k) H0) (hk : k ≤ xs.length) : Ev K (tSl (rSlL K) te tNoPart (tPart th)) σ (.list (xs.take k)) H0 :=
  fun H Q B hB s q => h H _ B hB s fun v H1 s1 e1 => h2 H1 _ B (hB.same s1) (s.trans (hid_same s1)) fun w H2 s2 e2 => by
    obtain ⟨a, us, rfl, ha, ka⟩ := de_list (De.same (hid_same s2) _ _ e1)
    cases e2
    have e : cutV us none (some (k : Int)) = us.take k := by
      have := deAll_len ka
      unfold cutV
      rw [HT.sIx_nat, HT.sIx_none, List.drop_zero, Nat.sub_zero, Nat.min_eq_left (by omega)]
    refine ⟨k, rfl, a, us, rfl, .of ha, fun p np => ?_⟩
    rw [e]
    exact q _ _ ((s1.trans s2).trans (same_upd np)) (.lst (by rw [hid_in ((hB.same (s1.trans s2)).new np)]; exact upd_same) (DeAll.same (hid_same (same_upd np)) _ _ (deAll_take k ka)))
/-- xs[k:] -/
theorem Ev.drop {te tl : TE} {xs : List PyData} {k : Nat} (h : Ev K te σ (.list xs) H0) (h2 : Ev K tl σ (.int k) H0) (hk : k ≤ xs.length) : Ev K (tSl (rSlL K) te (tPart tl) tNoPart) σ (.list (xs.drop k)) H0 :=
  fun H Q B hB s q => h H _ B hB s fun v H1 s1 e1 => h2 H1 _ B (hB.same s1) (s.trans (hid_same s1)) fun w H2 s2 e2 => by
    obtain ⟨a, us, rfl, ha, ka⟩ := de_list (De.same (hid_same s2) _ _ e1)
    cases e2
    have e : cutV us (some (k : Int)) none = us.drop k := by
      have := deAll_len ka
      unfold cutV
      rw [HT.sIx_nat, HT.sIx_none, Nat.min_eq_left (by omega), List.take_of_length_le (by rw [List.length_drop]; omega)]
    refine ⟨k, rfl, a, us, rfl, .of ha, fun p np => ?_⟩
    rw [e]
    exact q _ _ ((s1.trans s2).trans (same_upd np)) (.lst (by rw [hid_in ((hB.same (s1.trans s2)).new np)]; exact upd_same) (DeAll.same (hid_same (same_upd np)) _ _ (deAll_drop k ka)))
theorem Ev.list {tl : TE} {te : TE} {i : Nat} {xs : List PyData} {f : PyData → PyData} (h : Ev K tl σ (.list xs) H0) (hl : xs.length ≤ 1000)
    (hs : ∀ (x : PyData) (v : V) (H1 : Hp), x ∈ xs → Same H0 H1 → De K H1 v x → Ev K te ((σ.set i none).set i (some v)) (f x) H1) : Ev K (tLc (iList K tl) (gName i) tYes te [i]) σ (.list (xs.map f)) H0 := by
  refine Ev.comp (g := gName i) (te := te) (vs := [i]) (tl := tl) h hl fun x v H Q B P hx hB s e q => ?_
  refine ⟨?_, ?_⟩
  · show ((σ.set i none).set i (some v)).set i none = σ.set i none
    rw [List.set_set, List.set_set]
  · show (if (true : Bool) = true then te ((σ.set i none).set i (some v)) H Q else P H)
    rw [if_pos rfl]
    exact hs x v (hid B H) hx s e H Q B hB (.refl _) fun y H' s' e' => q y H' s' e'
/-- a comprehension over range(n) -/
theorem Ev.rng {ta : TE} {te : TE} {i n : Nat} {f : Nat → PyData} (h : Ev K ta σ (.int n) H0) (hl : n ≤ 1000)
    (hs : ∀ (k : Nat) (H1 : Hp), k < n → Same H0 H1 → Ev K te ((σ.set i none).set i (some (.int k))) (f k) H1) : Ev K (tLc (iRng1 (tCons ta tNil)) (gName i) tYes te [i]) σ (.list ((List.range n).map f)) H0 :=
  fun H Q B hB s q => h H _ B hB s fun v H1 s1 e1 => by
    cases e1
    have hz := sizeLine_eq
    have hB1 := hB.same s1
    refine ⟨_, rfl, by omega, by omega, ?_⟩
    show CompW (Itr 0 ((n : Int)).toNat) (gName i) tYes te [i] σ H1 Q
    refine comp_range (n := n) (fun D k H' => Same H1 H' ∧ ∃ ys, H' D = some (.lst ys) ∧ ys.length = k ∧ DeAll K (hid (D :: B) H') ys ((List.range k).map f)) (fun D nD => ⟨same_upd nD, [], upd_same, rfl, .nil⟩) ?_ ?_
    · rintro D k H' nD hk ⟨s', ys, hD, hyl, hA⟩
      have hBD : In (D :: B) H' := fun b hb e => by
        rcases List.mem_cons.mp hb with rfl | hb
        · rw [hD] at e; cases e
        · exact hB1.same s' b hb e
      have sD : Same (hid B H1) (hid (D :: B) H') := fun b o e => by
        have nbB : b ∉ B := fun z => by unfold hid at e; rw [if_pos z] at e; cases e
        rw [hid_in nbB] at e
        rw [hid_in (by simp [nbB, ne_none e nD])]
        exact s' b o e
      refine ⟨?_, ?_⟩
      · show ((σ.set i none).set i _).set i none = σ.set i none
        rw [List.set_set, List.set_set]
      rw [Int.zero_add]
      show te ((σ.set i none).set i (some (.int k))) H' _
      refine hs k (hid (D :: B) H') hk ((s.trans (hid_same s1)).trans sD) H' _ (D :: B) hBD (.refl _) fun y H4 s4 ey => ⟨ys, s4 _ _ hD, by rw [hyl]; omega, same_over (s'.trans s4) nD, ys ++ [y], upd_same, by rw [List.length_append, hyl]; rfl, ?_⟩
      rw [hid_upd List.mem_cons_self, List.range_succ, List.map_append]
      exact deAll_app (DeAll.same (hid_same s4) _ _ hA) (.cons ey .nil)
    · rintro D H' nD ⟨s', ys, hD, hyl, hA⟩
      exact q _ _ (s1.trans s') (.lst (by rw [hid_in (hB1.new nD)]; exact hD) (DeAll.same hid_more _ _ hA))
/-- a comprehension over range(lo, hi) -/
theorem Ev.rng2 {ta tb : TE} {te : TE} {i : Nat} {lo hi : Int} {f : Nat → PyData} (h : Ev K ta σ (.int lo) H0) (h2 : Ev K tb σ (.int hi) H0) (b1 : -1000 ≤ lo) (b2 : lo ≤ 1000) (b3 : -1000 ≤ hi) (b4 : hi ≤ 1000)
    (hs : ∀ (k : Nat) (H1 : Hp), k < (hi - lo).toNat → Same H0 H1 → Ev K te ((σ.set i none).set i (some (.int (lo + k)))) (f k) H1) : Ev K (tLc (iRng2 (tCons ta (tCons tb tNil))) (gName i) tYes te [i]) σ (.list ((List.range (hi - lo).toNat).map f)) H0 :=
  fun H Q B hB s q => h H _ B hB s fun v H0' s0 e0 => h2 H0' _ B (hB.same s0) (s.trans (hid_same s0)) fun w H1 s01 e1 => by
    cases e0
    cases e1
    have s1 := s0.trans s01
    have hz := sizeLine_eq
    have hB1 := hB.same s1
    refine ⟨_, _, rfl, ⟨by omega, by omega, by omega, by omega⟩, ?_⟩
    show CompW (Itr lo (hi - lo).toNat) (gName i) tYes te [i] σ H1 Q
    refine comp_range (n := (hi - lo).toNat) (fun D k H' => Same H1 H' ∧ ∃ ys, H' D = some (.lst ys) ∧ ys.length = k ∧ DeAll K (hid (D :: B) H') ys ((List.range k).map f)) (fun D nD => ⟨same_upd nD, [], upd_same, rfl, .nil⟩) ?_ ?_
    · rintro D k H' nD hk ⟨s', ys, hD, hyl, hA⟩
      have hBD : In (D :: B) H' := fun b hb e => by
        rcases List.mem_cons.mp hb with rfl | hb
        · rw [hD] at e; cases e
        · exact hB1.same s' b hb e
      have sD : Same (hid B H1) (hid (D :: B) H') := fun b o e => by
        have nbB : b ∉ B := fun z => by unfold hid at e; rw [if_pos z] at e; cases e
        rw [hid_in nbB] at e
        rw [hid_in (by simp [nbB, ne_none e nD])]
        exact s' b o e
      refine ⟨?_, ?_⟩
      · show ((σ.set i none).set i _).set i none = σ.set i none
        rw [List.set_set, List.set_set]
      show te ((σ.set i none).set i (some (.int (lo + k)))) H' _
      refine hs k (hid (D :: B) H') hk ((s.trans (hid_same s1)).trans sD) H' _ (D :: B) hBD (.refl _) fun y H4 s4 ey => ⟨ys, s4 _ _ hD, by rw [hyl]; omega, same_over (s'.trans s4) nD, ys ++ [y], upd_same, by rw [List.length_append, hyl]; rfl, ?_⟩
      rw [hid_upd List.mem_cons_self, List.range_succ, List.map_append]
      exact deAll_app (DeAll.same (hid_same s4) _ _ hA) (.cons ey .nil)
    · rintro D H' nD ⟨s', ys, hD, hyl, hA⟩
      exact q _ _ (s1.trans s') (.lst (by rw [hid_in (hB1.new nD)]; exact hD) (DeAll.same hid_more _ _ hA))
end
end G1

namespace G1
open PySem PySem.Spec PyProof.Rows L2
/-! own classes: methods and instances -/
/-- a method keeps a promise -/
def OkM (P : Program) (w : World) (K : PySem.W.Frag) (mg : Str → Option Value) (base : Heap) (C : Addr) (k : Nat) (m : Str) (ps : List Str) (sp : Sp) : Prop :=
  ∃ f fd, FnOk P w K mg base CX0 k f fd ps sp ∧ Meth K C m f ∧ L2.Binds K fd ps []
/-- a method as the top has left it -/
def SrcM (K : PySem.W.Frag) (C : Addr) (m qual : Str) (st : Stmt) : Prop := ∃ f fd, Fun K m qual st f fd ∧ Meth K C m f
/-- an own __init__ as the top has left it -/
def SrcI (K : PySem.W.Frag) (C : Addr) (qual : Str) (st : Stmt) : Prop := ∃ f fd, Fun K "__init__" qual st f fd ∧ Mk K C f
/-- making an instance keeps a promise; CX: whether __init__ may raise -/
def OkI (CX : CXT) (P : Program) (w : World) (K : PySem.W.Frag) (mg : Str → Option Value) (base : Heap) (C : Addr) (k : Nat) (ps : List Str) (sp : Sp) : Prop :=
  ∃ f fd, FnOk P w K mg base CX k f fd ps sp ∧ Mk K C f ∧ L2.Binds K fd ps []
structure Own (K : PySem.W.Frag) (mg : Str → Option Value) (x : Str) (C : Addr) : Prop where
  cl : Cls K C
  g : mg x = some (.ref C)
theorem srcM_mk {K : PySem.W.Frag} {C : Addr} {m qual : Str} {st : Stmt} {f : Addr} {oc : Value} {od an : Option Addr} {osl : Array (Option Value)} {kV doc pm cdv ct : Value}
    (a : PySem.W.findIn K (.ref C) m = some (some (.ref f))) (i : PySem.W.isFn K (.ref f) = true) (l : K.lookup f = some ⟨oc, od, .func (PySem.W.fnOf m qual (defArgs st) (defBody st) (defScope st) .none kV doc pm an cdv ct), osl⟩)
    (c : PySem.W.codeIn K cdv qual = true) (k : PySem.W.keepIn K (.ref f) = true) : SrcM K C m qual st := ⟨f, _, fun_mk l c k, a, i, k⟩
theorem srcI_mk {K : PySem.W.Frag} {C : Addr} {qual : Str} {st : Stmt} {f : Addr} {oc : Value} {od an : Option Addr} {osl : Array (Option Value)} {kV doc pm cdv ct : Value}
    (a : PySem.W.findIn K (.ref C) "__init__" = some (some (.ref f))) (i : PySem.W.isFn K (.ref f) = true) (l : K.lookup f = some ⟨oc, od, .func (PySem.W.fnOf "__init__" qual (defArgs st) (defBody st) (defScope st) .none kV doc pm an cdv ct), osl⟩)
    (c : PySem.W.codeIn K cdv qual = true) (k : PySem.W.keepIn K (.ref f) = true) (mk : PySem.W.makesIn K C = true) (kc : PySem.W.keepIn K (.ref C) = true) : SrcI K C qual st := ⟨f, _, fun_mk l c k, mk, a, i, kc⟩
section
variable {P : Program} {w : World} {K : PySem.W.Frag} {mg : Str → Option Value} {base : Heap} {m qual : Str} {C : Addr} {st : Stmt} {N ps : List Str} {k : Nat} {sp : Sp} {CX : CXT}
theorem okm (S : SrcM K C m qual st) (F : ∀ f fd, Fun K m qual st f fd → FnOk P w K mg base CX0 k f fd ps sp)
    (h : ∀ (kV doc pm : Value) (an : Option Addr) (cdv ct : Value) (us : List Value), us.length = ps.length → bindArgs (PySem.W.fnOf m qual (defArgs st) (defBody st) (defScope st) .none kV doc pm an cdv ct) ⟨us, []⟩ = pure (ps.zip us)) : OkM P w K mg base C k m ps sp := by
  obtain ⟨f, fd, F1, g⟩ := S
  exact ⟨f, fd, F f fd F1, g, F1.binds h⟩
theorem oki (S : SrcI K C qual st) (F : ∀ f fd, Fun K "__init__" qual st f fd → FnOk P w K mg base CX k f fd ps sp)
    (h : ∀ (kV doc pm : Value) (an : Option Addr) (cdv ct : Value) (us : List Value), us.length = ps.length → bindArgs (PySem.W.fnOf "__init__" qual (defArgs st) (defBody st) (defScope st) .none kV doc pm an cdv ct) ⟨us, []⟩ = pure (ps.zip us)) : OkI CX P w K mg base C k ps sp := by
  obtain ⟨f, fd, F1, g⟩ := S
  exact ⟨f, fd, F f fd F1, g, F1.binds h⟩
end
section
variable {X : Cx} {k j : Nat} {x m : Str} {C : Addr} {ps : List Str} {sp : Sp} {p pos apos : Pos} {e o : Expr} {es : List Expr} {t : TA} {ta : TE} {CX : CXT}
/-- o.m(..) -/
def tCallM (C : Addr) (m : Str) (sp : Sp) (ta : TE) (t : TA) : TE := fun σ H Q => ta σ H fun x H1 => ∃ a dx fs, x = .ref a ∧ H1 a = some (.ins C dx fs) ∧ fs.lookup m = none ∧ t σ H1 fun vs H2 => sp (x :: vs) H2 Q (fun _ _ _ => False)
theorem tMeth_nil {sp : Sp} {E : XK} {σ : L2.St} {H : Hp} {Q : VK} : tMeth C m sp [] E ta t σ H Q = (ta σ H fun x H1 => ∃ a dx fs, x = .ref a ∧ H1 a = some (.ins C dx fs) ∧ fs.lookup m = none ∧ t σ H1 fun vs H2 => sp (x :: vs) H2 Q E) := by
  unfold tMeth
  congr 1
  funext x H1
  have e : (fun (vs : List V) H2 => sp (x :: (vs ++ [])) H2 Q E) = fun vs H2 => sp (x :: vs) H2 Q E := by
    funext vs H2
    rw [List.append_nil]
  rw [e]
theorem pe_callM {pl : Sem Bool} (O : Own X.K X.mg x C) (M : OkM X.prog X.w X.K X.mg X.base C k m ps sp) (hr : Room k X.A) (he : PE X o ta) (ha : PA X (e :: es) t)
    (hst : starEach (e :: es) X.env = (false, eval e X.env) :: starEach es X.env := by rfl) (hpl : (backTo pos (starEach es X.env)).any (·.1) = false := by rfl)
    (ht : eval (.Call (.Attribute o m apos) (e :: es) [] pos) X.env = (do
      let ov ← eval o X.env
      standAt apos.atName
      let (f, first) ← holding [ov] (getMethod ov m pl)
      callWith pos f first (backTo pos (starEach (e :: es) X.env)) (backToKw pos (keywordEach [] X.env))) := by rfl) :
    PE X (.Call (.Attribute o m apos) (e :: es) [] pos) (tCallM C m sp ta t) := by
  obtain ⟨f, fd, F, hm, hb⟩ := M
  have z := pe_meth (dvs := []) (E := fun _ _ _ => False) he O.cl hm F hr hb .nil pass0 ha hst hpl ht
  refine ⟨fun pins s σ H Q I h => z.run pins s σ H Q I ?_⟩
  rw [tMeth_nil]
  exact h
theorem pe_callM0 {pl : Sem Bool} (O : Own X.K X.mg x C) (M : OkM X.prog X.w X.K X.mg X.base C k m ps sp) (hr : Room k X.A) (he : PE X o ta)
    (ht : eval (.Call (.Attribute o m apos) [] [] pos) X.env = (do
      let ov ← eval o X.env
      standAt apos.atName
      let (f, first) ← holding [ov] (getMethod ov m pl)
      callWith pos f first (backTo pos (starEach [] X.env)) (backToKw pos (keywordEach [] X.env))) := by rfl) :
    PE X (.Call (.Attribute o m apos) [] [] pos) (tCallM C m sp ta tNil) := by
  obtain ⟨f, fd, F, hm, hb⟩ := M
  have z := pe_meth0 (dvs := []) (E := fun _ _ _ => False) he O.cl hm F hr hb .nil pass0 ht
  refine ⟨fun pins s σ H Q I h => z.run pins s σ H Q I ?_⟩
  rw [tMeth_nil]
  exact h
/-- C(..) -/
def tMakeO (C : Addr) (sp : Sp) (t : TA) : TE := fun σ H Q => t σ H fun vs H1 => ∀ x dx, H1 x = none → H1 dx = none → dx ≠ x → sp (.ref x :: vs) (upd (upd H1 dx (.own x)) x (.ins C dx [])) (fun v H2 => v = .non ∧ Q (.ref x) H2) (fun _ _ _ => False)
theorem pe_mkO (hx : Passes CX X (fun _ _ _ => False)) (O : Own X.K X.mg x C) (M : OkI CX X.prog X.w X.K X.mg X.base C k ps sp) (hr : Room (k + 1) X.A) (hg : Gl X x) (ha : PA X (e :: es) t)
    (hdb : (x == ("__debug__" : Str)) = false := by decide) (he : starEach (e :: es) X.env = (false, eval e X.env) :: starEach es X.env := by rfl) (hpl : (backTo pos (starEach es X.env)).any (·.1) = false := by rfl) :
    PE X (.Call (.Name x p) (e :: es) [] pos) (tMakeO C sp t) := by
  obtain ⟨f, fd, F, hm, hb⟩ := M
  have z := pe_make (dvs := []) (E := fun _ _ _ => False) (p := p) hm F hr hg O.g hb .nil hx ha hdb he hpl
  refine ⟨fun pins s σ H Q I h => z.run pins s σ H Q I ?_⟩
  unfold tMake
  have e : (fun (vs : List V) H1 => ∀ x dx, H1 x = none → H1 dx = none → dx ≠ x → sp (.ref x :: (vs ++ [])) (upd (upd H1 dx (.own x)) x (.ins C dx [])) (fun v H2 => v = .non ∧ Q (.ref x) H2) (fun _ _ _ => False)) = fun vs H1 => ∀ x dx, H1 x = none → H1 dx = none → dx ≠ x → sp (.ref x :: vs) (upd (upd H1 dx (.own x)) x (.ins C dx [])) (fun v H2 => v = .non ∧ Q (.ref x) H2) (fun _ _ _ => False) := by
    funext vs H1
    rw [List.append_nil]
  rw [e]
  exact h
end
/-- a field of an instance -/
def FldAt (K : PySem.W.Frag) (H : Hp) (a : Addr) (f : Str) (v : V) : Prop := ∃ C dx fs, H a = some (.ins C dx fs) ∧ Cls K C ∧ NoAttr K C f ∧ fs.lookup f = some v
def tFldA (K : PySem.W.Frag) (f : Str) (ta : TE) : TE := fun σ H Q => ta σ H fun x H1 => ∃ a v, x = .ref a ∧ FldAt K H1 a f v ∧ Q v H1
theorem pe_fldA {X : Cx} {e : Expr} {f : Str} {pos : Pos} {ta : TE} (ha : PE X e ta) (hb : attributeBase e f X.env (eval e X.env) = eval e X.env := by rfl) : PE X (.Attribute e f pos) (tFldA X.K f ta) := by
  have z := pe_fld (pos := pos) ha hb
  refine ⟨fun pins s σ H Q I h => z.run pins s σ H Q I ?_⟩
  have e : (fun x H1 => ∃ a v, x = V.ref a ∧ FldAt X.K H1 a f v ∧ Q v H1) = fun x H1 => ∃ a C dx fs v, x = V.ref a ∧ H1 a = some (.ins C dx fs) ∧ Cls X.K C ∧ NoAttr X.K C f ∧ fs.lookup f = some v ∧ Q v H1 := by
    funext x H1
    apply propext
    constructor
    · rintro ⟨a, v, rfl, ⟨C, dx, fs, h1, h2, h3, h4⟩, q⟩
      exact ⟨a, C, dx, fs, v, rfl, h1, h2, h3, h4, q⟩
    · rintro ⟨a, C, dx, fs, v, rfl, h1, h2, h3, h4, q⟩
      exact ⟨a, v, rfl, ⟨C, dx, fs, h1, h2, h3, h4⟩, q⟩
  have h' : ta σ H (fun x H1 => ∃ a v, x = V.ref a ∧ FldAt X.K H1 a f v ∧ Q v H1) := h
  rw [e] at h'
  exact h'
/-- the other addresses stay -/
def Oth (l : List Addr) (H H' : Hp) : Prop := ∀ b o, b ∉ l → H b = some o → H' b = some o
theorem Oth.refl {l : List Addr} (H : Hp) : Oth l H H := fun _ _ _ e => e
theorem Oth.of {l : List Addr} {H H' : Hp} (s : Same H H') : Oth l H H' := fun b o _ e => s b o e
theorem Oth.set {l : List Addr} {H : Hp} {a : Addr} {o : HO} (h : a ∈ l) : Oth l H (upd H a o) := fun b o' n e => by
  rw [upd_ne fun z : b = a => n (by rw [z]; exact h)]
  exact e
theorem Oth.trans {l : List Addr} {H H1 H2 : Hp} (a : Oth l H H1) (b : Oth l H1 H2) : Oth l H H2 := fun x o n e => b x o n (a x o n e)
theorem Oth.mono {l l' : List Addr} {H H' : Hp} (a : Oth l H H') (h : ∀ x ∈ l, x ∈ l') : Oth l' H H' := fun x o n e => a x o (fun z => n (h x z)) e
/-- a test whose outcome is known -/
theorem tt_by {c : TT} {σ : L2.St} {H : Hp} {K : Bool → Hp → Prop} (bv : Bool) (h : ∀ K : Bool → Hp → Prop, K bv H → c σ H K) (k : K bv H) : c σ H K := h K k
theorem pi_listK {X : Cx} {tg l : Expr} {tl : TE} (K : PySem.W.Frag) (hK : X.K = K) (hl : PE X l tl) : PI X tg l (iList K tl) := hK ▸ pi_list hl
theorem pe_fldK {X : Cx} {e : Expr} {f : Str} {pos : Pos} {ta : TE} (K : PySem.W.Frag) (hK : X.K = K) (ha : PE X e ta) (hb : attributeBase e f X.env (eval e X.env) = eval e X.env := by rfl) : PE X (.Attribute e f pos) (tFldA K f ta) := hK ▸ pe_fldA ha hb
theorem call_list_ofK {X : Cx} (K : PySem.W.Frag) (hK : X.K = K) : CallR X (.type "list") (fun xs H Q => ∃ p ys, xs = [.ref p] ∧ (SqL K H p ys ∨ SqT K H p ys) ∧ ∀ l, H l = none → Q (.ref l) (upd H l (.lst ys))) := hK ▸ call_list_of
end G1

namespace G1
open PySem PySem.Spec PyProof.Rows L2
theorem op_notInDK {X : Cx} (K : PySem.W.Frag) (hK : X.K = K) (hu : X.A.units + 65 < cLine) : OpR X (compareOp .NotIn) (rNotInD K) := hK ▸ op_notInD hu
theorem u65 {k : Nat} {A : Around} (r : Room k A) : A.units + 65 < cLine := by have := r.un; omega
end G1
namespace G1
open PySem PySem.Spec PyProof.Rows L2
theorem comp_keysT {d : Addr} {o : Obj} {kvs : List (List Key × V)} {g : TG} {tt : TT} {te : TE} {vs : List Nat} {σ : L2.St} {H1 : Hp} {Q : VK} (Pv : Addr → Nat → Hp → Prop) (h0 : ∀ D, H1 D = none → Pv D 0 (upd H1 D (.lst [])))
    (hl : ∀ D i H, H1 D = none → Pv D i H → H d = some (.frz o (.dT kvs)))
    (hs : ∀ D i k v q H, H1 D = none → kvs[i]? = some (k, v) → Pv D i H → H q = some (.tup (k.map kV)) → g (.ref q) (wipe σ vs) H fun σ2 H2 => wipe σ2 vs = wipe σ vs ∧ tt σ2 H2 fun b H3 =>
      if b = true then te σ2 H3 fun y H4 => ∃ acc, H4 D = some (.lst acc) ∧ acc.length < sizeLine ∧ Pv D (i + 1) (upd H4 D (.lst (acc ++ [y]))) else Pv D (i + 1) H3) (hd : ∀ D H, H1 D = none → Pv D kvs.length H → Q (.ref D) H) : CompW (Itkt d o kvs) g tt te vs σ H1 Q := by
  intro D hD
  refine ⟨fun i m H => i + m = kvs.length ∧ Pv D i H, ⟨kvs.length, Nat.zero_add _, h0 D hD⟩, ?_⟩
  rintro i m H ⟨e, p⟩
  cases m with
  | zero =>
    have e' : i = kvs.length := e
    subst e'
    exact .inl ⟨⟨hl D _ H hD p, Nat.le_refl _⟩, hd D _ hD p⟩
  | succ m =>
    refine .inr ⟨⟨hl D _ H hD p, by omega⟩, fun H' => Pv D (i + 1) H', fun H' q => ⟨m, Nat.lt_succ_self m, by omega, q⟩, ?_⟩
    rintro x H' ⟨rfl, k, v, q, hk, rfl, hq⟩
    exact hs D i k v q _ hD hk p hq
theorem loop_enum {K : PySem.W.Frag} {a : Addr} {xs : List V} {g : TG} {tb : TS} {D : Ends} {σ : L2.St} {H : Hp} (Pv : Nat → L2.St → Hp → Prop) (h0 : Pv 0 σ H) (hl : ∀ i σ H, i ≤ xs.length → Pv i σ H → SqL K H a xs)
    (hs : ∀ i x T σ H, xs[i]? = some x → Pv i σ H → H T = none → g (.ref T) σ (upd H T (.tup [.int (i : Nat), x])) fun σ2 H2 => tb { D with nx := Pv (i + 1), ct := Pv (i + 1), bk := D.nx } σ2 H2) (hd : ∀ σ H, Pv xs.length σ H → D.nx σ H) : LoopW (Ite K a) g tb D σ H := by
  refine ⟨fun i m σ H => i + m = xs.length ∧ Pv i σ H, ⟨xs.length, Nat.zero_add _, h0⟩, ?_⟩
  rintro i m σ H ⟨e, p⟩
  cases m with
  | zero =>
    have e' : i = xs.length := e
    subst e'
    exact .inl ⟨⟨xs, hl _ _ H (Nat.le_refl _) p, Nat.le_refl _⟩, hd _ _ p⟩
  | succ m =>
    have hi : i < xs.length := by omega
    have hq := hl _ _ H (Nat.le_of_lt hi) p
    refine .inr ⟨⟨xs, _, hq, List.getElem?_eq_getElem hi⟩, fun σ' H' => Pv (i + 1) σ' H', fun σ' H' q => ⟨m, Nat.lt_succ_self m, by omega, q⟩, ?_⟩
    rintro v H' ⟨T, x, rfl, hT, rfl, hx⟩
    exact hs i x T _ _ (hx _ hq) p hT
end G1
namespace G1
open PySem PySem.Spec PyProof.Rows L2
theorem cr_minIK {X : Cx} (K : PySem.W.Frag) (hK : X.K = K) (hc : X.calm = true) : CallR X (.builtin "min") (rMin K) := hK ▸ cr_min hc
end G1
namespace G1
open PySem PySem.Spec PyProof.Rows L2
/-- the rest of a loop that may break, cut off -/
theorem loop_cut {J : It} {g : TG} {tb : TS} {D : Ends} {σ : L2.St} {H : Hp} (Post : L2.St → Hp → Prop) (h : ∀ nx' : L2.St → Hp → Prop, (∀ σ H, Post σ H → nx' σ H) → LoopW J g tb { D with nx := nx' } σ H) (k : ∀ σ H, Post σ H → D.nx σ H) : LoopW J g tb D σ H := h D.nx k
end G1

namespace MN
/-- the other sign of a pair -/
def inv (c : Nat) : Nat := c ^^^ 1
theorem inv_inv (c : Nat) : inv (inv c) = c := by unfold inv; rw [Nat.xor_assoc, Nat.xor_self, Nat.xor_zero]
theorem inv_ne (c : Nat) : inv c ≠ c := fun h => by
  have h2 : c ^^^ (c ^^^ 1) = c ^^^ c := congrArg (fun x => c ^^^ x) h
  rw [← Nat.xor_assoc, Nat.xor_self, Nat.zero_xor] at h2
  exact absurd h2 (by decide)
/-- the stack, its top first -/
def step (st : List Nat) (c : Nat) : List Nat := match st with
  | [] => [c]
  | t :: r => if t = inv c then r else c :: t :: r
def stk (st l : List Nat) : List Nat := l.foldl step st
def red (l : List Nat) : List Nat := (stk [] l).reverse
/-- no sign stands beside its other one -/
def Plain : List Nat → Prop
  | [] => True
  | [_] => True
  | a :: b :: r => b ≠ inv a ∧ Plain (b :: r)
theorem Plain.tail {a : Nat} {l : List Nat} (h : Plain (a :: l)) : Plain l := by
  cases l with
  | nil => trivial
  | cons b r => exact h.2
theorem ne_inv {a b : Nat} (h : b ≠ inv a) : a ≠ inv b := fun e => h (by rw [e, inv_inv])
theorem step_plain {st : List Nat} (h : Plain st) (c : Nat) : Plain (step st c) := by
  unfold step
  split
  · trivial
  · rename_i t r
    split
    · exact h.tail
    · rename_i n
      exact ⟨n, h⟩
theorem stk_plain : ∀ (l : List Nat) {st : List Nat}, Plain st → Plain (stk st l)
  | [], _, h => h
  | c :: l, _, h => stk_plain l (step_plain h c)
theorem step_back {st : List Nat} (h : Plain st) (c : Nat) : step (step st c) (inv c) = st := by
  unfold step
  cases st with
  | nil => simp [inv_inv]
  | cons t r =>
    dsimp only
    by_cases e : t = inv c
    · rw [if_pos e]
      cases r with
      | nil => simp [e]
      | cons u r =>
        dsimp only
        have : u ≠ inv t := h.1
        rw [if_neg (by rw [inv_inv]; rw [e, inv_inv] at this; exact this), e]
    · rw [if_neg e]
      dsimp only
      rw [if_pos (inv_inv c).symm]
theorem stk_append (st u v : List Nat) : stk st (u ++ v) = stk (stk st u) v := List.foldl_append
/-- two signs that undo one another may go -/
theorem red_pair (u v : List Nat) (c : Nat) : red (u ++ c :: inv c :: v) = red (u ++ v) := by
  unfold red
  rw [stk_append, stk_append]
  show (stk (step (step (stk [] u) c) (inv c)) v).reverse = _
  rw [step_back (stk_plain (st := []) u (show Plain [] from trivial))]
theorem plain_rev_cons {a : Nat} : ∀ {l : List Nat}, Plain (l ++ [a]) → Plain l
  | [], _ => trivial
  | [b], _ => trivial
  | b :: c :: r, h => ⟨h.1, plain_rev_cons (l := c :: r) h.2⟩
theorem plain_snoc {b a : Nat} : ∀ {l : List Nat}, Plain (l ++ [b, a]) → a ≠ inv b
  | [], h => h.1
  | [c], h => h.2.1
  | c :: d :: r, h => plain_snoc (l := d :: r) h.2
theorem plain_add {b a : Nat} (hn : a ≠ inv b) : ∀ {l : List Nat}, Plain (l ++ [b]) → Plain (l ++ [b, a])
  | [], _ => ⟨hn, trivial⟩
  | [c], h => ⟨h.1, hn, trivial⟩
  | c :: d :: r, h => ⟨h.1, plain_add hn (l := d :: r) h.2⟩
theorem plain_reverse : ∀ {l : List Nat}, Plain l → Plain l.reverse
  | [], _ => trivial
  | [a], _ => trivial
  | a :: b :: r, h => by
    have ih := plain_reverse (l := b :: r) h.2
    rw [List.reverse_cons, List.reverse_cons, List.append_assoc]
    rw [List.reverse_cons] at ih
    exact plain_add (ne_inv h.1) ih
theorem red_plain (l : List Nat) : Plain (red l) := plain_reverse (stk_plain (st := []) l (show Plain [] from trivial))
theorem stk_of_plain : ∀ (l : List Nat) (st : List Nat), Plain (st.reverse ++ l) → stk st l = l.reverse ++ st
  | [], _, _ => rfl
  | c :: l, st, h => by
    have e : step st c = c :: st := by
      unfold step
      cases st with
      | nil => rfl
      | cons t r =>
        have h2 : Plain (r.reverse ++ [t, c] ++ l) := by
          rw [List.reverse_cons] at h
          simpa using h
        have h3 : ∀ {x l : List Nat}, Plain (x ++ l) → Plain x := fun {x l} hh => by
          induction l generalizing x with
          | nil => simpa using hh
          | cons y l ih => exact plain_rev_cons (ih (x := x ++ [y]) (by simpa using hh))
        have h4 := plain_snoc (h3 h2)
        dsimp only
        rw [if_neg (ne_inv h4)]
    show stk (step st c) l = _
    rw [e, stk_of_plain l (c :: st) (by simpa using h)]
    simp
theorem red_of_plain {l : List Nat} (h : Plain l) : red l = l := by
  unfold red
  rw [stk_of_plain l [] (by simpa using h)]
  simp
theorem red_red (l : List Nat) : red (red l) = red l := red_of_plain (red_plain l)
/-- what is reached by taking pairs away -/
theorem red_left (u v : List Nat) : red (red u ++ v) = red (u ++ v) := by
  have h : stk [] (red u) = stk [] u := by
    rw [stk_of_plain (red u) [] (by simpa using red_plain u)]
    unfold red
    simp
  unfold red at h ⊢
  rw [stk_append, stk_append, h]
/-- the word undone -/
def opp (l : List Nat) : List Nat := (l.map inv).reverse
theorem opp_opp (l : List Nat) : opp (opp l) = l := by
  unfold opp
  rw [List.map_reverse, List.reverse_reverse, List.map_map]
  have : (inv ∘ inv) = id := by funext x; exact inv_inv x
  rw [this, List.map_id]
theorem opp_append (u v : List Nat) : opp (u ++ v) = opp v ++ opp u := by
  unfold opp
  rw [List.map_append, List.reverse_append]
theorem red_mid : ∀ (l u v : List Nat), red (u ++ (l ++ opp l) ++ v) = red (u ++ v)
  | [], u, v => by simp [opp]
  | c :: l, u, v => by
    have e : u ++ (c :: l ++ opp (c :: l)) ++ v = (u ++ [c]) ++ (l ++ opp l) ++ (inv c :: v) := by
      simp [opp]
    rw [e, red_mid l (u ++ [c]) (inv c :: v)]
    have e2 : u ++ [c] ++ inv c :: v = u ++ c :: inv c :: v := by simp
    rw [e2, red_pair]
theorem red_undo (l : List Nat) : red (l ++ opp l) = [] := by
  have h := red_mid l [] []
  simpa [red, stk] using h
theorem red_undo2 (l : List Nat) : red (opp l ++ l) = [] := by
  have h := red_undo (opp l)
  rw [opp_opp] at h
  exact h
theorem plain_opp {l : List Nat} (h : Plain l) : Plain (opp l) := by
  unfold opp
  apply plain_reverse
  induction l with
  | nil => trivial
  | cons a l ih =>
    cases l with
    | nil => trivial
    | cons b r =>
      refine ⟨fun e => h.1 ?_, ih h.2⟩
      rw [← inv_inv b, e, inv_inv]
/-! taking away all of one pair, from the left -/
def cut (c : Nat) : List Nat → List Nat
  | [] => []
  | [a] => [a]
  | a :: b :: r => if a = c ∧ b = inv c then cut c r else a :: cut c (b :: r)
theorem cut_len (c : Nat) : ∀ l : List Nat, (cut c l).length ≤ l.length
  | [] => Nat.le_refl _
  | [a] => Nat.le_refl _
  | a :: b :: r => by
    unfold cut
    split
    · exact Nat.le_trans (cut_len c r) (by simp only [List.length_cons]; omega)
    · exact Nat.succ_le_succ (cut_len c (b :: r))
/-- no such pair stands there -/
def NoP (c : Nat) : List Nat → Prop
  | [] => True
  | [_] => True
  | a :: b :: r => ¬ (a = c ∧ b = inv c) ∧ NoP c (b :: r)
theorem cut_same (c : Nat) : ∀ l : List Nat, (cut c l).length = l.length → cut c l = l ∧ NoP c l
  | [], _ => ⟨rfl, trivial⟩
  | [a], _ => ⟨rfl, trivial⟩
  | a :: b :: r, h => by
    unfold cut at h ⊢
    by_cases e : a = c ∧ b = inv c
    · rw [if_pos e] at h
      have := cut_len c r
      simp only [List.length_cons] at h
      omega
    · rw [if_neg e] at h ⊢
      obtain ⟨h1, h2⟩ := cut_same c (b :: r) (by simpa using h)
      exact ⟨by rw [h1], e, h2⟩
theorem stk_cut (c : Nat) : ∀ (l st : List Nat), Plain st → stk st (cut c l) = stk st l
  | [], _, _ => rfl
  | [a], _, _ => rfl
  | a :: b :: r, st, h => by
    unfold cut
    by_cases e : a = c ∧ b = inv c
    · rw [if_pos e, stk_cut c r st h]
      obtain ⟨rfl, rfl⟩ := e
      show _ = stk (step (step st a) (inv a)) r
      rw [step_back h]
    · rw [if_neg e]
      exact stk_cut c (b :: r) (step st a) (step_plain h a)
theorem red_cut (c : Nat) (l : List Nat) : red (cut c l) = red l := by
  unfold red
  rw [stk_cut c l [] (show Plain [] from trivial)]
theorem mem_cut (c : Nat) : ∀ (l : List Nat) (x : Nat), x ∈ cut c l → x ∈ l
  | [], _, h => h
  | [a], _, h => h
  | a :: b :: r, x, h => by
    unfold cut at h
    split at h
    · exact List.mem_cons_of_mem _ (List.mem_cons_of_mem _ (mem_cut c r x h))
    · rcases List.mem_cons.mp h with h | h
      · exact h ▸ List.mem_cons_self
      · exact List.mem_cons_of_mem _ (mem_cut c (b :: r) x h)
theorem plain_of_nop {cs : List Nat} : ∀ {l : List Nat}, (∀ c ∈ cs, NoP c l) → (∀ x ∈ l, x ∈ cs) → Plain l
  | [], _, _ => trivial
  | [_], _, _ => trivial
  | a :: b :: r, h, m => by
    refine ⟨fun e => (h a (m a List.mem_cons_self)).1 ⟨rfl, e⟩, plain_of_nop (fun c hc => (h c hc).2) fun x hx => m x (List.mem_cons_of_mem _ hx)⟩
theorem mem_stk : ∀ (l st : List Nat) (x : Nat), x ∈ stk st l → x ∈ st ∨ x ∈ l
  | [], st, x, h => .inl h
  | c :: l, st, x, h => by
    rcases mem_stk l (step st c) x h with h | h
    · unfold step at h
      split at h
      · exact .inr (by rw [List.mem_singleton.mp h]; exact List.mem_cons_self)
      · split at h
        · exact .inl (List.mem_cons_of_mem _ h)
        · rcases List.mem_cons.mp h with h | h
          · exact .inr (h ▸ List.mem_cons_self)
          · exact .inl h
    · exact .inr (List.mem_cons_of_mem _ h)
theorem mem_red {l : List Nat} {x : Nat} (h : x ∈ red l) : x ∈ l := by
  unfold red at h
  rcases mem_stk l [] x (List.mem_reverse.mp h) with h | h
  · cases h
  · exact h
theorem len_stk : ∀ (l st : List Nat), (stk st l).length ≤ st.length + l.length
  | [], st => Nat.le_refl _
  | c :: l, st => by
    refine Nat.le_trans (len_stk l (step st c)) ?_
    have : (step st c).length ≤ st.length + 1 := by
      unfold step
      split
      · simp
      · split <;> simp only [List.length_cons] <;> omega
    simp only [List.length_cons]
    omega
theorem len_red (l : List Nat) : (red l).length ≤ l.length := by
  unfold red
  rw [List.length_reverse]
  simpa using len_stk l []
/-- pushing on a stack: what a word says is enough -/
theorem stk_red (l : List Nat) : ∀ st, Plain st → stk st (red l) = stk st l := by
  -- by the word's length, sign by sign from the left: the stack of the first signs, read again
  have key : ∀ (l s st : List Nat), Plain st → Plain s → stk st ((stk s l).reverse) = stk (stk st s.reverse) l := by
    intro l
    induction l with
    | nil => intro s st _ _; rfl
    | cons c l ih =>
      intro s st hst hs
      show stk st ((stk (step s c) l).reverse) = stk (step (stk st s.reverse) c) l
      rw [ih (step s c) st hst (step_plain hs c)]
      congr 1
      cases s with
      | nil => rfl
      | cons t r =>
        unfold step
        dsimp only
        by_cases e : t = inv c
        · rw [if_pos e, List.reverse_cons, stk_append]
          show stk st r.reverse = step (step (stk st r.reverse) t) c
          have hc : c = inv t := by rw [e, inv_inv]
          rw [hc, step_back (stk_plain r.reverse hst)]
        · rw [if_neg e, List.reverse_cons, stk_append]
          rfl
  intro st hst
  have h := key l [] st hst (show Plain [] from trivial)
  exact h
/-- the opposite of what a word says -/
theorem red_opp (l : List Nat) : red (opp l) = opp (red l) := by
  -- opp l · l and opp (red l) · l say nothing; so both say the same
  have h1 : red (opp (red l) ++ l) = [] := by
    have : red (opp (red l) ++ l) = red (opp (red l) ++ red l) := by
      have e : ∀ u, red (u ++ red l) = red (u ++ l) := fun u => by
        have a1 : red (red (u ++ l)) = red (u ++ l) := red_red _
        have a2 : red (red u ++ l) = red (u ++ l) := red_left u l
        have a3 : stk (stk [] u) (red l) = stk (stk [] u) l := by
          -- the right part may be shortened under any stack
          have gen : ∀ (l st : List Nat), Plain st → stk st (red l) = stk st l := fun l => by
            intro st hst
            exact stk_red l st hst
          exact gen l _ (stk_plain u (show Plain [] from trivial))
        unfold red at a3 ⊢
        rw [stk_append, stk_append, a3]
      rw [e]
    rw [this, red_undo2]
  have h2 : red (opp (red l) ++ (l ++ opp l)) = red (opp (red l)) := by
    have := red_mid l (opp (red l)) []
    simpa using this
  have h3 : red (red (opp (red l) ++ l) ++ opp l) = red (opp (red l) ++ l ++ opp l) := red_left _ _
  rw [h1, List.nil_append] at h3
  rw [h3, List.append_assoc, h2]
  exact red_of_plain (plain_opp (red_plain l))
end MN

namespace MN
/-! machines whose lanes lead back: reading, loops, the words of a list, one picture -/
def run (δ : Nat → Nat → Option Nat) : Nat → List Nat → Option Nat
  | p, [] => some p
  | p, s :: w => (δ p s).bind fun q => run δ q w
/-- each lane has its lane back -/
def Inv (δ : Nat → Nat → Option Nat) : Prop := ∀ p s q, δ p s = some q → δ q (inv s) = some p
section
variable {δ δ' : Nat → Nat → Option Nat}
theorem run_cons {p s : Nat} {w : List Nat} {q : Nat} : run δ p (s :: w) = some q ↔ ∃ r, δ p s = some r ∧ run δ r w = some q := by
  show (δ p s).bind _ = some q ↔ _
  rw [Option.bind_eq_some_iff]
theorem run_append : ∀ (u : List Nat) {v : List Nat} {p q : Nat}, run δ p (u ++ v) = some q ↔ ∃ r, run δ p u = some r ∧ run δ r v = some q
  | [], v, p, q => ⟨fun h => ⟨p, rfl, h⟩, fun ⟨r, h1, h2⟩ => by cases h1; exact h2⟩
  | s :: u, v, p, q => by
    rw [List.cons_append, run_cons]
    constructor
    · rintro ⟨r, h1, h2⟩
      obtain ⟨t, h3, h4⟩ := (run_append u).mp h2
      exact ⟨t, run_cons.mpr ⟨r, h1, h3⟩, h4⟩
    · rintro ⟨t, h1, h2⟩
      obtain ⟨r, h3, h4⟩ := run_cons.mp h1
      exact ⟨r, h3, (run_append u).mpr ⟨t, h4, h2⟩⟩
theorem run_one {p s q : Nat} : run δ p [s] = some q ↔ δ p s = some q := by
  rw [run_cons]
  constructor
  · rintro ⟨r, h1, h2⟩
    cases h2
    exact h1
  · intro h
    exact ⟨q, h, rfl⟩
theorem opp_cons (s : Nat) (w : List Nat) : opp (s :: w) = opp w ++ [inv s] := by
  unfold opp
  rw [List.map_cons, List.reverse_cons]
theorem run_opp (hI : Inv δ) : ∀ (w : List Nat) {p q : Nat}, run δ p w = some q → run δ q (opp w) = some p
  | [], p, q, h => by cases h; rfl
  | s :: w, p, q, h => by
    obtain ⟨r, h1, h2⟩ := run_cons.mp h
    rw [opp_cons, run_append]
    exact ⟨r, run_opp hI w h2, run_one.mpr (hI _ _ _ h1)⟩
theorem run_pair (hI : Inv δ) {u v : List Nat} {s p q : Nat} (h : run δ p (u ++ s :: inv s :: v) = some q) : run δ p (u ++ v) = some q := by
  obtain ⟨r, h1, h2⟩ := (run_append u).mp h
  obtain ⟨t, h3, h4⟩ := run_cons.mp h2
  obtain ⟨t', h5, h6⟩ := run_cons.mp h4
  rw [hI _ _ _ h3] at h5
  cases h5
  exact (run_append u).mpr ⟨r, h1, h6⟩
theorem run_stk (hI : Inv δ) : ∀ (l st : List Nat) {p q : Nat}, run δ p (st.reverse ++ l) = some q → run δ p (stk st l).reverse = some q
  | [], st, p, q, h => by
    rw [List.append_nil] at h
    exact h
  | c :: l, st, p, q, h => by
    show run δ p (stk (step st c) l).reverse = some q
    refine run_stk hI l (step st c) ?_
    unfold step
    cases st with
    | nil => exact h
    | cons t r =>
      dsimp only
      by_cases e : t = inv c
      · rw [if_pos e]
        have hc : c = inv t := by rw [e, inv_inv]
        rw [hc, List.reverse_cons, List.append_assoc] at h
        exact run_pair hI h
      · rw [if_neg e]
        rw [List.reverse_cons (a := c), List.append_assoc]
        exact h
/-- a word that can be read can be read when it is made plain, to the same spot -/
theorem run_red (hI : Inv δ) {w : List Nat} {p q : Nat} (h : run δ p w = some q) : run δ p (red w) = some q := run_stk hI w [] h
/-! the words that follow from a list -/
inductive Sub (ws : List (List Nat)) : List Nat → Prop
  | nil : Sub ws []
  | mul {u w : List Nat} : Sub ws u → w ∈ ws → Sub ws (u ++ w)
  | mulo {u w : List Nat} : Sub ws u → w ∈ ws → Sub ws (u ++ opp w)
  | red {u v : List Nat} : Sub ws u → MN.red u = MN.red v → Sub ws v
theorem red_right (u v : List Nat) : red (u ++ red v) = red (u ++ v) := by
  unfold red
  rw [stk_append, stk_append]
  congr 1
  exact stk_red v _ (stk_plain u (show Plain [] from trivial))
variable {ws ws' : List (List Nat)}
theorem Sub.gen {w : List Nat} (h : w ∈ ws) : Sub ws w := by simpa using Sub.mul (.nil (ws := ws)) h
theorem Sub.append {u v : List Nat} (h : Sub ws u) (k : Sub ws v) : Sub ws (u ++ v) := by
  induction k with
  | nil => simpa using h
  | mul _ hw ih => rw [← List.append_assoc]; exact ih.mul hw
  | mulo _ hw ih => rw [← List.append_assoc]; exact ih.mulo hw
  | red _ e ih => exact ih.red (by rw [← red_right, e, red_right])
theorem Sub.opp {u : List Nat} (h : Sub ws u) : Sub ws (opp u) := by
  induction h with
  | nil => exact .nil
  | mul _ hw ih =>
    rw [opp_append]
    have := Sub.mulo (.nil (ws := ws)) hw
    rw [List.nil_append] at this
    exact this.append ih
  | mulo _ hw ih =>
    rw [opp_append, opp_opp]
    exact (Sub.gen hw).append ih
  | red _ e ih => exact ih.red (by rw [red_opp, e, red_opp])
theorem Sub.mono {u : List Nat} (h : Sub ws u) (k : ∀ w ∈ ws, Sub ws' w) : Sub ws' u := by
  induction h with
  | nil => exact .nil
  | mul _ hw ih => exact ih.append (k _ hw)
  | mulo _ hw ih => exact ih.append (k _ hw).opp
  | red _ e ih => exact ih.red e
theorem Sub.plain {u : List Nat} : Sub ws (MN.red u) ↔ Sub ws u := ⟨fun h => h.red (red_red u), fun h => h.red (red_red u).symm⟩
/-- two words that differ by a word of the list on the left -/
def Cos (ws : List (List Nat)) (u v : List Nat) : Prop := Sub ws (u ++ MN.opp v)
theorem Cos.refl (u : List Nat) : Cos ws u u := Sub.red .nil (by rw [red_undo]; rfl)
theorem Cos.symm {u v : List Nat} (h : Cos ws u v) : Cos ws v u := by
  have := Sub.opp h
  rw [opp_append, opp_opp] at this
  exact this
theorem Cos.trans {u v w : List Nat} (h : Cos ws u v) (k : Cos ws v w) : Cos ws u w := by
  have := Sub.append h k
  refine this.red ?_
  rw [show u ++ MN.opp v ++ (v ++ MN.opp w) = u ++ (MN.opp v ++ MN.opp (MN.opp v)) ++ MN.opp w by rw [opp_opp]; simp]
  exact red_mid _ _ _
theorem Cos.app {u v : List Nat} (h : Cos ws u v) (x : List Nat) : Cos ws (u ++ x) (v ++ x) := by
  refine Sub.red h ?_
  rw [opp_append, show u ++ x ++ (MN.opp x ++ MN.opp v) = u ++ (x ++ MN.opp x) ++ MN.opp v by simp, red_mid]
theorem Cos.of_red {u v : List Nat} (h : red u = red v) : Cos ws u v := Sub.red (Cos.refl u) (by rw [← red_right u, red_opp, h, ← red_opp, red_right])
/-! what a folded picture is -/
structure Pic (δ : Nat → Nat → Option Nat) (ws : List (List Nat)) : Prop where
  inv : Inv δ
  loop : ∀ w ∈ ws, run δ 0 w = some 0
  lab : ∃ l : Nat → List Nat, l 0 = [] ∧ ∀ p s q, δ p s = some q → Cos ws (l p ++ [s]) (l q)
  cov : ∀ p s q, δ p s = some q → ∃ x y, Plain (x ++ s :: y) ∧ run δ 0 x = some p ∧ run δ q y = some 0
theorem Pic.back (P : Pic δ ws) {u : List Nat} (h : Sub ws u) : run δ 0 (MN.red u) = some 0 := by
  induction h with
  | nil => rfl
  | mul _ hw ih => rw [← red_left]; exact run_red P.inv ((run_append _).mpr ⟨0, ih, P.loop _ hw⟩)
  | mulo _ hw ih => rw [← red_left]; exact run_red P.inv ((run_append _).mpr ⟨0, ih, run_opp P.inv _ (P.loop _ hw)⟩)
  | red _ e ih => rw [← e]; exact ih
theorem Pic.cos (P : Pic δ ws) : ∃ l : Nat → List Nat, l 0 = [] ∧ ∀ (w : List Nat) p q, run δ p w = some q → Cos ws (l p ++ w) (l q) := by
  obtain ⟨l, h0, hl⟩ := P.lab
  refine ⟨l, h0, ?_⟩
  intro w
  induction w with
  | nil =>
    intro p q h
    cases h
    rw [List.append_nil]
    exact Cos.refl _
  | cons s w ih =>
    intro p q h
    obtain ⟨r, h1, h2⟩ := run_cons.mp h
    have a := (hl _ _ _ h1).app w
    rw [List.append_assoc] at a
    exact a.trans (ih _ _ h2)
theorem Pic.sub (P : Pic δ ws) {u : List Nat} (h : run δ 0 u = some 0) : Sub ws u := by
  obtain ⟨l, h0, hl⟩ := P.cos
  have := hl _ _ _ h
  rw [h0] at this
  have e : Cos ws u [] := this
  unfold Cos at e
  simpa [MN.opp] using e
/-- the plain words that lead back are just those that follow from the list -/
theorem Pic.mem (P : Pic δ ws) {u : List Nat} (h : Plain u) : run δ 0 u = some 0 ↔ Sub ws u :=
  ⟨P.sub, fun k => by have := P.back k; rwa [red_of_plain h] at this⟩
theorem Pic.same (P : Pic δ ws) (h : ∀ w ∈ ws, Sub ws' w) (k : ∀ w ∈ ws', Sub ws w ∧ Plain w) : Pic δ ws' where
  inv := P.inv
  loop := fun w hw => (P.mem (k w hw).2).mpr (k w hw).1
  lab := let ⟨l, h0, hl⟩ := P.lab; ⟨l, h0, fun p s q e => Sub.mono (hl p s q e) h⟩
  cov := P.cov
/-- what is read in one machine is read in the other one, and words that come together stay together -/
theorem Pic.read (P : Pic δ ws) (P' : Pic δ' ws') (hs : ∀ u, Sub ws u → Sub ws' u) : ∀ (u : List Nat) {p : Nat}, run δ 0 u = some p → ∃ q, run δ' 0 u = some q := by
  suffices g : ∀ (v : List Nat) {p : Nat}, run δ 0 v.reverse = some p → ∃ q, run δ' 0 v.reverse = some q by
    intro u p h
    have := g u.reverse (p := p) (by rw [List.reverse_reverse]; exact h)
    rwa [List.reverse_reverse] at this
  intro v
  induction v with
  | nil => exact fun _ => ⟨0, rfl⟩
  | cons s v ih =>
    intro p h
    rw [List.reverse_cons] at h ⊢
    generalize v.reverse = u at h ih ⊢
    obtain ⟨r, h1, h2⟩ := (run_append u).mp h
    obtain ⟨q', hq'⟩ := ih h1
    have h3 := run_one.mp h2
    obtain ⟨x, y, hp, hx, hy⟩ := P.cov _ _ _ h3
    have l1 : run δ 0 (x ++ s :: y) = some 0 := (run_append x).mpr ⟨r, hx, run_cons.mpr ⟨p, h3, hy⟩⟩
    have l2 : run δ' 0 (x ++ s :: y) = some 0 := (P'.mem hp).mpr (hs _ ((P.mem hp).mp l1))
    obtain ⟨q2, hx2, hy2⟩ := (run_append x).mp l2
    obtain ⟨q3, hs2, _⟩ := run_cons.mp hy2
    -- u and x lead to the same spot there, too
    have l3 : run δ 0 (u ++ opp x) = some 0 := (run_append u).mpr ⟨r, h1, run_opp P.inv x hx⟩
    have l4 : run δ' 0 (red (u ++ opp x)) = some 0 := P'.back (hs _ (P.sub l3))
    have l5 : run δ' 0 (red (u ++ opp x) ++ x) = some q2 := (run_append _).mpr ⟨0, l4, hx2⟩
    have l6 := run_red P'.inv l5
    rw [red_left, show u ++ opp x ++ x = u ++ (opp x ++ opp (opp x)) ++ [] by rw [opp_opp]; simp, red_mid, List.append_nil] at l6
    have l7 := run_red P'.inv hq'
    rw [l6] at l7
    cases l7
    exact ⟨q3, (run_append u).mpr ⟨_, hq', run_one.mpr hs2⟩⟩
theorem Pic.together (P : Pic δ ws) (P' : Pic δ' ws') (hs : ∀ u, Sub ws u → Sub ws' u) {u v : List Nat} {p q r : Nat} (h1 : run δ 0 u = some p) (h2 : run δ 0 v = some p) (k1 : run δ' 0 u = some q) (k2 : run δ' 0 v = some r) : q = r := by
  have l3 : run δ 0 (u ++ opp v) = some 0 := (run_append u).mpr ⟨p, h1, run_opp P.inv v h2⟩
  have l4 : run δ' 0 (red (u ++ opp v)) = some 0 := P'.back (hs _ (P.sub l3))
  have l5 : run δ' 0 (red (u ++ opp v) ++ v) = some r := (run_append _).mpr ⟨0, l4, k2⟩
  have l6 := run_red P'.inv l5
  rw [red_left, show u ++ opp v ++ v = u ++ (opp v ++ opp (opp v)) ++ [] by rw [opp_opp]; simp, red_mid, List.append_nil] at l6
  have l7 := run_red P'.inv k1
  rw [l6] at l7
  cases l7
  rfl
/-- spots of two machines that belong together -/
def Rel (δ δ' : Nat → Nat → Option Nat) (p q : Nat) : Prop := ∃ u, run δ 0 u = some p ∧ run δ' 0 u = some q
structure Iso (δ δ' : Nat → Nat → Option Nat) : Prop where
  left : ∀ p q r, Rel δ δ' p q → Rel δ δ' p r → q = r
  right : ∀ p q r, Rel δ δ' p r → Rel δ δ' q r → p = q
  go : ∀ p q s, Rel δ δ' p q → (δ p s = none ∧ δ' q s = none) ∨ ∃ p' q', δ p s = some p' ∧ δ' q s = some q' ∧ Rel δ δ' p' q'
theorem Pic.iso (P : Pic δ ws) (P' : Pic δ' ws') (hs : ∀ u, Sub ws u ↔ Sub ws' u) : Iso δ δ' where
  left := fun p q r ⟨u, a, b⟩ ⟨v, c, d⟩ => P.together P' (fun u => (hs u).mp) a c b d
  right := fun p q r ⟨u, a, b⟩ ⟨v, c, d⟩ => P'.together P (fun u => (hs u).mpr) b d a c
  go := fun p q s ⟨u, a, b⟩ => by
    cases e : δ p s with
    | none =>
      cases e' : δ' q s with
      | none => exact .inl ⟨rfl, rfl⟩
      | some q' =>
        obtain ⟨r, hr⟩ := P'.read P (fun u => (hs u).mpr) (u ++ [s]) ((run_append u).mpr ⟨q, b, run_one.mpr e'⟩)
        obtain ⟨r', h1, h2⟩ := (run_append u).mp hr
        rw [a] at h1
        cases h1
        rw [run_one.mp h2] at e
        cases e
    | some p' =>
      obtain ⟨r, hr⟩ := P.read P' (fun u => (hs u).mp) (u ++ [s]) ((run_append u).mpr ⟨p, a, run_one.mpr e⟩)
      obtain ⟨r', h1, h2⟩ := (run_append u).mp hr
      rw [b] at h1
      cases h1
      exact .inr ⟨p', r, rfl, run_one.mp h2, u ++ [s], (run_append u).mpr ⟨p, a, run_one.mpr e⟩, hr⟩
/-! the spots in the order in which they are found -/
def put (o : List Nat) (t : Option Nat) : List Nat := match t with
  | some q => if q ∈ o then o else o ++ [q]
  | none => o
/-- the ends of the lanes of a spot, in order -/
def ends (δ : Nat → Nat → Option Nat) (size p : Nat) : List (Option Nat) := (List.range size).map (δ p)
def scan (δ : Nat → Nat → Option Nat) (size p : Nat) (o : List Nat) : List Nat := (ends δ size p).foldl put o
def ord (δ : Nat → Nat → Option Nat) (size st : Nat) : Nat → List Nat
  | 0 => [st]
  | k + 1 => match (ord δ size st k)[k]? with
    | some p => scan δ size p (ord δ size st k)
    | none => ord δ size st k
def rowsOf (δ : Nat → Nat → Option Nat) (size : Nat) (o : List Nat) : List (List (Option Nat)) := o.map fun p => (ends δ size p).map fun t => t.map fun q => o.idxOf q
/-- the rows, numbered from a start on -/
def Rows (δ : Nat → Nat → Option Nat) (size st : Nat) (rows : List (List (Option Nat))) : Prop := ∃ k, (ord δ size st k).length = k ∧ rows = rowsOf δ size (ord δ size st k)
theorem put_le (o : List Nat) (t : Option Nat) : o.length ≤ (put o t).length := by
  unfold put
  split
  · split
    · exact Nat.le_refl _
    · simp
  · exact Nat.le_refl _
theorem put_app (o : List Nat) (t : Option Nat) : ∃ r, put o t = o ++ r := by
  unfold put
  split
  · split
    · exact ⟨[], by simp⟩
    · exact ⟨_, rfl⟩
  · exact ⟨[], by simp⟩
theorem puts_app : ∀ (ts : List (Option Nat)) (o : List Nat), ∃ r, ts.foldl put o = o ++ r
  | [], o => ⟨[], by simp⟩
  | t :: ts, o => by
    obtain ⟨r, h⟩ := put_app o t
    obtain ⟨r', h'⟩ := puts_app ts (put o t)
    exact ⟨r ++ r', by rw [List.foldl_cons, h', h, List.append_assoc]⟩
theorem scan_app (δ : Nat → Nat → Option Nat) (size p : Nat) (o : List Nat) : ∃ r, scan δ size p o = o ++ r := puts_app _ _
theorem ord_app (δ : Nat → Nat → Option Nat) (size st k : Nat) : ∃ r, ord δ size st (k + 1) = ord δ size st k ++ r := by
  rw [ord]
  split
  · exact scan_app ..
  · exact ⟨[], by simp⟩
theorem put_nodup {o : List Nat} {t : Option Nat} (h : o.Nodup) : (put o t).Nodup := by
  unfold put
  split
  · rename_i q
    split
    · exact h
    · rename_i n
      exact List.nodup_append.mpr ⟨h, by simp, fun a ha b hb e => n (by rw [List.mem_singleton.mp hb] at e; exact e ▸ ha)⟩
  · exact h
theorem puts_nodup : ∀ (ts : List (Option Nat)) {o : List Nat}, o.Nodup → (ts.foldl put o).Nodup
  | [], _, h => h
  | t :: ts, _, h => puts_nodup ts (put_nodup h)
theorem ord_nodup (δ : Nat → Nat → Option Nat) (size st : Nat) : ∀ k, (ord δ size st k).Nodup
  | 0 => by simp [ord]
  | k + 1 => by
    rw [ord]
    split
    · exact puts_nodup _ (ord_nodup δ size st k)
    · exact ord_nodup δ size st k
theorem puts_mem : ∀ (ts : List (Option Nat)) (o : List Nat) (x : Nat), x ∈ ts.foldl put o → x ∈ o ∨ some x ∈ ts
  | [], _, _, h => .inl h
  | t :: ts, o, x, h => by
    rcases puts_mem ts (put o t) x h with h | h
    · unfold put at h
      split at h
      · split at h
        · exact .inl h
        · rcases List.mem_append.mp h with h | h
          · exact .inl h
          · rw [List.mem_singleton.mp h]
            exact .inr List.mem_cons_self
      · exact .inl h
    · exact .inr (List.mem_cons_of_mem _ h)
theorem ord_mem {δ : Nat → Nat → Option Nat} {size st : Nat} {S : Nat → Prop} (h0 : S st) (hs : ∀ p s q, S p → δ p s = some q → S q) : ∀ k, ∀ x ∈ ord δ size st k, S x
  | 0, x, h => by
    rw [List.mem_singleton.mp h]
    exact h0
  | k + 1, x, h => by
    rw [ord] at h
    split at h
    · rename_i p hp
      rcases puts_mem _ _ _ h with h | h
      · exact ord_mem h0 hs k x h
      · obtain ⟨s, _, e⟩ := List.mem_map.mp h
        exact hs p s x (ord_mem h0 hs k p (List.mem_of_getElem? hp)) e
    · exact ord_mem h0 hs k x h
theorem put_in {o : List Nat} {q : Nat} : q ∈ put o (some q) := by
  unfold put
  dsimp only
  split
  · assumption
  · simp
theorem puts_in : ∀ (ts : List (Option Nat)) (o : List Nat) (q : Nat), q ∈ o ∨ some q ∈ ts → q ∈ ts.foldl put o
  | [], _, _, h => by simpa using h
  | t :: ts, o, q, h => by
    rw [List.foldl_cons]
    refine puts_in ts (put o t) q ?_
    rcases h with h | h
    · obtain ⟨r, hr⟩ := put_app o t
      exact .inl (by rw [hr]; exact List.mem_append_left _ h)
    · rcases List.mem_cons.mp h with h | h
      · exact .inl (by rw [← h]; exact put_in)
      · exact .inr h
theorem ord_pre (δ : Nat → Nat → Option Nat) (size st i : Nat) : ∀ j, ∃ r, ord δ size st (i + j) = ord δ size st i ++ r
  | 0 => ⟨[], by simp⟩
  | j + 1 => by
    obtain ⟨r, h⟩ := ord_pre δ size st i j
    obtain ⟨r', h'⟩ := ord_app δ size st (i + j)
    exact ⟨r ++ r', by rw [← Nat.add_assoc, h', h, List.append_assoc]⟩
theorem ord_stuck {δ : Nat → Nat → Option Nat} {size st i : Nat} (h : (ord δ size st i).length ≤ i) : ∀ j, ord δ size st (i + j) = ord δ size st i
  | 0 => rfl
  | j + 1 => by
    have ih := ord_stuck h j
    rw [← Nat.add_assoc, ord, ih, List.getElem?_eq_none (by omega)]
/-- where all spots are found no lane leads elsewhere -/
theorem ord_closed {δ : Nat → Nat → Option Nat} {size st k i p s q : Nat} (hk : (ord δ size st k).length = k) (hi : (ord δ size st k)[i]? = some p) (hs : s < size) (e : δ p s = some q) : q ∈ ord δ size st k := by
  have hik : i < k := by
    have := (List.getElem?_eq_some_iff.mp hi).1
    omega
  have hl : i < (ord δ size st i).length := by
    rcases Nat.lt_or_ge i (ord δ size st i).length with h | h
    · exact h
    · have := ord_stuck h (k - i)
      rw [show i + (k - i) = k by omega] at this
      rw [this] at hk
      omega
  obtain ⟨r, hr⟩ := ord_pre δ size st i (k - i)
  rw [show i + (k - i) = k by omega] at hr
  have hi2 : (ord δ size st i)[i]? = some p := by
    rw [hr, List.getElem?_append_left hl] at hi
    exact hi
  have h1 : q ∈ ord δ size st (i + 1) := by
    rw [ord, hi2]
    exact puts_in _ _ _ (.inr (List.mem_map.mpr ⟨s, List.mem_range.mpr hs, e⟩))
  obtain ⟨r2, hr2⟩ := ord_pre δ size st (i + 1) (k - (i + 1))
  rw [show i + 1 + (k - (i + 1)) = k by omega] at hr2
  rw [hr2]
  exact List.mem_append_left _ h1
/-- both find their spots alike -/
inductive Fa2 (R : Nat → Nat → Prop) : List Nat → List Nat → Prop
  | nil : Fa2 R [] []
  | cons {a b : Nat} {as bs : List Nat} : R a b → Fa2 R as bs → Fa2 R (a :: as) (b :: bs)
theorem Fa2.len {R : Nat → Nat → Prop} : ∀ {as bs : List Nat}, Fa2 R as bs → as.length = bs.length
  | _, _, .nil => rfl
  | _, _, .cons _ t => congrArg (· + 1) t.len
theorem Fa2.snoc {R : Nat → Nat → Prop} {a b : Nat} (r : R a b) : ∀ {as bs : List Nat}, Fa2 R as bs → Fa2 R (as ++ [a]) (bs ++ [b])
  | _, _, .nil => .cons r .nil
  | _, _, .cons h t => .cons h (t.snoc r)
theorem Fa2.get {R : Nat → Nat → Prop} : ∀ {as bs : List Nat}, Fa2 R as bs → ∀ (i : Nat), (as[i]? = none ∧ bs[i]? = none) ∨ ∃ a b, as[i]? = some a ∧ bs[i]? = some b ∧ R a b
  | _, _, .nil, i => .inl ⟨rfl, rfl⟩
  | _, _, .cons h t, 0 => .inr ⟨_, _, rfl, rfl, h⟩
  | _, _, .cons h t, i + 1 => t.get i
section
variable {δ δ' : Nat → Nat → Option Nat} (I : Iso δ δ')
include I
theorem Fa2.idx {p q : Nat} (hr : Rel δ δ' p q) : ∀ {as bs : List Nat}, Fa2 (Rel δ δ') as bs → (p ∈ as ↔ q ∈ bs) ∧ as.idxOf p = bs.idxOf q
  | _, _, .nil => ⟨by simp, rfl⟩
  | _, _, .cons (a := a) (b := b) h t => by
    obtain ⟨h1, h2⟩ := Fa2.idx hr t
    by_cases e : a = p
    · subst e
      have := I.left _ _ _ h hr
      subst this
      exact ⟨by simp, by simp [List.idxOf_cons]⟩
    · have e' : b ≠ q := fun z => by subst z; exact e (I.right _ _ _ h hr)
      refine ⟨by simp [h1, Ne.symm e, Ne.symm e'], ?_⟩
      rw [List.idxOf_cons, List.idxOf_cons, h2, beq_false_of_ne e, beq_false_of_ne e']
theorem Iso.put {p q s : Nat} (hr : Rel δ δ' p q) {o o' : List Nat} (h : Fa2 (Rel δ δ') o o') : Fa2 (Rel δ δ') (put o (δ p s)) (put o' (δ' q s)) := by
  rcases I.go p q s hr with ⟨a, b⟩ | ⟨p', q', a, b, r⟩
  · rw [a, b]
    exact h
  · rw [a, b]
    unfold MN.put
    dsimp only
    have := (Fa2.idx I r h).1
    by_cases m : p' ∈ o
    · rw [if_pos m, if_pos (this.mp m)]
      exact h
    · rw [if_neg m, if_neg fun z => m (this.mpr z)]
      exact h.snoc r
theorem Iso.scan {p q size : Nat} (hr : Rel δ δ' p q) {o o' : List Nat} (h : Fa2 (Rel δ δ') o o') : Fa2 (Rel δ δ') (scan δ size p o) (scan δ' size q o') := by
  unfold MN.scan ends
  rw [List.foldl_map, List.foldl_map]
  generalize List.range size = l
  induction l generalizing o o' with
  | nil => exact h
  | cons s l ih =>
    rw [List.foldl_cons, List.foldl_cons]
    exact ih (I.put hr h)
theorem Iso.ord (size : Nat) : ∀ k, Fa2 (Rel δ δ') (ord δ size 0 k) (ord δ' size 0 k)
  | 0 => .cons ⟨[], rfl, rfl⟩ .nil
  | k + 1 => by
    have ih := Iso.ord size k
    rw [MN.ord, MN.ord]
    rcases ih.get k with ⟨a, b⟩ | ⟨x, y, a, b, r⟩
    · rw [a, b]
      exact ih
    · rw [a, b]
      exact I.scan r ih
theorem Iso.rowsOf {size : Nat} {o o' : List Nat} (h : Fa2 (Rel δ δ') o o') : rowsOf δ size o = rowsOf δ' size o' := by
  unfold MN.rowsOf
  have key : ∀ {as bs : List Nat}, Fa2 (Rel δ δ') as bs → as.map (fun p => (ends δ size p).map fun t => t.map fun q => o.idxOf q) = bs.map (fun p => (ends δ' size p).map fun t => t.map fun q => o'.idxOf q) := by
    intro as bs k
    induction k with
    | nil => rfl
    | @cons a b as bs r t ih =>
      rw [List.map_cons, List.map_cons, ih]
      congr 1
      unfold ends
      rw [List.map_map, List.map_map]
      refine List.map_congr_left fun s _ => ?_
      dsimp only [Function.comp]
      rcases I.go a b s r with ⟨x, y⟩ | ⟨p', q', x, y, r'⟩
      · rw [x, y]
        rfl
      · rw [x, y]
        exact congrArg some (Fa2.idx I r' h).2
  exact key h
end
theorem ord_stay {δ : Nat → Nat → Option Nat} {size st k : Nat} (h : (ord δ size st k).length = k) : ∀ j, ord δ size st (k + j) = ord δ size st k
  | 0 => rfl
  | j + 1 => by
    have ih := ord_stay h j
    rw [← Nat.add_assoc, ord, ih, List.getElem?_eq_none (by omega)]
theorem Iso.rows {δ δ' : Nat → Nat → Option Nat} (I : Iso δ δ') {size : Nat} {r r' : List (List (Option Nat))} (h : Rows δ size 0 r) (h' : Rows δ' size 0 r') : r = r' := by
  obtain ⟨k, hk, rfl⟩ := h
  obtain ⟨k', hk', rfl⟩ := h'
  have e : ∀ k, (MN.ord δ size 0 k).length = (MN.ord δ' size 0 k).length := fun k => (I.ord size k).len
  have : k = k' := by
    rcases Nat.lt_trichotomy k k' with z | z | z
    · have := ord_stay hk (k' - k)
      rw [show k + (k' - k) = k' by omega] at this
      have a := e k'
      rw [this, hk, hk'] at a
      exact a
    · exact z
    · have := ord_stay hk' (k - k')
      rw [show k' + (k - k') = k by omega] at this
      have a := e k
      rw [this, hk, hk'] at a
      exact a
  subst this
  exact I.rowsOf (I.ord size k)
/-- groups that are one have one picture -/
theorem Pic.rows {δ δ' : Nat → Nat → Option Nat} {ws ws' : List (List Nat)} (P : Pic δ ws) (P' : Pic δ' ws') (hs : ∀ u, Sub ws u ↔ Sub ws' u) {size : Nat} {r r' : List (List (Option Nat))} (h : Rows δ size 0 r) (h' : Rows δ' size 0 r') : r = r' := (P.iso P' hs).rows h h'
end
end MN

namespace MN
/-! tables that are folded: spots put together, lanes moved -/
/-- what is put together: by what has been merged, and by the pairs that wait -/
inductive E (par : Nat → Nat) (ps : List (Nat × Nat)) : Nat → Nat → Prop
  | refl (p : Nat) : E par ps p p
  | symm {p q : Nat} : E par ps p q → E par ps q p
  | trans {p q r : Nat} : E par ps p q → E par ps q r → E par ps p r
  | par (p : Nat) : E par ps p (par p)
  | pair {a b : Nat} : (a, b) ∈ ps → E par ps a b
theorem E.mono {par par' : Nat → Nat} {ps ps' : List (Nat × Nat)} (h1 : ∀ p, E par' ps' p (par p)) (h2 : ∀ a b, (a, b) ∈ ps → E par' ps' a b) {p q : Nat} (h : E par ps p q) : E par' ps' p q := by
  induction h with
  | refl p => exact .refl p
  | symm _ ih => exact ih.symm
  | trans _ _ i j => exact i.trans j
  | par p => exact h1 p
  | pair h => exact h2 _ _ h
/-- reading, from one spot to another that is put together with it wherever wanted -/
def QRun (δ : Nat → Nat → Option Nat) (R : Nat → Nat → Prop) : Nat → List Nat → Nat → Prop
  | p, [], q => R p q
  | p, s :: w, q => ∃ p' r, R p p' ∧ δ p' s = some r ∧ QRun δ R r w q
section
variable {δ δ' : Nat → Nat → Option Nat} {R R' : Nat → Nat → Prop}
theorem QRun.of_run (h0 : ∀ p, R p p) : ∀ {w : List Nat} {p q : Nat}, run δ p w = some q → QRun δ R p w q
  | [], p, q, h => by
    have : p = q := Option.some.inj h
    rw [this]
    exact h0 q
  | s :: w, p, q, h => by
    obtain ⟨r, h1, h2⟩ := run_cons.mp h
    exact ⟨p, r, h0 p, h1, QRun.of_run h0 h2⟩
theorem QRun.tail (ht : ∀ p q r, R p q → R q r → R p r) : ∀ {w : List Nat} {p q q' : Nat}, QRun δ R p w q → R q q' → QRun δ R p w q'
  | [], _, _, _, h, k => ht _ _ _ h k
  | s :: w, _, _, _, ⟨p', r, a, b, c⟩, k => ⟨p', r, a, b, QRun.tail ht c k⟩
theorem QRun.head (ht : ∀ p q r, R p q → R q r → R p r) : ∀ {w : List Nat} {p p0 q : Nat}, R p0 p → QRun δ R p w q → QRun δ R p0 w q
  | [], _, _, _, k, h => ht _ _ _ k h
  | s :: w, _, _, _, k, ⟨p', r, a, b, c⟩ => ⟨p', r, ht _ _ _ k a, b, c⟩
theorem QRun.app (ht : ∀ p q r, R p q → R q r → R p r) : ∀ {u v : List Nat} {p q r : Nat}, QRun δ R p u q → QRun δ R q v r → QRun δ R p (u ++ v) r
  | [], _, _, _, _, h, k => QRun.head ht h k
  | s :: u, _, _, _, _, ⟨p', r, a, b, c⟩, k => ⟨p', r, a, b, QRun.app ht c k⟩
/-- what is put together more reads as much -/
theorem QRun.mono (hr : ∀ p q, R p q → R' p q) (ht : ∀ p q r, R' p q → R' q r → R' p r) (hl : ∀ p s q, δ p s = some q → ∃ p' q', R' p p' ∧ δ' p' s = some q' ∧ R' q' q) : ∀ {w : List Nat} {p q : Nat}, QRun δ R p w q → QRun δ' R' p w q
  | [], _, _, h => hr _ _ h
  | s :: w, _, _, ⟨p', r, a, b, c⟩ => by
    obtain ⟨p2, q2, h1, h2, h3⟩ := hl _ _ _ b
    exact ⟨p2, q2, ht _ _ _ (hr _ _ a) h1, h2, QRun.head ht h3 (QRun.mono hr ht hl c)⟩
end
def set2 (δ : Nat → Nat → Option Nat) (p s : Nat) (v : Option Nat) : Nat → Nat → Option Nat := fun a b => if a = p ∧ b = s then v else δ a b
theorem set2_eq {δ : Nat → Nat → Option Nat} {p s : Nat} {v : Option Nat} : set2 δ p s v p s = v := if_pos ⟨rfl, rfl⟩
theorem set2_ne {δ : Nat → Nat → Option Nat} {p s a b : Nat} {v : Option Nat} (h : ¬ (a = p ∧ b = s)) : set2 δ p s v a b = δ a b := if_neg h
def rm (δ : Nat → Nat → Option Nat) (p s t : Nat) := set2 (set2 δ p s none) t (inv s) none
def lay (δ : Nat → Nat → Option Nat) (p s q : Nat) := set2 (set2 δ p s (some q)) q (inv s) (some p)
section
variable {δ : Nat → Nat → Option Nat} {p s t : Nat}
theorem inv_inj {a b : Nat} (h : inv a = inv b) : a = b := by rw [← inv_inv a, h, inv_inv]
theorem rm_some {a b c : Nat} (h : rm δ p s t a b = some c) : δ a b = some c ∧ ¬ (a = p ∧ b = s) ∧ ¬ (a = t ∧ b = inv s) := by
  unfold rm set2 at h
  split at h
  · cases h
  · split at h
    · cases h
    · exact ⟨h, ‹_›, ‹_›⟩
theorem rm_of {a b c : Nat} (h : δ a b = some c) (h1 : ¬ (a = p ∧ b = s)) (h2 : ¬ (a = t ∧ b = inv s)) : rm δ p s t a b = some c := by
  unfold rm
  rw [set2_ne h2, set2_ne h1]
  exact h
theorem rm_inv (hI : Inv δ) (h : δ p s = some t) : Inv (rm δ p s t) := fun a b c e0 => by
  obtain ⟨e, n1, n2⟩ := rm_some e0
  clear e0
  refine rm_of (hI _ _ _ e) (fun ⟨x, y⟩ => n2 ?_) (fun ⟨x, y⟩ => n1 ?_)
  · subst x
    rw [← y, inv_inv]
    refine ⟨?_, rfl⟩
    have := hI _ _ _ e
    rw [y, h] at this
    exact (Option.some.inj this).symm
  · subst x
    have yb := inv_inj y
    subst yb
    refine ⟨?_, rfl⟩
    have := hI _ _ _ e
    rw [hI _ _ _ h] at this
    exact (Option.some.inj this).symm
theorem lay_some {q a b c : Nat} (h : lay δ p s q a b = some c) : (a = p ∧ b = s ∧ c = q) ∨ (a = q ∧ b = inv s ∧ c = p) ∨ δ a b = some c := by
  unfold lay set2 at h
  split at h
  · rename_i z
    exact .inr (.inl ⟨z.1, z.2, (Option.some.inj h).symm⟩)
  · split at h
    · rename_i z
      exact .inl ⟨z.1, z.2, (Option.some.inj h).symm⟩
    · exact .inr (.inr h)
theorem inv_ne' (s : Nat) : s ≠ inv s := fun h => inv_ne s h.symm
theorem lay_eq {q : Nat} : lay δ p s q p s = some q := by
  unfold lay
  rw [set2_ne (fun z => inv_ne' s z.2), set2_eq]
theorem lay_eq' {q : Nat} : lay δ p s q q (inv s) = some p := set2_eq
theorem lay_of {q a b c : Nat} (h1 : δ p s = none) (h2 : δ q (inv s) = none) (h : δ a b = some c) : lay δ p s q a b = some c := by
  unfold lay
  rw [set2_ne, set2_ne]
  · exact h
  · rintro ⟨rfl, rfl⟩
    rw [h1] at h
    cases h
  · rintro ⟨rfl, rfl⟩
    rw [h2] at h
    cases h
theorem lay_inv {q : Nat} (hI : Inv δ) (h1 : δ p s = none) (h2 : δ q (inv s) = none) : Inv (lay δ p s q) := fun a b c e => by
  rcases lay_some e with ⟨rfl, rfl, rfl⟩ | ⟨rfl, rfl, rfl⟩ | e
  · exact lay_eq'
  · rw [inv_inv]
    exact lay_eq
  · exact lay_of h1 h2 (hI _ _ _ e)
end
/-- a table that is being folded -/
structure Wu (size n : Nat) (δ : Nat → Nat → Option Nat) (par : Nat → Nat) (ps : List (Nat × Nat)) (l : Nat → List Nat) (ws dn : List (List Nat)) : Prop where
  inv : Inv δ
  dom : ∀ p s q, δ p s = some q → p < n ∧ s < size ∧ q < n
  ple : ∀ p, par p ≤ p
  pss : ∀ a b, (a, b) ∈ ps → a < n ∧ b < n
  l0 : l 0 = []
  lab : ∀ p s q, δ p s = some q → Cos ws (l p ++ [s]) (l q)
  lpar : ∀ p, Cos ws (l p) (l (par p))
  lps : ∀ a b, (a, b) ∈ ps → Cos ws (l a) (l b)
  full : ∀ w ∈ dn, QRun δ (E par ps) 0 w 0
  cov : ∀ p s q, δ p s = some q → ∃ x y, Plain (x ++ s :: y) ∧ QRun δ (E par ps) 0 x p ∧ QRun δ (E par ps) q y 0
/-- a spot that stands for itself -/
def Alive (par : Nat → Nat) (p : Nat) : Prop := par p = p
section
variable {size n : Nat} {δ : Nat → Nat → Option Nat} {par : Nat → Nat} {ps : List (Nat × Nat)} {l : Nat → List Nat} {ws dn : List (List Nat)}
theorem ee (p q r : Nat) : E par ps p q → E par ps q r → E par ps p r := E.trans
theorem Wu.change {δ' : Nat → Nat → Option Nat} {par' : Nat → Nat} {ps' : List (Nat × Nat)} (W : Wu size n δ par ps l ws dn)
    (hinv : Inv δ') (hdom : ∀ p s q, δ' p s = some q → p < n ∧ s < size ∧ q < n) (hple : ∀ p, par' p ≤ p) (hpss : ∀ a b, (a, b) ∈ ps' → a < n ∧ b < n)
    (hlpar : ∀ p, Cos ws (l p) (l (par' p))) (hlps : ∀ a b, (a, b) ∈ ps' → Cos ws (l a) (l b))
    (hr : ∀ p q, E par ps p q → E par' ps' p q) (hl : ∀ p s q, δ p s = some q → ∃ p' q', E par' ps' p p' ∧ δ' p' s = some q' ∧ E par' ps' q' q)
    (hn : ∀ p s q, δ' p s = some q → ∃ p' q', E par' ps' p' p ∧ δ p' s = some q' ∧ E par' ps' q q' ∧ Cos ws (l p) (l p') ∧ Cos ws (l q') (l q)) : Wu size n δ' par' ps' l ws dn where
  inv := hinv
  dom := hdom
  ple := hple
  pss := hpss
  l0 := W.l0
  lab := fun p s q e => by
    obtain ⟨p', q', _, h, _, a, b⟩ := hn p s q e
    exact ((a.app [s]).trans (W.lab _ _ _ h)).trans b
  lpar := hlpar
  lps := hlps
  full := fun w hw => QRun.mono hr ee hl (W.full w hw)
  cov := fun p s q e => by
    obtain ⟨p', q', a, h, b, _, _⟩ := hn p s q e
    obtain ⟨x, y, hp, hx, hy⟩ := W.cov _ _ _ h
    exact ⟨x, y, hp, QRun.tail ee (QRun.mono hr ee hl hx) a, QRun.head ee b (QRun.mono hr ee hl hy)⟩
theorem E.half {par : Nat → Nat} {ps : List (Nat × Nat)} (p : Nat) {a b : Nat} (h : E par ps a b) : E (fun a => if a = p then par (par p) else par a) ps a b := by
  have one : ∀ a, a ≠ p → E (fun a => if a = p then par (par p) else par a) ps a (par a) := fun a h => by
    have := E.par (par := fun a => if a = p then par (par p) else par a) (ps := ps) a
    simp only [if_neg h] at this
    exact this
  have two : E (fun a => if a = p then par (par p) else par a) ps p (par (par p)) := by
    have := E.par (par := fun a => if a = p then par (par p) else par a) (ps := ps) p
    simp only [if_pos] at this
    exact this
  refine h.mono (fun a => ?_) fun a b h => .pair h
  by_cases e : a = p
  · subst e
    by_cases e2 : par a = a
    · rw [e2]
      exact .refl a
    · exact two.trans (one _ e2).symm
  · exact one a e
theorem half_alive {par : Nat → Nat} (h : ∀ p, par p ≤ p) (p a : Nat) : (if a = p then par (par p) else par a) = a ↔ par a = a := by
  split
  · rename_i e
    subst e
    constructor
    · intro z
      have := h (par a)
      have := h a
      omega
    · intro z
      rw [z, z]
  · exact Iff.rfl
/-- the way to the spot that stands for one is made shorter -/
theorem Wu.half (W : Wu size n δ par ps l ws dn) (p : Nat) : Wu size n δ (fun a => if a = p then par (par p) else par a) ps l ws dn := by
  have hE : ∀ a b, E par ps a b → E (fun a => if a = p then par (par p) else par a) ps a b := by
    have one : ∀ a, a ≠ p → E (fun a => if a = p then par (par p) else par a) ps a (par a) := fun a h => by
      have := E.par (par := fun a => if a = p then par (par p) else par a) (ps := ps) a
      simp only [if_neg h] at this
      exact this
    have two : E (fun a => if a = p then par (par p) else par a) ps p (par (par p)) := by
      have := E.par (par := fun a => if a = p then par (par p) else par a) (ps := ps) p
      simp only [if_pos] at this
      exact this
    refine fun a b h => h.mono (fun a => ?_) fun a b h => .pair h
    by_cases e : a = p
    · subst e
      by_cases e2 : par a = a
      · rw [e2]
        exact .refl a
      · exact two.trans (one _ e2).symm
    · exact one a e
  refine W.change W.inv W.dom (fun a => ?_) W.pss (fun a => ?_) W.lps hE (fun a s b h => ⟨a, b, .refl a, h, .refl b⟩) (fun a s b h => ⟨a, b, .refl a, h, .refl b, Cos.refl _, Cos.refl _⟩)
  · split
    · rename_i e
      rw [e]
      exact Nat.le_trans (W.ple _) (W.ple _)
    · exact W.ple a
  · split
    · rename_i e
      rw [e]
      exact (W.lpar p).trans (W.lpar _)
    · exact W.lpar a
/-- a pair that is together already may go -/
theorem Wu.drop {a b : Nat} (W : Wu size n δ par (ps ++ [(a, b)]) l ws dn) (h : E par ps a b) : Wu size n δ par ps l ws dn := by
  refine W.change W.inv W.dom W.ple (fun a b h => W.pss a b (List.mem_append_left _ h)) W.lpar (fun a b h => W.lps a b (List.mem_append_left _ h)) (fun p q k => k.mono (fun p => .par p) fun x y z => ?_) (fun a s b h => ⟨a, b, .refl a, h, .refl b⟩) (fun a s b h => ⟨a, b, .refl a, h, .refl b, Cos.refl _, Cos.refl _⟩)
  rcases List.mem_append.mp z with z | z
  · exact .pair z
  · cases List.mem_singleton.mp z
    exact h
/-- the spots that stand for the two of a pair are put together -/
theorem Wu.join {a b kept gone : Nat} (W : Wu size n δ par (ps ++ [(a, b)]) l ws dn) (hk : kept < gone) (hg : Alive par gone) (h1 : (E par ps a kept ∧ E par ps b gone) ∨ (E par ps a gone ∧ E par ps b kept)) (hc : Cos ws (l gone) (l kept)) :
    Wu size n δ (fun x => if x = gone then kept else par x) ps l ws dn := by
  have hE : ∀ p q, E par ps p q → E (fun x => if x = gone then kept else par x) ps p q := by
    refine fun p q h => h.mono (fun p => ?_) fun a b h => .pair h
    by_cases e : p = gone
    · rw [e, hg]
      exact .refl _
    · have := E.par (par := fun x => if x = gone then kept else par x) (ps := ps) p
      simp only [if_neg e] at this
      exact this
  have hkg : E (fun x => if x = gone then kept else par x) ps gone kept := by
    have := E.par (par := fun x => if x = gone then kept else par x) (ps := ps) gone
    simp only [if_pos] at this
    exact this
  refine W.change W.inv W.dom (fun a => ?_) (fun a b h => W.pss a b (List.mem_append_left _ h)) (fun a => ?_) (fun a b h => W.lps a b (List.mem_append_left _ h)) (fun p q k => k.mono (fun p => hE _ _ (.par p)) fun x y z => ?_) (fun a s b h => ⟨a, b, .refl a, h, .refl b⟩) (fun a s b h => ⟨a, b, .refl a, h, .refl b, Cos.refl _, Cos.refl _⟩)
  · split
    · omega
    · exact W.ple a
  · split
    · rename_i e
      rw [e]
      exact hc
    · exact W.lpar a
  · rcases List.mem_append.mp z with z | z
    · exact .pair z
    · cases List.mem_singleton.mp z
      rcases h1 with ⟨u, v⟩ | ⟨u, v⟩
      · exact ((hE _ _ u).trans hkg.symm).trans (hE _ _ v).symm
      · exact ((hE _ _ u).trans hkg).trans (hE _ _ v).symm
/-- where a lane that led from the spot that goes leads now -/
def to (kept gone t : Nat) : Nat := if t = gone then kept else t
def linkT (δ : Nat → Nat → Option Nat) (p s q : Nat) : (Nat → Nat → Option Nat) × List (Nat × Nat) :=
  match δ p s with
  | some u => (δ, [(u, q)])
  | none => match δ q (inv s) with
    | some v => (δ, [(v, p)])
    | none => (lay δ p s q, [])
theorem Wu.link {kept gone s t : Nat} (W : Wu size n δ par ps l ws dn) (hkn : kept < n) (hE : E par ps gone kept) (hc : Cos ws (l gone) (l kept)) (h : δ gone s = some t) :
    Wu size n (linkT (rm δ gone s t) kept s (to kept gone t)).1 par (ps ++ (linkT (rm δ gone s t) kept s (to kept gone t)).2) l ws dn := by
  have hto : E par ps (to kept gone t) t := by
    unfold to
    split
    · rename_i e
      rw [e]
      exact hE.symm
    · exact .refl t
  have hct : Cos ws (l t) (l (to kept gone t)) := by
    unfold to
    split
    · rename_i e
      rw [e]
      exact hc
    · exact Cos.refl _
  obtain ⟨d1, d2, d3⟩ := W.dom _ _ _ h
  have hton : to kept gone t < n := by
    unfold to
    split
    · exact hkn
    · exact d3
  have hIr := rm_inv W.inv h
  have hl0 : Cos ws (l kept ++ [s]) (l (to kept gone t)) := ((hc.symm.app [s]).trans (W.lab _ _ _ h)).trans hct
  have up : ∀ {ps' : List (Nat × Nat)} {p q : Nat}, E par ps p q → E par (ps ++ ps') p q := fun k => k.mono (fun p => .par p) fun a b z => .pair (List.mem_append_left _ z)
  generalize to kept gone t = o at hto hct hton hl0 ⊢
  unfold linkT
  split
  · rename_i u hu
    obtain ⟨hu', n1, n2⟩ := rm_some hu
    have huo : E par (ps ++ [(u, o)]) u o := .pair (List.mem_append_right _ (List.mem_singleton.mpr rfl))
    have cu : Cos ws (l u) (l o) := (W.lab _ _ _ hu').symm.trans hl0
    refine W.change hIr (fun p s q e => W.dom _ _ _ (rm_some e).1) W.ple (fun a b z => ?_) W.lpar (fun a b z => ?_) (fun p q k => up k) (fun p s' q e => ?_) (fun p s' q e => ⟨p, q, .refl p, (rm_some e).1, .refl q, Cos.refl _, Cos.refl _⟩)
    · rcases List.mem_append.mp z with z | z
      · exact W.pss a b z
      · cases List.mem_singleton.mp z
        exact ⟨(W.dom _ _ _ hu').2.2, hton⟩
    · rcases List.mem_append.mp z with z | z
      · exact W.lps a b z
      · cases List.mem_singleton.mp z
        exact cu
    · by_cases c1 : p = gone ∧ s' = s
      · obtain ⟨rfl, rfl⟩ := c1
        rw [h] at e
        cases e
        exact ⟨kept, u, up hE, hu, huo.trans (up hto)⟩
      · by_cases c2 : p = t ∧ s' = MN.inv s
        · obtain ⟨rfl, rfl⟩ := c2
          rw [W.inv _ _ _ h] at e
          cases e
          exact ⟨u, kept, (up hto).symm.trans huo.symm, hIr _ _ _ hu, up hE.symm⟩
        · exact ⟨p, q, .refl p, rm_of e c1 c2, .refl q⟩
  · rename_i hk
    split
    · rename_i v hv
      obtain ⟨hv', n1, n2⟩ := rm_some hv
      have hvk : E par (ps ++ [(v, kept)]) v kept := .pair (List.mem_append_right _ (List.mem_singleton.mpr rfl))
      have cv : Cos ws (l v) (l kept) := by
        have a := (W.lab _ _ _ (W.inv _ _ _ hv'))
        rw [inv_inv] at a
        have b := (a.trans hl0.symm).app [MN.inv s]
        rw [List.append_assoc, List.append_assoc] at b
        have r : ∀ x, red (l x ++ ([s] ++ [MN.inv s])) = red (l x) := fun x => by
          have := red_pair (l x) [] s
          simpa using this
        exact ((Cos.of_red (r v)).symm.trans b).trans (Cos.of_red (r kept))
      refine W.change hIr (fun p s q e => W.dom _ _ _ (rm_some e).1) W.ple (fun a b z => ?_) W.lpar (fun a b z => ?_) (fun p q k => up k) (fun p s' q e => ?_) (fun p s' q e => ⟨p, q, .refl p, (rm_some e).1, .refl q, Cos.refl _, Cos.refl _⟩)
      · rcases List.mem_append.mp z with z | z
        · exact W.pss a b z
        · cases List.mem_singleton.mp z
          exact ⟨(W.dom _ _ _ hv').2.2, hkn⟩
      · rcases List.mem_append.mp z with z | z
        · exact W.lps a b z
        · cases List.mem_singleton.mp z
          exact cv
      · by_cases c1 : p = gone ∧ s' = s
        · obtain ⟨rfl, rfl⟩ := c1
          rw [h] at e
          cases e
          have := hIr _ _ _ hv
          rw [inv_inv] at this
          exact ⟨v, o, (up hE).trans hvk.symm, this, up hto⟩
        · by_cases c2 : p = t ∧ s' = MN.inv s
          · obtain ⟨rfl, rfl⟩ := c2
            rw [W.inv _ _ _ h] at e
            cases e
            exact ⟨o, v, (up hto).symm, hv, hvk.trans (up hE).symm⟩
          · exact ⟨p, q, .refl p, rm_of e c1 c2, .refl q⟩
    · rename_i hv
      rw [List.append_nil]
      refine W.change (lay_inv hIr hk hv) (fun p s' q e => ?_) W.ple W.pss W.lpar W.lps (fun p q k => k) (fun p s' q e => ?_) (fun p s' q e => ?_)
      · rcases lay_some e with ⟨rfl, rfl, rfl⟩ | ⟨rfl, rfl, rfl⟩ | e
        · exact ⟨hkn, d2, hton⟩
        · exact ⟨hton, (W.dom _ _ _ (W.inv _ _ _ h)).2.1, hkn⟩
        · exact W.dom _ _ _ (rm_some e).1
      · by_cases c1 : p = gone ∧ s' = s
        · obtain ⟨rfl, rfl⟩ := c1
          rw [h] at e
          cases e
          exact ⟨kept, o, hE, lay_eq, hto⟩
        · by_cases c2 : p = t ∧ s' = MN.inv s
          · obtain ⟨rfl, rfl⟩ := c2
            rw [W.inv _ _ _ h] at e
            cases e
            exact ⟨o, kept, hto.symm, lay_eq', hE.symm⟩
          · exact ⟨p, q, .refl p, lay_of hk hv (rm_of e c1 c2), .refl q⟩
      · rcases lay_some e with ⟨rfl, rfl, rfl⟩ | ⟨rfl, rfl, rfl⟩ | e
        · exact ⟨gone, t, hE, h, hto, hc.symm, hct⟩
        · exact ⟨t, gone, hto.symm, W.inv _ _ _ h, hE.symm, hct.symm, hc⟩
        · exact ⟨p, q, .refl p, (rm_some e).1, .refl q, Cos.refl _, Cos.refl _⟩
/-! the spot that stands for one -/
def rootF (par : Nat → Nat) : Nat → Nat → Nat
  | 0, p => p
  | f + 1, p => if par p = p then p else rootF par f (par p)
def root (par : Nat → Nat) (p : Nat) : Nat := rootF par p p
theorem rootF_enough {par : Nat → Nat} (h : ∀ p, par p ≤ p) : ∀ (f g p : Nat), p ≤ f → p ≤ g → rootF par f p = rootF par g p
  | 0, 0, p, _, _ => rfl
  | 0, g + 1, p, a, _ => by
    have : p = 0 := by omega
    subst this
    have : par 0 = 0 := Nat.le_zero.mp (h 0)
    rw [rootF, rootF, if_pos this]
  | f + 1, 0, p, _, b => by
    have : p = 0 := by omega
    subst this
    have : par 0 = 0 := Nat.le_zero.mp (h 0)
    rw [rootF, rootF, if_pos this]
  | f + 1, g + 1, p, a, b => by
    rw [rootF, rootF]
    split
    · rfl
    · rename_i n
      have := h p
      exact rootF_enough h f g (par p) (by omega) (by omega)
theorem root_par {par : Nat → Nat} (h : ∀ p, par p ≤ p) (p : Nat) : root par (par p) = root par p := by
  by_cases e : par p = p
  · rw [e]
  · have := h p
    unfold root
    cases p with
    | zero => omega
    | succ k =>
      rw [rootF, if_neg e]
      exact rootF_enough h _ _ _ (Nat.le_refl _) (by omega)
theorem root_alive {par : Nat → Nat} {p : Nat} (h : Alive par p) : root par p = p := by
  unfold root
  cases p with
  | zero => rfl
  | succ k => rw [rootF, if_pos (show par (k + 1) = k + 1 from h)]
theorem E.root {par : Nat → Nat} (h : ∀ p, par p ≤ p) {p q : Nat} (e : E par [] p q) : MN.root par p = MN.root par q := by
  induction e with
  | refl => rfl
  | symm _ ih => exact ih.symm
  | trans _ _ i j => exact i.trans j
  | par p => exact (root_par h p).symm
  | pair z => cases z
theorem E.same {par : Nat → Nat} (h : ∀ p, par p ≤ p) {p q : Nat} (e : E par [] p q) (a : Alive par p) (b : Alive par q) : p = q := by
  have := E.root h e
  rwa [root_alive a, root_alive b] at this
/-- only spots that stand for themselves have lanes -/
def Dead (δ : Nat → Nat → Option Nat) (par : Nat → Nat) : Prop := ∀ p s q, δ p s = some q → Alive par p
theorem QRun.run {δ : Nat → Nat → Option Nat} {par : Nat → Nat} (hI : Inv δ) (h : ∀ p, par p ≤ p) (hd : Dead δ par) : ∀ {w : List Nat} {p q : Nat}, Alive par p → Alive par q → QRun δ (E par []) p w q → MN.run δ p w = some q
  | [], p, q, a, b, e => by rw [E.same h e a b]; rfl
  | s :: w, p, q, a, b, ⟨p', r, e1, e2, e3⟩ => by
    have := E.same h e1 a (hd _ _ _ e2)
    subst this
    exact run_cons.mpr ⟨r, e2, QRun.run hI h hd (hd _ _ _ (hI _ _ _ e2)) b e3⟩
theorem QRun.opp {δ : Nat → Nat → Option Nat} {R : Nat → Nat → Prop} (hI : Inv δ) (hs : ∀ p q, R p q → R q p) (h0 : ∀ p, R p p) (ht : ∀ p q r, R p q → R q r → R p r) : ∀ {w : List Nat} {p q : Nat}, QRun δ R p w q → QRun δ R q (MN.opp w) p
  | [], p, q, e => hs _ _ e
  | s :: w, p, q, ⟨p', r, e1, e2, e3⟩ => by
    rw [opp_cons]
    exact QRun.app ht (QRun.opp hI hs h0 ht e3) ⟨r, p', h0 r, hI _ _ _ e2, hs _ _ e1⟩
/-- a table at rest -/
structure Wq (size n : Nat) (δ : Nat → Nat → Option Nat) (par : Nat → Nat) (l : Nat → List Nat) (ws dn : List (List Nat)) : Prop where
  inv : Inv δ
  dom : ∀ p s q, δ p s = some q → p < n ∧ s < size ∧ q < n
  ple : ∀ p, par p ≤ p
  dead : Dead δ par
  l0 : l 0 = []
  lab : ∀ p s q, δ p s = some q → Cos ws (l p ++ [s]) (l q)
  lpar : ∀ p, Cos ws (l p) (l (par p))
  loop : ∀ w ∈ dn, run δ 0 w = some 0
  cov : ∀ p s q, δ p s = some q → ∃ x y, Plain (x ++ s :: y) ∧ run δ 0 x = some p ∧ run δ q y = some 0
theorem alive0 {par : Nat → Nat} (h : ∀ p, par p ≤ p) : Alive par 0 := Nat.le_zero.mp (h 0)
theorem Wu.rest (W : Wu size n δ par [] l ws dn) (hd : Dead δ par) : Wq size n δ par l ws dn where
  inv := W.inv
  dom := W.dom
  ple := W.ple
  dead := hd
  l0 := W.l0
  lab := W.lab
  lpar := W.lpar
  loop := fun w hw => QRun.run W.inv W.ple hd (alive0 W.ple) (alive0 W.ple) (W.full w hw)
  cov := fun p s q e => by
    obtain ⟨x, y, a, b, c⟩ := W.cov p s q e
    exact ⟨x, y, a, QRun.run W.inv W.ple hd (alive0 W.ple) (hd _ _ _ e) b, QRun.run W.inv W.ple hd (hd _ _ _ (W.inv _ _ _ e)) (alive0 W.ple) c⟩
theorem Wq.pic (W : Wq size n δ par l ws ws) : Pic δ ws := ⟨W.inv, W.loop, ⟨l, W.l0, W.lab⟩, W.cov⟩
theorem Wq.weak {ws' : List (List Nat)} (W : Wq size n δ par l ws dn) (h : ∀ w ∈ ws, w ∈ ws') : Wq size n δ par l ws' dn :=
  { W with lab := fun p s q e => Sub.mono (W.lab p s q e) fun w hw => Sub.gen (h w hw), lpar := fun p => Sub.mono (W.lpar p) fun w hw => Sub.gen (h w hw) }
theorem run_cos {δ : Nat → Nat → Option Nat} {l : Nat → List Nat} {ws : List (List Nat)} (h : ∀ p s q, δ p s = some q → Cos ws (l p ++ [s]) (l q)) : ∀ {w : List Nat} {p q : Nat}, run δ p w = some q → Cos ws (l p ++ w) (l q)
  | [], p, q, e => by
    cases e
    rw [List.append_nil]
    exact Cos.refl _
  | s :: w, p, q, e => by
    obtain ⟨r, h1, h2⟩ := run_cons.mp e
    have a := (h _ _ _ h1).app w
    rw [List.append_assoc] at a
    exact a.trans (run_cos h h2)
/-- a lane of the way that is being put in -/
def Seg (δ : Nat → Nat → Option Nat) (w : List Nat) (lo hi p s q : Nat) : Prop :=
  (∃ i, i < lo ∧ w[i]? = some s ∧ run δ 0 (w.take i) = some p) ∨ (∃ i, i < lo ∧ w[i]? = some (MN.inv s) ∧ run δ 0 (w.take i) = some q) ∨
  (∃ i, hi ≤ i ∧ w[i]? = some s ∧ run δ q (w.drop (i + 1)) = some 0) ∨ (∃ i, hi ≤ i ∧ w[i]? = some (MN.inv s) ∧ run δ p (w.drop (i + 1)) = some 0)
/-- a way that is being put in: its first signs and its last ones can be read -/
structure Wp (size n : Nat) (δ : Nat → Nat → Option Nat) (par : Nat → Nat) (l : Nat → List Nat) (ws dn : List (List Nat)) (w : List Nat) (head tail lo hi : Nat) : Prop where
  inv : Inv δ
  dom : ∀ p s q, δ p s = some q → p < n ∧ s < size ∧ q < n
  ple : ∀ p, par p ≤ p
  pn : ∀ p, n ≤ p → par p = p
  n0 : 0 < n
  dead : Dead δ par
  l0 : l 0 = []
  lab : ∀ p s q, δ p s = some q → Cos ws (l p ++ [s]) (l q)
  lpar : ∀ p, Cos ws (l p) (l (par p))
  loop : ∀ w ∈ dn, run δ 0 w = some 0
  hd : run δ 0 (w.take lo) = some head
  tl : run δ tail (w.drop hi) = some 0
  lohi : lo ≤ hi
  hil : hi ≤ w.length
  cov : ∀ p s q, δ p s = some q → (∃ x y, Plain (x ++ s :: y) ∧ run δ 0 x = some p ∧ run δ q y = some 0) ∨ Seg δ w lo hi p s q
theorem take_get {w : List Nat} {i s : Nat} (h : w[i]? = some s) : w.take (i + 1) = w.take i ++ [s] := by
  rw [List.take_add_one, h]
  rfl
theorem drop_get {w : List Nat} {i s : Nat} (h : w[i]? = some s) : w.drop i = s :: w.drop (i + 1) := by
  obtain ⟨hi, e⟩ := List.getElem?_eq_some_iff.mp h
  rw [List.drop_eq_getElem_cons hi, e]
theorem Wq.start (W : Wq size n δ par l ws dn) (pn : ∀ p, n ≤ p → par p = p) (n0 : 0 < n) {w : List Nat} {head tail lo hi : Nat} (h1 : run δ 0 (w.take lo) = some head) (h2 : run δ tail (w.drop hi) = some 0) (h3 : lo ≤ hi) (h4 : hi ≤ w.length) : Wp size n δ par l ws dn w head tail lo hi :=
  ⟨W.inv, W.dom, W.ple, pn, n0, W.dead, W.l0, W.lab, W.lpar, W.loop, h1, h2, h3, h4, fun p s q e => .inl (W.cov p s q e)⟩
theorem run_mono {δ δ' : Nat → Nat → Option Nat} (h : ∀ p s q, δ p s = some q → δ' p s = some q) : ∀ {w : List Nat} {p q : Nat}, run δ p w = some q → run δ' p w = some q
  | [], _, _, e => e
  | s :: w, p, q, e => by
    obtain ⟨r, h1, h2⟩ := run_cons.mp e
    exact run_cons.mpr ⟨r, h _ _ _ h1, run_mono h h2⟩
theorem Seg.mono {δ δ' : Nat → Nat → Option Nat} (h : ∀ p s q, δ p s = some q → δ' p s = some q) {w : List Nat} {lo hi lo' hi' p s q : Nat} (h1 : lo ≤ lo') (h2 : hi' ≤ hi) (k : Seg δ w lo hi p s q) : Seg δ' w lo' hi' p s q := by
  rcases k with ⟨i, a, b, c⟩ | ⟨i, a, b, c⟩ | ⟨i, a, b, c⟩ | ⟨i, a, b, c⟩
  · exact .inl ⟨i, by omega, b, run_mono h c⟩
  · exact .inr (.inl ⟨i, by omega, b, run_mono h c⟩)
  · exact .inr (.inr (.inl ⟨i, by omega, b, run_mono h c⟩))
  · exact .inr (.inr (.inr ⟨i, by omega, b, run_mono h c⟩))
def lup (l : Nat → List Nat) (n : Nat) (v : List Nat) : Nat → List Nat := fun p => if p = n then v else l p
theorem lup_eq {l : Nat → List Nat} {n : Nat} {v : List Nat} : lup l n v n = v := if_pos rfl
theorem lup_ne {l : Nat → List Nat} {n p : Nat} {v : List Nat} (h : p ≠ n) : lup l n v p = l p := if_neg h
/-- a new spot behind the head -/
theorem Wp.step {w : List Nat} {head tail lo hi s : Nat} (W : Wp size n δ par l ws dn w head tail lo hi) (hs : w[lo]? = some s) (hsz : s < size) (hin : MN.inv s < size) (hlh : lo < hi) (hf : δ head s = none) (hdn : head < n) (hda : Alive par head) :
    Wp size (n + 1) (lay δ head s n) par (lup l n (l head ++ [s])) ws dn w n tail (lo + 1) hi := by
  have hnn : ∀ s q, δ n s ≠ some q := fun s q e => absurd (W.dom _ _ _ e).1 (Nat.lt_irrefl _)
  have hnf : δ n (MN.inv s) = none := by
    cases e : δ n (MN.inv s) with
    | none => rfl
    | some q => exact absurd e (hnn _ _)
  have up : ∀ p s' q, δ p s' = some q → lay δ head s n p s' = some q := fun p s' q e => lay_of hf hnf e
  have ll : ∀ p, p < n → lup l n (l head ++ [s]) p = l p := fun p h => lup_ne (by omega)
  have an : Alive par n := W.pn n (Nat.le_refl _)
  refine ⟨lay_inv W.inv hf hnf, fun p s' q e => ?_, W.ple, fun p h => W.pn p (by omega), by omega, fun p s' q e => ?_, ?_, fun p s' q e => ?_, fun p => ?_, fun w hw => run_mono up (W.loop w hw), ?_, run_mono up W.tl, by omega, W.hil, fun p s' q e => ?_⟩
  · rcases lay_some e with ⟨rfl, rfl, rfl⟩ | ⟨rfl, rfl, rfl⟩ | e
    · exact ⟨by omega, hsz, by omega⟩
    · exact ⟨by omega, hin, by omega⟩
    · obtain ⟨a, b, c⟩ := W.dom _ _ _ e
      exact ⟨by omega, b, by omega⟩
  · rcases lay_some e with ⟨rfl, rfl, rfl⟩ | ⟨rfl, rfl, rfl⟩ | e
    · exact hda
    · exact an
    · exact W.dead _ _ _ e
  · rw [ll 0 W.n0]
    exact W.l0
  · rcases lay_some e with ⟨rfl, rfl, rfl⟩ | ⟨rfl, rfl, rfl⟩ | e
    · rw [lup_eq, ll _ hdn]
      exact Cos.refl _
    · rw [lup_eq, ll _ hdn]
      refine Cos.of_red ?_
      have := red_pair (l q) [] s
      simpa using this
    · obtain ⟨a, b, c⟩ := W.dom _ _ _ e
      rw [ll _ a, ll _ c]
      exact W.lab _ _ _ e
  · by_cases e : p = n
    · rw [e, an]
      exact Cos.refl _
    · have hpar : par p ≠ n := by
        rcases Nat.lt_or_ge p n with z | z
        · have := W.ple p
          omega
        · rw [W.pn p z]
          exact e
      rw [lup_ne e, lup_ne hpar]
      exact W.lpar p
  · rw [take_get hs, run_append]
    exact ⟨head, run_mono up W.hd, run_one.mpr lay_eq⟩
  · rcases lay_some e with ⟨rfl, rfl, rfl⟩ | ⟨rfl, rfl, rfl⟩ | e
    · exact .inr (.inl ⟨lo, by omega, hs, run_mono up W.hd⟩)
    · exact .inr (.inr (.inl ⟨lo, by omega, by rw [inv_inv]; exact hs, run_mono up W.hd⟩))
    · rcases W.cov _ _ _ e with ⟨x, y, a, b, c⟩ | k
      · exact .inl ⟨x, y, a, run_mono up b, run_mono up c⟩
      · exact .inr (k.mono up (by omega) (Nat.le_refl _))
/-- and the same spot ahead of the tail -/
theorem Wp.both {w : List Nat} {head tail lo hi : Nat} (W : Wp size n δ par l ws dn w head tail lo hi) (h : lo < hi) {m : Nat} (hm : run δ m (w.drop (hi - 1)) = some 0) : Wp size n δ par l ws dn w head m lo (hi - 1) :=
  { W with tl := hm, lohi := by omega, hil := by have := W.hil; omega, cov := fun p s q e => (W.cov p s q e).imp id fun k => k.mono (fun _ _ _ e => e) (Nat.le_refl _) (by omega) }
/-- head and tail belong together once all signs are read -/
theorem Wp.ends {w : List Nat} {head tail hi : Nat} (W : Wp size n δ par l ws dn w head tail hi hi) (hw : w ∈ ws) : Cos ws (l head) (l tail) := by
  have a := run_cos W.lab W.hd
  have b := run_cos W.lab W.tl
  rw [W.l0, List.nil_append] at a
  rw [W.l0] at b
  have g : Cos ws w [] := by
    have := Sub.gen (ws := ws) hw
    unfold Cos
    simpa [MN.opp] using this
  have b2 := (g.trans b.symm).app (MN.opp (w.drop hi))
  have r1 : red (w ++ MN.opp (w.drop hi)) = red (w.take hi) := by
    have := red_mid (w.drop hi) (w.take hi) []
    rw [List.append_nil, List.append_nil, ← List.append_assoc, List.take_append_drop] at this
    exact this
  have r2 : red (l tail ++ w.drop hi ++ MN.opp (w.drop hi)) = red (l tail) := by
    have := red_mid (w.drop hi) (l tail) []
    rw [List.append_nil, List.append_nil] at this
    rw [List.append_assoc]
    exact this
  exact a.symm.trans ((Cos.of_red r1).symm.trans (b2.trans (Cos.of_red r2)))
theorem lay_new {δ : Nat → Nat → Option Nat} {head s m t : Nat} (h : ∀ s, δ m s = none) (hm : head ≠ m) (ht : t ≠ inv s) : lay δ head s m m t = none := by
  unfold lay
  rw [set2_ne (fun z => ht z.2), set2_ne (fun z => hm z.1.symm)]
  exact h t
theorem lay_else {δ : Nat → Nat → Option Nat} {head s m a t : Nat} (h1 : ¬ (a = head ∧ t = s)) (h2 : ¬ (a = m ∧ t = inv s)) : lay δ head s m a t = δ a t := by
  unfold lay
  rw [set2_ne h2, set2_ne h1]
/-- the last lane -/
theorem Wp.last {w : List Nat} {head tail lo hi s : Nat} (W : Wp size n δ par l ws dn w head tail lo hi) (hw : w ∈ ws) (hs : w[lo]? = some s) (hlh : lo + 1 = hi) (hf : δ head s = none) (hf2 : δ tail (MN.inv s) = none) (hsz : s < size) (hin : MN.inv s < size)
    (hdn : head < n) (hda : Alive par head) (htn : tail < n) (hta : Alive par tail) :
    Wp size n (lay δ head s tail) par l ws dn w tail tail hi hi := by
  have up : ∀ p s' q, δ p s' = some q → lay δ head s tail p s' = some q := fun p s' q e => lay_of hf hf2 e
  have c1 : Cos ws (l head ++ [s]) (l tail) := by
    have a := run_cos W.lab W.hd
    have b := run_cos W.lab W.tl
    rw [W.l0, List.nil_append] at a
    rw [W.l0] at b
    -- the first signs, one more: what the last ones undo
    have e : w = w.take lo ++ ([s] ++ w.drop hi) := by
      have := List.take_append_drop lo w
      rw [drop_get hs, hlh] at this
      exact this.symm
    have g : Cos ws w [] := by
      have := Sub.gen (ws := ws) hw
      unfold Cos
      simpa [MN.opp] using this
    have a2 : Cos ws (w.take lo ++ [s]) (l tail) := by
      have b2 := (g.trans b.symm).app (MN.opp (w.drop hi))
      have r1 : red (w ++ MN.opp (w.drop hi)) = red (w.take lo ++ [s]) := by
        have := red_mid (w.drop hi) (w.take lo ++ [s]) []
        rw [List.append_nil, List.append_nil] at this
        rw [← this]
        have e2 : w ++ MN.opp (w.drop hi) = w.take lo ++ ([s] ++ w.drop hi) ++ MN.opp (w.drop hi) := congrArg (fun z => z ++ MN.opp (w.drop hi)) e
        rw [e2]
        congr 1
        simp
      have r2 : red (l tail ++ w.drop hi ++ MN.opp (w.drop hi)) = red (l tail) := by
        have := red_mid (w.drop hi) (l tail) []
        rw [List.append_nil, List.append_nil] at this
        rw [List.append_assoc]
        exact this
      exact (Cos.of_red r1).symm.trans (b2.trans (Cos.of_red r2))
    exact (a.symm.app [s]).trans a2
  refine ⟨lay_inv W.inv hf hf2, fun p s' q e => ?_, W.ple, W.pn, W.n0, fun p s' q e => ?_, W.l0, fun p s' q e => ?_, W.lpar, fun w hw => run_mono up (W.loop w hw), ?_, run_mono up W.tl, Nat.le_refl _, W.hil, fun p s' q e => ?_⟩
  · rcases lay_some e with ⟨rfl, rfl, rfl⟩ | ⟨rfl, rfl, rfl⟩ | e
    · exact ⟨hdn, hsz, htn⟩
    · exact ⟨htn, hin, hdn⟩
    · exact W.dom _ _ _ e
  · rcases lay_some e with ⟨rfl, rfl, rfl⟩ | ⟨rfl, rfl, rfl⟩ | e
    · exact hda
    · exact hta
    · exact W.dead _ _ _ e
  · rcases lay_some e with ⟨rfl, rfl, rfl⟩ | ⟨rfl, rfl, rfl⟩ | e
    · exact c1
    · have := (c1.symm.app [MN.inv s])
      refine this.trans (Cos.of_red ?_)
      have := red_pair (l q) [] s
      simpa using this
    · exact W.lab _ _ _ e
  · rw [← hlh, take_get hs, run_append]
    exact ⟨head, run_mono up W.hd, run_one.mpr lay_eq⟩
  · rcases lay_some e with ⟨rfl, rfl, rfl⟩ | ⟨rfl, rfl, rfl⟩ | e
    · exact .inr (.inl ⟨lo, by omega, hs, run_mono up W.hd⟩)
    · exact .inr (.inr (.inl ⟨lo, by omega, by rw [inv_inv]; exact hs, run_mono up W.hd⟩))
    · rcases W.cov _ _ _ e with ⟨x, y, a, b, c⟩ | k
      · exact .inl ⟨x, y, a, run_mono up b, run_mono up c⟩
      · exact .inr (k.mono up (by omega) (Nat.le_refl _))
/-- all signs are read: what is left is to put head and tail together -/
theorem Wp.close {w : List Nat} {head tail hi : Nat} {ps : List (Nat × Nat)} (W : Wp size n δ par l ws dn w head tail hi hi) (hp : Plain w) (hw : w ∈ ws) (hE : E par ps head tail) (hpss : ∀ a b, (a, b) ∈ ps → a < n ∧ b < n) (hlps : ∀ a b, (a, b) ∈ ps → Cos ws (l a) (l b)) : Wu size n δ par ps l ws (dn ++ [w]) := by
  have R0 : ∀ p, E par ps p p := E.refl
  have q1 : QRun δ (E par ps) 0 (w.take hi) tail := QRun.tail ee (QRun.of_run R0 W.hd) hE
  have q2 : QRun δ (E par ps) tail (w.drop hi) 0 := QRun.of_run R0 W.tl
  have qw : QRun δ (E par ps) 0 w 0 := by
    have := QRun.app ee q1 q2
    rwa [List.take_append_drop] at this
  have parts : ∀ i s, w[i]? = some s → w = w.take i ++ s :: w.drop (i + 1) := fun i s h => by
    rw [← drop_get h, List.take_append_drop]
  have oparts : ∀ i s, w[i]? = some (MN.inv s) → MN.opp w = MN.opp (w.drop (i + 1)) ++ s :: MN.opp (w.take i) := fun i s h => by
    conv => lhs; rw [parts i _ h]
    rw [opp_append, opp_cons, inv_inv]
    simp
  have qop : ∀ {w p q}, QRun δ (E par ps) p w q → QRun δ (E par ps) q (MN.opp w) p := QRun.opp (R := E par ps) W.inv (fun _ _ h => h.symm) R0 ee
  -- behind a place ahead of the head the rest of the word leads to the start
  have fwd : ∀ i s p q, i < hi → w[i]? = some s → run δ 0 (w.take i) = some p → δ p s = some q → QRun δ (E par ps) q (w.drop (i + 1)) 0 := fun i s p q hi' hs hr hd => by
    have e1 : w.take hi = w.take i ++ (w.drop i).take (hi - i) := by
      rw [show hi = i + (hi - i) by omega, List.take_add]
      simp
    have e2 := W.hd
    rw [e1, run_append] at e2
    obtain ⟨r, hr1, hr2⟩ := e2
    rw [hr] at hr1
    cases hr1
    rw [drop_get hs, show hi - i = (hi - i - 1) + 1 by omega, List.take_succ_cons, run_cons] at hr2
    obtain ⟨q', hq1, hq2⟩ := hr2
    rw [hd] at hq1
    cases hq1
    have := QRun.app ee (QRun.tail ee (QRun.of_run R0 hq2) hE) q2
    have e3 : (w.drop (i + 1)).take (hi - i - 1) ++ w.drop hi = w.drop (i + 1) := by
      have := List.take_append_drop (hi - i - 1) (w.drop (i + 1))
      rw [List.drop_drop, show i + 1 + (hi - i - 1) = hi by omega] at this
      exact this
    rwa [e3] at this
  -- ahead of a place behind the tail the word leads there
  have bwd : ∀ i s p q, hi ≤ i → w[i]? = some s → run δ q (w.drop (i + 1)) = some 0 → δ p s = some q → QRun δ (E par ps) 0 (w.take i) p := fun i s p q hi' hs hr hd => by
    have hil := (List.getElem?_eq_some_iff.mp hs).1
    have e0 : run δ p (w.drop i) = some 0 := by
      rw [drop_get hs, run_cons]
      exact ⟨q, hd, hr⟩
    have e1 : w.drop hi = (w.drop hi).take (i - hi) ++ w.drop i := by
      have := List.take_append_drop (i - hi) (w.drop hi)
      rw [List.drop_drop, show hi + (i - hi) = i by omega] at this
      exact this.symm
    have e2 := W.tl
    rw [e1, run_append] at e2
    obtain ⟨r, hr1, hr2⟩ := e2
    have e3 : r = p := by
      have a := run_opp W.inv _ hr2
      have b := run_opp W.inv _ e0
      rw [a] at b
      exact Option.some.inj b
    subst e3
    have := QRun.app ee q1 (QRun.of_run R0 hr1)
    have e4 : w.take hi ++ (w.drop hi).take (i - hi) = w.take i := by
      rw [← List.take_add, show hi + (i - hi) = i by omega]
    rwa [e4] at this
  refine ⟨W.inv, W.dom, W.ple, hpss, W.l0, W.lab, W.lpar, hlps, fun v hv => ?_, fun p s q e => ?_⟩
  · rcases List.mem_append.mp hv with hv | hv
    · exact QRun.of_run R0 (W.loop v hv)
    · rw [List.mem_singleton.mp hv]
      exact qw
  · rcases W.cov p s q e with ⟨x, y, a, b, c⟩ | ⟨i, a, b, c⟩ | ⟨i, a, b, c⟩ | ⟨i, a, b, c⟩ | ⟨i, a, b, c⟩
    · exact ⟨x, y, a, QRun.of_run R0 b, QRun.of_run R0 c⟩
    · exact ⟨w.take i, w.drop (i + 1), by rw [← parts i s b]; exact hp, QRun.of_run R0 c, fwd i s p q a b c e⟩
    · have e' := W.inv _ _ _ e
      exact ⟨MN.opp (w.drop (i + 1)), MN.opp (w.take i), by rw [← oparts i s b]; exact plain_opp hp, qop (fwd i _ q p a b c e'), qop (QRun.of_run R0 c)⟩
    · exact ⟨w.take i, w.drop (i + 1), by rw [← parts i s b]; exact hp, bwd i s p q a b c e, QRun.of_run R0 c⟩
    · have e' := W.inv _ _ _ e
      exact ⟨MN.opp (w.drop (i + 1)), MN.opp (w.take i), by rw [← oparts i s b]; exact plain_opp hp, qop (QRun.of_run R0 c), qop (bwd i _ q p a b c e')⟩
end
end MN

namespace MN
/-! the law's way: rounds of words as lists of lanes, folded two by two -/
abbrev Ln := Nat × Nat × Nat
/-- the lane (low, letter, high) read by the sign 2 * letter, and back -/
def Ed (ls : List Ln) (p s q : Nat) : Prop := (∃ a, s = 2 * a ∧ (p, a, q) ∈ ls) ∨ (∃ a, s = 2 * a + 1 ∧ (q, a, p) ∈ ls)
theorem inv_even (a : Nat) : inv (2 * a) = 2 * a + 1 := by
  unfold inv
  apply Nat.eq_of_testBit_eq
  intro i
  rw [Nat.testBit_xor]
  cases i with
  | zero => simp [Nat.testBit_zero]
  | succ i => rw [Nat.testBit_succ, Nat.testBit_succ, Nat.testBit_succ, show 2 * a / 2 = a by omega, show (2 * a + 1) / 2 = a by omega]; simp
theorem inv_odd (a : Nat) : inv (2 * a + 1) = 2 * a := by rw [← inv_even, inv_inv]
theorem Ed.back {ls : List Ln} {p s q : Nat} (h : Ed ls p s q) : Ed ls q (inv s) p := by
  rcases h with ⟨a, rfl, h⟩ | ⟨a, rfl, h⟩
  · exact .inr ⟨a, inv_even a, h⟩
  · exact .inl ⟨a, inv_odd a, h⟩
theorem even_or (s : Nat) : s = 2 * (s / 2) ∨ s = 2 * (s / 2) + 1 := by omega
def NRun (ls : List Ln) : Nat → List Nat → Nat → Prop
  | p, [], q => p = q
  | p, s :: w, q => ∃ r, Ed ls p s r ∧ NRun ls r w q
theorem NRun.app {ls : List Ln} : ∀ {u v : List Nat} {p q r : Nat}, NRun ls p u q → NRun ls q v r → NRun ls p (u ++ v) r
  | [], _, _, _, _, h, k => by cases h; exact k
  | s :: u, _, _, _, _, ⟨t, a, b⟩, k => ⟨t, a, NRun.app b k⟩
theorem NRun.one {ls : List Ln} {p s q : Nat} (h : Ed ls p s q) : NRun ls p [s] q := ⟨q, h, rfl⟩
theorem NRun.opp {ls : List Ln} : ∀ {w : List Nat} {p q : Nat}, NRun ls p w q → NRun ls q (MN.opp w) p
  | [], _, _, h => h.symm
  | s :: w, p, q, ⟨t, a, b⟩ => by
    rw [opp_cons]
    exact NRun.app (NRun.opp b) (NRun.one a.back)
theorem NRun.map {ls ls' : List Ln} {f : Nat → Nat} (h : ∀ p s q, Ed ls p s q → Ed ls' (f p) s (f q)) : ∀ {w : List Nat} {p q : Nat}, NRun ls p w q → NRun ls' (f p) w (f q)
  | [], _, _, e => congrArg f e
  | s :: w, p, q, ⟨t, a, b⟩ => ⟨f t, h _ _ _ a, NRun.map h b⟩
theorem Ed.mono {ls ls' : List Ln} (h : ∀ x ∈ ls, x ∈ ls') {p s q : Nat} (e : Ed ls p s q) : Ed ls' p s q := by
  rcases e with ⟨a, b, c⟩ | ⟨a, b, c⟩
  · exact .inl ⟨a, b, h _ c⟩
  · exact .inr ⟨a, b, h _ c⟩
theorem NRun.mono {ls ls' : List Ln} (h : ∀ x ∈ ls, x ∈ ls') {w : List Nat} {p q : Nat} (e : NRun ls p w q) : NRun ls' p w q := NRun.map (f := id) (fun p s q k => k.mono h) e
/-- lanes on which rounds of plain words lie, each lane on one of them -/
structure Lw (ls : List Ln) (l : Nat → List Nat) (ws dn : List (List Nat)) : Prop where
  nd : ls.Nodup
  l0 : l 0 = []
  lab : ∀ p s q, Ed ls p s q → Cos ws (l p ++ [s]) (l q)
  loop : ∀ w ∈ dn, NRun ls 0 w 0
  cov : ∀ p s q, Ed ls p s q → ∃ x y, Plain (x ++ s :: y) ∧ NRun ls 0 x p ∧ NRun ls q y 0
/-- where a sign leads from a spot, in the order of the lanes -/
def ld (ls : List Ln) (p s : Nat) : List Nat := ls.flatMap fun x => (if x.1 = p ∧ 2 * x.2.1 = s then [x.2.2] else []) ++ (if x.2.2 = p ∧ 2 * x.2.1 + 1 = s then [x.1] else [])
theorem mem_ld {ls : List Ln} {p s q : Nat} : q ∈ ld ls p s ↔ Ed ls p s q := by
  unfold ld
  rw [List.mem_flatMap]
  constructor
  · rintro ⟨⟨a, b, c⟩, h, k⟩
    rcases List.mem_append.mp k with k | k
    · split at k
      · rename_i z
        rw [List.mem_singleton.mp k]
        obtain ⟨rfl, rfl⟩ := z
        exact .inl ⟨b, rfl, h⟩
      · cases k
    · split at k
      · rename_i z
        rw [List.mem_singleton.mp k]
        obtain ⟨rfl, rfl⟩ := z
        exact .inr ⟨b, rfl, h⟩
      · cases k
  · rintro (⟨a, rfl, h⟩ | ⟨a, rfl, h⟩)
    · exact ⟨_, h, List.mem_append_left _ (by simp)⟩
    · exact ⟨_, h, List.mem_append_right _ (by simp)⟩
theorem ld_nodup {ls : List Ln} (h : ls.Nodup) (p s : Nat) : (ld ls p s).Nodup := by
  induction ls with
  | nil => exact List.nodup_nil
  | cons x ls ih =>
    obtain ⟨h1, h2⟩ := List.nodup_cons.mp h
    obtain ⟨a, b, c⟩ := x
    have e : ld ((a, b, c) :: ls) p s = ((if a = p ∧ 2 * b = s then [c] else []) ++ (if c = p ∧ 2 * b + 1 = s then [a] else [])) ++ ld ls p s := by
      unfold ld
      rw [List.flatMap_cons]
    rw [e]
    have m := fun q => mem_ld (ls := ls) (p := p) (s := s) (q := q)
    by_cases c1 : a = p ∧ 2 * b = s
    · rw [if_pos c1, if_neg (by omega), List.append_nil]
      refine List.nodup_cons.mpr ⟨fun z => ?_, ih h2⟩
      rcases (m c).mp z with ⟨b', e1, e2⟩ | ⟨b', e1, e2⟩
      · obtain ⟨rfl, rfl⟩ := c1
        have : b' = b := by omega
        subst this
        exact h1 e2
      · omega
    · rw [if_neg c1, List.nil_append]
      by_cases c2 : c = p ∧ 2 * b + 1 = s
      · rw [if_pos c2]
        refine List.nodup_cons.mpr ⟨fun z => ?_, ih h2⟩
        rcases (m a).mp z with ⟨b', e1, e2⟩ | ⟨b', e1, e2⟩
        · omega
        · obtain ⟨rfl, rfl⟩ := c2
          have : b' = b := by omega
          subst this
          exact h1 e2
      · rw [if_neg c2]
        exact ih h2
/-- two spots put together -/
def phi (kept gone p : Nat) : Nat := if p = gone then kept else p
def phiL (kept gone : Nat) (x : Ln) : Ln := (phi kept gone x.1, x.2.1, phi kept gone x.2.2)
/-- a list without what it has already -/
def uniq {α : Type} [DecidableEq α] (xs : List α) : List α := xs.foldl (fun o x => if x ∈ o then o else o ++ [x]) []
theorem uniq_go {α : Type} [DecidableEq α] : ∀ (xs o : List α), o.Nodup → (xs.foldl (fun o x => if x ∈ o then o else o ++ [x]) o).Nodup ∧ ∀ x, x ∈ xs.foldl (fun o x => if x ∈ o then o else o ++ [x]) o ↔ x ∈ o ∨ x ∈ xs
  | [], o, h => ⟨h, fun x => by simp⟩
  | y :: xs, o, h => by
    rw [List.foldl_cons]
    by_cases m : y ∈ o
    · rw [if_pos m]
      obtain ⟨a, b⟩ := uniq_go xs o h
      refine ⟨a, fun x => ?_⟩
      rw [b, List.mem_cons]
      constructor
      · rintro (z | z)
        · exact .inl z
        · exact .inr (.inr z)
      · rintro (z | z | z)
        · exact .inl z
        · exact .inl (z ▸ m)
        · exact .inr z
    · rw [if_neg m]
      obtain ⟨a, b⟩ := uniq_go xs (o ++ [y]) (List.nodup_append.mpr ⟨h, by simp, fun a ha b hb e => m (by rw [List.mem_singleton.mp hb] at e; exact e ▸ ha)⟩)
      refine ⟨a, fun x => ?_⟩
      rw [b, List.mem_append, List.mem_singleton, List.mem_cons]
      constructor
      · rintro ((z | z) | z)
        · exact .inl z
        · exact .inr (.inl z)
        · exact .inr (.inr z)
      · rintro (z | z | z)
        · exact .inl (.inl z)
        · exact .inl (.inr z)
        · exact .inr z
theorem uniq_nodup {α : Type} [DecidableEq α] (xs : List α) : (uniq xs).Nodup := (uniq_go xs [] List.nodup_nil).1
theorem mem_uniq {α : Type} [DecidableEq α] {xs : List α} {x : α} : x ∈ uniq xs ↔ x ∈ xs := by
  have := (uniq_go xs [] List.nodup_nil).2 x
  simpa [uniq] using this
theorem uniq_go_len {α : Type} [DecidableEq α] : ∀ (xs o : List α), (xs.foldl (fun o x => if x ∈ o then o else o ++ [x]) o).length ≤ o.length + xs.length ∧ ((∃ x ∈ xs, x ∈ o) ∨ ¬ xs.Nodup → (xs.foldl (fun o x => if x ∈ o then o else o ++ [x]) o).length < o.length + xs.length)
  | [], o => ⟨Nat.le_refl _, fun h => by simp at h⟩
  | y :: xs, o => by
    rw [List.foldl_cons]
    by_cases m : y ∈ o
    · rw [if_pos m]
      obtain ⟨a, b⟩ := uniq_go_len xs o
      rw [List.length_cons]
      exact ⟨by omega, fun _ => by omega⟩
    · rw [if_neg m]
      obtain ⟨a, b⟩ := uniq_go_len xs (o ++ [y])
      rw [List.length_append, List.length_singleton] at a b
      rw [List.length_cons]
      refine ⟨by omega, fun h => ?_⟩
      have : (∃ x ∈ xs, x ∈ o ++ [y]) ∨ ¬ xs.Nodup := by
        rcases h with ⟨x, hx, ho⟩ | h
        · rcases List.mem_cons.mp hx with rfl | hx
          · exact absurd ho m
          · exact .inl ⟨x, hx, List.mem_append_left _ ho⟩
        · by_cases z : y ∈ xs
          · exact .inl ⟨y, z, List.mem_append_right _ (List.mem_singleton.mpr rfl)⟩
          · exact .inr fun nd => h (List.nodup_cons.mpr ⟨z, nd⟩)
      have := b this
      omega
def together (kept gone : Nat) (ls : List Ln) : List Ln := uniq (ls.map (phiL kept gone))
theorem Ed.phi {ls : List Ln} {kept gone p s q : Nat} (h : Ed ls p s q) : Ed (together kept gone ls) (phi kept gone p) s (phi kept gone q) := by
  rcases h with ⟨a, b, c⟩ | ⟨a, b, c⟩
  · exact .inl ⟨a, b, mem_uniq.mpr (List.mem_map.mpr ⟨_, c, rfl⟩)⟩
  · exact .inr ⟨a, b, mem_uniq.mpr (List.mem_map.mpr ⟨_, c, rfl⟩)⟩
theorem Ed.of_phi {ls : List Ln} {kept gone p s q : Nat} (h : Ed (together kept gone ls) p s q) : ∃ p' q', Ed ls p' s q' ∧ p = MN.phi kept gone p' ∧ q = MN.phi kept gone q' := by
  rcases h with ⟨a, b, c⟩ | ⟨a, b, c⟩
  · obtain ⟨⟨x, y, z⟩, h, e⟩ := List.mem_map.mp (mem_uniq.mp c)
    simp only [phiL, Prod.mk.injEq] at e
    obtain ⟨rfl, rfl, rfl⟩ := e
    exact ⟨x, z, .inl ⟨y, b, h⟩, rfl, rfl⟩
  · obtain ⟨⟨x, y, z⟩, h, e⟩ := List.mem_map.mp (mem_uniq.mp c)
    simp only [phiL, Prod.mk.injEq] at e
    obtain ⟨rfl, rfl, rfl⟩ := e
    exact ⟨z, x, .inr ⟨y, b, h⟩, rfl, rfl⟩
theorem Lw.fold {ls : List Ln} {l : Nat → List Nat} {ws dn : List (List Nat)} (W : Lw ls l ws dn) {p s a b : Nat} (ha : Ed ls p s a) (hb : Ed ls p s b) (hab : a < b) : Lw (together a b ls) l ws dn := by
  have hc : Cos ws (l b) (l a) := (W.lab _ _ _ hb).symm.trans (W.lab _ _ _ ha)
  have hphi : ∀ x, Cos ws (l x) (l (phi a b x)) := fun x => by
    unfold phi
    split
    · rename_i e
      rw [e]
      exact hc
    · exact Cos.refl _
  have h0 : phi a b 0 = 0 := if_neg (by omega)
  refine ⟨uniq_nodup _, W.l0, fun p s q e => ?_, fun w hw => ?_, fun p s q e => ?_⟩
  · obtain ⟨p', q', h, rfl, rfl⟩ := e.of_phi
    exact (((hphi p').symm.app [s]).trans (W.lab _ _ _ h)).trans (hphi q')
  · have := NRun.map (fun p s q e => Ed.phi (kept := a) (gone := b) e) (W.loop w hw)
    rwa [h0] at this
  · obtain ⟨p', q', h, rfl, rfl⟩ := e.of_phi
    obtain ⟨x, y, hp, hx, hy⟩ := W.cov _ _ _ h
    have hx' := NRun.map (fun p s q e => Ed.phi (kept := a) (gone := b) e) hx
    have hy' := NRun.map (fun p s q e => Ed.phi (kept := a) (gone := b) e) hy
    rw [h0] at hx' hy'
    exact ⟨x, y, hp, hx', hy'⟩
theorem together_len {ls : List Ln} (hn : ls.Nodup) {p s a b : Nat} (ha : Ed ls p s a) (hb : Ed ls p s b) (hab : a ≠ b) : (together a b ls).length < ls.length := by
  have e := (uniq_go_len (ls.map (phiL a b)) []).2 (.inr fun nd => ?_)
  · simpa [together, uniq] using e
  · -- two lanes become one
    have key : ∀ x ∈ ls, ∀ y ∈ ls, phiL a b x = phiL a b y → x = y := by
      have : ∀ {zs : List Ln}, (zs.map (phiL a b)).Nodup → ∀ x ∈ zs, ∀ y ∈ zs, phiL a b x = phiL a b y → x = y := by
        intro zs
        induction zs with
        | nil => exact fun _ _ h => nomatch h
        | cons z zs ih =>
          intro h x hx y hy e
          rw [List.map_cons, List.nodup_cons] at h
          rcases List.mem_cons.mp hx with h1 | h1
          · rcases List.mem_cons.mp hy with h2 | h2
            · rw [h1, h2]
            · rw [h1] at e
              exact (h.1 (List.mem_map.mpr ⟨y, h2, e.symm⟩)).elim
          · rcases List.mem_cons.mp hy with h2 | h2
            · rw [h2] at e
              exact (h.1 (List.mem_map.mpr ⟨x, h1, e⟩)).elim
            · exact ih h.2 x h1 y h2 e
      exact this nd
    have hphi : phi a b a = phi a b b := by
      unfold phi
      rw [if_pos (c := b = b) rfl, if_neg hab]
    rcases ha with ⟨c, e1, h1⟩ | ⟨c, e1, h1⟩ <;> rcases hb with ⟨d, e2, h2⟩ | ⟨d, e2, h2⟩
    · have : c = d := by omega
      subst this
      have := key _ h1 _ h2 (by simp only [phiL]; rw [hphi])
      simp only [Prod.mk.injEq] at this
      exact hab this.2.2
    · omega
    · omega
    · have : c = d := by omega
      subst this
      have := key _ h1 _ h2 (by simp only [phiL]; rw [hphi])
      simp only [Prod.mk.injEq] at this
      exact hab this.1
/-- lanes without clashes are a machine -/
def dl (ls : List Ln) (p s : Nat) : Option Nat := (ld ls p s).head?
theorem dl_ed {ls : List Ln} (h : ∀ p s, (ld ls p s).length ≤ 1) {p s q : Nat} : dl ls p s = some q ↔ Ed ls p s q := by
  rw [← mem_ld]
  unfold dl
  have := h p s
  cases e : ld ls p s with
  | nil => simp
  | cons a r =>
    rw [e] at this
    have hr : r = [] := by
      cases r with
      | nil => rfl
      | cons _ _ => simp at this
    subst hr
    simp [eq_comm]
theorem dl_run {ls : List Ln} (h : ∀ p s, (ld ls p s).length ≤ 1) : ∀ {w : List Nat} {p q : Nat}, NRun ls p w q → run (dl ls) p w = some q
  | [], p, q, e => by rw [show p = q from e]; rfl
  | s :: w, p, q, ⟨r, a, b⟩ => run_cons.mpr ⟨r, (dl_ed h).mpr a, dl_run h b⟩
theorem Lw.pic {ls : List Ln} {l : Nat → List Nat} {ws : List (List Nat)} (W : Lw ls l ws ws) (h : ∀ p s, (ld ls p s).length ≤ 1) : Pic (dl ls) ws where
  inv := fun p s q e => (dl_ed h).mpr ((dl_ed h).mp e).back
  loop := fun w hw => dl_run h (W.loop w hw)
  lab := ⟨l, W.l0, fun p s q e => W.lab p s q ((dl_ed h).mp e)⟩
  cov := fun p s q e => by
    obtain ⟨x, y, a, b, c⟩ := W.cov p s q ((dl_ed h).mp e)
    exact ⟨x, y, a, dl_run h b, dl_run h c⟩
/-- a round that is being laid: so many of its signs are -/
structure Lp (ls : List Ln) (l : Nat → List Nat) (ws dn : List (List Nat)) (w : List Nat) (n at_ spot : Nat) : Prop where
  nd : ls.Nodup
  n0 : 0 < n
  bd : ∀ x ∈ ls, x.1 < n ∧ x.2.2 < n
  l0 : l 0 = []
  lab : ∀ p s q, Ed ls p s q → Cos ws (l p ++ [s]) (l q)
  loop : ∀ w ∈ dn, NRun ls 0 w 0
  sn : spot < n
  hd : NRun ls 0 (w.take at_) spot
  cov : ∀ p s q, Ed ls p s q → (∃ x y, Plain (x ++ s :: y) ∧ NRun ls 0 x p ∧ NRun ls q y 0) ∨ (∃ x y, x ++ s :: y = w.take at_ ∧ NRun ls 0 x p ∧ NRun ls q y spot) ∨ (∃ x y, x ++ inv s :: y = w.take at_ ∧ NRun ls 0 x q ∧ NRun ls p y spot)
def laneOf (p s q : Nat) : Ln := if s % 2 = 0 then (p, s / 2, q) else (q, s / 2, p)
theorem ed_lane {ls : List Ln} {p s q : Nat} (h : laneOf p s q ∈ ls) : Ed ls p s q := by
  unfold laneOf at h
  split at h
  · exact .inl ⟨s / 2, by omega, h⟩
  · exact .inr ⟨s / 2, by omega, h⟩
def addL (ls : List Ln) (x : Ln) : List Ln := if x ∈ ls then ls else ls ++ [x]
theorem mem_addL {ls : List Ln} {x y : Ln} : y ∈ addL ls x ↔ y ∈ ls ∨ y = x := by
  unfold addL
  split
  · rename_i h
    exact ⟨.inl, fun z => z.elim id fun e => e ▸ h⟩
  · rw [List.mem_append, List.mem_singleton]
theorem addL_nodup {ls : List Ln} {x : Ln} (h : ls.Nodup) : (addL ls x).Nodup := by
  unfold addL
  split
  · exact h
  · rename_i m
    exact List.nodup_append.mpr ⟨h, by simp, fun a ha b hb e => m (by rw [List.mem_singleton.mp hb] at e; exact e ▸ ha)⟩
theorem ed_add {ls : List Ln} {a t b p s q : Nat} (h : Ed (addL ls (laneOf a t b)) p s q) : Ed ls p s q ∨ (p = a ∧ s = t ∧ q = b) ∨ (p = b ∧ s = inv t ∧ q = a) := by
  have key : ∀ {x y z : Nat}, (x, y, z) = laneOf a t b → (t = 2 * y ∧ x = a ∧ z = b) ∨ (t = 2 * y + 1 ∧ x = b ∧ z = a) := by
    intro x y z e
    unfold laneOf at e
    split at e
    · simp only [Prod.mk.injEq] at e
      exact .inl ⟨by omega, e.1, e.2.2⟩
    · simp only [Prod.mk.injEq] at e
      exact .inr ⟨by omega, e.1, e.2.2⟩
  rcases h with ⟨c, rfl, h⟩ | ⟨c, rfl, h⟩
  · rcases mem_addL.mp h with h | h
    · exact .inl (.inl ⟨c, rfl, h⟩)
    · rcases key h with ⟨e1, e2, e3⟩ | ⟨e1, e2, e3⟩
      · exact .inr (.inl ⟨e2, e1.symm, e3⟩)
      · exact .inr (.inr ⟨e2, by rw [e1, inv_odd], e3⟩)
  · rcases mem_addL.mp h with h | h
    · exact .inl (.inr ⟨c, rfl, h⟩)
    · rcases key h with ⟨e1, e2, e3⟩ | ⟨e1, e2, e3⟩
      · exact .inr (.inr ⟨e3, by rw [e1, inv_even], e2⟩)
      · exact .inr (.inl ⟨e3, e1.symm, e2⟩)
theorem nrun_cos {ls : List Ln} {l : Nat → List Nat} {ws : List (List Nat)} (h : ∀ p s q, Ed ls p s q → Cos ws (l p ++ [s]) (l q)) : ∀ {w : List Nat} {p q : Nat}, NRun ls p w q → Cos ws (l p ++ w) (l q)
  | [], p, q, e => by
    rw [show p = q from e, List.append_nil]
    exact Cos.refl _
  | s :: w, p, q, ⟨r, h1, h2⟩ => by
    have a := (h _ _ _ h1).app w
    rw [List.append_assoc] at a
    exact a.trans (nrun_cos h h2)
theorem Lp.step {ls : List Ln} {l l' : Nat → List Nat} {ws dn : List (List Nat)} {w : List Nat} {n n' k spot other s : Nat} (W : Lp ls l ws dn w n k spot) (hs : w[k]? = some s) (hn : n ≤ n') (ho : other < n') (hl : ∀ p, p < n → l' p = l p) (hc : Cos ws (l' spot ++ [s]) (l' other)) : Lp (addL ls (laneOf spot s other)) l' ws dn w n' (k + 1) other := by
  have up : ∀ x ∈ ls, x ∈ addL ls (laneOf spot s other) := fun x h => mem_addL.mpr (.inl h)
  have new : Ed (addL ls (laneOf spot s other)) spot s other := ed_lane (mem_addL.mpr (.inr rfl))
  have edb : ∀ p s q, Ed ls p s q → p < n ∧ q < n := fun p s q e => by
    rcases e with ⟨a, _, e⟩ | ⟨a, _, e⟩
    · exact W.bd _ e
    · exact (W.bd _ e).symm
  have tk := take_get hs
  refine ⟨addL_nodup W.nd, by have := W.n0; omega, fun x hx => ?_, ?_, fun p t q e => ?_, fun v hv => (W.loop v hv).mono up, ho, ?_, fun p t q e => ?_⟩
  · have := W.sn
    rcases mem_addL.mp hx with h | h
    · have := W.bd x h
      omega
    · rw [h]
      unfold laneOf
      split <;> dsimp only <;> omega
  · rw [hl 0 W.n0]
    exact W.l0
  · rcases ed_add e with e | ⟨rfl, rfl, rfl⟩ | ⟨rfl, rfl, rfl⟩
    · obtain ⟨a, b⟩ := edb _ _ _ e
      rw [hl _ a, hl _ b]
      exact W.lab _ _ _ e
    · exact hc
    · refine (hc.symm.app [inv s]).trans (Cos.of_red ?_)
      have := red_pair (l' q) [] s
      simpa using this
  · rw [tk]
    exact NRun.app (W.hd.mono up) (NRun.one new)
  · rcases ed_add e with e | ⟨rfl, rfl, rfl⟩ | ⟨rfl, rfl, rfl⟩
    · rcases W.cov _ _ _ e with ⟨x, y, a, b, c⟩ | ⟨x, y, a, b, c⟩ | ⟨x, y, a, b, c⟩
      · exact .inl ⟨x, y, a, b.mono up, c.mono up⟩
      · exact .inr (.inl ⟨x, y ++ [s], by rw [tk, ← a]; simp, b.mono up, NRun.app (c.mono up) (NRun.one new)⟩)
      · exact .inr (.inr ⟨x, y ++ [s], by rw [tk, ← a]; simp, b.mono up, NRun.app (c.mono up) (NRun.one new)⟩)
    · exact .inr (.inl ⟨w.take k, [], by rw [tk], W.hd.mono up, rfl⟩)
    · exact .inr (.inr ⟨w.take k, [], by rw [tk, inv_inv], W.hd.mono up, rfl⟩)
/-- a round is laid -/
theorem Lp.close {ls : List Ln} {l : Nat → List Nat} {ws dn : List (List Nat)} {w : List Nat} {n k : Nat} (W : Lp ls l ws dn w n k 0) (hp : Plain w) (hk : w.take k = w) : Lw ls l ws (dn ++ [w]) := by
  have hd := W.hd
  have cov := W.cov
  rw [hk] at hd
  refine ⟨W.nd, W.l0, W.lab, fun v hv => ?_, fun p s q e => ?_⟩
  · rcases List.mem_append.mp hv with hv | hv
    · exact W.loop v hv
    · rw [List.mem_singleton.mp hv]
      exact hd
  · rcases cov p s q e with h | ⟨x, y, a, b, c⟩ | ⟨x, y, a, b, c⟩
    · exact h
    · rw [hk] at a
      exact ⟨x, y, by rw [a]; exact hp, b, c⟩
    · rw [hk] at a
      refine ⟨MN.opp y, MN.opp x, ?_, c.opp, b.opp⟩
      have e : MN.opp w = MN.opp y ++ s :: MN.opp x := by
        rw [← a, opp_append, opp_cons, inv_inv]
        simp
      rw [← e]
      exact plain_opp hp
theorem Lw.start {ls : List Ln} {l : Nat → List Nat} {ws dn : List (List Nat)} (W : Lw ls l ws dn) {n : Nat} (hn : 0 < n) (hb : ∀ x ∈ ls, x.1 < n ∧ x.2.2 < n) (w : List Nat) : Lp ls l ws dn w n 0 0 :=
  ⟨W.nd, hn, hb, W.l0, W.lab, W.loop, hn, rfl, fun p s q e => .inl (W.cov p s q e)⟩
end MN

namespace MN
/-! rows as a machine of their own -/
def rowsD (rows : List (List (Option Nat))) (p s : Nat) : Option Nat := (rows[p]?.bind fun r => r[s]?).join
/-- the picture of the group of some plain words -/
def Picture (ws : List (List Nat)) (size : Nat) (rows : List (List (Option Nat))) : Prop := ∃ δ, Pic δ ws ∧ Rows δ size 0 rows ∧ ∀ p s q, δ p s = some q → s < size
theorem ord_head (δ : Nat → Nat → Option Nat) (size st : Nat) : ∀ k, (ord δ size st k)[0]? = some st
  | 0 => rfl
  | k + 1 => by
    obtain ⟨r, h⟩ := ord_app δ size st k
    have := ord_head δ size st k
    rw [h, List.getElem?_append_left (List.getElem?_eq_some_iff.mp this).1]
    exact this
section
variable {δ : Nat → Nat → Option Nat} {size k : Nat} {ws : List (List Nat)}
theorem idx_at {o : List Nat} (nd : o.Nodup) {i p : Nat} (h : o[i]? = some p) : o.idxOf p = i := by
  obtain ⟨hi, e⟩ := List.getElem?_eq_some_iff.mp h
  rw [← e]
  exact List.Nodup.idxOf_getElem nd i hi
theorem at_idx {o : List Nat} {p : Nat} (h : p ∈ o) : o[o.idxOf p]? = some p := by
  rw [List.getElem?_eq_getElem (List.idxOf_lt_length_iff.mpr h), List.getElem_idxOf]
/-- a row's entry -/
theorem rowsD_at {i p s : Nat} (hi : (ord δ size 0 k)[i]? = some p) (hs : s < size) : rowsD (rowsOf δ size (ord δ size 0 k)) i s = (δ p s).map fun q => (ord δ size 0 k).idxOf q := by
  unfold rowsD rowsOf
  rw [List.getElem?_map, hi]
  show ((((ends δ size p).map fun t => t.map fun q => (ord δ size 0 k).idxOf q)[s]?)).join = _
  unfold ends
  rw [List.getElem?_map, List.getElem?_map, List.getElem?_range hs]
  rfl
theorem rowsD_of {i s j : Nat} (h : rowsD (rowsOf δ size (ord δ size 0 k)) i s = some j) : ∃ p q, (ord δ size 0 k)[i]? = some p ∧ s < size ∧ δ p s = some q ∧ j = (ord δ size 0 k).idxOf q := by
  have h0 := h
  unfold rowsD rowsOf at h0
  rw [List.getElem?_map] at h0
  cases e : (ord δ size 0 k)[i]? with
  | none =>
    rw [e] at h0
    cases h0
  | some p =>
    rw [e] at h0
    have hs : s < size := by
      rcases Nat.lt_or_ge s size with z | z
      · exact z
      · have : ((ends δ size p).map fun t => t.map fun q => (ord δ size 0 k).idxOf q)[s]? = none := by
          apply List.getElem?_eq_none
          unfold ends
          rw [List.length_map, List.length_map, List.length_range]
          exact z
        have h1 : (((ends δ size p).map fun t => t.map fun q => (ord δ size 0 k).idxOf q)[s]?).join = some j := h0
        rw [this] at h1
        cases h1
    rw [rowsD_at e hs] at h
    obtain ⟨q, hq, ej⟩ := Option.map_eq_some_iff.mp h
    exact ⟨p, q, rfl, hs, hq, ej.symm⟩
variable (hk : (ord δ size 0 k).length = k) (hb : ∀ p s q, δ p s = some q → s < size)
include hk hb
theorem rowsD_run : ∀ {w : List Nat} {i p q : Nat}, (ord δ size 0 k)[i]? = some p → run δ p w = some q → run (rowsD (rowsOf δ size (ord δ size 0 k))) i w = some ((ord δ size 0 k).idxOf q) ∧ q ∈ ord δ size 0 k
  | [], i, p, q, hi, h => by
    cases h
    rw [idx_at (ord_nodup δ size 0 k) hi]
    exact ⟨rfl, List.mem_of_getElem? hi⟩
  | s :: w, i, p, q, hi, h => by
    obtain ⟨r, h1, h2⟩ := run_cons.mp h
    have hr := ord_closed hk hi (hb _ _ _ h1) h1
    obtain ⟨a, b⟩ := rowsD_run (at_idx hr) h2
    refine ⟨run_cons.mpr ⟨(ord δ size 0 k).idxOf r, ?_, a⟩, b⟩
    rw [rowsD_at hi (hb _ _ _ h1), h1]
    rfl
theorem rowsD_pic (P : Pic δ ws) : Pic (rowsD (rowsOf δ size (ord δ size 0 k))) ws := by
  have h0 : (ord δ size 0 k)[0]? = some 0 := ord_head δ size 0 k
  have i0 : (ord δ size 0 k).idxOf 0 = 0 := idx_at (ord_nodup δ size 0 k) h0
  have nd := ord_nodup δ size 0 k
  obtain ⟨l, l0, hl⟩ := P.lab
  refine ⟨fun i s j h => ?_, fun w hw => ?_, ⟨fun i => l ((ord δ size 0 k)[i]?.getD 0), ?_, fun i s j h => ?_⟩, fun i s j h => ?_⟩
  · obtain ⟨p, q, hi, hs, hq, rfl⟩ := rowsD_of h
    have hm := ord_closed hk hi hs hq
    have hb2 := P.inv _ _ _ hq
    rw [rowsD_at (at_idx hm) (hb _ _ _ hb2), hb2]
    exact congrArg some (idx_at nd hi)
  · have := (rowsD_run hk hb h0 (P.loop w hw)).1
    rwa [i0] at this
  · dsimp only
    rw [h0]
    exact l0
  · obtain ⟨p, q, hi, hs, hq, rfl⟩ := rowsD_of h
    have hm := ord_closed hk hi hs hq
    dsimp only
    rw [hi, at_idx hm]
    exact hl _ _ _ hq
  · obtain ⟨p, q, hi, hs, hq, rfl⟩ := rowsD_of h
    obtain ⟨x, y, hp, hx, hy⟩ := P.cov _ _ _ hq
    have hm := ord_closed hk hi hs hq
    have a := (rowsD_run hk hb h0 hx).1
    have b := (rowsD_run hk hb (at_idx hm) hy).1
    rw [idx_at nd hi] at a
    rw [i0] at b
    exact ⟨x, y, hp, a, b⟩
end
theorem Picture.pic {ws : List (List Nat)} {size : Nat} {rows : List (List (Option Nat))} (h : Picture ws size rows) : Pic (rowsD rows) ws := by
  obtain ⟨δ, P, ⟨k, hk, rfl⟩, hb⟩ := h
  exact rowsD_pic hk hb P
/-- each row has an entry for each sign, each entry is a row -/
theorem Picture.shape {ws : List (List Nat)} {size : Nat} {rows : List (List (Option Nat))} (h : Picture ws size rows) : 0 < rows.length ∧ (∀ r ∈ rows, r.length = size ∧ ∀ q, some q ∈ r → q < rows.length) := by
  obtain ⟨δ, P, ⟨k, hk, rfl⟩, hb⟩ := h
  have hlen : (rowsOf δ size (ord δ size 0 k)).length = (ord δ size 0 k).length := by unfold rowsOf; rw [List.length_map]
  refine ⟨?_, fun r hr => ?_⟩
  · rw [hlen]
    exact (List.getElem?_eq_some_iff.mp (ord_head δ size 0 k)).1
  · rw [hlen]
    unfold rowsOf at hr
    obtain ⟨p, hp, rfl⟩ := List.mem_map.mp hr
    refine ⟨by unfold ends; rw [List.length_map, List.length_map, List.length_range], fun q hq => ?_⟩
    obtain ⟨t, ht, e⟩ := List.mem_map.mp hq
    obtain ⟨q', e1, e2⟩ := Option.map_eq_some_iff.mp e
    subst e1
    unfold ends at ht
    obtain ⟨s, hs, e3⟩ := List.mem_map.mp ht
    obtain ⟨i, hi⟩ := List.mem_iff_getElem?.mp hp
    have := ord_closed hk hi (List.mem_range.mp hs) e3
    rw [← e2]
    exact List.idxOf_lt_length_iff.mpr this
theorem Picture.eq {ws ws' : List (List Nat)} {size : Nat} {r r' : List (List (Option Nat))} (h : Picture ws size r) (h' : Picture ws' size r') (hs : ∀ u, Sub ws u ↔ Sub ws' u) : r = r' := by
  obtain ⟨δ, P, R, _⟩ := h
  obtain ⟨δ', P', R', _⟩ := h'
  exact P.rows P' hs R R'
end MN

namespace MN
/-! two pictures by hand: of aa and of ab -/
def dA (p s : Nat) : Option Nat := match p, s with
  | 0, 0 => some 1
  | 0, 1 => some 1
  | 1, 0 => some 0
  | 1, 1 => some 0
  | _, _ => none
def dB (p s : Nat) : Option Nat := match p, s with
  | 0, 0 => some 1
  | 1, 1 => some 0
  | 1, 2 => some 0
  | 0, 3 => some 1
  | _, _ => none
def lA (p : Nat) : List Nat := if p = 1 then [0] else []
theorem gcos {ws : List (List Nat)} {u v : List Nat} (h : Sub ws (u ++ opp v)) : Cos ws u v := h
theorem picA : Pic dA [[0, 0]] where
  inv := fun p s q h => by unfold dA at h; split at h <;> cases h <;> rfl
  loop := fun w hw => by rw [List.mem_singleton.mp hw]; rfl
  lab := ⟨lA, rfl, fun p s q h => by
    have g : Sub [[0, 0]] [0, 0] := Sub.gen (by simp)
    unfold dA at h
    split at h <;> cases h
    · exact Cos.refl _
    · exact gcos g.opp
    · exact gcos g
    · exact Cos.of_red rfl⟩
  cov := fun p s q h => by
    unfold dA at h
    split at h <;> cases h
    · exact ⟨[], [0], ⟨by decide, trivial⟩, rfl, rfl⟩
    · exact ⟨[], [1], ⟨by decide, trivial⟩, rfl, rfl⟩
    · exact ⟨[0], [], ⟨by decide, trivial⟩, rfl, rfl⟩
    · exact ⟨[1], [], ⟨by decide, trivial⟩, rfl, rfl⟩
theorem picB : Pic dB [[0, 2]] where
  inv := fun p s q h => by unfold dB at h; split at h <;> cases h <;> rfl
  loop := fun w hw => by rw [List.mem_singleton.mp hw]; rfl
  lab := ⟨lA, rfl, fun p s q h => by
    have g : Sub [[0, 2]] [0, 2] := Sub.gen (by simp)
    unfold dB at h
    split at h <;> cases h
    · exact Cos.refl _
    · exact Cos.of_red rfl
    · exact gcos g
    · exact gcos g.opp⟩
  cov := fun p s q h => by
    unfold dB at h
    split at h <;> cases h
    · exact ⟨[], [2], ⟨by decide, trivial⟩, rfl, rfl⟩
    · exact ⟨[3], [], ⟨by decide, trivial⟩, rfl, rfl⟩
    · exact ⟨[0], [], ⟨by decide, trivial⟩, rfl, rfl⟩
    · exact ⟨[], [1], ⟨by decide, trivial⟩, rfl, rfl⟩
theorem rowsA {rows : List (List (Option Nat))} (h : Picture [[0, 0]] 2 rows) : rows = [[some 1, some 1], [some 0, some 0]] :=
  h.eq (⟨dA, picA, ⟨2, by decide +kernel, by decide +kernel⟩, fun p s q e => by unfold dA at e; split at e <;> cases e <;> decide⟩ : Picture [[0, 0]] 2 _) fun _ => Iff.rfl
theorem rowsB {rows : List (List (Option Nat))} (h : Picture [[0, 2]] 4 rows) : rows = [[some 1, none, none, some 1], [none, some 0, some 0, none]] :=
  h.eq (⟨dB, picB, ⟨2, by decide +kernel, by decide +kernel⟩, fun p s q e => by unfold dB at e; split at e <;> cases e <;> decide⟩ : Picture [[0, 2]] 4 _) fun _ => Iff.rfl
theorem runA (n : Nat) (s : Nat) (hs : s < 2) : run (rowsD [[some 1, some 1], [some 0, some 0]]) 0 (List.replicate (2 * n) s) = some 0 := by
  induction n with
  | zero => rfl
  | succ n ih =>
    rw [show 2 * (n + 1) = 2 + 2 * n by omega, ← List.replicate_append_replicate, run_append]
    refine ⟨0, ?_, ih⟩
    have : s = 0 ∨ s = 1 := by omega
    rcases this with rfl | rfl <;> rfl
end MN

namespace MN
/-! the rank: lanes less spots -/
def vts (ls : List Ln) : List Nat := 0 :: ls.flatMap fun x => [x.1, x.2.2]
def nsp (ls : List Ln) : Nat := (uniq (vts ls)).length
theorem mem_vts {ls : List Ln} {v : Nat} : v ∈ vts ls ↔ v = 0 ∨ ∃ x ∈ ls, v = x.1 ∨ v = x.2.2 := by
  unfold vts
  rw [List.mem_cons, List.mem_flatMap]
  simp only [List.mem_cons, List.not_mem_nil, or_false]
theorem nd_sub {α : Type} [DecidableEq α] : ∀ (o l : List α), o.Nodup → (∀ x ∈ o, x ∈ l) → o.length ≤ l.length
  | [], _, _, _ => Nat.zero_le _
  | x :: o, l, nd, h => by
    obtain ⟨h1, h2⟩ := List.nodup_cons.mp nd
    have hx := h x List.mem_cons_self
    have := nd_sub o (l.erase x) h2 fun y hy => (List.mem_erase_of_ne (fun z => h1 (by rw [← z]; exact hy))).mpr (h y (List.mem_cons_of_mem _ hy))
    rw [List.length_erase_of_mem hx] at this
    have := List.length_pos_of_mem hx
    rw [List.length_cons]
    omega
theorem nsp_le {ls ls' : List Ln} {more : List Nat} (h : ∀ v ∈ vts ls, v ∈ vts ls' ∨ v ∈ more) : nsp ls ≤ nsp ls' + more.length := by
  unfold nsp
  rw [← List.length_append]
  refine nd_sub _ _ (uniq_nodup _) fun v hv => ?_
  rcases h v (mem_uniq.mp hv) with z | z
  · exact List.mem_append_left _ (mem_uniq.mpr z)
  · exact List.mem_append_right _ z
theorem nsp_mono {ls ls' : List Ln} (h : ∀ x ∈ ls, x ∈ ls') : nsp ls ≤ nsp ls' := by
  have := nsp_le (ls := ls) (ls' := ls') (more := []) fun v hv => .inl (by
    rcases mem_vts.mp hv with z | ⟨x, hx, z⟩
    · exact mem_vts.mpr (.inl z)
    · exact mem_vts.mpr (.inr ⟨x, h x hx, z⟩))
  simpa using this
/-- a lane to a new spot -/
theorem nsp_new {ls : List Ln} {x : Ln} {n : Nat} (hx : n = x.1 ∨ n = x.2.2) (hn : n ∉ vts ls) : nsp ls + 1 ≤ nsp (ls ++ [x]) := by
  have e : (n :: uniq (vts ls)).length ≤ (uniq (vts (ls ++ [x]))).length := by
    refine nd_sub _ _ (List.nodup_cons.mpr ⟨fun z => hn (mem_uniq.mp z), uniq_nodup _⟩) fun v hv => mem_uniq.mpr (mem_vts.mpr ?_)
    rcases List.mem_cons.mp hv with z | z
    · exact .inr ⟨x, by simp, by rw [z]; exact hx⟩
    · rcases mem_vts.mp (mem_uniq.mp z) with z | ⟨y, hy, z⟩
      · exact .inl z
      · exact .inr ⟨y, List.mem_append_left _ hy, z⟩
  exact e
/-- folding takes one spot away -/
theorem nsp_tog {ls : List Ln} {a b : Nat} (h : a < b) : nsp ls ≤ nsp (together a b ls) + 1 := by
  refine nsp_le (more := [b]) fun v hv => ?_
  by_cases vb : v = b
  · exact .inr (by simp [vb])
  · left
    have hp : phi a b v = v := if_neg vb
    rcases mem_vts.mp hv with z | ⟨x, hx, z⟩
    · exact mem_vts.mpr (.inl z)
    · refine mem_vts.mpr (.inr ⟨phiL a b x, mem_uniq.mpr (List.mem_map.mpr ⟨x, hx, rfl⟩), ?_⟩)
      rcases z with z | z
      · exact .inl (by rw [← hp, z]; rfl)
      · exact .inr (by rw [← hp, z]; rfl)
/-- the rank of lanes is at most so many -/
def Rk (ls : List Ln) (k : Nat) : Prop := ls.length + 1 ≤ nsp ls + k
theorem Rk.mono {ls : List Ln} {k k' : Nat} (R : Rk ls k) (h : k ≤ k') : Rk ls k' := by
  unfold Rk at *
  omega
theorem Rk.nil : Rk [] 0 := by
  unfold Rk nsp vts
  decide
theorem Rk.fold {ls : List Ln} {k : Nat} (R : Rk ls k) (hn : ls.Nodup) {p s a b : Nat} (ha : Ed ls p s a) (hb : Ed ls p s b) (hab : a < b) : Rk (together a b ls) k := by
  have h1 := together_len hn ha hb (by omega)
  have h2 := nsp_tog (ls := ls) hab
  unfold Rk at *
  omega
theorem Rk.last {ls : List Ln} {k : Nat} (R : Rk ls k) (x : Ln) : Rk (addL ls x) (k + 1) := by
  have h2 := nsp_mono (ls := ls) (ls' := addL ls x) fun y hy => mem_addL.mpr (.inl hy)
  have h1 : (addL ls x).length ≤ ls.length + 1 := by
    unfold addL
    split
    · omega
    · rw [List.length_append]; exact Nat.le_refl _
  unfold Rk at *
  omega
theorem Rk.inner {ls : List Ln} {k n spot s : Nat} (R : Rk ls k) (hb : ∀ x ∈ ls, x.1 < n ∧ x.2.2 < n) (h0 : 0 < n) : Rk (addL ls (laneOf spot s n)) k := by
  have hv : n ∉ vts ls := fun z => by
    rcases mem_vts.mp z with z | ⟨x, hx, z⟩
    · omega
    · have := hb x hx
      omega
  have hx : n = (laneOf spot s n).1 ∨ n = (laneOf spot s n).2.2 := by
    unfold laneOf
    split
    · exact .inr rfl
    · exact .inl rfl
  have hm : laneOf spot s n ∉ ls := fun z => hv (mem_vts.mpr (.inr ⟨_, z, hx⟩))
  have e : addL ls (laneOf spot s n) = ls ++ [laneOf spot s n] := if_neg hm
  rw [e]
  have := nsp_new hx hv
  unfold Rk at *
  rw [List.length_append, List.length_singleton]
  omega
/-- the entries of rows, as pairs of a spot and a sign -/
def ents (δ : Nat → Nat → Option Nat) (size : Nat) (o : List Nat) : List (Nat × Nat) := o.flatMap fun p => ((List.range size).filter fun s => (δ p s).isSome).map fun s => (p, s)
theorem ents_mem {δ : Nat → Nat → Option Nat} {size : Nat} {o : List Nat} {x : Nat × Nat} (h : x ∈ ents δ size o) : x.1 ∈ o ∧ (δ x.1 x.2).isSome := by
  unfold ents at h
  obtain ⟨p, hp, h⟩ := List.mem_flatMap.mp h
  obtain ⟨s, hs, rfl⟩ := List.mem_map.mp h
  exact ⟨hp, (List.mem_filter.mp hs).2⟩
theorem ents_nodup {δ : Nat → Nat → Option Nat} {size : Nat} : ∀ {o : List Nat}, o.Nodup → (ents δ size o).Nodup
  | [], _ => List.nodup_nil
  | p :: o, h => by
    obtain ⟨h1, h2⟩ := List.nodup_cons.mp h
    unfold ents
    rw [List.flatMap_cons]
    refine List.nodup_append.mpr ⟨?_, ents_nodup h2, fun a ha b hb e => ?_⟩
    · have hr : ((List.range size).filter fun s => (δ p s).isSome).Nodup := (List.nodup_range).sublist List.filter_sublist
      rw [List.Nodup, List.pairwise_map]
      exact List.Pairwise.imp (fun {a b} h e => h (by simpa using e)) hr
    · obtain ⟨s, _, rfl⟩ := List.mem_map.mp ha
      have := (ents_mem (show b ∈ ents δ size o from hb)).1
      rw [← e] at this
      exact h1 this
def pairs (ls : List Ln) : List (Nat × Nat) := ls.flatMap fun x => [(x.1, 2 * x.2.1), (x.2.2, 2 * x.2.1 + 1)]
theorem pairs_len (ls : List Ln) : (pairs ls).length = 2 * ls.length := by
  unfold pairs
  induction ls with
  | nil => rfl
  | cons x ls ih =>
    rw [List.flatMap_cons, List.length_append, ih, List.length_cons (as := ls)]
    show 2 + _ = _
    omega
theorem ents_le {ls : List Ln} (h1 : ∀ p s, (ld ls p s).length ≤ 1) {size : Nat} {o : List Nat} (h : o.Nodup) : (ents (dl ls) size o).length ≤ 2 * ls.length := by
  rw [← pairs_len]
  refine nd_sub _ _ (ents_nodup h) fun x hx => ?_
  obtain ⟨q, hq⟩ := Option.isSome_iff_exists.mp (ents_mem hx).2
  refine List.mem_flatMap.mpr ?_
  rcases (dl_ed h1).mp hq with ⟨a, e, h⟩ | ⟨a, e, h⟩
  · exact ⟨_, h, by rw [← e]; simp⟩
  · exact ⟨_, h, by rw [← e]; simp⟩
/-- what can be reached stands in the order -/
theorem ord_run {δ : Nat → Nat → Option Nat} {size k : Nat} (hk : (ord δ size 0 k).length = k) (hb : ∀ p s q, δ p s = some q → s < size) : ∀ {w : List Nat} {p q : Nat}, p ∈ ord δ size 0 k → run δ p w = some q → q ∈ ord δ size 0 k
  | [], p, q, hp, h => by cases h; exact hp
  | s :: w, p, q, hp, h => by
    obtain ⟨r, a, b⟩ := run_cons.mp h
    obtain ⟨i, hi⟩ := List.mem_iff_getElem?.mp hp
    exact ord_run hk hb (ord_closed hk hi (hb _ _ _ a) a) b
theorem nsp_ord {ls : List Ln} {ws : List (List Nat)} {size k : Nat} (P : Pic (dl ls) ws) (h1 : ∀ p s, (ld ls p s).length ≤ 1) (hk : (ord (dl ls) size 0 k).length = k) (hb : ∀ p s q, dl ls p s = some q → s < size) : nsp ls ≤ (ord (dl ls) size 0 k).length := by
  have z0 : 0 ∈ ord (dl ls) size 0 k := List.mem_of_getElem? (ord_head (dl ls) size 0 k)
  have both : ∀ p s q, Ed ls p s q → p ∈ ord (dl ls) size 0 k := fun p s q e => by
    obtain ⟨x, y, _, hx, _⟩ := P.cov p s q ((dl_ed h1).mpr e)
    exact ord_run hk hb z0 hx
  refine nd_sub _ _ (uniq_nodup _) fun v hv => ?_
  rcases mem_vts.mp (mem_uniq.mp hv) with z | ⟨⟨p, a, q⟩, hx, z⟩
  · rw [z]
    exact z0
  · have e : Ed ls p (2 * a) q := .inl ⟨a, rfl, hx⟩
    rcases z with z | z
    · rw [z]
      exact both _ _ _ e
    · rw [z]
      exact both _ _ _ e.back
/-- the rows' entries and the rank -/
theorem ents_rows {δ : Nat → Nat → Option Nat} {size : Nat} : ∀ (o o' : List Nat), ((o.map fun p => (ends δ size p).map fun t => t.map fun q => o'.idxOf q).map fun r => (r.filter fun t => t.isSome).length).sum = (ents δ size o).length
  | [], _ => rfl
  | p :: o, o' => by
    rw [List.map_cons, List.map_cons, List.sum_cons, ents_rows o o']
    unfold ents
    rw [List.flatMap_cons, List.length_append, List.length_map]
    congr 1
    unfold ends
    rw [List.map_map, List.filter_map, List.length_map]
    congr 2
    funext s
    show ((δ p s).map _).isSome = _
    cases δ p s <;> rfl
theorem Rk.rows {ls : List Ln} {ws : List (List Nat)} {size m : Nat} {rows : List (List (Option Nat))} (R : Rk ls m) (P : Pic (dl ls) ws) (h1 : ∀ p s, (ld ls p s).length ≤ 1) (hb : ∀ p s q, dl ls p s = some q → s < size) (h : Rows (dl ls) size 0 rows) :
    (rows.map fun r => (r.filter fun t => t.isSome).length).sum / 2 + 1 ≤ rows.length + m := by
  obtain ⟨k, hk, rfl⟩ := h
  have e1 := nsp_ord P h1 hk hb
  have e2 := ents_le h1 (size := size) (ord_nodup (dl ls) size 0 k)
  have e3 := ents_rows (δ := dl ls) (size := size) (ord (dl ls) size 0 k) (ord (dl ls) size 0 k)
  unfold rowsOf
  rw [e3, List.length_map]
  unfold Rk at R
  omega
end MN

namespace MN
/-! what a picture must be like -/
theorem plain_mid {x : List Nat} {t s : Nat} {y : List Nat} (h : Plain (x ++ t :: s :: y)) : s ≠ inv t := by
  induction x with
  | nil => exact h.1
  | cons a x ih =>
    refine ih ?_
    rw [List.cons_append] at h
    exact h.tail
/-- a spot but the start has two lanes -/
theorem Pic.two {δ : Nat → Nat → Option Nat} {ws : List (List Nat)} (P : Pic δ ws) {p s q : Nat} (h : δ p s = some q) (hp : p ≠ 0) : ∃ s' q', s' ≠ s ∧ δ p s' = some q' := by
  obtain ⟨x, y, hpl, hx, _⟩ := P.cov p s q h
  rcases List.eq_nil_or_concat x with rfl | ⟨z, t, rfl⟩
  · cases hx
    exact absurd rfl hp
  · rw [List.concat_eq_append] at hpl hx
    rw [List.append_assoc, List.singleton_append] at hpl
    have ne := plain_mid hpl
    rw [run_append] at hx
    obtain ⟨r, _, h2⟩ := hx
    exact ⟨MN.inv t, r, fun e => ne e.symm, P.inv _ _ _ (run_one.mp h2)⟩
/-- each spot but the start is reached by a lane, so it has two -/
theorem Pic.deg {δ : Nat → Nat → Option Nat} {ws : List (List Nat)} (P : Pic δ ws) {size k x : Nat} (hx : x ∈ ord δ size 0 k) (h0 : x ≠ 0) : ∃ s q s' q', s' ≠ s ∧ δ x s = some q ∧ δ x s' = some q' := by
  have r := ord_mem (δ := δ) (size := size) (st := 0) (S := fun x => x = 0 ∨ ∃ p s, δ p s = some x) (.inl rfl) (fun p s q _ e => .inr ⟨p, s, e⟩) k x hx
  rcases r with z | ⟨p, s, e⟩
  · exact absurd z h0
  · have e1 := P.inv _ _ _ e
    obtain ⟨s', q', a, b⟩ := P.two e1 h0
    exact ⟨_, _, s', q', a, e1, b⟩
end MN

namespace MN
theorem two_count {α : Type} {p : α → Bool} : ∀ {r : List α} {i j : Nat} {a b : α}, r[i]? = some a → r[j]? = some b → i < j → p a = true → p b = true → 2 ≤ (r.filter p).length
  | x :: r, 0, j + 1, a, b, ha, hb, _, pa, pb => by
    cases ha
    rw [List.filter_cons, if_pos pa, List.length_cons]
    have : 0 < (r.filter p).length := List.length_pos_of_mem (List.mem_filter.mpr ⟨List.mem_of_getElem? hb, pb⟩)
    omega
  | x :: r, i + 1, j + 1, a, b, ha, hb, h, pa, pb => by
    have := two_count (r := r) ha hb (Nat.lt_of_succ_lt_succ h) pa pb
    rw [List.filter_cons]
    split
    · rw [List.length_cons]
      omega
    · exact this
theorem rowsD_ex {rows : List (List (Option Nat))} {p s q : Nat} : rowsD rows p s = some q ↔ ∃ row, rows[p]? = some row ∧ row[s]? = some (some q) := by
  unfold rowsD
  rw [Option.join_eq_some_iff, Option.bind_eq_some_iff]
/-- a spot but the start has two lanes -/
theorem Picture.two {ws : List (List Nat)} {size : Nat} {rows : List (List (Option Nat))} (h : Picture ws size rows) {i : Nat} (hi : 0 < i) {r : List (Option Nat)} (hr : rows[i]? = some r) : 2 ≤ (r.filter fun t => t.isSome).length := by
  obtain ⟨δ, P, ⟨k, hk, rfl⟩, hb⟩ := h
  have hlen : i < (ord δ size 0 k).length := by
    have := (List.getElem?_eq_some_iff.mp hr).1
    unfold rowsOf at this
    rwa [List.length_map] at this
  have hx := List.getElem?_eq_getElem hlen
  generalize (ord δ size 0 k)[i] = x at hx
  have x0 : x ≠ 0 := fun e => by
    subst e
    have h1 := idx_at (ord_nodup δ size 0 k) hx
    have h2 := idx_at (ord_nodup δ size 0 k) (ord_head δ size 0 k)
    omega
  obtain ⟨s, q, s', q', ne, e1, e2⟩ := P.deg (List.mem_of_getElem? hx) x0
  have a1 := rowsD_at hx (hb _ _ _ e1)
  have a2 := rowsD_at hx (hb _ _ _ e2)
  rw [e1] at a1
  rw [e2] at a2
  obtain ⟨r1, b1, c1⟩ := rowsD_ex.mp a1
  obtain ⟨r2, b2, c2⟩ := rowsD_ex.mp a2
  rw [hr] at b1 b2
  cases b1
  cases b2
  rcases Nat.lt_or_ge s s' with z | z
  · exact two_count (p := fun t => t.isSome) c1 c2 z rfl rfl
  · exact two_count (p := fun t => t.isSome) c2 c1 (by omega) rfl rfl
end MN

namespace MN
/-! pictures of the empty group and of the group of one letter -/
def dE (_ _ : Nat) : Option Nat := none
theorem picE {ws : List (List Nat)} (h : ∀ w ∈ ws, w = []) : Pic dE ws where
  inv := fun _ _ _ h => nomatch h
  loop := fun w hw => by rw [h w hw]; rfl
  lab := ⟨fun _ => [], rfl, fun _ _ _ h => nomatch h⟩
  cov := fun _ _ _ h => nomatch h
theorem rowsE {ws : List (List Nat)} {rows : List (List (Option Nat))} (h0 : ∀ w ∈ ws, w = []) (h : Picture ws 4 rows) : rows = [[none, none, none, none]] :=
  h.eq (⟨dE, picE h0, ⟨1, by decide +kernel, by decide +kernel⟩, fun _ _ _ e => nomatch e⟩ : Picture ws 4 _) fun _ => Iff.rfl
def dO (p s : Nat) : Option Nat := if p = 0 ∧ s < 2 then some 0 else none
theorem run_dO : ∀ n, run dO 0 (List.replicate n 0) = some 0
  | 0 => rfl
  | n + 1 => by
    rw [List.replicate_succ]
    exact run_cons.mpr ⟨0, rfl, run_dO n⟩
theorem picO {ws : List (List Nat)} (h : ∀ w ∈ ws, ∃ n, w = List.replicate n 0) (h1 : Sub ws [0]) : Pic dO ws where
  inv := fun p s q e => by
    unfold dO at e
    split at e
    · rename_i c
      cases e
      obtain ⟨rfl, c⟩ := c
      unfold dO
      have : s = 0 ∨ s = 1 := by omega
      rcases this with rfl | rfl <;> rfl
    · cases e
  loop := fun w hw => by
    obtain ⟨n, rfl⟩ := h w hw
    exact run_dO n
  lab := ⟨fun _ => [], rfl, fun p s q e => by
    unfold dO at e
    split at e
    · rename_i c
      have : s = 0 ∨ s = 1 := by omega
      rcases this with rfl | rfl
      · exact h1
      · exact h1.opp
    · cases e⟩
  cov := fun p s q e => by
    unfold dO at e
    split at e
    · rename_i c
      cases e
      obtain ⟨rfl, c⟩ := c
      exact ⟨[], [], trivial, rfl, rfl⟩
    · cases e
theorem rowsO {ws : List (List Nat)} {rows : List (List (Option Nat))} (h0 : ∀ w ∈ ws, ∃ n, w = List.replicate n 0) (h1 : Sub ws [0]) (h : Picture ws 2 rows) : rows = [[some 0, some 0]] :=
  h.eq (⟨dO, picO h0 h1, ⟨1, by decide +kernel, by decide +kernel⟩, fun p s q e => by
    unfold dO at e
    split at e
    · omega
    · cases e⟩ : Picture ws 2 _) fun _ => Iff.rfl
end MN

namespace MN
/-! orders of points: a machine whose letters exchange the points -/
theorem plain_join : ∀ {x : List Nat} {s : Nat} {y : List Nat}, Plain (x ++ [s]) → Plain (s :: y) → Plain (x ++ s :: y)
  | [], s, y, _, h => h
  | [a], s, y, h1, h2 => ⟨h1.1, h2⟩
  | a :: b :: x, s, y, h1, h2 => ⟨h1.1, plain_join (x := b :: x) h1.2 h2⟩
theorem plain_reps (s : Nat) : ∀ n, Plain (List.replicate n s)
  | 0 => trivial
  | 1 => trivial
  | n + 2 => ⟨fun h => inv_ne s h.symm, plain_reps s (n + 1)⟩
theorem plain_init : ∀ {x y : List Nat}, Plain (x ++ y) → Plain x
  | [], _, _ => trivial
  | [_], _, _ => trivial
  | a :: b :: x, y, h => ⟨h.1, plain_init (x := b :: x) h.2⟩
theorem plain_snoc1 : ∀ {v : List Nat} {t s : Nat}, Plain (v ++ [t]) → t ≠ inv s → Plain (v ++ [t] ++ [s])
  | [], t, s, _, h => ⟨ne_inv h, trivial⟩
  | [a], t, s, h1, h => ⟨h1.1, ne_inv h, trivial⟩
  | a :: b :: v, t, s, h1, h => ⟨h1.1, plain_snoc1 (v := b :: v) h1.2 h⟩
theorem pig {g : Nat → Nat} {n : Nat} (h : ∀ j, j ≤ n → g j < n) : ∃ i j, i < j ∧ j ≤ n ∧ g i = g j := by
  refine Classical.byContradiction fun c => ?_
  have nd : ((List.range (n + 1)).map g).Nodup := by
    refine List.pairwise_iff_getElem.mpr fun i j hi hj hij e => c ⟨i, j, hij, ?_, ?_⟩
    · rw [List.length_map, List.length_range] at hj
      omega
    · simpa using e
  have := nd_sub ((List.range (n + 1)).map g) (List.range n) nd fun x hx => by
    obtain ⟨j, hj, rfl⟩ := List.mem_map.mp hx
    exact List.mem_range.mpr (h j (by have := List.mem_range.mp hj; omega))
  rw [List.length_map, List.length_range, List.length_range] at this
  omega
/-- each letter exchanges the points -/
structure Perm (d : Nat → Nat → Option Nat) (size n : Nat) : Prop where
  dom : ∀ p s, p < n → s < size → ∃ q, d p s = some q
  bd : ∀ p s q, d p s = some q → s < size ∧ q < n
  inv : Inv d
  sz : ∀ s, s < size → MN.inv s < size
  n0 : 0 < n
/-- on some points alone -/
def res (d : Nat → Nat → Option Nat) (o : List Nat) (p s : Nat) : Option Nat := if p ∈ o then d p s else none
section
variable {d : Nat → Nat → Option Nat} {size n k : Nat}
theorem res_some {o : List Nat} {p s q : Nat} : res d o p s = some q ↔ p ∈ o ∧ d p s = some q := by
  unfold res
  split
  · rename_i h
    exact ⟨fun e => ⟨h, e⟩, fun e => e.2⟩
  · rename_i h
    exact ⟨fun e => (nomatch e), fun e => absurd e.1 h⟩
theorem zero_mem (d : Nat → Nat → Option Nat) (size k : Nat) : 0 ∈ ord d size 0 k := List.mem_of_getElem? (ord_head d size 0 k)
variable (P : Perm d size n) (hk : (ord d size 0 k).length = k)
include P hk
theorem Perm.closed {p s q : Nat} (hp : p ∈ ord d size 0 k) (h : d p s = some q) : q ∈ ord d size 0 k := by
  obtain ⟨i, hi⟩ := List.mem_iff_getElem?.mp hp
  exact ord_closed hk hi (P.bd _ _ _ h).1 h
theorem Perm.run_res : ∀ {u : List Nat} {p q : Nat}, p ∈ ord d size 0 k → run d p u = some q → run (res d (ord d size 0 k)) p u = some q ∧ q ∈ ord d size 0 k
  | [], p, q, hp, h => by cases h; exact ⟨rfl, hp⟩
  | s :: u, p, q, hp, h => by
    obtain ⟨r, h1, h2⟩ := run_cons.mp h
    obtain ⟨a, b⟩ := Perm.run_res (P.closed hk hp h1) h2
    exact ⟨run_cons.mpr ⟨r, res_some.mpr ⟨hp, h1⟩, a⟩, b⟩
theorem Perm.inv_res : Inv (res d (ord d size 0 k)) := fun p s q h => by
  obtain ⟨hp, e⟩ := res_some.mp h
  exact res_some.mpr ⟨P.closed hk hp e, P.inv _ _ _ e⟩
omit hk in
theorem Perm.total : ∀ {u : List Nat} {p : Nat}, p < n → (∀ s ∈ u, s < size) → ∃ q, run d p u = some q ∧ q < n
  | [], p, hp, _ => ⟨p, rfl, hp⟩
  | s :: u, p, hp, h => by
    obtain ⟨r, hr⟩ := P.dom p s hp (h s List.mem_cons_self)
    obtain ⟨q, hq, hn⟩ := Perm.total (u := u) (P.bd _ _ _ hr).2 fun x hx => h x (List.mem_cons_of_mem _ hx)
    exact ⟨q, run_cons.mpr ⟨r, hr, hq⟩, hn⟩
omit hk in
/-- the powers of a letter come back -/
theorem Perm.cyc {p s : Nat} (hp : p < n) (hs : s < size) : ∃ j, run d p (List.replicate (j + 1) s) = some p := by
  have tot : ∀ j, ∃ q, run d p (List.replicate j s) = some q ∧ q < n := fun j => P.total hp fun x hx => by rw [(List.mem_replicate.mp hx).2]; exact hs
  obtain ⟨i, j, hij, _, e⟩ := pig (g := fun j => Classical.choose (tot j)) (n := n) fun j _ => (Classical.choose_spec (tot j)).2
  have hi := (Classical.choose_spec (tot i)).1
  have hj := (Classical.choose_spec (tot j)).1
  have e' : Classical.choose (tot i) = Classical.choose (tot j) := e
  rw [← e'] at hj
  generalize Classical.choose (tot i) = r at hi hj
  have hj' : run d p (List.replicate (j - i) s ++ List.replicate i s) = some r := by
    rw [List.replicate_append_replicate, show j - i + i = j by omega]
    exact hj
  obtain ⟨q, h1, h2⟩ := (run_append _).mp hj'
  have b1 := run_opp P.inv _ hi
  have b2 := run_opp P.inv _ h2
  rw [b1] at b2
  cases b2
  exact ⟨j - i - 1, by rw [show j - i - 1 + 1 = j - i by omega]; exact h1⟩
omit hk in
/-- a plain word to a spot that may go on by a letter -/
theorem Perm.to {s : Nat} (hs : s < size) : ∀ (m : Nat) (u : List Nat), u.length = m → Plain u → (∀ x ∈ u, x < size) → ∀ p, run d 0 u = some p → ∃ x, Plain (x ++ [s]) ∧ run d 0 x = some p
  | 0, u, hu, _, _, p, h => by
    rw [List.length_eq_zero_iff.mp hu] at h
    exact ⟨[], trivial, h⟩
  | m + 1, u, hu, hpl, hlt, p, h => by
    rcases List.eq_nil_or_concat u with rfl | ⟨v, t, rfl⟩
    · cases hu
    · rw [List.concat_eq_append] at *
      by_cases e : t = MN.inv s
      · subst e
        obtain ⟨r, h1, h2⟩ := (run_append v).mp h
        have h3 := P.inv _ _ _ (run_one.mp h2)
        rw [inv_inv] at h3
        obtain ⟨x, hx, hr⟩ := Perm.to hs m v (by simpa using hu) (plain_init hpl) (fun y hy => hlt y (List.mem_append_left _ hy)) r h1
        have hp : p < n := (P.bd _ _ _ (run_one.mp h2)).2
        obtain ⟨j, hj⟩ := P.cyc hp hs
        rw [List.replicate_succ] at hj
        obtain ⟨r', h4, h5⟩ := run_cons.mp hj
        rw [h3] at h4
        cases h4
        refine ⟨x ++ List.replicate j s, ?_, (run_append x).mpr ⟨r, hr, h5⟩⟩
        rw [List.append_assoc]
        cases j with
        | zero => exact hx
        | succ j =>
          have : List.replicate (j + 1) s ++ [s] = s :: List.replicate (j + 1) s := by
            rw [← List.replicate_succ, List.replicate_succ' (n := j + 1)]
          rw [this]
          refine plain_join hx ?_
          rw [← List.replicate_succ]
          exact plain_reps s _
      · exact ⟨v ++ [t], plain_snoc1 hpl e, h⟩
theorem Perm.reach {p : Nat} (hp : p ∈ ord d size 0 k) : ∃ u, run d 0 u = some p ∧ (∀ x ∈ u, x < size) ∧ p < n := by
  refine ord_mem (δ := d) (size := size) (st := 0) (S := fun p => ∃ u, run d 0 u = some p ∧ (∀ x ∈ u, x < size) ∧ p < n) ⟨[], rfl, (fun _ z => nomatch z), P.n0⟩ (fun p s q ⟨u, h, hu, _⟩ e => ⟨u ++ [s], (run_append u).mpr ⟨p, h, run_one.mpr e⟩, fun x hx => ?_, (P.bd _ _ _ e).2⟩) k p hp
  rcases List.mem_append.mp hx with z | z
  · exact hu x z
  · rw [List.mem_singleton.mp z]
    exact (P.bd _ _ _ e).1
theorem Perm.near {p s : Nat} (hp : p ∈ ord d size 0 k) (hs : s < size) : ∃ x, Plain (x ++ [s]) ∧ run d 0 x = some p := by
  obtain ⟨u, h, hu, _⟩ := P.reach hk hp
  exact P.to hs _ (red u) rfl (red_plain u) (fun x hx => hu x (mem_red hx)) p (run_red P.inv h)
theorem Perm.ord_res : ∀ j, ord (res d (ord d size 0 k)) size 0 j = ord d size 0 j
  | 0 => rfl
  | j + 1 => by
    rw [ord, ord, Perm.ord_res j]
    cases e : (ord d size 0 j)[j]? with
    | none => rfl
    | some p =>
      have hp : p ∈ ord d size 0 k := by
        have hm := List.mem_of_getElem? e
        rcases Nat.le_total j k with z | z
        · have : ∀ i, ∃ r, ord d size 0 (j + i) = ord d size 0 j ++ r := fun i => by
            induction i with
            | zero => exact ⟨[], by simp⟩
            | succ i ih =>
              obtain ⟨r, hr⟩ := ih
              obtain ⟨r', hr'⟩ := ord_app d size 0 (j + i)
              exact ⟨r ++ r', by rw [← Nat.add_assoc, hr', hr, List.append_assoc]⟩
          obtain ⟨r, hr⟩ := this (k - j)
          rw [show j + (k - j) = k by omega] at hr
          rw [hr]
          exact List.mem_append_left _ hm
        · have := ord_stay hk (j - k)
          rw [show k + (j - k) = j by omega] at this
          rw [this] at hm
          exact hm
      show scan _ _ _ _ = scan _ _ _ _
      unfold scan ends
      congr 1
      refine List.map_congr_left fun s _ => ?_
      exact if_pos hp
theorem Perm.rows_res : rowsOf (res d (ord d size 0 k)) size (ord d size 0 k) = rowsOf d size (ord d size 0 k) := by
  unfold rowsOf ends
  refine List.map_congr_left fun p hp => ?_
  congr 1
  refine List.map_congr_left fun s _ => ?_
  exact if_pos hp
/-- the picture of the words that bring the first point back -/
theorem Perm.picture {l : Nat → List Nat} {ws : List (List Nat)} (l0 : l 0 = []) (hrun : ∀ p ∈ ord d size 0 k, run d 0 (l p) = some p)
    (hws : ∀ w ∈ ws, ∃ p s q, p ∈ ord d size 0 k ∧ d p s = some q ∧ w = red (l p ++ [s] ++ opp (l q)))
    (hall : ∀ p s q, p ∈ ord d size 0 k → d p s = some q → s % 2 = 0 → Sub ws (l p ++ [s] ++ opp (l q))) : Picture ws size (rowsOf d size (ord d size 0 k)) := by
  have hI := P.inv_res hk
  have z := zero_mem d size k
  refine ⟨res d (ord d size 0 k), ⟨hI, fun w hw => ?_, ⟨l, l0, fun p s q h => ?_⟩, fun p s q h => ?_⟩, ⟨k, by rw [P.ord_res hk]; exact hk, by rw [P.ord_res hk, P.rows_res hk]⟩, fun p s q h => (P.bd _ _ _ (res_some.mp h).2).1⟩
  · obtain ⟨p, s, q, hp, h, rfl⟩ := hws w hw
    refine (P.run_res hk z (run_red P.inv ((run_append _).mpr ⟨q, (run_append _).mpr ⟨p, hrun p hp, run_one.mpr h⟩, ?_⟩))).1
    exact run_opp P.inv _ (hrun q (P.closed hk hp h))
  · obtain ⟨hp, e⟩ := res_some.mp h
    show Sub ws (l p ++ [s] ++ opp (l q))
    rcases Nat.mod_two_eq_zero_or_one s with m | m
    · exact hall p s q hp e m
    · have e2 := P.inv _ _ _ e
      have m2 : MN.inv s % 2 = 0 := by
        unfold MN.inv
        have := Nat.xor_mod_two_pow (a := s) (b := 1) (n := 1)
        rw [show 2 ^ 1 = 2 from rfl, m] at this
        exact this
      have := (hall q (MN.inv s) p (P.closed hk hp e) e2 m2).opp
      rw [opp_append, opp_append, opp_opp] at this
      rw [List.append_assoc]
      have o1 : opp [MN.inv s] = [s] := by show [MN.inv (MN.inv s)] = [s]; rw [inv_inv]
      rw [o1] at this
      exact this
  · obtain ⟨hp, e⟩ := res_some.mp h
    have hs := (P.bd _ _ _ e).1
    obtain ⟨x, hx, hx2⟩ := P.near hk hp hs
    obtain ⟨y, hy, hy2⟩ := P.near hk (P.closed hk hp e) (P.sz s hs)
    refine ⟨x, opp y, plain_join hx ?_, (P.run_res hk z hx2).1, run_opp hI _ (P.run_res hk z hy2).1⟩
    have := plain_opp hy
    rw [opp_append] at this
    have o1 : opp [MN.inv s] = [s] := by show [MN.inv (MN.inv s)] = [s]; rw [inv_inv]
    rw [o1] at this
    exact this
theorem Perm.rows_run {w : List Nat} {q : Nat} (h : run d 0 w = some q) : run (rowsD (rowsOf d size (ord d size 0 k))) 0 w = some ((ord d size 0 k).idxOf q) ∧ q ∈ ord d size 0 k := by
  have hr := P.run_res hk (zero_mem d size k) h
  have e := P.ord_res hk k
  have h0 : (ord (res d (ord d size 0 k)) size 0 k)[0]? = some 0 := ord_head _ _ _ _
  have z := rowsD_run (δ := res d (ord d size 0 k)) (size := size) (k := k) (by rw [e]; exact hk) (fun p s q h => (P.bd _ _ _ (res_some.mp h).2).1) h0 hr.1
  rw [e, P.rows_res hk] at z
  exact z
omit P hk in
theorem idx_zero {q : Nat} (h : q ∈ ord d size 0 k) : (ord d size 0 k).idxOf q = 0 ↔ q = 0 := by
  constructor
  · intro e
    have := at_idx h
    rw [e, ord_head] at this
    exact (Option.some.inj this).symm
  · intro e
    rw [e]
    exact idx_at (ord_nodup d size 0 k) (ord_head d size 0 k)
end
end MN

namespace G1
open PySem PySem.Spec PyProof.Rows L2
/-! == by an own __eq__ of instances with fields; an own __init__ called by both names; count(None) -/
/-- the type of what stands on the right -/
inductive OTy (H : Hp) : V → Value → Prop
  | ins {a C dx : Addr} {fs : List (Str × V)} (h : H a = some (.ins C dx fs)) : OTy H (.ref a) (.ref C)
  | lst {a : Addr} {xs : List V} (h : H a = some (.lst xs)) : OTy H (.ref a) (.type "list")
  | int (i : Int) : OTy H (.int i) (.type "int")
def rOwnI (K : PySem.W.Frag) (C : Addr) (sp : Sp) : R2 := fun x y H Q => ∃ a dx fs t, x = .ref a ∧ H a = some (.ins C dx fs) ∧ OTy H y t ∧ PySem.W.notFirst K C t = true ∧ sp [x, y] H Q (fun _ _ _ => False)
theorem op_ownI {X : Cx} {C : Addr} {k : Nat} {ps : List Str} {sp : Sp} (K : PySem.W.Frag) (hK : X.K = K) (O : OkM X.prog X.w X.K X.mg X.base C k "__eq__" ps sp) (hr : Room k X.A) : OpR X (compareOp .Eq) (rOwnI K C sp) := by
  subst hK
  intro pins s σ H x y v u Q I rx ry h
  obtain ⟨a, dx, fs, t, rfl, ha, hy, hn, q⟩ := h
  obtain ⟨f, fd, F, hm, hb⟩ := O
  cases (show v = Value.ref a from rx)
  obtain ⟨mA, J, _⟩ := ins_get I.hok ha
  obtain ⟨od, J, _⟩ := J.look
  obtain ⟨m, hF⟩ := I.fr
  have F2 := F.raw hb (.nil : Vals [] [])
  have lk : PySem.W.Looks (model X.prog X.w) s.heap (typeOf u) t := by
    cases hy with
    | ins h2 =>
      cases ry
      obtain ⟨mB, J', _⟩ := ins_get I.hok h2
      obtain ⟨od', J', _⟩ := J'.look
      exact J'.type
    | @lst b xs h2 =>
      cases (show u = Value.ref b from ry)
      obtain ⟨_, _, n, _, h1⟩ := (show ObjOk X.prog X.w H s.heap b (.lst xs) from I.hok b _ h2)
      exact (PySem.W.Looks.ld h1).andThen .now
    | int i =>
      obtain ⟨tk, rfl⟩ := (show ∃ tk, u = Value.int i tk from ry)
      exact PySem.W.Looks.of_pure rfl
  show wpAny (model X.prog X.w) X.A (richCompare .Eq (.ref a) u) _ _ _
  refine PySem.W.cmp_K (op := .Eq) (tb := t) hr.units0 hF I.ok.mod.kin J lk hn hm.at_ hm.fn ?_
  refine wpAny_mono (wpAny_call (run_fnR (us := [.ref a, u]) (vs := [.ref a, y]) F2 hr pass0 I (.cons rfl (.cons ry .nil)) (by
    show sp ([V.ref a, y] ++ []) H Q _
    exact q))) (fun w s' z => ?_) fun _ _ x => x
  obtain ⟨z', H', I', rz, qz⟩ := z
  exact SlX.cmpback rz ⟨z', H', I', rz, qz⟩
/-- an own __init__ of two, called by place or by both names, the second one first -/
def OkI2 (CX : CXT) (P : Program) (w : World) (K : PySem.W.Frag) (mg : Str → Option Value) (base : Heap) (C : Addr) (k : Nat) (p0 p1 p2 : Str) (sp : Sp) : Prop :=
  ∃ f fd, FnOk P w K mg base CX k f fd [p0, p1, p2] sp ∧ Mk K C f ∧ L2.Binds K fd [p0, p1, p2] [] ∧ KBn K fd [p0, p1, p2] 1 [p2, p1] (fun us ws => us ++ ws.reverse) (fun vs zs => vs ++ zs.reverse)
section
variable {P : Program} {w : World} {K : PySem.W.Frag} {mg : Str → Option Value} {base : Heap} {qual p0 p1 p2 : Str} {C : Addr} {st : Stmt} {k : Nat} {sp : Sp} {CX : CXT}
theorem OkI2.okI (h : OkI2 CX P w K mg base C k p0 p1 p2 sp) : OkI CX P w K mg base C k [p0, p1, p2] sp :=
  let ⟨f, fd, h1, h2, h3, _⟩ := h
  ⟨f, fd, h1, h2, h3⟩
theorem vals_rev : ∀ {vs : List V} {us : List Value}, Vals vs us → Vals vs.reverse us.reverse
  | _, _, .nil => .nil
  | _, _, .cons h r => by
    rw [List.reverse_cons, List.reverse_cons]
    exact (vals_rev r).append (.cons h .nil)
theorem oki2 (S : SrcI K C qual st) (F : ∀ f fd, Fun K "__init__" qual st f fd → FnOk P w K mg base CX k f fd [p0, p1, p2] sp)
    (h : ∀ (kV doc pm : Value) (an : Option Addr) (cdv ct : Value) (us : List Value), us.length = [p0, p1, p2].length → bindArgs (PySem.W.fnOf "__init__" qual (defArgs st) (defBody st) (defScope st) .none kV doc pm an cdv ct) ⟨us, []⟩ = pure ([p0, p1, p2].zip us))
    (h2 : ∀ (kV doc pm : Value) (an : Option Addr) (cdv ct u0 u1 u2 : Value), bindArgs (PySem.W.fnOf "__init__" qual (defArgs st) (defBody st) (defScope st) .none kV doc pm an cdv ct) ⟨[u0], [(p2, u2), (p1, u1)]⟩ = pure [(p0, u0), (p1, u1), (p2, u2)]) : OkI2 CX P w K mg base C k p0 p1 p2 sp := by
  obtain ⟨f, fd, F1, g⟩ := S
  refine ⟨f, fd, F f fd F1, g, F1.binds h, ⟨?_, fun r1 r2 => r1.append (vals_rev r2)⟩⟩
  obtain ⟨oc, od, kV, doc, pm, an, cdv, ct, osl, rfl, lk, hcd⟩ := F1.ex
  intro s us ws _ l1 l2
  match us, ws, l1, l2 with
  | [u0], [u2, u1], _, _ =>
    intro M A E Q q
    have := h2 kV doc pm an cdv ct u0 u1 u2
    show wpAny M A (bindArgs _ ⟨[u0], [(p2, u2), (p1, u1)]⟩) Q E s
    rw [this]
    exact wpAny_pure q
end
section
variable {X : Cx} {k : Nat} {x p0 p1 p2 : Str} {C : Addr} {sp : Sp} {p pos : Pos} {CX : CXT}
def tMakeO2 (C : Addr) (sp : Sp) (tk : TA) : TE := fun σ H Q => tk σ H fun zs H1 => ∃ v1 v2, zs = [v2, v1] ∧ ∀ x dx, H1 x = none → H1 dx = none → dx ≠ x → sp [.ref x, v1, v2] (upd (upd H1 dx (.own x)) x (.ins C dx [])) (fun v H2 => v = .non ∧ Q (.ref x) H2) (fun _ _ _ => False)
theorem pe_mkO2 {kws : List Keyword} {tk : TA} (hx : Passes CX X (fun _ _ _ => False)) (O : Own X.K X.mg x C) (M : OkI2 CX X.prog X.w X.K X.mg X.base C k p0 p1 p2 sp) (hr : Room (k + 1) X.A) (hg : Gl X x) (hkw : PK X kws tk)
    (hks : (backToKw pos (keywordEach kws X.env)).filterMap (·.1) = [p2, p1] := by rfl) (hall : (backToKw pos (keywordEach kws X.env)).all (·.1.isSome) = true := by rfl) (hdb : (x == ("__debug__" : Str)) = false := by decide)
    (hpl : ((backTo pos (starEach [] X.env)).any (·.1) || (backToKw pos (keywordEach kws X.env)).any (·.1.isNone)) = false := by rfl) :
    PE X (.Call (.Name x p) [] kws pos) (tMakeO2 C sp tk) := by
  obtain ⟨f, fd, F, hm, hb, hb2⟩ := M
  refine ⟨fun pins s σ H Q I h => ?_⟩
  have z := pe_makeK0 (p := p) (pos := pos) (E := fun _ _ _ => False) hm F hr hg O.g hb2 hx (tk := fun σ H Q => ∃ Q0, tk σ H Q0 ∧ ∀ zs H1, Q0 zs H1 → Q zs H1) ⟨fun pos pins s σ H Q I ⟨Q0, h0, k0⟩ => thn (hkw.run pos pins s σ H Q0 I h0) fun us s1 ⟨vs, H1, I1, r, q⟩ => ⟨vs, H1, I1, r, k0 vs H1 q⟩⟩ hall hks hdb hpl
  refine z.run pins s σ H Q I ?_
  refine ⟨_, h, ?_⟩
  rintro zs H1 ⟨v1, v2, rfl, q⟩
  exact ⟨rfl, rfl, q⟩
end
/-! list.count(None) -/
def isNn : V → Bool | .non => true | _ => false
def flatN : V → Bool | .non => true | .int _ => true | _ => false
def isNnV : Value → Bool | .none => true | _ => false
def rCntN (K : PySem.W.Frag) : V → List V → Hp → VK → Prop := fun x xs H Q => ∃ (p : Addr) (ys : List V), x = .ref p ∧ xs = [.non] ∧ SqL K H p ys ∧ ys.all flatN = true ∧ Q (.int (ys.countP isNn : Nat)) H
open PySem.SeqAt in
theorem cntN_eq {A : Around} {s : Shared} : ∀ {ys : List V} {us : List Value}, Vals ys us → ys.all flatN = true → us.countP isNnV = ys.countP isNn ∧ ∀ u ∈ us, EqAt A s u .none (isNnV u)
  | _, _, .nil, _ => ⟨rfl, fun _ z => nomatch z⟩
  | y :: ys, u :: us, .cons h r, e => by
    rw [List.all_cons, Bool.and_eq_true] at e
    obtain ⟨h1, h2⟩ := cntN_eq (A := A) (s := s) r e.2
    rw [List.countP_cons, List.countP_cons, h1]
    have k : isNnV u = isNn y ∧ EqAt A s u .none (isNnV u) := by
      cases y with
      | non =>
        cases (show u = Value.none from h)
        exact ⟨rfl, EqAt.same .none⟩
      | int i =>
        obtain ⟨t, rfl⟩ := (show ∃ t, u = Value.int i t from h)
        exact ⟨rfl, EqAt.int_none i t⟩
      | _ => exact absurd e.1 (by simp [flatN])
    rw [k.1]
    refine ⟨rfl, fun x hx => ?_⟩
    rcases List.mem_cons.mp hx with z | z
    · rw [z]
      exact k.2
    · exact h2 x z
theorem mt_lcountN {X : Cx} (K : PySem.W.Frag) (hK : X.K = K) : MtR X "list.count" (rCntN K) := by
  subst hK
  intro pins s σ H x xs v us Q I rx rxs h
  obtain ⟨p, ys, rfl, rfl, hs, hf, q⟩ := h
  cases rx
  obtain ⟨u, rfl, ru⟩ := rxs.one
  cases (show u = Value.none from ru)
  obtain ⟨its, rv, ⟨⟨cls, dd, data, sl⟩, n, ho, hc, hdn, hd⟩, hlen⟩ := I.list hs
  simp only at hc hd
  subst hc hd
  refine call_meets PySem.F.slot_list_count ⟨_, ho, rfl⟩ PySem.F.entry_list_count (PySem.F.args_list_count_2 _ _)
    (SeqAt.list_countAt p its.toArray n dd sl .none isNnV) ⟨ho, fun y hy => (cntN_eq rv hf).2 y (by simpa using hy), ?_⟩
  refine ⟨.int (ys.countP isNn : Nat), H, I.tok _, ⟨s.toks, ?_⟩, q⟩
  show Value.int ((its.toArray.toList.countP isNnV : Nat) : Int) s.toks = Value.int ((ys.countP isNn : Nat) : Int) s.toks
  rw [show its.toArray.toList = its from rfl, (cntN_eq (A := X.A) (s := s) rv hf).1]
section
variable {X : Cx} {o e : Expr} {es : List Expr} {to : TE} {t : TA} {name : Str} {apos cpos : Pos} {T id : String} {r : V → List V → Hp → VK → Prop}
theorem pe_bmK (K : PySem.W.Frag) (hK : X.K = K) (pa : PlainAttrs T) (slot : Slot T name id) (hty : typeOf (.builtin id) = pure (.type "method_descriptor")) (hm : MtR X id r) (ho : PE X o to) (ha : PA X (e :: es) t)
    (hbase : attributeBase o name X.env (eval o X.env) = eval o X.env := by rfl)
    (hfew : ((backTo cpos (starEach (e :: es) X.env)).all (fun x => !x.1) && (backToKw cpos (keywordEach [] X.env)).all (fun x => x.1.isSome)
      && decide ((e :: es).length + ([] : List Keyword).length + (if ([] : List Keyword).isEmpty then 0 else 1) < 30)) = true := by rfl)
    (hline : (apos.endLine == cpos.line) = true := by rfl) (hs : starEach (e :: es) X.env = (false, eval e X.env) :: starEach es X.env := by rfl) (hplain : (backTo cpos (starEach es X.env)).any (·.1) = false := by rfl) :
    PE X (.Call (.Attribute o name apos) (e :: es) [] cpos) (tBM K T r to t) := hK ▸ pe_bm pa slot hty hm ho ha hbase hfew hline hs hplain
end
theorem comp_enum {K : PySem.W.Frag} {a : Addr} {xs : List V} {g : TG} {tt : TT} {te : TE} {vs : List Nat} {σ : L2.St} {H1 : Hp} {Q : VK} (Pv : Addr → Nat → Hp → Prop) (h0 : ∀ D, H1 D = none → Pv D 0 (upd H1 D (.lst [])))
    (hl : ∀ D i H, H1 D = none → i ≤ xs.length → Pv D i H → SqL K H a xs)
    (hs : ∀ D i x H T, H1 D = none → xs[i]? = some x → Pv D i H → H T = none → g (.ref T) (wipe σ vs) (upd H T (.tup [.int (i : Nat), x])) fun σ2 H2 => wipe σ2 vs = wipe σ vs ∧ tt σ2 H2 fun b H3 =>
      if b = true then te σ2 H3 fun y H4 => ∃ acc, H4 D = some (.lst acc) ∧ acc.length < sizeLine ∧ Pv D (i + 1) (upd H4 D (.lst (acc ++ [y]))) else Pv D (i + 1) H3) (hd : ∀ D H, H1 D = none → Pv D xs.length H → Q (.ref D) H) : CompW (Ite K a) g tt te vs σ H1 Q := by
  intro D hD
  refine ⟨fun i m H => i + m = xs.length ∧ Pv D i H, ⟨xs.length, Nat.zero_add _, h0 D hD⟩, ?_⟩
  rintro i m H ⟨e, p⟩
  cases m with
  | zero =>
    have e' : i = xs.length := e
    subst e'
    exact .inl ⟨⟨xs, hl D _ H hD (Nat.le_refl _) p, Nat.le_refl _⟩, hd D _ hD p⟩
  | succ m =>
    have hi : i < xs.length := by omega
    have hq := hl D _ H hD (Nat.le_of_lt hi) p
    refine .inr ⟨⟨xs, _, hq, List.getElem?_eq_getElem hi⟩, fun H' => Pv D (i + 1) H', fun H' q => ⟨m, Nat.lt_succ_self m, by omega, q⟩, ?_⟩
    rintro v H' ⟨T, x, rfl, hT, rfl, hx⟩
    exact hs D i x _ T hD (hx _ hq) p hT
theorem kit_no {K : PySem.W.Frag} {C : Addr} {t : String} (h1 : PySem.W.mroIn K C (.type "object") = some true) (h2 : PySem.W.typeIn K (.ref C) = some (.type "type")) (h3 : PySem.W.subIn K (.type t) (.ref C) = some false) : PySem.W.kitOne K (.type t) (.ref C) = some false := by
  have h4 : ∃ cd, PySem.W.clsIn K C = some cd := by
    unfold PySem.W.mroIn at h1
    obtain ⟨cd, e, _⟩ := Option.bind_eq_some_iff.mp h1
    exact ⟨cd, e⟩
  obtain ⟨cd, e⟩ := h4
  unfold PySem.W.kitOne PySem.W.kitCls
  rw [show (Value.type t == Value.ref C) = false from rfl, if_neg Bool.false_ne_true]
  dsimp only
  rw [e, h2, if_pos (by rfl)]
  exact h3
end G1

namespace MN
/-! classes of words, and the first word of each spot -/
def cls (δ : Nat → Nat → Option Nat) : Nat → List Nat → Nat × List Nat
  | p, [] => (p, [])
  | p, s :: w => match δ p s with
    | some q => cls δ q w
    | none => (p, s :: w)
section
variable {δ : Nat → Nat → Option Nat} {ws : List (List Nat)}
def Stuck (δ : Nat → Nat → Option Nat) (p : Nat) (r : List Nat) : Prop := ∀ s t, r = s :: t → δ p s = none
theorem cls_split : ∀ (u : List Nat) (p : Nat), ∃ x, u = x ++ (cls δ p u).2 ∧ run δ p x = some (cls δ p u).1 ∧ Stuck δ (cls δ p u).1 (cls δ p u).2
  | [], p => ⟨[], rfl, rfl, fun _ _ e => by cases e⟩
  | s :: u, p => by
    rw [cls]
    split
    · next q hq =>
      obtain ⟨x, h1, h2, h3⟩ := cls_split u q
      refine ⟨s :: x, ?_, run_cons.mpr ⟨q, hq, h2⟩, h3⟩
      rw [List.cons_append, ← h1]
    · next hq =>
      refine ⟨[], rfl, rfl, fun a b e => ?_⟩
      cases e
      exact hq
theorem cls_of : ∀ (x r : List Nat) {p q : Nat}, run δ p x = some q → Stuck δ q r → cls δ p (x ++ r) = (q, r)
  | [], r, p, q, h, st => by
    cases h
    cases r with
    | nil => rfl
    | cons s t =>
      rw [List.nil_append, cls, st s t rfl]
  | s :: x, r, p, q, h, st => by
    obtain ⟨t, h1, h2⟩ := run_cons.mp h
    rw [List.cons_append, cls, h1]
    exact cls_of x r h2 st
theorem plain_stuck (hI : Inv δ) {y r : List Nat} {q : Nat} (hy : Plain y) (hr : Plain r) (h : run δ 0 y = some q) (st : Stuck δ q r) : Plain (y ++ r) := by
  cases r with
  | nil => rw [List.append_nil]; exact hy
  | cons s t =>
    rcases List.eq_nil_or_concat y with rfl | ⟨y', c, rfl⟩
    · exact hr
    · rw [List.concat_eq_append] at *
      obtain ⟨p0, h1, h2⟩ := (run_append y').mp h
      have h3 := hI _ _ _ (run_one.mp h2)
      have hn : s ≠ inv c := fun e => by
        have hq := st s t rfl
        rw [e, h3] at hq
        cases hq
      refine plain_join (x := y' ++ [c]) (s := s) (y := t) ?_ hr
      exact plain_snoc1 hy (ne_inv hn)
theorem plain_tl : ∀ {x r : List Nat}, Plain (x ++ r) → Plain r
  | [], _, h => h
  | _ :: _, _, h => plain_tl h.tail
theorem cls_cos (P : Pic δ ws) {u v : List Nat} (hu : Plain u) (hv : Plain v) : cls δ 0 u = cls δ 0 v ↔ Cos ws u v := by
  constructor
  · intro e
    obtain ⟨x, h1, h2, h3⟩ := cls_split (δ := δ) u 0
    obtain ⟨y, k1, k2, k3⟩ := cls_split (δ := δ) v 0
    rw [e] at h1 h2
    generalize (cls δ 0 v).1 = p at *
    generalize (cls δ 0 v).2 = r at *
    have l : run δ 0 (x ++ opp y) = some 0 := (run_append x).mpr ⟨p, h2, run_opp P.inv y k2⟩
    have := P.sub l
    rw [h1, k1]
    exact Cos.app this r
  · intro h
    have hz := P.back h
    obtain ⟨y, k1, k2, k3⟩ := cls_split (δ := δ) v 0
    have hcv : cls δ 0 v = ((cls δ 0 v).1, (cls δ 0 v).2) := rfl
    rw [hcv]
    generalize (cls δ 0 v).1 = q at *
    generalize (cls δ 0 v).2 = r at *
    have a1 : run δ 0 (red (u ++ opp v) ++ y) = some q := (run_append _).mpr ⟨0, hz, k2⟩
    have a2 := run_red P.inv a1
    have pr : Plain r := plain_tl (k1 ▸ hv)
    have a3 := plain_stuck P.inv (red_plain _) pr a2 k3
    have a4 : u = red (red (u ++ opp v) ++ y) ++ r := by
      have : red (red (red (u ++ opp v) ++ y) ++ r) = u := by
        rw [red_left, List.append_assoc, ← k1, red_left, show u ++ opp v ++ v = u ++ (opp v ++ opp (opp v)) ++ [] by rw [opp_opp]; simp, red_mid, List.append_nil]
        exact red_of_plain hu
      rw [red_of_plain a3] at this
      exact this.symm
    rw [a4]
    exact cls_of _ _ a2 k3
end
/-! words in order -/
def LL : List Nat → List Nat → Prop
  | [], _ => True
  | a :: u, b :: v => a < b ∨ a = b ∧ LL u v
  | _ :: _, [] => False
def SL (u v : List Nat) : Prop := u.length < v.length ∨ u.length = v.length ∧ LL u v
theorem LL.refl : ∀ u, LL u u
  | [] => trivial
  | _ :: u => .inr ⟨rfl, LL.refl u⟩
theorem LL.trans : ∀ {u v w : List Nat}, LL u v → LL v w → LL u w
  | [], _, _, _, _ => trivial
  | _ :: _, _ :: _, [], _, h => h.elim
  | _ :: _, [], _, h, _ => h.elim
  | a :: u, b :: v, c :: w, h, k => by
    rcases h with h | ⟨rfl, h⟩ <;> rcases k with k | ⟨rfl, k⟩
    · exact .inl (by omega)
    · exact .inl h
    · exact .inl k
    · exact .inr ⟨rfl, h.trans k⟩
theorem LL.anti : ∀ {u v : List Nat}, LL u v → LL v u → u = v
  | [], [], _, _ => rfl
  | [], _ :: _, _, h => h.elim
  | _ :: _, [], h, _ => h.elim
  | a :: u, b :: v, h, k => by
    rcases h with h | ⟨rfl, h⟩ <;> rcases k with k | ⟨e, k⟩
    · omega
    · omega
    · omega
    · rw [h.anti k]
theorem LL.app_eq : ∀ (u : List Nat) {x y : List Nat}, LL x y → LL (u ++ x) (u ++ y)
  | [], _, _, h => h
  | _ :: u, _, _, h => .inr ⟨rfl, LL.app_eq u h⟩
theorem LL.app_ne : ∀ {u v : List Nat} (x y : List Nat), u.length = v.length → LL u v → u ≠ v → LL (u ++ x) (v ++ y)
  | [], [], _, _, _, _, n => absurd rfl n
  | [], _ :: _, _, _, e, _, _ => by cases e
  | _ :: _, [], _, _, e, _, _ => by cases e
  | a :: u, b :: v, x, y, e, h, n => by
    rcases h with h | ⟨rfl, h⟩
    · exact .inl h
    · exact .inr ⟨rfl, LL.app_ne x y (by simpa using e) h fun k => n (by rw [k])⟩
theorem SL.refl (u : List Nat) : SL u u := .inr ⟨rfl, LL.refl u⟩
theorem SL.trans {u v w : List Nat} (h : SL u v) (k : SL v w) : SL u w := by
  rcases h with h | ⟨h, h'⟩ <;> rcases k with k | ⟨k, k'⟩
  · exact .inl (by omega)
  · exact .inl (by omega)
  · exact .inl (by omega)
  · exact .inr ⟨by omega, h'.trans k'⟩
theorem SL.anti {u v : List Nat} (h : SL u v) (k : SL v u) : u = v := by
  rcases h with h | ⟨h, h'⟩ <;> rcases k with k | ⟨k, k'⟩
  · omega
  · omega
  · omega
  · exact h'.anti k'
theorem SL.nil (u : List Nat) : SL [] u := by
  cases u with
  | nil => exact .refl _
  | cons a u => exact .inl (by simp)
theorem SL.app {u v : List Nat} (h : SL u v) (r : List Nat) : SL (u ++ r) (v ++ r) := by
  rcases h with h | ⟨h, h'⟩
  · exact .inl (by simp only [List.length_append]; omega)
  · refine .inr ⟨by simp only [List.length_append]; omega, ?_⟩
    by_cases e : u = v
    · rw [e]; exact LL.refl _
    · exact LL.app_ne _ _ h h' e
/-- a lesser word stays less, whatever letter follows -/
theorem SL.lt {u v : List Nat} (h : SL u v) (n : u ≠ v) (a b : Nat) : SL (u ++ [a]) (v ++ [b]) ∧ u ++ [a] ≠ v ++ [b] := by
  refine ⟨?_, fun e => n ?_⟩
  · rcases h with h | ⟨h, h'⟩
    · exact .inl (by simp only [List.length_append, List.length_singleton]; omega)
    · exact .inr ⟨by simp only [List.length_append, List.length_singleton]; omega, LL.app_ne _ _ h h' n⟩
  · exact (List.append_inj' e rfl).1
theorem SL.last {u : List Nat} {a b : Nat} (h : a ≤ b) : SL (u ++ [a]) (u ++ [b]) := by
  refine .inr ⟨by simp, LL.app_eq u ?_⟩
  rcases Nat.lt_or_eq_of_le h with h | h
  · exact .inl h
  · exact .inr ⟨h, trivial⟩
/-! rows that are numbered in order -/
structure Numb (d : Nat → Nat → Option Nat) (n : Nat) : Prop where
  lead : ∀ q, 0 < q → q < n → ∃ p s, p < q ∧ d p s = some q
  less : ∀ q q' p' s', 0 < q → q < q' → d p' s' = some q' → ∃ p s, d p s = some q ∧ (p < p' ∨ p = p' ∧ s < s')
/-- the first lane that leads to a spot -/
def First (d : Nat → Nat → Option Nat) (q p s : Nat) : Prop := d p s = some q ∧ ∀ p' s', d p' s' = some q → p < p' ∨ p = p' ∧ s ≤ s'
/-- words along first lanes -/
inductive Fw (d : Nat → Nat → Option Nat) : Nat → List Nat → Prop
  | zero : Fw d 0 []
  | next {q p s : Nat} {w : List Nat} : 0 < q → p < q → First d q p s → Fw d p w → Fw d q (w ++ [s])
section
variable {d : Nat → Nat → Option Nat} {n : Nat}
theorem Fw.run {q : Nat} {w : List Nat} (h : Fw d q w) : run d 0 w = some q := by
  induction h with
  | zero => rfl
  | next _ _ f _ ih => exact (run_append _).mpr ⟨_, ih, run_one.mpr f.1⟩
theorem First.uniq {q p s p' s' : Nat} (h : First d q p s) (k : First d q p' s') : p = p' ∧ s = s' := by
  have a := h.2 _ _ k.1
  have b := k.2 _ _ h.1
  omega
theorem Fw.uniq {q : Nat} {w : List Nat} (h : Fw d q w) : ∀ {v}, Fw d q v → w = v := by
  induction h with
  | zero =>
    intro v k
    cases k with
    | zero => rfl
    | next h => omega
  | next z _ f _ ih =>
    intro v k
    cases k with
    | zero => omega
    | next _ _ f' h' =>
      obtain ⟨rfl, rfl⟩ := f.uniq f'
      rw [ih h']
theorem Fw.mono (N : Numb d n) : ∀ (q' q : Nat) {w w' : List Nat}, q < q' → Fw d q w → Fw d q' w' → SL w w' ∧ w ≠ w' := by
  intro q'
  induction q' using Nat.strongRecOn with
  | ind q' ih =>
    intro q w w' hlt h h'
    cases h' with
    | zero => omega
    | @next _ p' s' v' z' l' f' k' =>
      cases h with
      | zero => exact ⟨.nil _, fun e => by simp at e⟩
      | @next _ p s v z l f k =>
        obtain ⟨p1, s1, e1, o1⟩ := N.less q q' p' s' z hlt f'.1
        have o2 := f.2 _ _ e1
        by_cases e : p = p'
        · subst e
          rw [k.uniq k']
          have : s < s' := by omega
          exact ⟨SL.last (by omega), fun e => by have := List.append_inj_right' e rfl; simp at this; omega⟩
        · have hp : p < p' := by omega
          obtain ⟨a, b⟩ := ih p' l' p hp k k'
          exact a.lt b _ _
theorem Fw.least (N : Numb d n) : ∀ (m : Nat) {y w : List Nat} {q : Nat}, y.length = m → MN.run d 0 y = some q → Fw d q w → (∀ p, (∃ x, MN.run d 0 x = some p) → ∃ v, Fw d p v) → SL w y := by
  intro m
  induction m with
  | zero =>
    intro y w q hy hr h _
    have : y = [] := List.length_eq_zero_iff.mp hy
    subst this
    cases hr
    cases h with
    | zero => exact .refl _
    | next z => omega
  | succ m ih =>
    intro y w q hy hr h all
    rcases List.eq_nil_or_concat y with rfl | ⟨y', s', rfl⟩
    · cases hy
    rw [List.concat_eq_append] at *
    obtain ⟨p', h1, h2⟩ := (run_append y').mp hr
    have h3 := run_one.mp h2
    obtain ⟨v', hv'⟩ := all p' ⟨y', h1⟩
    have l1 := ih (by simpa using hy) h1 hv' all
    cases h with
    | zero => exact .nil _
    | @next _ p s v z l f k =>
      have o := f.2 _ _ h3
      by_cases e : p = p'
      · subst e
        rw [k.uniq hv']
        exact SL.trans (SL.last (b := s') (by omega)) (l1.app _)
      · have hp : p < p' := by omega
        obtain ⟨a, b⟩ := Fw.mono N p' p hp k hv'
        exact SL.trans (a.lt b s s').1 (l1.app _)
end
/-! rows that are numbered as they are found are numbered in order -/
theorem put_len (o : List Nat) (t : Option Nat) : (put o t).length ≤ o.length + 1 := by
  unfold put
  split
  · split
    · exact Nat.le_succ _
    · simp
  · exact Nat.le_succ _
theorem puts_le (ts : List (Option Nat)) (o : List Nat) : o.length ≤ (ts.foldl put o).length := by
  obtain ⟨r, h⟩ := puts_app ts o
  rw [h, List.length_append]
  omega
theorem puts_take (ts : List (Option Nat)) (o : List Nat) {a b : Nat} (h : a ≤ b) : ((ts.take a).foldl put o).length ≤ ((ts.take b).foldl put o).length := by
  have : ts.take b = ts.take a ++ (ts.take b).drop a := by
    conv => lhs; rw [← List.take_append_drop a (ts.take b)]
    rw [List.take_take, Nat.min_eq_left h]
  rw [this, List.foldl_append]
  exact puts_le _ _
theorem puts_one {ts : List (Option Nat)} (o : List Nat) {s : Nat} {x : Option Nat} (h : ts[s]? = some x) : (ts.take (s + 1)).foldl put o = put ((ts.take s).foldl put o) x := by
  rw [List.take_add_one, h, List.foldl_append]
  rfl
/-- where a spot is found -/
theorem puts_when : ∀ (ts : List (Option Nat)) (o : List Nat) {j x : Nat}, o.length ≤ j → (ts.foldl put o)[j]? = some x → ∃ s, ts[s]? = some (some x) ∧ ((ts.take s).foldl put o).length = j ∧ x ∉ (ts.take s).foldl put o
  | [], o, j, x, h, e => by
    rw [List.foldl_nil] at e
    have := (List.getElem?_eq_some_iff.mp e).1
    omega
  | t :: ts, o, j, x, h, e => by
    rw [List.foldl_cons] at e
    rcases Nat.lt_or_ge j (put o t).length with z | z
    · obtain ⟨r, hr⟩ := puts_app ts (put o t)
      rw [hr, List.getElem?_append_left z] at e
      cases t with
      | none =>
        have : (put o none).length = o.length := rfl
        omega
      | some y =>
        unfold put at e z
        dsimp only at e z
        split at e
        · rename_i hy
          rw [if_pos hy] at z
          omega
        · rename_i hy
          rw [if_neg hy, List.length_append, List.length_singleton] at z
          have ej : j = o.length := by omega
          subst ej
          rw [List.getElem?_append_right (Nat.le_refl _), Nat.sub_self] at e
          cases e
          exact ⟨0, rfl, rfl, hy⟩
    · obtain ⟨s, h1, h2, h3⟩ := puts_when ts (put o t) z e
      exact ⟨s + 1, h1, h2, h3⟩
theorem ord_len (δ : Nat → Nat → Option Nat) (size st : Nat) {a b : Nat} (h : a ≤ b) : (ord δ size st a).length ≤ (ord δ size st b).length := by
  obtain ⟨r, hr⟩ := ord_pre δ size st a (b - a)
  rw [show a + (b - a) = b by omega] at hr
  rw [hr, List.length_append]
  omega
theorem grow_at {f : Nat → Nat} {q : Nat} : ∀ (k : Nat), f 0 ≤ q → q < f k → ∃ i, i < k ∧ f i ≤ q ∧ q < f (i + 1)
  | 0, h, k => by omega
  | k + 1, h, l => by
    rcases Nat.lt_or_ge q (f k) with z | z
    · obtain ⟨i, a, b, c⟩ := grow_at k h z
      exact ⟨i, by omega, b, c⟩
    · exact ⟨k, by omega, z, l⟩
section
variable {δ : Nat → Nat → Option Nat} {size k : Nat}
/-- the stage and the sign at which a spot is found -/
theorem found_at (hk : (ord δ size 0 k).length = k) {q : Nat} (h0 : 0 < q) (hq : q < k) : ∃ i p s y, i < q ∧ (ord δ size 0 k)[i]? = some p ∧ s < size ∧ δ p s = some y ∧ (ord δ size 0 k)[q]? = some y ∧ (ord δ size 0 i).length ≤ q ∧ (((ends δ size p).take s).foldl put (ord δ size 0 i)).length = q := by
  obtain ⟨i, hi, h1, h2⟩ := grow_at (f := fun i => (ord δ size 0 i).length) k (by show (1 : Nat) ≤ q; omega) (by show q < (ord δ size 0 k).length; omega)
  have h1' : (ord δ size 0 i).length ≤ q := h1
  have h2' : q < (ord δ size 0 (i + 1)).length := h2
  cases e : (ord δ size 0 i)[i]? with
  | none =>
    rw [ord, e] at h2'
    dsimp only at h2'
    omega
  | some p =>
    have il := (List.getElem?_eq_some_iff.mp e).1
    rw [ord, e] at h2'
    dsimp only at h2'
    obtain ⟨y, hy⟩ : ∃ y, (scan δ size p (ord δ size 0 i))[q]? = some y := ⟨_, List.getElem?_eq_getElem h2'⟩
    obtain ⟨s, a, b, c⟩ := puts_when _ _ h1' hy
    have hs : s < size := by
      have := (List.getElem?_eq_some_iff.mp a).1
      unfold ends at this
      rw [List.length_map, List.length_range] at this
      exact this
    have hd : δ p s = some y := by
      unfold ends at a
      rw [List.getElem?_map, List.getElem?_range hs] at a
      exact Option.some.inj a
    obtain ⟨r, hr⟩ := ord_pre δ size 0 i (k - i)
    rw [show i + (k - i) = k by omega] at hr
    obtain ⟨r2, hr2⟩ := ord_pre δ size 0 (i + 1) (k - (i + 1))
    rw [show i + 1 + (k - (i + 1)) = k by omega] at hr2
    refine ⟨i, p, s, y, by omega, ?_, hs, hd, ?_, h1', b⟩
    · rw [hr, List.getElem?_append_left il, e]
    · rw [hr2, List.getElem?_append_left (by rw [ord, e]; exact h2'), ord, e]
      exact hy
theorem numb_of (hk : (ord δ size 0 k).length = k) : Numb (rowsD (rowsOf δ size (ord δ size 0 k))) k where
  lead := fun q h0 hq => by
    obtain ⟨i, p, s, y, a, b, c, d, e, _, _⟩ := found_at hk h0 hq
    exact ⟨i, s, a, by rw [rowsD_at b c, d, Option.map_some, idx_at (ord_nodup δ size 0 k) e]⟩
  less := fun q q' p' s' h0 hlt h => by
    obtain ⟨x', y', hx, hs, hd, rfl⟩ := rowsD_of h
    have hp : p' < k := by
      have := (List.getElem?_eq_some_iff.mp hx).1
      omega
    have hy := ord_closed hk hx hs hd
    have hyk : (ord δ size 0 k).idxOf y' < k := by
      have := List.idxOf_lt_length_iff.mpr hy
      omega
    obtain ⟨i, p, s, y, a, b, c, d, e, l1, l2⟩ := found_at hk h0 (q := q) (by omega)
    refine ⟨i, s, by rw [rowsD_at b c, d, Option.map_some, idx_at (ord_nodup δ size 0 k) e], ?_⟩
    -- the other one is found before the lane after it
    have hl : p' < (ord δ size 0 p').length := by
      rcases Nat.lt_or_ge p' (ord δ size 0 p').length with h | h
      · exact h
      · have := ord_stuck h (k - p')
        rw [show p' + (k - p') = k by omega] at this
        rw [this] at hk
        omega
    obtain ⟨r, hr⟩ := ord_pre δ size 0 p' (k - p')
    rw [show p' + (k - p') = k by omega] at hr
    have hx2 : (ord δ size 0 p')[p']? = some x' := by
      rw [hr, List.getElem?_append_left hl] at hx
      exact hx
    have hsc : ord δ size 0 (p' + 1) = (ends δ size x').foldl put (ord δ size 0 p') := by
      rw [ord, hx2]
      rfl
    have hen : (ends δ size x')[s']? = some (some y') := by
      unfold ends
      rw [List.getElem?_map, List.getElem?_range hs, ← hd]
      rfl
    have hone := puts_one (ord δ size 0 p') hen
    have hin : y' ∈ ((ends δ size x').take (s' + 1)).foldl put (ord δ size 0 p') := by
      rw [hone]
      exact put_in
    have hpre : ∃ r, ord δ size 0 k = ((ends δ size x').take (s' + 1)).foldl put (ord δ size 0 p') ++ r := by
      obtain ⟨r2, hr2⟩ := ord_pre δ size 0 (p' + 1) (k - (p' + 1))
      rw [show p' + 1 + (k - (p' + 1)) = k by omega, hsc] at hr2
      obtain ⟨r3, h3⟩ := puts_app ((ends δ size x').drop (s' + 1)) (((ends δ size x').take (s' + 1)).foldl put (ord δ size 0 p'))
      rw [← List.foldl_append, List.take_append_drop] at h3
      exact ⟨r3 ++ r2, by rw [hr2, h3, List.append_assoc]⟩
    have hix : (ord δ size 0 k).idxOf y' < (((ends δ size x').take (s' + 1)).foldl put (ord δ size 0 p')).length := by
      obtain ⟨r4, h4⟩ := hpre
      rw [h4, List.idxOf_append, if_pos hin]
      exact List.idxOf_lt_length_iff.mpr hin
    have h6 := put_len (((ends δ size x').take s').foldl put (ord δ size 0 p')) (some y')
    rw [← hone] at h6
    have h7 : (((ends δ size x').take (s' + 1)).foldl put (ord δ size 0 p')).length ≤ (ord δ size 0 (p' + 1)).length := by
      rw [hsc]
      have := puts_take (ends δ size x') (ord δ size 0 p') (a := s' + 1) (b := (ends δ size x').length) (by have := (List.getElem?_eq_some_iff.mp hen).1; omega)
      rwa [List.take_length] at this
    rcases Nat.lt_trichotomy i p' with h | h | h
    · exact .inl h
    · subst h
      rw [b] at hx
      cases hx
      refine .inr ⟨rfl, ?_⟩
      rcases Nat.lt_or_ge s s' with z | z
      · exact z
      · have := puts_take (ends δ size x') (ord δ size 0 i) z
        omega
    · have := ord_len δ size 0 (show p' + 1 ≤ i by omega)
      omega
end
theorem Picture.numb {ws : List (List Nat)} {size : Nat} {rows : List (List (Option Nat))} (h : Picture ws size rows) : Numb (rowsD rows) rows.length := by
  obtain ⟨δ, _, ⟨k, hk, rfl⟩, _⟩ := h
  have := numb_of hk
  rw [show (rowsOf δ size (ord δ size 0 k)).length = k by unfold rowsOf; rw [List.length_map, hk]]
  exact this
end MN

namespace MN
/-! sums of the signs of the letter a, kept by groups up to a number -/
def ex (s : Nat) : Int := if s = 0 then 1 else if s = 1 then -1 else 0
def exL (l : List Nat) : Int := (l.map ex).sum
theorem ex_inv (s : Nat) : ex (inv s) = - ex s := by
  unfold ex inv
  rcases Nat.lt_or_ge s 2 with h | h
  · have : s = 0 ∨ s = 1 := by omega
    rcases this with rfl | rfl <;> decide
  · have h1 : 2 ≤ s ^^^ 1 := by
      rcases Nat.lt_or_ge (s ^^^ 1) 2 with z | z
      · have : s ^^^ 1 = 0 ∨ s ^^^ 1 = 1 := by omega
        have e : s = (s ^^^ 1) ^^^ 1 := by rw [Nat.xor_assoc, Nat.xor_self, Nat.xor_zero]
        rcases this with y | y <;> rw [y] at e <;> simp at e <;> omega
      · exact z
    rw [if_neg (by omega), if_neg (by omega), if_neg (by omega), if_neg (by omega)]
    rfl
theorem exL_app (u v : List Nat) : exL (u ++ v) = exL u + exL v := by
  unfold exL
  rw [List.map_append, List.sum_append]
theorem exL_cons (s : Nat) (v : List Nat) : exL (s :: v) = ex s + exL v := by
  unfold exL
  rw [List.map_cons, List.sum_cons]
theorem exL_rev : ∀ v : List Nat, exL v.reverse = exL v
  | [] => rfl
  | s :: v => by
    rw [List.reverse_cons, exL_app, exL_rev v, exL_cons, exL_cons]
    show exL v + (ex s + exL []) = _
    show exL v + (ex s + 0) = _
    omega
theorem exL_stk : ∀ (l st : List Nat), exL (stk st l) = exL st + exL l
  | [], st => by show exL st = exL st + 0; omega
  | c :: l, st => by
    show exL (stk (step st c) l) = _
    rw [exL_stk l, exL_cons]
    have : exL (step st c) = exL st + ex c := by
      unfold step
      cases st with
      | nil => show ex c + 0 = 0 + ex c; omega
      | cons t r =>
        dsimp only
        split
        · rename_i h
          rw [exL_cons, h, ex_inv]
          omega
        · rw [exL_cons]
          omega
    omega
theorem exL_red (l : List Nat) : exL (red l) = exL l := by
  unfold red
  rw [exL_rev, exL_stk]
  show 0 + _ = _
  omega
theorem exL_opp : ∀ l : List Nat, exL (opp l) = - exL l
  | [] => rfl
  | s :: l => by
    rw [opp_cons, exL_app, exL_opp l, exL_cons, exL_cons, ex_inv]
    show _ + (_ + 0) = _
    omega
theorem Sub.ex {ws : List (List Nat)} {k : Int} (h : ∀ w ∈ ws, k ∣ exL w) {u : List Nat} (hu : Sub ws u) : k ∣ exL u := by
  induction hu with
  | nil => exact ⟨0, by show (0 : Int) = k * 0; omega⟩
  | mul _ hw ih =>
    rw [exL_app]
    exact Int.dvd_add ih (h _ hw)
  | mulo _ hw ih =>
    rw [exL_app, exL_opp]
    exact Int.dvd_add ih (Int.dvd_neg.mpr (h _ hw))
  | red _ e ih => rw [← exL_red, ← e, exL_red]; exact ih
theorem exL_rep (n s : Nat) : exL (List.replicate n s) = n * ex s := by
  induction n with
  | zero => simp [exL]
  | succ n ih => rw [List.replicate_succ, exL_cons, ih]; push_cast; rw [Int.add_mul]; omega
/-- a word whose sum is as great as its length below nothing is made of A alone -/
theorem exL_bound : ∀ l : List Nat, - (l.length : Int) ≤ exL l ∧ exL l ≤ l.length
  | [] => by decide
  | s :: l => by
    obtain ⟨a, b⟩ := exL_bound l
    rw [exL_cons, List.length_cons]
    have : -1 ≤ ex s ∧ ex s ≤ 1 := by unfold ex; split <;> (try split) <;> omega
    push_cast
    omega
theorem exL_all : ∀ l : List Nat, exL l = - (l.length : Int) → l = List.replicate l.length 1
  | [], _ => rfl
  | s :: l, h => by
    obtain ⟨a, b⟩ := exL_bound l
    rw [exL_cons, List.length_cons] at h
    push_cast at h
    have h1 : ex s = -1 := by
      have : -1 ≤ ex s ∧ ex s ≤ 1 := by unfold ex; split <;> (try split) <;> omega
      omega
    have hs : s = 1 := by
      unfold ex at h1
      split at h1
      · omega
      · split at h1
        · assumption
        · omega
    rw [List.length_cons, List.replicate_succ, ← exL_all l (by omega), hs]
/-! the group of one word ab -/
def dR (p s : Nat) : Option Nat := if (p = 0 ∧ s = 0) ∨ (p = 0 ∧ s = 3) then some 1 else if (p = 1 ∧ s = 1) ∨ (p = 1 ∧ s = 2) then some 0 else none
theorem dR_iff {p s q : Nat} : dR p s = some q ↔ (p = 0 ∧ s = 0 ∧ q = 1) ∨ (p = 0 ∧ s = 3 ∧ q = 1) ∨ (p = 1 ∧ s = 1 ∧ q = 0) ∨ (p = 1 ∧ s = 2 ∧ q = 0) := by
  unfold dR
  split
  · simp only [Option.some.injEq]
    omega
  · split
    · simp only [Option.some.injEq]
      omega
    · simp only [reduceCtorEq, false_iff]
      omega
theorem picR {ws : List (List Nat)} (h : ∀ w ∈ ws, w = [0, 2]) (h1 : Sub ws [0, 2]) : Pic dR ws where
  inv := fun p s q e => by
    rcases dR_iff.mp e with ⟨rfl, rfl, rfl⟩ | ⟨rfl, rfl, rfl⟩ | ⟨rfl, rfl, rfl⟩ | ⟨rfl, rfl, rfl⟩ <;> rfl
  loop := fun w hw => by rw [h w hw]; rfl
  lab := ⟨fun p => if p = 1 then [0] else [], rfl, fun p s q e => by
    rcases dR_iff.mp e with ⟨rfl, rfl, rfl⟩ | ⟨rfl, rfl, rfl⟩ | ⟨rfl, rfl, rfl⟩ | ⟨rfl, rfl, rfl⟩
    · exact Cos.refl _
    · exact h1.opp
    · exact Cos.of_red rfl
    · exact h1⟩
  cov := fun p s q e => by
    rcases dR_iff.mp e with ⟨rfl, rfl, rfl⟩ | ⟨rfl, rfl, rfl⟩ | ⟨rfl, rfl, rfl⟩ | ⟨rfl, rfl, rfl⟩
    · exact ⟨[], [2], ⟨by decide, trivial⟩, rfl, rfl⟩
    · exact ⟨[], [1], ⟨by decide, trivial⟩, rfl, rfl⟩
    · exact ⟨[3], [], ⟨by decide, trivial⟩, rfl, rfl⟩
    · exact ⟨[0], [], ⟨by decide, trivial⟩, rfl, rfl⟩
theorem rowsR {ws : List (List Nat)} {rows : List (List (Option Nat))} (h0 : ∀ w ∈ ws, w = [0, 2]) (h1 : Sub ws [0, 2]) (h : Picture ws 4 rows) : rows = [[some 1, none, none, some 1], [none, some 0, some 0, none]] :=
  h.eq (⟨dR, picR h0 h1, ⟨2, by decide +kernel, by decide +kernel⟩, fun p s q e => by
    rcases dR_iff.mp e with ⟨rfl, rfl, rfl⟩ | ⟨rfl, rfl, rfl⟩ | ⟨rfl, rfl, rfl⟩ | ⟨rfl, rfl, rfl⟩ <;> decide⟩ : Picture ws 4 _) fun _ => Iff.rfl
theorem rowsE2 {ws : List (List Nat)} {rows : List (List (Option Nat))} (h0 : ∀ w ∈ ws, w = []) (h : Picture ws 2 rows) : rows = [[none, none]] :=
  h.eq (⟨dE, picE h0, ⟨1, by decide +kernel, by decide +kernel⟩, fun _ _ _ e => nomatch e⟩ : Picture ws 2 _) fun _ => Iff.rfl
/-- a lane by the first sign at the start leads to spot 1, or back -/
theorem Numb.one {d : Nat → Nat → Option Nat} {n q : Nat} (N : Numb d n) (h : d 0 0 = some q) (hq : q ≠ 0) : q = 1 := by
  rcases Nat.lt_or_ge 1 q with z | z
  · obtain ⟨p, s, _, o⟩ := N.less 1 q 0 0 (by decide) z h
    omega
  · omega
/-! machines told by their lanes ahead -/
theorem pic_fwd {δ : Nat → Nat → Option Nat} {ws : List (List Nat)} {l : Nat → List Nat} (hI : Inv δ) (hl : ∀ w ∈ ws, run δ 0 w = some 0) (l0 : l 0 = []) (F : Nat → Prop) (hF : ∀ s, F s ∨ F (inv s))
    (lab : ∀ p s q, F s → δ p s = some q → Cos ws (l p ++ [s]) (l q)) (cov : ∀ p s q, F s → δ p s = some q → ∃ x y, Plain (x ++ s :: y) ∧ run δ 0 x = some p ∧ run δ q y = some 0) : Pic δ ws where
  inv := hI
  loop := hl
  lab := ⟨l, l0, fun p s q e => by
    rcases hF s with h | h
    · exact lab p s q h e
    · have h1 := (lab q (inv s) p h (hI _ _ _ e)).app [s]
      have h2 : Cos ws (l q ++ [inv s] ++ [s]) (l q) := Cos.of_red (by
        have := red_pair (l q) [] (inv s)
        rw [inv_inv, List.append_nil] at this
        rw [List.append_assoc]
        exact this)
      exact h1.symm.trans h2⟩
  cov := fun p s q e => by
    rcases hF s with h | h
    · exact cov p s q h e
    · obtain ⟨x, y, h1, h2, h3⟩ := cov q (inv s) p h (hI _ _ _ e)
      refine ⟨opp y, opp x, ?_, by have := run_opp hI y h3; exact this, by have := run_opp hI x h2; exact this⟩
      have := plain_opp h1
      rw [opp_append, opp_cons, inv_inv, List.append_assoc] at this
      exact this
/-! the group of a^200 and b^101 -/
def dG (p s : Nat) : Option Nat :=
  if s = 0 then (if p < 199 then some (p + 1) else if p = 199 then some 0 else none)
  else if s = 1 then (if p = 0 then some 199 else if p < 200 then some (p - 1) else none)
  else if s = 2 then (if p = 0 then some 200 else if 200 ≤ p ∧ p < 299 then some (p + 1) else if p = 299 then some 0 else none)
  else if s = 3 then (if p = 0 then some 299 else if p = 200 then some 0 else if 200 < p ∧ p < 300 then some (p - 1) else none)
  else none
theorem dG_lt {p s q : Nat} (h : dG p s = some q) : q < 300 ∧ s < 4 := by
  unfold dG at h
  repeat' split at h
  all_goals first | (cases h; omega) | (cases h)
theorem dG_inv : Inv dG := fun p s q h => by
  have h4 := (dG_lt h).2
  have : s = 0 ∨ s = 1 ∨ s = 2 ∨ s = 3 := by omega
  rcases this with rfl | rfl | rfl | rfl
  · show dG q 1 = _
    unfold dG at h ⊢
    simp only [reduceIte, Nat.reduceEqDiff, if_false] at h ⊢
    repeat' split at h
    all_goals first | (cases h; repeat' split) | (cases h)
    all_goals first | omega | (congr 1; omega) | rfl
  · show dG q 0 = _
    unfold dG at h ⊢
    simp only [reduceIte, Nat.reduceEqDiff, if_false] at h ⊢
    repeat' split at h
    all_goals first | (cases h; repeat' split) | (cases h)
    all_goals first | omega | (congr 1; omega) | rfl
  · show dG q 3 = _
    unfold dG at h ⊢
    simp only [reduceIte, Nat.reduceEqDiff, if_false] at h ⊢
    repeat' split at h
    all_goals first | (cases h; repeat' split) | (cases h)
    all_goals first | omega | (congr 1; omega) | rfl
  · show dG q 2 = _
    unfold dG at h ⊢
    simp only [reduceIte, Nat.reduceEqDiff, if_false] at h ⊢
    repeat' split at h
    all_goals first | (cases h; repeat' split) | (cases h)
    all_goals first | omega | (congr 1; omega) | rfl
def pA (p : Nat) : List Nat := List.replicate p 0
def pB (p : Nat) : List Nat := List.replicate p 2
theorem runGa : ∀ p, p < 200 → run dG 0 (pA p) = some p ∧ run dG p (pA (200 - p)) = some 0 := by decide +kernel
theorem runGb : ∀ p, p < 100 → run dG 0 (pB (p + 1)) = some (p + 200) ∧ run dG (p + 200) (pB (100 - p)) = some 0 := by decide +kernel
def lG (p : Nat) : List Nat := if p < 200 then pA p else pB (p - 199)
theorem picG {ws : List (List Nat)} (h : ∀ w, w ∈ ws ↔ w = pA 200 ∨ w = pB 101) : Pic dG ws := by
  have gA : Sub ws (pA 200) := .gen ((h _).mpr (.inl rfl))
  have gB : Sub ws (pB 101) := .gen ((h _).mpr (.inr rfl))
  have sn : ∀ n, pA n ++ [0] = pA (n + 1) := fun n => (List.replicate_succ' ..).symm
  have sm : ∀ n, pB n ++ [2] = pB (n + 1) := fun n => (List.replicate_succ' ..).symm
  have c0 : ∀ {u : List Nat}, Sub ws u → Cos ws u [] := fun hu => by
    show Sub ws (_ ++ opp [])
    show Sub ws (_ ++ [])
    rw [List.append_nil]
    exact hu
  refine pic_fwd (l := lG) dG_inv (fun w hw => ?_) rfl (fun s => s ≠ 1 ∧ s ≠ 3) (fun s => ?_) (fun p s q hs e => ?_) (fun p s q hs e => ?_)
  · rcases (h w).mp hw with rfl | rfl <;> decide +kernel
  · by_cases h1 : s = 1
    · exact .inr (by rw [h1]; decide)
    · by_cases h3 : s = 3
      · exact .inr (by rw [h3]; decide)
      · exact .inl ⟨h1, h3⟩
  · have h4 := (dG_lt e).2
    have : s = 0 ∨ s = 2 := by omega
    rcases this with rfl | rfl
    · unfold dG at e
      simp only [reduceIte] at e
      repeat' split at e
      · cases e
        unfold lG
        rw [if_pos (by omega), if_pos (by omega), sn]
        exact Cos.refl _
      · cases e
        unfold lG
        rw [if_pos (by omega), if_pos (by omega), sn]
        rename_i z
        rw [z]
        exact c0 gA
      · cases e
    · unfold dG at e
      simp only [Nat.reduceEqDiff, if_false, reduceIte] at e
      repeat' split at e
      · rename_i z
        cases e
        rw [z]
        exact Cos.refl _
      · rename_i z
        cases e
        unfold lG
        rw [if_neg (by omega), if_neg (by omega), sm, show p - 199 + 1 = p + 1 - 199 by omega]
        exact Cos.refl _
      · rename_i z
        cases e
        rw [z]
        unfold lG
        rw [if_neg (by omega), if_pos (by omega), sm]
        exact c0 gB
      · cases e
  · have h4 := (dG_lt e).2
    have : s = 0 ∨ s = 2 := by omega
    rcases this with rfl | rfl
    · have hp : p < 200 := by
        unfold dG at e
        simp only [reduceIte] at e
        repeat' split at e
        · omega
        · omega
        · cases e
      obtain ⟨a, b⟩ := runGa p hp
      obtain ⟨k, hk⟩ : ∃ k, 200 - p = k + 1 := ⟨199 - p, by omega⟩
      rw [hk] at b
      obtain ⟨r, b1, b2⟩ := run_cons.mp (show run dG p (0 :: pA k) = some 0 from b)
      rw [e] at b1
      cases b1
      refine ⟨pA p, pA k, ?_, a, b2⟩
      have : pA p ++ 0 :: pA k = List.replicate (p + (k + 1)) 0 := (show List.replicate p 0 ++ List.replicate (k + 1) 0 = _ from List.replicate_append_replicate)
      rw [this]
      exact plain_reps 0 _
    · by_cases h0 : p = 0
      · subst h0
        refine ⟨[], pB 100, plain_reps 2 101, rfl, ?_⟩
        have : q = 200 := by
          have e' : some 200 = some q := e
          cases e'
          rfl
        rw [this]
        exact (runGb 0 (by decide)).2
      · have hp : 200 ≤ p ∧ p < 300 := by
          unfold dG at e
          simp only [Nat.reduceEqDiff, if_false, reduceIte] at e
          repeat' split at e
          · omega
          · omega
          · omega
          · cases e
        obtain ⟨a, b⟩ := runGb (p - 200) (by omega)
        obtain ⟨k, hk⟩ : ∃ k, 100 - (p - 200) = k + 1 := ⟨299 - p, by omega⟩
        rw [show p - 200 + 200 = p by omega] at a b
        rw [hk] at b
        obtain ⟨r, b1, b2⟩ := run_cons.mp (show run dG p (2 :: pB k) = some 0 from b)
        rw [e] at b1
        cases b1
        refine ⟨pB (p - 200 + 1), pB k, ?_, a, b2⟩
        have : pB (p - 200 + 1) ++ 2 :: pB k = List.replicate ((p - 200 + 1) + (k + 1)) 2 := (show List.replicate (p - 200 + 1) 2 ++ List.replicate (k + 1) 2 = _ from List.replicate_append_replicate)
        rw [this]
        exact plain_reps 2 _
theorem run_lt {u : List Nat} {p : Nat} (h : run dG 0 u = some p) : p < 300 := by
  rcases List.eq_nil_or_concat u with rfl | ⟨y, s, rfl⟩
  · cases h
    decide
  · rw [List.concat_eq_append] at h
    obtain ⟨r, _, h2⟩ := (run_append y).mp h
    exact (dG_lt (run_one.mp h2)).1
theorem lenG {ws : List (List Nat)} {rows : List (List (Option Nat))} (h : ∀ w, w ∈ ws ↔ w = pA 200 ∨ w = pB 101) (hP : Picture ws 4 rows) (hr : ∀ p, p < rows.length → ∃ u, run (rowsD rows) 0 u = some p) : rows.length ≤ 300 := by
  rcases Nat.lt_or_ge 300 rows.length with z | z
  · exfalso
    have P := hP.pic
    have P' := picG h
    have I := P.iso P' fun _ => Iff.rfl
    have key : ∀ p, ∃ q, p ≤ 300 → q < 300 ∧ Rel (rowsD rows) dG p q := fun p => by
      by_cases hp : p ≤ 300
      · obtain ⟨u, hu⟩ := hr p (by omega)
        obtain ⟨q, hq⟩ := P.read P' (fun _ => id) u hu
        exact ⟨q, fun _ => ⟨run_lt hq, u, hu, hq⟩⟩
      · exact ⟨0, fun z => absurd z hp⟩
    obtain ⟨f, hf⟩ := Classical.axiomOfChoice key
    obtain ⟨i, j, h1, h2, h3⟩ := pig (g := f) (n := 300) fun j hj => (hf j hj).1
    have a := (hf i (by omega)).2
    have b := (hf j h2).2
    rw [← h3] at b
    have := I.right _ _ _ a b
    omega
  · exact z
end MN

namespace G1
open PySem PySem.Spec PyProof.Rows L2
/-- the comparison of nested data, the greater one -/
def rGtD (K : PySem.W.Frag) : R2 := fun x y H Q => ∃ d1 d2, Dp K H x d1 ∧ Dp K H y d2 ∧ PySem.W.alike d1 d2 = true ∧ d1 ≠ PyData.none ∧ min d1.depth d2.depth ≤ 32 ∧ Q (.bl (PySem.W.dataLt d2 d1)) H
theorem op_gtD {X : Cx} (K : PySem.W.Frag) (hK : X.K = K) (hu : X.A.units + 64 < cLine) : OpR X (compareOp .Gt) (rGtD K) := by
  intro pins s σ H x y v u Q I rx ry h
  obtain ⟨d1, d2, h1, h2, ha, hn, hd, q⟩ := h
  subst hK
  obtain ⟨as, r1⟩ := Dp.reads I d1 x v h1 rx
  obtain ⟨bs, r2⟩ := Dp.reads I d2 y u h2 ry
  exact PySem.W.rcGt_alike d1 d2 X.A s v u as bs r1 r2 ha hn (by omega) X.prog X.w _ _ ⟨.bl _, H, I, ⟨rfl, q⟩⟩
theorem lex_intsT (r : List (Int ⊕ List Nat)) (hr : lx r r = false) : ∀ ns ms : List Int, lx ((ns.flatMap fun n => [Sum.inl 1, Sum.inl n]) ++ Sum.inl 0 :: r) ((ms.flatMap fun n => [Sum.inl 1, Sum.inl n]) ++ Sum.inl 0 :: r) = HT.lexLt ns ms
  | [], [] => by
    simp only [List.flatMap_nil, List.nil_append, lex_cons, it_i, hr, HT.lexLt]
    rfl
  | [], m :: ms => by rfl
  | n :: ns, [] => by rfl
  | n :: ns, m :: ms => by
    simp only [List.flatMap_cons, List.cons_append, List.nil_append, lex_cons, it_i, it_s, HT.lexLt]
    rw [lex_intsT r hr ns ms]
    by_cases h : n = m
    · subst h
      simp
    · rw [if_neg h]
      rcases Int.lt_or_gt_of_ne h with k | k
      · simp [k]
      · have : ¬ n < m := by omega
        simp [k, this]
/-- pairs of a number and a list of numbers -/
def nlD (n : Int) (ns : List Int) : PyData := .tuple [.int n, .list (intsD ns)]
theorem lt_nl (n m : Int) (ns ms : List Int) : PySem.W.dataLt (nlD n ns) (nlD m ms) = (decide (n < m) || (decide (n = m) && HT.lexLt ns ms)) := by
  show lx (PySem.W.keyToks _) (PySem.W.keyToks _) = _
  simp only [nlD, PySem.W.keyToks, PySem.W.keyToksAll, toks_ints, List.cons_append, List.nil_append, List.append_assoc, lex_cons, it_i, it_s]
  rw [lex_intsT _ rfl]
  by_cases h : n = m
  · subst h
    simp
  · rcases Int.lt_or_gt_of_ne h with k | k
    · simp [k]
    · have : ¬ n < m := by omega
      simp [k, this, h]
theorem alike_nl (n m : Int) (ns ms : List Int) : PySem.W.alike (nlD n ns) (nlD m ms) = true := by
  simp only [nlD, PySem.W.alike, PySem.W.alikeAll, alike_ints, Bool.and_self]
theorem dep_nl (n : Int) (ns : List Int) : (nlD n ns).depth ≤ 3 := by
  have := dep_ints ns
  simp only [nlD, PyData.depth, PyData.depthAll]
  omega
theorem loop_zip {K : PySem.W.Frag} {a b : Addr} {xs ys : List V} {g : TG} {tb : TS} {D : Ends} {σ : L2.St} {H : Hp} {n : Nat} (hn : n = min xs.length ys.length) (Pv : Nat → L2.St → Hp → Prop) (h0 : Pv 0 σ H) (hl : ∀ i σ H, i ≤ n → Pv i σ H → SqL K H a xs ∧ SqL K H b ys)
    (hs : ∀ i x y T σ H, xs[i]? = some x → ys[i]? = some y → Pv i σ H → H T = none → g (.ref T) σ (upd H T (.tup [x, y])) fun σ2 H2 => tb { D with nx := Pv (i + 1), ct := Pv (i + 1), bk := D.nx } σ2 H2) (hd : ∀ σ H, Pv n σ H → D.nx σ H) : LoopW (Itz K a b) g tb D σ H := by
  refine L2.for_it (L2.walk_zip hn) Pv h0 hl ?_ hd
  rintro i v σ H H' hi p ⟨T, x, y, rfl, hT, rfl, hx, hy⟩
  exact hs i x y T σ H hx hy p hT
end G1

namespace K29
open PySem PySem.Spec PyProof.Rows L2 G1 MW
def topS (i : Nat) : Stmt := PySem.Challenge.pw_signlanes_k29_classes_of_words.main.body.getD i (.Pass ⟨0, 0, 0, 0⟩)
abbrev s_is_whole : Stmt := topS 17
theorem sc_is_whole : FnScope ["value"] ["value"] (defScope s_is_whole) := ⟨rfl, rfl, rfl, by decide +kernel, rfl, by decide +kernel, by decide +kernel⟩
abbrev s_is_spelled : Stmt := topS 18
theorem sc_is_spelled : FnScope ["many", "value", "most"] ["many", "value", "most"] (defScope s_is_spelled) := ⟨rfl, rfl, rfl, by decide +kernel, rfl, by decide +kernel, by decide +kernel⟩
abbrev s_reduced : Stmt := topS 11
theorem sc_reduced : FnScope ["word", "kept", "sign"] ["word"] (defScope s_reduced) := ⟨rfl, rfl, rfl, by decide +kernel, rfl, by decide +kernel, by decide +kernel⟩
abbrev s_check_many : Stmt := topS 21
theorem sc_check_many : FnScope ["many"] ["many"] (defScope s_check_many) := ⟨rfl, rfl, rfl, by decide +kernel, rfl, by decide +kernel, by decide +kernel⟩
abbrev s_check_word : Stmt := topS 22
theorem sc_check_word : FnScope ["many", "word"] ["many", "word"] (defScope s_check_word) := ⟨rfl, rfl, rfl, by decide +kernel, rfl, by decide +kernel, by decide +kernel⟩
abbrev s_is_word_list : Stmt := topS 19
theorem sc_is_word_list : FnScope ["many", "value", "most", "word"] ["many", "value", "most"] (defScope s_is_word_list) := ⟨rfl, rfl, rfl, by decide +kernel, rfl, by decide +kernel, by decide +kernel⟩
abbrev s_is_short_list : Stmt := topS 20
theorem sc_is_short_list : FnScope ["many", "value"] ["many", "value"] (defScope s_is_short_list) := ⟨rfl, rfl, rfl, by decide +kernel, rfl, by decide +kernel, by decide +kernel⟩
abbrev s_check_short_list : Stmt := topS 23
theorem sc_check_short_list : FnScope ["many", "words"] ["many", "words"] (defScope s_check_short_list) := ⟨rfl, rfl, rfl, by decide +kernel, rfl, by decide +kernel, by decide +kernel⟩
local macro_rules | `(tactic| walk_at "rd") => `(tactic| simp only [L2.iZip, G1.rGtD, L2.rMin, L2.tLockE, L2.iKeys, L2.iEnum, L2.ipI, L2.rIn, L2.tPairs, L2.rSetD, L2.tDNewK, G1.tCallK3, G1.tCallK4, G1.tFldA, G1.tCallM, G1.tMakeO, L2.sFld, L2.rExtend, L2.tDNotIn, L2.tDIn, L2.tDGet2, L2.tDisp, L2.rPopAt, L2.tLstRg, L2.tRg1, G1.tMakeO2, G1.rOwnI, G1.rCntN, L2.tPar3, L2.tSeq, L2.tAug, L2.tTup, G1.tCallK3b, G1.tMt, G1.tMinK, G1.rIsTu, L2.rIxT, G1.rTr, G1.rLtD,L2.tSeq, G1.iEnumS, L2.tDGet, L2.gTup, L2.gCons, L2.gNil, L2.tPar, L2.rIxS, G1.tRepU, L2.rSlS, L2.iStr, L2.tNotV, G1.rIsV, G1.mk_int, G1.mk_bool, G1.mk_str, G1.mk_list, G1.tCallX, V.ty.injEq, L2.tChain, L2.rIsB, G1.tRevS, L2.tM0, L2.tM1, L2.tCallS, G1.tCallK2, G1.tMkR, L2.rAll, L2.rPop, L2.tBM0, L2.tRevL, L2.tAsg, L2.tOp, L2.rI, L2.rI0, L2.tVar, L2.tC, L2.tCB, L2.tCons, L2.tNil, L2.tRet, L2.gName, L2.start, L2.tIf, L2.tIfS, L2.tTest, L2.tNext, L2.rIxL, L2.tSl, L2.rSlL, L2.tNoPart, L2.tPart, L2.tLst, L2.tTup, L2.rSum, L2.tBits, L2.gSub, L2.rSetL, L2.rCat, L2.tDrop, L2.tBM, L2.tBM0, L2.rAppend, L2.tYes, L2.tB, L2.tAnd, L2.tOr, L2.tNot, L2.tAndV, L2.tOrV, G1.tCallO, G1.tXm, G1.tXn, G1.tXv, HO.lst.injEq, HO.tup.injEq, Nat.reduceAdd, Nat.zero_add, List.set_cons_zero, List.set_cons_succ, G1.tFor_eq, G1.tLc_eq, G1.rIxM, G1.rLenM, G1.rSlM, G1.atI_0, G1.atI_1, G1.atI_2, G1.ixN_0, G1.ixN_2, L2.upd_same, L2.upd_upd, and_assoc, L2.iRng1, L2.iList, L2.tUn, L2.rU, G1.rRepS, L2.wipe, List.foldl, L2.rEq, L2.rNe, List.map, List.replicate, List.length, List.append, List.set, List.getElem?_cons_zero, List.getElem?_cons_succ, List.cons_append, List.nil_append, Option.some.injEq, V.int.injEq, V.bl.injEq, V.ref.injEq, V.str.injEq, List.cons.injEq, reduceCtorEq, false_and, and_false, exists_false, or_false, false_or, exists_and_left, exists_and_right, exists_eq_left', exists_eq_left, true_and, and_true, Nat.sub_self, decide_eq_true_eq])
def GC (mg : Str → Option Value) (x : Str) (v : V) : Prop := ∃ u, mg x = some u ∧ L2.RelV v u
theorem pe_gc {X : Cx} {x : Str} {v : V} {p : Pos} (hg : Gl X x) (h : GC X.mg x v) (hdb : (x == ("__debug__" : Str)) = false := by decide) : PE X (.Name x p) (tC v) := by
  obtain ⟨u, hm, r⟩ := h
  exact pe_glob hg hm r hdb
abbrev SG : Str := W sgs
structure Txt (P : Program) (w : World) (K : PySem.W.Frag) (mg : Str → Option Value) (base : Heap) (c : Nat → Addr) (cF cW cG : Addr) : Prop where
  n_int : mg "int" = none
  n_len : mg "len" = none
  n_sum : mg "sum" = none
  n_max : mg "max" = none
  n_range : mg "range" = none
  n_isinstance : mg "isinstance" = none
  n_list : mg "list" = none
  n_bool : mg "bool" = none
  n_str : mg "str" = none
  n_all : mg "all" = none
  n_any : mg "any" = none
  n_dict : mg "dict" = none
  n_enumerate : mg "enumerate" = none
  n_abs : mg "abs" = none
  n_min : mg "min" = none
  n_tuple : mg "tuple" = none
  n_repr : mg "repr" = none
  n_zip : mg "zip" = none
  c_SIGNS : GC mg "SIGNS" (.str SG)
  c_MOST_SIGNS : GC mg "MOST_SIGNS" (.int 1000)
  c_MOST_LETTERS : GC mg "MOST_LETTERS" (.int 6)
  c_MOST_WORDS : GC mg "MOST_WORDS" (.int 12)
  c_MOST_WORD_SIGNS : GC mg "MOST_WORD_SIGNS" (.int 200)
  c_MOST_SPOTS : GC mg "MOST_SPOTS" (.int 300)
  x : ∀ i, i < 5 → XOk P w K mg base (["InvalidNumber", "InvalidWord", "InvalidList", "InvalidGroup", "TooMany"].getD i "") (c i)
  o_Weave : Own K mg "Weave" cW
  o_Group : Own K mg "Group" cG
  na_Weave : ∀ f, f ∈ (["size", "lanes", "merged"] : List Str) → NoAttr K cW f
  cl_Group : PySem.W.findIn K (.ref cG) "__class__" = some (some (.builtin "object.__class__"))
  mro_Group : PySem.W.mroIn K cG (.type "object") = some true
  cl_get : PySem.W.specialIn K (.builtin "object.__class__") "__get__" = some (some (.builtin "getset_descriptor.__get__"))
  cl_takes : PySem.W.takesIn K (.builtin "object.__class__") = some true
  ty_Group : PySem.W.typeIn K (.ref cG) = some (.type "type")
  na_Group : ∀ f, f ∈ (["letter_count", "lane_rows"] : List Str) → NoAttr K cG f
section
variable {P : Program} {w : World} {K : PySem.W.Frag} {mg : Str → Option Value} {base : Heap} {c : Nat → Addr} {cF cW cG : Addr}
theorem Txt.ki_list (T : Txt P w K mg base c cF cW cG) : PySem.W.kitOne K (.type "list") (.ref cG) = some false := kit_no T.mro_Group T.ty_Group rfl
theorem Txt.ki_int (T : Txt P w K mg base c cF cW cG) : PySem.W.kitOne K (.type "int") (.ref cG) = some false := kit_no T.mro_Group T.ty_Group rfl
theorem cmul {i j : Int} (h1 : i.natAbs < 2 ^ 64) (h2 : j.natAbs < 2 ^ 64) : CMulW i j := wide_mul h1 h2 (by decide) (by decide) (by decide)
/-- what is no whole number -/
def whB : V → Bool | .int _ => true | _ => false
/-- a number of letters -/
def manyB : V → Bool | .int m => decide (1 ≤ m) && decide (m ≤ 6) | _ => false
/-- a word for so many letters -/
def spBn (n : Nat) (m : Int) : V → Bool | .str x => decide (x.length ≤ n) && x.cps.toList.all (fun c => decide (c ∈ sgs.take (2 * m).toNat)) | _ => false
abbrev spB (m : Int) : V → Bool := spBn 1000 m
/-- a value that may be handed in -/
def Okv (H : Hp) (v : V) : Prop := ∃ t, Any H v t ∧ ∀ x, v = .str x → x.length ≤ 100000
theorem Okv.same {H H' : Hp} (s : Same H H') {v : V} (h : Okv H v) : Okv H' v := let ⟨t, h1, h2⟩ := h; ⟨t, h1.same s, h2⟩
/-- a list of words -/
def wlB (n : Nat) (m : Int) (H : Hp) : V → Bool | .ref a => (match H a with | some (.lst xs) => xs.all (spBn n m) | _ => false) | _ => false
def spWhole : Sp := fun vs H Q _ => ∃ v, vs = [v] ∧ Okv H v ∧ Q (.bl (whB v)) H
theorem ok_is_whole (S : Src K mg "is_whole" s_is_whole) (T : Txt P w K mg base c cF cW cG) : OkD P w K mg base 1 "is_whole" ["value"] spWhole := by
  refine okd S (fun f fd F => F.ok sc_is_whole (fun vs H Q E h => ?_) (fun cdv A outer s H vs Q E hr h => ?_)) (fun _ _ _ _ _ _ us hl => match us, hl with | [_], _ => rfl)
  · obtain ⟨_, rfl, _⟩ := h
    rfl
  · obtain ⟨v, rfl, ⟨t, hv, _⟩, q⟩ := h
    refine ⟨_, ((pss_one (ps_ret (pe_and (pe_callB call_isV (by rfl) T.n_isinstance (by decide +kernel) (pa_cons (pv 0) (pa_cons (pe_gty (n := "int") (by rfl) T.n_int (by decide +kernel)) pa_nil))) (pe_one (pe_not (pe_callB call_isV (by rfl) T.n_isinstance (by decide +kernel) (pa_cons (pv 0) (pa_cons (pe_gty (n := "bool") (by rfl) T.n_bool (by decide +kernel)) pa_nil))))))))), ?_⟩
    walk_at "rd"
    refine ⟨t, hv, ?_⟩
    cases hv <;> simp only [isT, whB] at q ⊢ <;> first
      | exact q
      | exact ⟨_, .int _, q⟩
      | exact ⟨_, .bl _, q⟩
def spSpelled : Sp := fun vs H Q _ => ∃ (n : Nat) (m : Int) (v : V), vs = [.int m, v, .int n] ∧ n ≤ 1000 ∧ 1 ≤ m ∧ m ≤ 6 ∧ Okv H v ∧ Q (.bl (spBn n m v)) H
theorem take_step {α : Type} {xs : List α} {i : Nat} {x : α} (h : xs[i]? = some x) : xs.take (i + 1) = xs.take i ++ [x] := by
  rw [List.take_add_one, h]
  rfl
theorem join_signs (l : List Nat) : Txt.join ⟨#[]⟩ (l.map fun c => (⟨#[c]⟩ : Str)) = W l := by
  have h := join_W (l.map fun c => [c])
  rw [List.map_map] at h
  have e : (l.map fun c => [c]).flatten = l := by
    induction l with
    | nil => rfl
    | cons a l ih => rw [List.map_cons, List.flatten_cons, ih (by have := join_W (l.map fun c => [c]); rw [List.map_map] at this; exact this)]; rfl
  rw [e] at h
  exact h
theorem atI_last {α : Type} (xs : List α) (x : α) : atI (xs ++ [x]) (-1) = some x := by
  have h : ixN (xs ++ [x]).length (-1) = some xs.length := by
    unfold ixN
    rw [List.length_append, List.length_singleton]
    split
    · omega
    · split <;> simp <;> omega
  unfold atI
  rw [h]
  simp
theorem cutSG {m : Int} (h1 : 1 ≤ m) (h2 : m ≤ 6) : cutS SG none (some (2 * m)) = W (sgs.take (2 * m).toNat) := by
  have : m = 1 ∨ m = 2 ∨ m = 3 ∨ m = 4 ∨ m = 5 ∨ m = 6 := by omega
  rcases this with rfl | rfl | rfl | rfl | rfl | rfl <;> decide +kernel
theorem strip_spB {n : Nat} {m : Int} {x : Str} (h1 : 1 ≤ m) (h2 : m ≤ 6) (hx : ¬ ((n : Nat) : Int) < ((x.length : Nat) : Int)) : decide (Txt.stripChars x (W (sgs.take (2 * m).toNat)) = PySem.Str.ofString "") = spBn n m (.str x) := by
  have e : PySem.Str.ofString "" = (⟨#[]⟩ : Str) := rfl
  rw [e]
  have h := strip_W x.cps.toList (sgs.take (2 * m).toNat)
  rw [W_eta] at h
  simp only [spBn]
  rw [show decide (x.length ≤ n) = true by rw [decide_eq_true_eq]; omega, Bool.true_and]
  rw [Bool.eq_iff_iff, decide_eq_true_eq, h, List.all_eq_true]
  simp only [decide_eq_true_eq]
theorem ok_is_spelled (S : Src K mg "is_spelled" s_is_spelled) (T : Txt P w K mg base c cF cW cG) : OkD P w K mg base 1 "is_spelled" ["many", "value", "most"] spSpelled := by
  refine okd S (fun f fd F => F.ok sc_is_spelled (fun vs H Q E h => ?_) (fun cdv A outer s H vs Q E hr h => ?_)) (fun _ _ _ _ _ _ us hl => match us, hl with | [_, _, _], _ => rfl)
  · obtain ⟨_, _, _, rfl, _⟩ := h
    rfl
  · obtain ⟨n, m, v, rfl, hn, h1, h2, ⟨t, hv, hl⟩, q⟩ := h
    refine ⟨_, ((pss_cons (ps_if (PW.pt (pw_or (pt_not (pt_val (pe_callB call_isV (by rfl) T.n_isinstance (by decide +kernel) (pa_cons (pv 1) (pa_cons (pe_gty (n := "str") (by rfl) T.n_str (by decide +kernel)) pa_nil))))) (pw_or1 (pt_cmpR op_gt (pe_callB call_len_str (by rfl) T.n_len PySem.boot_len (pa_cons (pv 1) pa_nil)) (pv 2) (nomark _))))) (pss_one (ps_ret pe_bl)) pss_nil)
      (pss_one (ps_ret (pe_cmpR op_eq (pe_bm PySem.F.plainAttrs_str PySem.F.slot_str_strip PySem.F.type_str_strip mt_stripChars (pv 1) (pa_cons (pe_slice sl_str (pe_gc (by rfl) T.c_SIGNS) po_none (po_some (pe_op op_mulW pe_int (pv 0)))) pa_nil)) pe_str (nomark _)))))), ?_⟩
    walk_at "rd"
    refine ⟨t, hv, ?_⟩
    cases hv with
    | str x =>
      have hx := hl x rfl
      rw [if_neg (by decide)]
      refine ⟨x, rfl, by rw [sizeLine_eq]; omega, ?_⟩
      split
      · rename_i hlen
        have : spBn n m (.str x) = false := by
          simp only [spBn]
          rw [show decide (x.length ≤ n) = false by rw [decide_eq_false_iff_not]; omega, Bool.false_and]
        rw [this] at q
        exact q
      · rename_i hlen
        refine ⟨rfl, cmul (by decide) (by omega), by decide +kernel, x, rfl, by rw [sizeLine_eq]; omega, rfl, ?_⟩
        rw [cutSG h1 h2, strip_spB h1 h2 hlen]
        exact q
    | _ =>
      rw [if_pos (by decide), if_pos trivial]
      exact q
theorem ok_reduced (S : Src K mg "reduced" s_reduced) (T : Txt P w K mg base c cF cW cG) : OkD P w K mg base 1 "reduced" ["word"] (fun vs H Q _ => ∃ l, vs = [.str (W l)] ∧ Sg l ∧ l.length ≤ 200000 ∧ ∀ H', Same H H' → Q (.str (W (red l))) H') := by
  refine okd S (fun f fd F => F.ok sc_reduced (fun vs H Q E h => ?_) (fun cdv A outer s H vs Q E hr h => ?_)) (fun _ _ _ _ _ _ us hl => match us, hl with | [_], _ => rfl)
  · obtain ⟨_, rfl, _⟩ := h
    rfl
  · obtain ⟨l, rfl, hS, hl, q⟩ := h
    refine ⟨_, ((pss_cons (ps_set (i := 1) sc_reduced.nd rfl (.inl rfl) (pe_lst pa_nil))
      (pss_cons (ps_for PassesOwn.never rfl (pi_str (pv 0)) (pg_name (i := 2) sc_reduced.nd rfl (.inl rfl)) (pss_one (ps_if (PW.pt (pw_and (pt_truth (pv 1) (by intro _; rfl)) (pw_and1 (pt_cmpR op_eq (pe_ix ix_lM (pv 1) (pe_un un_neg pe_int) (fun _ _ => rfl)) (pe_m0 PySem.F.slot_str_swapcase PySem.F.type_str_swapcase mt_swap (pv 2)) (nomark _))))) (pss_one (ps_expr (pe_bm0 PySem.F.plainAttrs_list PySem.F.slot_list_pop PySem.F.type_list_pop mt_pop (pv 1)))) (pss_one (ps_expr (pe_bm PySem.F.plainAttrs_list PySem.F.slot_list_append PySem.F.type_list_append mt_append (pv 1) (pa_cons (pv 2) pa_nil)))))))
      (pss_one (ps_ret (pe_join pe_str (pv 1))))))), ?_⟩
    walk_at "rd"
    refine ⟨Nat.zero_le _, fun p np => ?_⟩
    refine loop_str (fun i σ H' => ∃ v, σ = [some (.str (W l)), some (.ref p), v] ∧ H' = upd H p (.lst ((stk [] (l.take i)).reverse.map fun c => V.str ⟨#[c]⟩))) ⟨none, rfl, rfl⟩ ?_ ?_
    · rintro i ch σ H' hi ⟨v, rfl, rfl⟩
      have hi' : l[i]? = some ch := by simpa [W] using hi
      walk_at "rd"
      have hc : ch ∈ sgs := hS ch (List.mem_of_getElem? hi')
      have hlen : (stk [] (List.take i l)).length ≤ 200000 := by
        have h1 := len_stk (List.take i l) []
        have h2 : (List.take i l).length ≤ l.length := by rw [List.length_take]; omega
        simp only [List.length_nil, Nat.zero_add] at h1
        omega
      have hstep : stk [] (List.take (i + 1) l) = MW.step (stk [] (List.take i l)) ch := by
        rw [List.take_add_one, hi', Option.toList_some, stk_append]
        rfl
      rw [hstep]
      generalize stk [] (List.take i l) = st at hlen
      cases st with
      | nil =>
        refine ⟨false, .inl ⟨_, .inl (.inl upd_same), rfl⟩, ?_⟩
        rw [if_neg (by decide), if_neg id]
        exact ⟨.inl ⟨rfl, _, .inl (.inl upd_same)⟩, by decide, ⟨_, rfl⟩, rfl⟩
      | cons t r =>
        have e : List.map (fun c => V.str ⟨#[c]⟩) (t :: r).reverse = List.map (fun c => V.str ⟨#[c]⟩) r.reverse ++ [V.str ⟨#[t]⟩] := by simp
        rw [e]
        refine ⟨true, .inl ⟨_, .inl (.inl upd_same), by simp⟩, ?_⟩
        rw [if_pos rfl]
        refine ⟨_, atI_last _ _, ⟨_, rfl⟩, by show 1 ≤ _; decide, rfl, ?_⟩
        rw [swap_one hc]
        simp only [MW.step]
        split
        · rename_i h5
          have h6 : t = inv ch := by
            have := V.str.inj h5
            exact List.singleton_inj.mp (W_inj (a := [t]) (b := [inv ch]) this)
          rw [if_pos h6]
          refine ⟨.inl ⟨rfl, _, .inl (.inl upd_same)⟩, ⟨V.str ⟨#[t]⟩, by simp⟩, ⟨_, rfl⟩, ?_⟩
          rw [List.dropLast_concat]
        · rename_i h5
          rw [if_neg (fun h6 => h5 (by rw [h6]))]
          refine ⟨.inl ⟨rfl, _, .inl (.inl upd_same)⟩, ?_, ⟨_, rfl⟩, ?_⟩
          · rw [sizeLine_eq]
            simp only [List.length_append, List.length_map, List.length_reverse, List.length_cons, List.length_nil] at hlen ⊢
            omega
          · congr 2
            simp
    · rintro σ H' ⟨v, rfl, rfl⟩
      walk_at "rd"
      refine ⟨⟨_, rfl⟩, (red l).map fun c => ⟨#[c]⟩, .inl (.inl (.inl ?_)), ?_, ?_⟩
      · rw [upd_same, List.map_map]
        unfold red
        rw [show (W l).cps.size = l.length by simp, List.take_length]
        rfl
      · have := len_red l
        have e0 : (PySem.Str.ofString "").length = 0 := rfl
        rw [e0, Nat.mul_zero, Nat.add_zero, show (List.map (fun x : Str => x.length) (List.map (fun c => (⟨#[c]⟩ : Str)) (red l))).sum = (red l).length by
          generalize red l = z
          induction z with
          | nil => rfl
          | cons a z ih =>
            rw [List.map_cons, List.map_cons, List.sum_cons, ih, List.length_cons]
            show 1 + _ = _
            omega]
        omega
      · have e0 : PySem.Str.ofString "" = (⟨#[]⟩ : Str) := rfl
        rw [e0, join_signs]
        exact q _ (same_upd np)
def spUnd : Sp := fun vs H Q _ => ∃ l, vs = [.str (W l)] ∧ Sg l ∧ l.length ≤ 200000 ∧ Q (.str (W (opp l))) H
def spCheckMany (c : Nat → Addr) : Sp := fun vs H Q E => ∃ v, vs = [v] ∧ Okv H v ∧ (manyB v = true → Q .non H) ∧ (manyB v = false → Raised (c 0) v H E)
theorem ok_check_many (S : Src K mg "check_many" s_check_many) (T : Txt P w K mg base c cF cW cG) (C_is_whole : OkD P w K mg base 1 "is_whole" ["value"] spWhole) : OkX P w K mg base 3 "check_many" ["many"] (spCheckMany c) := by
  refine okx S (fun f fd F => F.okX sc_check_many (fun vs H Q E h => ?_) (fun cdv A outer s H vs Q E hr h => ?_)) (fun _ _ _ _ _ _ us hl => match us, hl with | [_], _ => rfl)
  · obtain ⟨_, rfl, _⟩ := h
    rfl
  · obtain ⟨v, rfl, hv, q1, q2⟩ := h
    refine ⟨_, ((pss_one (ps_if (PW.pt (pw_or (pt_not (pt_val (pe_callO C_is_whole (hr.mono (by decide)) (by rfl) (pa_cons (pv 0) pa_nil)))) (pw_or1 (pt_not (pt_chain op_le op_le pe_int (pv 0) (pe_gc (by rfl) T.c_MOST_LETTERS)))))) (pss_one (ps_raiseX rfl (takes_of rfl rfl rfl rfl) (T.x 0 (by decide)) (hr.mono (by decide)) (by rfl) (pa_cons (pv 0) pa_nil))) pss_nil))), ?_⟩
    walk_at "rd"
    refine ⟨v, rfl, hv, _, rfl, ?_⟩
    obtain ⟨t, ht, _⟩ := hv
    cases ht with
    | int i =>
      rw [if_neg (fun z => by cases z)]
      refine ⟨i, rfl, ?_⟩
      simp only [manyB, Bool.and_eq_true, decide_eq_true_eq, Bool.and_eq_false_iff, decide_eq_false_iff_not] at q1 q2
      split
      · rename_i h1
        refine ⟨i, rfl, ?_⟩
        split
        · rename_i h2
          exact q2 (.inr (by simpa using h2))
        · rename_i h2
          exact q1 ⟨h1, by simpa using h2⟩
      · rename_i h1
        rw [if_pos (by decide)]
        exact q2 (.inl h1)
    | _ => exact q2 rfl
def spCheckWord (c : Nat → Addr) : Sp := fun vs H Q E => ∃ m v, vs = [.int m, v] ∧ 1 ≤ m ∧ m ≤ 6 ∧ Okv H v ∧ (spB m v = true → Q .non H) ∧ (spB m v = false → Raised (c 1) v H E)
theorem ok_check_word (S : Src K mg "check_word" s_check_word) (T : Txt P w K mg base c cF cW cG) (C_is_spelled : OkD P w K mg base 1 "is_spelled" ["many", "value", "most"] spSpelled) : OkX P w K mg base 3 "check_word" ["many", "word"] (spCheckWord c) := by
  refine okx S (fun f fd F => F.okX sc_check_word (fun vs H Q E h => ?_) (fun cdv A outer s H vs Q E hr h => ?_)) (fun _ _ _ _ _ _ us hl => match us, hl with | [_, _], _ => rfl)
  · obtain ⟨_, _, rfl, _⟩ := h
    rfl
  · obtain ⟨m, v, rfl, h1, h2, hv, q1, q2⟩ := h
    refine ⟨_, ((pss_one (ps_if (pt_not (pt_val (pe_callO C_is_spelled (hr.mono (by decide)) (by rfl) (pa_cons (pv 0) (pa_cons (pv 1) (pa_cons (pe_gc (by rfl) T.c_MOST_SIGNS) pa_nil)))))) (pss_one (ps_raiseX rfl (takes_of rfl rfl rfl rfl) (T.x 1 (by decide)) (hr.mono (by decide)) (by rfl) (pa_cons (pv 1) pa_nil))) pss_nil))), ?_⟩
    walk_at "rd"
    refine ⟨1000, m, v, rfl, by decide, h1, h2, hv, ?_⟩
    cases e : spBn 1000 m v with
    | true => exact ⟨true, rfl, q1 e⟩
    | false => exact ⟨false, rfl, q2 e⟩
/-- what may stand in a list that is handed in -/
def Okl (H : Hp) (v : V) : Prop := Okv H v ∧ ∀ a xs, v = .ref a → H a = some (.lst xs) → xs.length ≤ 1000 ∧ ∀ x ∈ xs, Okv H x
def Refuse (c : Nat → Addr) (v1 : V) (H : Hp) (E : XK) (k : Int → Prop) : Prop := (manyB v1 = false → Raised (c 0) v1 H E) ∧ ∀ m, v1 = .int m → 1 ≤ m → m ≤ 6 → k m
theorem many_of {v : V} (e : manyB v = true) : ∃ m, v = .int m ∧ 1 ≤ m ∧ m ≤ 6 := by
  cases v with
  | int m =>
    simp only [manyB, Bool.and_eq_true, decide_eq_true_eq] at e
    exact ⟨m, rfl, e.1, e.2⟩
  | _ => cases e
theorem many_cases {v : V} : manyB v = false ∨ ∃ m, v = .int m ∧ 1 ≤ m ∧ m ≤ 6 ∧ manyB v = true := by
  cases e : manyB v with
  | false => exact .inl rfl
  | true =>
    cases v with
    | int m =>
      simp only [manyB, Bool.and_eq_true, decide_eq_true_eq] at e
      exact .inr ⟨m, rfl, e.1, e.2, rfl⟩
    | _ => cases e
/-- a plain word, if a word -/
def plB : V → Bool | .str x => decide (red x.cps.toList = x.cps.toList) | _ => false
theorem spB_of {n : Nat} {m : Int} {v : V} (h : spBn n m v = true) : ∃ l, v = .str (W l) ∧ Sg l ∧ l.length ≤ n ∧ ∀ c ∈ l, c ∈ sgs.take (2 * m).toNat := by
  cases v with
  | str x =>
    simp only [spBn, Bool.and_eq_true, decide_eq_true_eq, List.all_eq_true] at h
    refine ⟨x.cps.toList, by rw [W_eta], fun c hc => List.mem_of_mem_take (h.2 c hc), ?_, h.2⟩
    rw [← W_len, W_eta]
    exact h.1
  | _ => cases h
def spRed : Sp := fun vs H Q _ => ∃ l, vs = [.str (W l)] ∧ Sg l ∧ l.length ≤ 200000 ∧ ∀ H', Same H H' → Q (.str (W (red l))) H'
/-- what a def of (many, word) tells -/
def intB : V → Bool | .int i => decide (0 ≤ i) | _ => false
def spCount : Sp := fun vs H Q _ => ∃ v, vs = [v] ∧ Okv H v ∧ Q (.bl (intB v)) H
def spWordList : Sp := fun vs H Q _ => ∃ (n : Nat) (m : Int) (v : V), vs = [.int m, v, .int n] ∧ n ≤ 1000 ∧ 1 ≤ m ∧ m ≤ 6 ∧ Okl H v ∧ ∀ H', Same H H' → Q (.bl (wlB n m H v)) H'
theorem ok_is_word_list (S : Src K mg "is_word_list" s_is_word_list) (T : Txt P w K mg base c cF cW cG) (C_is_spelled : OkD P w K mg base 1 "is_spelled" ["many", "value", "most"] spSpelled) : OkD P w K mg base 2 "is_word_list" ["many", "value", "most"] spWordList := by
  refine okd S (fun f fd F => F.ok sc_is_word_list (fun vs H Q E h => ?_) (fun cdv A outer s H vs Q E hr h => ?_)) (fun _ _ _ _ _ _ us hl => match us, hl with | [_, _, _], _ => rfl)
  · obtain ⟨_, _, _, rfl, _⟩ := h
    rfl
  · obtain ⟨n, m, v, rfl, hn, h1, h2, ⟨⟨t, hv, hl⟩, hx⟩, q⟩ := h
    refine ⟨_, ((pss_one (ps_ret (pe_and (pe_callB call_isV (by rfl) T.n_isinstance (by decide +kernel) (pa_cons (pv 1) (pa_cons (pe_gty (n := "list") (by rfl) T.n_list (by decide +kernel)) pa_nil))) (pe_one (pe_callB (cr_all rfl) (by rfl) T.n_all (by decide +kernel) (pa_cons (pe_lc (own := [("word", 3)]) (g := gName 3) (tt := tYes) (by rfl) sc_is_word_list.nd (pi_list (pv 1)) (blkOk_by (own := [("word", 3)]) (N := ["many", "value", "most", "word"]) (sc := defScope s_is_word_list) (by decide +kernel)) (fun _ _ _ _ _ => pg_name (i := 3) sc_is_word_list.nd rfl (Or.inl rfl)) (fun _ _ _ _ _ => pts_nil) (fun _ _ _ _ _ => (pe_callO C_is_spelled (hr.mono (by decide)) (by rfl) (pa_cons (pv 0) (pa_cons (pv 3) (pa_cons (pv 2) pa_nil)))))) pa_nil))))))), ?_⟩
    walk_at "rd"
    refine ⟨t, hv, ?_⟩
    cases hv with
    | @lst a xs ha =>
      rw [if_pos (by decide)]
      obtain ⟨hxl, hxs⟩ := hx a xs rfl ha
      have hw : wlB n m H (.ref a) = xs.all (spBn n m) := by simp only [wlB, ha]
      refine ⟨a, rfl, ⟨xs, SqL.of ha⟩, ?_⟩
      refine comp_list (xs := xs) (fun D i H' => H' = upd H D (.lst ((xs.take i).map fun x => V.bl (spBn n m x)))) (fun D nD => rfl) ?_ ?_ ?_
      · rintro D i H' nD hi rfl
        exact SqL.of (by rw [upd_ne (ne_none ha nD)]; exact ha)
      · rintro D i x H' nD hi rfl
        walk_at "rd"
        refine ⟨n, m, x, rfl, hn, h1, h2, (hxs x (List.mem_of_getElem? hi)).same (same_upd nD), ?_⟩
        refine ⟨_, upd_same, ?_, ?_⟩
        · rw [List.length_map, List.length_take, sizeLine_eq]
          omega
        · rw [upd_upd, take_step hi, List.map_append]
          rfl
      · rintro D H' nD rfl
        walk_at "rd"
        refine ⟨xs.map (spBn n m), SqL.of ?_, ?_⟩
        · rw [upd_same, List.take_length, List.map_map]
          rfl
        · rw [List.all_map]
          have := q _ (same_upd (o := .lst ((xs.take xs.length).map fun x => V.bl (spBn n m x))) nD)
          rw [hw] at this
          exact this
    | _ =>
      rw [if_neg (by decide)]
      simp only [wlB, *] at q
      exact q _ (Same.refl H)
def slB (m : Int) (H : Hp) : V → Bool | .ref a => (match H a with | some (.lst xs) => decide (xs.length ≤ 12) && xs.all (spBn 200 m) | _ => false) | _ => false
def spShort : Sp := fun vs H Q _ => ∃ m v, vs = [.int m, v] ∧ 1 ≤ m ∧ m ≤ 6 ∧ Okl H v ∧ ∀ H', Same H H' → Q (.bl (slB m H v)) H'
theorem ok_is_short_list (S : Src K mg "is_short_list" s_is_short_list) (T : Txt P w K mg base c cF cW cG) (C_is_word_list : OkD P w K mg base 2 "is_word_list" ["many", "value", "most"] spWordList) : OkD P w K mg base 3 "is_short_list" ["many", "value"] spShort := by
  refine okd S (fun f fd F => F.ok sc_is_short_list (fun vs H Q E h => ?_) (fun cdv A outer s H vs Q E hr h => ?_)) (fun _ _ _ _ _ _ us hl => match us, hl with | [_, _], _ => rfl)
  · obtain ⟨_, _, rfl, _⟩ := h
    rfl
  · obtain ⟨m, v, rfl, h1, h2, hx, q⟩ := h
    have hx0 := hx
    obtain ⟨⟨t, hv, hl⟩, hxx⟩ := hx
    refine ⟨_, ((pss_cons (ps_if (PW.pt (pw_or (pt_not (pt_val (pe_callB call_isV (by rfl) T.n_isinstance (by decide +kernel) (pa_cons (pv 1) (pa_cons (pe_gty (n := "list") (by rfl) T.n_list (by decide +kernel)) pa_nil))))) (pw_or1 (pt_cmpR op_gt (pe_callB call_lenM (by rfl) T.n_len PySem.boot_len (pa_cons (pv 1) pa_nil)) (pe_gc (by rfl) T.c_MOST_WORDS) (nomark _))))) (pss_one (ps_ret pe_bl)) pss_nil)
      (pss_one (ps_ret (pe_callO C_is_word_list (hr.mono (by decide)) (by rfl) (pa_cons (pv 0) (pa_cons (pv 1) (pa_cons (pe_gc (by rfl) T.c_MOST_WORD_SIGNS) pa_nil)))))))), ?_⟩
    walk_at "rd"
    refine ⟨t, hv, ?_⟩
    cases hv with
    | @lst a xs ha =>
      rw [if_neg (by decide)]
      refine ⟨a, rfl, xs, ha, ?_⟩
      have hw : slB m H (.ref a) = (decide (xs.length ≤ 12) && xs.all (spBn 200 m)) := by simp only [slB, ha]
      have hw2 : wlB 200 m H (.ref a) = xs.all (spBn 200 m) := by simp only [wlB, ha]
      rw [hw] at q
      by_cases hc : xs.length ≤ 12
      · rw [if_neg (by omega)]
        rw [decide_eq_true hc, Bool.true_and, ← hw2] at q
        exact ⟨200, m, _, rfl, by decide, h1, h2, hx0, q⟩
      · rw [if_pos (by omega)]
        rw [decide_eq_false hc, Bool.false_and] at q
        exact q _ (.refl H)
    | _ =>
      rw [if_pos (by decide), if_pos trivial]
      simp only [slB, *] at q
      exact q _ (.refl H)
def spCheckShort (c : Nat → Addr) : Sp := fun vs H Q E => ∃ m v, vs = [.int m, v] ∧ 1 ≤ m ∧ m ≤ 6 ∧ Okl H v ∧ (slB m H v = true → ∀ H', Same H H' → Q .non H') ∧ (slB m H v = false → ∀ H', Same H H' → Raised (c 2) v H' E)
theorem ok_check_short_list (S : Src K mg "check_short_list" s_check_short_list) (T : Txt P w K mg base c cF cW cG) (C_is_short_list : OkD P w K mg base 3 "is_short_list" ["many", "value"] spShort) : OkX P w K mg base 4 "check_short_list" ["many", "words"] (spCheckShort c) := by
  refine okx S (fun f fd F => F.okX sc_check_short_list (fun vs H Q E h => ?_) (fun cdv A outer s H vs Q E hr h => ?_)) (fun _ _ _ _ _ _ us hl => match us, hl with | [_, _], _ => rfl)
  · obtain ⟨_, _, rfl, _⟩ := h
    rfl
  · obtain ⟨m, v, rfl, h1, h2, hv, q1, q2⟩ := h
    refine ⟨_, ((pss_one (ps_if (pt_not (pt_val (pe_callO C_is_short_list (hr.mono (by decide)) (by rfl) (pa_cons (pv 0) (pa_cons (pv 1) pa_nil))))) (pss_one (ps_raiseX rfl (takes_of rfl rfl rfl rfl) (T.x 2 (by decide)) (hr.mono (by decide)) (by rfl) (pa_cons (pv 1) pa_nil))) pss_nil))), ?_⟩
    walk_at "rd"
    refine ⟨m, v, rfl, h1, h2, hv, fun H' s' => ?_⟩
    cases e : slB m H v with
    | true => exact ⟨true, rfl, q1 e H' s'⟩
    | false => exact ⟨false, rfl, q2 e H' s'⟩
end

end K29

namespace K29
open PySem PySem.Spec PyProof.Rows L2 G1 MW
abbrev s_sign_numbers : Stmt := topS 10
theorem sc_sign_numbers : FnScope ["word", "sign"] ["word"] (defScope s_sign_numbers) := ⟨rfl, rfl, rfl, by decide +kernel, rfl, by decide +kernel, by decide +kernel⟩
abbrev s_Weave_init : Stmt := inClass (topS 26) 0
theorem sc_Weave_init : FnScope ["self", "size"] ["self", "size"] (defScope s_Weave_init) := ⟨rfl, rfl, rfl, by decide +kernel, rfl, by decide +kernel, by decide +kernel⟩
abbrev s_Weave_lay : Stmt := inClass (topS 26) 3
theorem sc_Weave_lay : FnScope ["self", "spot", "sign", "other"] ["self", "spot", "sign", "other"] (defScope s_Weave_lay) := ⟨rfl, rfl, rfl, by decide +kernel, rfl, by decide +kernel, by decide +kernel⟩
local macro_rules | `(tactic| walk_at "rd") => `(tactic| simp only [L2.iZip, G1.rGtD, L2.rMin, L2.tLockE, L2.iKeys, L2.iEnum, L2.ipI, L2.rIn, L2.tPairs, L2.rSetD, L2.tDNewK, G1.tCallK3, G1.tCallK4, G1.tFldA, G1.tCallM, G1.tMakeO, L2.sFld, L2.rExtend, L2.tDNotIn, L2.tDIn, L2.tDGet2, L2.tDisp, L2.rPopAt, L2.tLstRg, L2.tRg1, G1.tMakeO2, G1.rOwnI, G1.rCntN, L2.tPar3, L2.tSeq, L2.tAug, L2.tTup, G1.tCallK3b, G1.tMt, G1.tMinK, G1.rIsTu, L2.rIxT, G1.rTr, G1.rLtD, if_true, if_false, L2.rNotB, L2.rMax, L2.iRng2,L2.tSeq, G1.iEnumS, L2.tDGet, L2.gTup, L2.gCons, L2.gNil, L2.tPar, L2.rIxS, G1.tRepU, L2.rSlS, L2.iStr, L2.tNotV, G1.rIsV, G1.mk_int, G1.mk_bool, G1.mk_str, G1.mk_list, G1.tCallX, V.ty.injEq, L2.tChain, L2.rIsB, G1.tRevS, L2.tM0, L2.tM1, L2.tCallS, G1.tCallK2, G1.tMkR, L2.rAll, L2.rPop, L2.tBM0, L2.tRevL, L2.tAsg, L2.tOp, L2.rI, L2.rI0, L2.tVar, L2.tC, L2.tCB, L2.tCons, L2.tNil, L2.tRet, L2.gName, L2.start, L2.tIf, L2.tIfS, L2.tTest, L2.tNext, L2.rIxL, L2.tSl, L2.rSlL, L2.tNoPart, L2.tPart, L2.tLst, L2.tTup, L2.rSum, L2.tBits, L2.gSub, L2.rSetL, L2.rCat, L2.tDrop, L2.tBM, L2.tBM0, L2.rAppend, L2.tYes, L2.tB, L2.tAnd, L2.tOr, L2.tNot, L2.tAndV, L2.tOrV, G1.tCallO, G1.tXm, G1.tXn, G1.tXv, HO.lst.injEq, HO.tup.injEq, Nat.reduceAdd, Nat.zero_add, List.set_cons_zero, List.set_cons_succ, G1.tFor_eq, G1.tLc_eq, G1.rIxM, G1.rLenM, G1.rSlM, G1.atI_0, G1.atI_1, G1.atI_2, G1.ixN_0, G1.ixN_2, L2.upd_same, L2.upd_upd, and_assoc, L2.iRng1, L2.iList, L2.tUn, L2.rU, G1.rRepS, L2.wipe, List.foldl, L2.rEq, L2.rNe, List.map, List.replicate, List.length, List.append, List.set, List.getElem?_cons_zero, List.getElem?_cons_succ, List.cons_append, List.nil_append, Option.some.injEq, V.int.injEq, V.bl.injEq, V.ref.injEq, V.str.injEq, List.cons.injEq, reduceCtorEq, false_and, and_false, exists_false, or_false, false_or, exists_and_left, exists_and_right, exists_eq_left', exists_eq_left, true_and, and_true, Nat.sub_self, decide_eq_true_eq])
section
variable {P : Program} {w : World} {K : PySem.W.Frag} {mg : Str → Option Value} {base : Heap} {c : Nat → Addr} {cF cW cG : Addr}
def num (ch : Nat) : Nat := sgs.idxOf ch
theorem num_lt : ∀ ch ∈ sgs, num ch < 12 := by decide +kernel
def NumsAt (H : Hp) (a : Addr) (ns : List Nat) : Prop := H a = some (.lst (ns.map fun n => V.int (n : Nat)))
def spSNums : Sp := fun vs H Q _ => ∃ l, vs = [.str (W l)] ∧ Sg l ∧ l.length ≤ 100000 ∧ ∀ a H', Same H H' → H a = none → NumsAt H' a (l.map num) → Q (.ref a) H'
theorem sindex_at : ∀ ch ∈ sgs, ∃ rest, Builtin.Str.occurrences SG ⟨#[ch]⟩ 0 SG.length 1 = num ch :: rest := by
  intro ch hc
  simp only [sgs, List.mem_cons, List.not_mem_nil, or_false] at hc
  rcases hc with rfl | rfl | rfl | rfl | rfl | rfl | rfl | rfl | rfl | rfl | rfl | rfl <;> exact ⟨[], by decide +kernel⟩
theorem ok_sign_numbers (S : Src K mg "sign_numbers" s_sign_numbers) (T : Txt P w K mg base c cF cW cG) : OkD P w K mg base 1 "sign_numbers" ["word"] spSNums := by
  refine okd S (fun f fd F => F.ok sc_sign_numbers (fun vs H Q E h => ?_) (fun cdv A outer s H vs Q E hr h => ?_)) (fun _ _ _ _ _ _ us hl => match us, hl with | [_], _ => rfl)
  · obtain ⟨_, rfl, _⟩ := h
    rfl
  · obtain ⟨l, rfl, hS, hl, q⟩ := h
    refine ⟨_, ((pss_one (ps_ret (pe_lc (own := [("sign", 1)]) (g := gName 1) (tt := tYes) (by rfl) sc_sign_numbers.nd (pi_str (pv 0)) (blkOk_by (own := [("sign", 1)]) (N := ["word", "sign"]) (sc := defScope s_sign_numbers) (by decide +kernel)) (fun _ _ _ _ _ => pg_name (i := 1) sc_sign_numbers.nd rfl (Or.inl rfl)) (fun _ _ _ _ _ => pts_nil) (fun _ _ _ _ _ => (pe_m1 PySem.F.slot_str_index PySem.F.type_str_index mt_sindex (pe_gc (by rfl) T.c_SIGNS) (pv 1))))))), ?_⟩
    walk_at "rd"
    have hz := sizeLine_eq
    refine comp_str (fun D i H' => H' = upd H D (.lst ((l.take i).map fun ch => V.int (num ch : Nat)))) (fun D nD => rfl) ?_ ?_
    · rintro D i ch H' nD hi rfl
      have hi' : l[i]? = some ch := by simpa [W] using hi
      have hc := hS ch (List.mem_of_getElem? hi')
      obtain ⟨rest, ho⟩ := sindex_at ch hc
      walk_at "rd"
      refine ⟨⟨_, rfl⟩, num ch, ⟨rest, ho⟩, by rw [List.length_map, List.length_take]; omega, ?_⟩
      rw [take_step hi', List.map_append]
      rfl
    · rintro D H' nD rfl
      refine q D _ (same_upd nD) nD ?_
      unfold NumsAt
      rw [upd_same, show (W l).cps.size = l.length by simp, List.take_length, List.map_map]
      rfl
/-! a Weave -/
def wf (sz : Nat) (l m : Addr) : List (Str × V) := [("size", .int (sz : Nat)), ("lanes", .ref l), ("merged", .ref m)]
theorem wf_size (sz : Nat) (l m : Addr) : (wf sz l m).lookup (("size" : Str)) = some (.int (sz : Nat)) := rfl
theorem wf_lanes (sz : Nat) (l m : Addr) : (wf sz l m).lookup (("lanes" : Str)) = some (V.ref l) := rfl
theorem wf_merged (sz : Nat) (l m : Addr) : (wf sz l m).lookup (("merged" : Str)) = some (V.ref m) := rfl
def mNames : List Str := ["new_spot", "living", "lay", "put_loop", "put_path", "read_on", "read_back", "unite", "merge", "link"]
theorem wf_no (sz : Nat) (l m : Addr) : ∀ f ∈ mNames, (wf sz l m).lookup f = none := by
  intro f hf
  simp only [mNames, List.mem_cons, List.not_mem_nil, or_false] at hf
  rcases hf with rfl | rfl | rfl | rfl | rfl | rfl | rfl | rfl | rfl | rfl <;> rfl
def ov : Option Nat → V
  | none => .non
  | some q => .int (q : Nat)
def rowV (size : Nat) (f : Nat → Option Nat) : List V := (List.range size).map fun s => ov (f s)
theorem rowV_len (size : Nat) (f : Nat → Option Nat) : (rowV size f).length = size := by
  unfold rowV
  rw [List.length_map, List.length_range]
theorem rowV_get {size s : Nat} (f : Nat → Option Nat) (h : s < size) : (rowV size f)[s]? = some (ov (f s)) := by
  unfold rowV
  rw [List.getElem?_map, List.getElem?_range h]
  rfl
theorem rowV_set {size s : Nat} (f : Nat → Option Nat) (v : Option Nat) : (rowV size f).set s (ov v) = rowV size fun b => if b = s then v else f b := by
  apply List.ext_getElem?
  intro i
  rw [List.getElem?_set, rowV_len]
  unfold rowV
  rw [List.getElem?_map, List.getElem?_map]
  by_cases h : i < size
  · rw [List.getElem?_range h]
    by_cases e : s = i
    · subst e
      rw [if_pos rfl, if_pos h]
      simp
    · rw [if_neg e]
      simp [Ne.symm e]
  · rw [List.getElem?_eq_none (by simpa using h)]
    by_cases e : s = i
    · rw [if_pos e, if_neg (by omega)]
      rfl
    · rw [if_neg e]
      rfl
def parV (n : Nat) (par : Nat → Nat) : List V := (List.range n).map fun i => V.int (par i : Nat)
theorem parV_get {n i : Nat} (par : Nat → Nat) (h : i < n) : (parV n par)[i]? = some (V.int (par i : Nat)) := by
  unfold parV
  rw [List.getElem?_map, List.getElem?_range h]
  rfl
theorem parV_len (n : Nat) (par : Nat → Nat) : (parV n par).length = n := by
  unfold parV
  rw [List.length_map, List.length_range]
theorem parV_set {n i : Nat} (par : Nat → Nat) (v : Nat) : (parV n par).set i (V.int (v : Nat)) = parV n fun a => if a = i then v else par a := by
  apply List.ext_getElem?
  intro j
  rw [List.getElem?_set, parV_len]
  unfold parV
  rw [List.getElem?_map, List.getElem?_map]
  by_cases h : j < n
  · rw [List.getElem?_range h]
    by_cases e : i = j
    · subst e
      rw [if_pos rfl, if_pos h]
      simp
    · rw [if_neg e]
      simp [Ne.symm e]
  · rw [List.getElem?_eq_none (by simpa using h)]
    by_cases e : i = j
    · rw [if_pos e, if_neg (by omega)]
      rfl
    · rw [if_neg e]
      rfl
theorem ixN_nat {n j : Nat} (hj : j < n) : ixN n (j : Int) = some j := by
  unfold ixN
  rw [if_pos (by omega), if_pos (by omega)]
  simp
/-- a Weave as it stands: its table, what it has merged -/
structure Wv (cW : Addr) (H : Hp) (p dx L M : Addr) (rs : List Addr) (size n : Nat) (δ : Nat → Nat → Option Nat) (par : Nat → Nat) : Prop where
  hp : H p = some (.ins cW dx (wf size L M))
  hl : H L = some (.lst (rs.map V.ref))
  hm : H M = some (.lst (parV n par))
  ln : rs.length = n
  row : ∀ i r, rs[i]? = some r → H r = some (.lst (rowV size (δ i)))
  nd : (L :: M :: rs).Nodup
  pp : p ∉ L :: M :: rs
section
variable {H H' : Hp} {p dx L M : Addr} {rs : List Addr} {size n : Nat} {δ : Nat → Nat → Option Nat} {par : Nat → Nat}
theorem Wv.keep (W : Wv cW H p dx L M rs size n δ par) (h : ∀ b ∈ p :: L :: M :: rs, ∀ o, H b = some o → H' b = some o) : Wv cW H' p dx L M rs size n δ par where
  hp := h _ (by simp) _ W.hp
  hl := h _ (by simp) _ W.hl
  hm := h _ (by simp) _ W.hm
  ln := W.ln
  row := fun i r e => h _ (by simp [List.mem_of_getElem? e]) _ (W.row i r e)
  nd := W.nd
  pp := W.pp
theorem Wv.same (W : Wv cW H p dx L M rs size n δ par) (s : Same H H') : Wv cW H' p dx L M rs size n δ par := W.keep fun b _ o e => s b o e
theorem Wv.fl (W : Wv cW H p dx L M rs size n δ par) (T : Txt P w K mg base c cF cW cG) : FldAt K H p "lanes" (.ref L) := ⟨cW, dx, _, W.hp, T.o_Weave.cl, T.na_Weave _ (by simp), wf_lanes _ _ _⟩
theorem Wv.fm (W : Wv cW H p dx L M rs size n δ par) (T : Txt P w K mg base c cF cW cG) : FldAt K H p "merged" (.ref M) := ⟨cW, dx, _, W.hp, T.o_Weave.cl, T.na_Weave _ (by simp), wf_merged _ _ _⟩
theorem Wv.fs (W : Wv cW H p dx L M rs size n δ par) (T : Txt P w K mg base c cF cW cG) : FldAt K H p "size" (.int (size : Nat)) := ⟨cW, dx, _, W.hp, T.o_Weave.cl, T.na_Weave _ (by simp), wf_size _ _ _⟩
theorem Wv.at_ (W : Wv cW H p dx L M rs size n δ par) {i : Nat} (h : i < n) : ∃ r, rs[i]? = some r ∧ H r = some (.lst (rowV size (δ i))) ∧ (rs.map V.ref)[i]? = some (V.ref r) := by
  have hi : i < rs.length := by rw [W.ln]; exact h
  refine ⟨rs[i], List.getElem?_eq_getElem hi, W.row i _ (List.getElem?_eq_getElem hi), ?_⟩
  rw [List.getElem?_map, List.getElem?_eq_getElem hi]
  rfl
theorem nodup_ix {α : Type} {l : List α} (h : l.Nodup) {i j : Nat} {x : α} (a : l[i]? = some x) (b : l[j]? = some x) : i = j := by
  obtain ⟨hi, e1⟩ := List.getElem?_eq_some_iff.mp a
  obtain ⟨hj, e2⟩ := List.getElem?_eq_some_iff.mp b
  exact (List.getElem_inj h).mp (e1.trans e2.symm)
/-- a sign of a spot is led elsewhere -/
theorem Wv.set (W : Wv cW H p dx L M rs size n δ par) {i s : Nat} {r : Addr} (hr : rs[i]? = some r) (v : Option Nat) : Wv cW (upd H r (.lst ((rowV size (δ i)).set s (ov v)))) p dx L M rs size n (MN.set2 δ i s v) par := by
  have hm := List.mem_of_getElem? hr
  have n1 : L ≠ r := fun e => (List.nodup_cons.mp W.nd).1 (by rw [e]; exact List.mem_cons_of_mem _ hm)
  have n2 : M ≠ r := fun e => (List.nodup_cons.mp (List.nodup_cons.mp W.nd).2).1 (by rw [e]; exact hm)
  have n3 : p ≠ r := fun e => W.pp (by rw [e]; exact List.mem_cons_of_mem _ (List.mem_cons_of_mem _ hm))
  refine ⟨by rw [upd_ne n3]; exact W.hp, by rw [upd_ne n1]; exact W.hl, by rw [upd_ne n2]; exact W.hm, W.ln, fun j r' e => ?_, W.nd, W.pp⟩
  by_cases z : r' = r
  · subst z
    have : j = i := nodup_ix (List.nodup_cons.mp (List.nodup_cons.mp W.nd).2).2 e hr
    subst this
    rw [upd_same, rowV_set]
    congr 3
    funext b
    unfold MN.set2
    simp
  · rw [upd_ne z, W.row j r' e]
    have : j ≠ i := fun q => by subst q; rw [e] at hr; exact z (Option.some.inj hr)
    congr 3
    funext b
    unfold MN.set2
    simp [this]
theorem Wv.setPar (W : Wv cW H p dx L M rs size n δ par) {i v : Nat} : Wv cW (upd H M (.lst ((parV n par).set i (V.int (v : Nat))))) p dx L M rs size n δ (fun a => if a = i then v else par a) := by
  have n1 : L ≠ M := fun e => (List.nodup_cons.mp W.nd).1 (by rw [e]; exact List.mem_cons_self)
  have n3 : p ≠ M := fun e => W.pp (by rw [e]; simp)
  refine ⟨by rw [upd_ne n3]; exact W.hp, by rw [upd_ne n1]; exact W.hl, by rw [upd_same, parV_set], W.ln, fun j r e => ?_, W.nd, W.pp⟩
  have n2 : r ≠ M := fun z => (List.nodup_cons.mp (List.nodup_cons.mp W.nd).2).1 (by rw [← z]; exact List.mem_of_getElem? e)
  rw [upd_ne n2]
  exact W.row j r e
end
theorem bx12 : ∀ s : Nat, s < 12 → Builtin.bitXor (s : Int) 1 = ((MN.inv s : Nat) : Int) ∧ MN.inv s < 12 := by decide +kernel
def spLay (cW : Addr) : Sp := fun vs H Q _ => ∃ (p dx L M : Addr) (rs : List Addr) (size n : Nat) (δ : Nat → Nat → Option Nat) (par : Nat → Nat) (x y z : Nat), vs = [.ref p, .int x, .int y, .int z] ∧ Wv cW H p dx L M rs size n δ par ∧ size ≤ 12 ∧ x < n ∧ y < size ∧ MN.inv y < size ∧ z < n ∧
  ∀ H', Wv cW H' p dx L M rs size n (MN.lay δ x y z) par → Oth rs H H' → Q .non H'
theorem ok_wlay (S : SrcM K cW "lay" "Weave.lay" s_Weave_lay) (T : Txt P w K mg base c cF cW cG) : OkM P w K mg base cW 1 "lay" ["self", "spot", "sign", "other"] (spLay cW) := by
  refine okm S (fun f fd F => F.ok sc_Weave_lay (fun vs H Q E h => ?_) (fun cdv A outer s H vs Q E hr h => ?_)) (fun _ _ _ _ _ _ us hl => match us, hl with | [_, _, _, _], _ => rfl)
  · obtain ⟨_, _, _, _, _, _, _, _, _, _, _, _, rfl, _⟩ := h
    rfl
  · obtain ⟨p, dx, L, M, rs, size, n, δ, par, x, y, z, rfl, W, h12, hx, hy, hy2, hz, q⟩ := h
    refine ⟨_, ((pss_cons (ps_asg (pv 3) (pg_sub (pe_ix ix_lM (pe_fldA (pv 0)) (pv 1) (fun _ _ => rfl)) (pv 2) set_list))
      (pss_one (ps_asg (pv 1) (pg_sub (pe_ix ix_lM (pe_fldA (pv 0)) (pv 3) (fun _ _ => rfl)) (pe_op op_xor (pv 2) pe_int) set_list))))), ?_⟩
    walk_at "rd"
    obtain ⟨r1, e1, h1, g1⟩ := W.at_ hx
    have W1 := W.set (s := y) e1 (some z)
    refine ⟨_, W.fl T, _, rfl, _, W.hl, _, atI_nat g1, _, rfl, _, h1, y, ixN_nat (by rw [rowV_len]; exact hy), ?_⟩
    obtain ⟨r2, e2, h2, g2⟩ := W1.at_ hz
    refine ⟨_, W1.fl T, _, rfl, _, W1.hl, _, atI_nat g2, _, rfl, _, h2, MN.inv y, ?_, ?_⟩
    · rw [(bx12 y (by omega)).1]
      exact ixN_nat (by rw [rowV_len]; exact hy2)
    · exact q _ (W1.set e2 (some x)) ((Oth.set (List.mem_of_getElem? e1)).trans (Oth.set (List.mem_of_getElem? e2)))
/-- the empty table -/
def spWInit (cW : Addr) : Sp := fun vs H Q _ => ∃ (p dx : Addr) (sz : Nat), vs = [.ref p, .int sz] ∧ sz ≤ 12 ∧ H p = some (.ins cW dx []) ∧
  ∀ H' L M r, Wv cW H' p dx L M [r] sz 1 (fun _ _ => none) (fun a => a) → H L = none → H M = none → H r = none → Oth [p] H H' → Q .non H'
theorem ok_winit (S : SrcI K cW "Weave.__init__" s_Weave_init) (T : Txt P w K mg base c cF cW cG) : OkI CX0 P w K mg base cW 1 ["self", "size"] (spWInit cW) := by
  refine oki S (fun f fd F => F.ok sc_Weave_init (fun vs H Q E h => ?_) (fun cdv A outer s H vs Q E hr h => ?_)) (fun _ _ _ _ _ _ us hl => match us, hl with | [_, _], _ => rfl)
  · obtain ⟨_, _, _, rfl, _⟩ := h
    rfl
  · obtain ⟨p, dx, sz, rfl, hsz, hp, q⟩ := h
    refine ⟨_, ((pss_cons (ps_fld (pv 0) (pv 1) rfl)
      (pss_cons (ps_fld (pv 0) (pe_lst (pa_cons (pe_op op_rep (pe_lst (pa_cons pe_non pa_nil)) (pv 1)) pa_nil)) rfl)
      (pss_one (ps_fld (pv 0) (pe_lst (pa_cons pe_int pa_nil)) rfl))))), ?_⟩
    walk_at "rd"
    have hz := sizeLine_eq
    refine ⟨cW, dx, [], hp, T.o_Weave.cl, T.na_Weave _ (by simp), by decide, by omega, fun a na => ⟨a, sz, [V.non], rfl, rfl, upd_same, by omega, by omega, by simp; omega, fun r nr => ?_⟩⟩
    have np : ∀ {HH : Hp} {b : Addr} {o : HO}, HH p = some o → HH b = none → b ≠ p := fun h n => (ne_none h n).symm
    have pa : a ≠ p := np upd_same na
    have hp2 : upd (upd H p (.ins cW dx (putF "size" (.int (sz : Nat)) []))) a (.lst [V.non]) p = some (.ins cW dx (putF "size" (.int (sz : Nat)) [])) := by rw [upd_ne pa.symm, upd_same]
    have pr : r ≠ p := np hp2 nr
    have s3 := same_upd nr (o := .lst (List.replicate (sz : Int).toNat [V.non]).flatten)
    have h3r : upd (upd (upd H p (.ins cW dx (putF "size" (.int (sz : Nat)) []))) a (.lst [V.non])) r (.lst (List.replicate (sz : Int).toNat [V.non]).flatten) r = some (.lst (rowV sz fun _ => none)) := by
      rw [upd_same]
      congr 2
      unfold rowV
      rw [Int.toNat_natCast]
      apply List.ext_getElem?
      intro i
      rw [List.flatten_replicate_singleton, List.getElem?_replicate, List.getElem?_map]
      by_cases hi : i < sz
      · rw [if_pos hi, List.getElem?_range hi]
        rfl
      · rw [if_neg hi, List.getElem?_eq_none (by simpa using hi)]
        rfl
    have hp3 := s3 _ _ hp2
    have o3 : Oth [p] H (upd (upd (upd H p (.ins cW dx (putF "size" (.int (sz : Nat)) []))) a (.lst [V.non])) r (.lst (List.replicate (sz : Int).toNat [V.non]).flatten)) := (Oth.set (by simp)).trans ((Oth.of (same_upd na)).trans (.of s3))
    have rH : H r = none := by
      rw [upd_ne (fun z => by rw [z, upd_same] at nr; cases nr), upd_ne pr] at nr
      exact nr
    generalize upd (upd (upd H p (.ins cW dx (putF "size" (.int (sz : Nat)) []))) a (.lst [V.non])) r (.lst (List.replicate (sz : Int).toNat [V.non]).flatten) = H3 at s3 h3r hp3 o3 ⊢
    refine ⟨by omega, fun l nl => ?_⟩
    have pl : l ≠ p := np hp3 nl
    have rl : r ≠ l := ne_none h3r nl
    have lH : H l = none := by
      cases e : H l with
      | none => rfl
      | some o => rw [o3 l o (by simpa using pl) e] at nl; cases nl
    have hp4 := same_upd nl (o := .lst [V.ref r]) _ _ hp3
    refine ⟨cW, dx, _, hp4, T.o_Weave.cl, T.na_Weave _ (by simp), by show 1 < 1000; decide, by omega, fun m nm => ?_⟩
    have pm : m ≠ p := np upd_same nm
    rw [upd_ne pm] at nm
    have rm : r ≠ m := ne_none (same_upd nl _ _ h3r) nm
    have lm : l ≠ m := ne_none upd_same nm
    rw [upd_ne lm.symm] at nm
    have mH : H m = none := by
      cases e : H m with
      | none => rfl
      | some o => rw [o3 m o (by simpa using pm) e] at nm; cases nm
    refine ⟨cW, dx, _, by rw [upd_ne pm.symm, upd_same], T.o_Weave.cl, T.na_Weave _ (by simp), by show 2 < 1000; decide, q _ l m r ⟨by rw [upd_same]; rfl, ?_, ?_, rfl, fun i r' e => ?_, ?_, ?_⟩ lH mH rH ?_⟩
    · rw [upd_ne pl, upd_ne lm, upd_ne pl, upd_same]
      rfl
    · rw [upd_ne pm, upd_same]
      rfl
    · have : r' = r := by
        have := List.mem_of_getElem? e
        simpa using this
      subst this
      rw [upd_ne pr, upd_ne rm, upd_ne pr, upd_ne rl]
      exact h3r
    · simp [lm, rl.symm, rm.symm]
    · simp [pl.symm, pm.symm, pr.symm]
    · refine o3.trans ((Oth.of (same_upd nl)).trans ((Oth.set (by simp)).trans ((Oth.of (same_upd ?_)).trans (Oth.set (by simp)))))
      rw [upd_ne pm, upd_ne lm.symm]
      exact nm
end

end K29

namespace K29
open PySem PySem.Spec PyProof.Rows L2 G1 MW
abbrev s_Weave_new_spot : Stmt := inClass (topS 26) 1
theorem sc_Weave_new_spot : FnScope ["self"] ["self"] (defScope s_Weave_new_spot) := ⟨rfl, rfl, rfl, by decide +kernel, rfl, by decide +kernel, by decide +kernel⟩
abbrev s_Weave_living : Stmt := inClass (topS 26) 2
theorem sc_Weave_living : FnScope ["self", "spot"] ["self", "spot"] (defScope s_Weave_living) := ⟨rfl, rfl, rfl, by decide +kernel, rfl, by decide +kernel, by decide +kernel⟩
abbrev s_Weave_link : Stmt := inClass (topS 26) 11
theorem sc_Weave_link : FnScope ["self", "spot", "sign", "other"] ["self", "spot", "sign", "other"] (defScope s_Weave_link) := ⟨rfl, rfl, rfl, by decide +kernel, rfl, by decide +kernel, by decide +kernel⟩
abbrev s_Weave_read_on : Stmt := inClass (topS 26) 7
theorem sc_Weave_read_on : FnScope ["self", "spot", "numbers", "at"] ["self", "spot", "numbers"] (defScope s_Weave_read_on) := ⟨rfl, rfl, rfl, by decide +kernel, rfl, by decide +kernel, by decide +kernel⟩
abbrev s_Weave_read_back : Stmt := inClass (topS 26) 8
theorem sc_Weave_read_back : FnScope ["self", "spot", "numbers", "low", "at"] ["self", "spot", "numbers", "low"] (defScope s_Weave_read_back) := ⟨rfl, rfl, rfl, by decide +kernel, rfl, by decide +kernel, by decide +kernel⟩
local macro_rules | `(tactic| walk_at "rd") => `(tactic| simp only [L2.iZip, G1.rGtD, L2.rMin, L2.tLockE, L2.iKeys, L2.iEnum, L2.ipI, L2.rIn, L2.tPairs, L2.rSetD, L2.tDNewK, G1.tCallK3, G1.tCallK4, G1.tFldA, G1.tCallM, G1.tMakeO, L2.sFld, L2.rExtend, L2.tDNotIn, L2.tDIn, L2.tDGet2, L2.tDisp, L2.rPopAt, L2.tLstRg, L2.tRg1, G1.tMakeO2, G1.rOwnI, G1.rCntN, L2.tPar3, L2.tSeq, L2.tAug, L2.tTup, G1.tCallK3b, G1.tMt, G1.tMinK, G1.rIsTu, L2.rIxT, G1.rTr, G1.rLtD, if_true, if_false, L2.rNotB, L2.rMax, L2.iRng2,L2.tSeq, G1.iEnumS, L2.tDGet, L2.gTup, L2.gCons, L2.gNil, L2.tPar, L2.rIxS, G1.tRepU, L2.rSlS, L2.iStr, L2.tNotV, G1.rIsV, G1.mk_int, G1.mk_bool, G1.mk_str, G1.mk_list, G1.tCallX, V.ty.injEq, L2.tChain, L2.rIsB, G1.tRevS, L2.tM0, L2.tM1, L2.tCallS, G1.tCallK2, G1.tMkR, L2.rAll, L2.rPop, L2.tBM0, L2.tRevL, L2.tAsg, L2.tOp, L2.rI, L2.rI0, L2.tVar, L2.tC, L2.tCB, L2.tCons, L2.tNil, L2.tRet, L2.gName, L2.start, L2.tIf, L2.tIfS, L2.tTest, L2.tNext, L2.rIxL, L2.tSl, L2.rSlL, L2.tNoPart, L2.tPart, L2.tLst, L2.tTup, L2.rSum, L2.tBits, L2.gSub, L2.rSetL, L2.rCat, L2.tDrop, L2.tBM, L2.tBM0, L2.rAppend, L2.tYes, L2.tB, L2.tAnd, L2.tOr, L2.tNot, L2.tAndV, L2.tOrV, G1.tCallO, G1.tXm, G1.tXn, G1.tXv, HO.lst.injEq, HO.tup.injEq, Nat.reduceAdd, Nat.zero_add, List.set_cons_zero, List.set_cons_succ, G1.tFor_eq, G1.tLc_eq, G1.rIxM, G1.rLenM, G1.rSlM, G1.atI_0, G1.atI_1, G1.atI_2, G1.ixN_0, G1.ixN_2, L2.upd_same, L2.upd_upd, and_assoc, L2.iRng1, L2.iList, L2.tUn, L2.rU, G1.rRepS, L2.wipe, List.foldl, L2.rEq, L2.rNe, List.map, List.replicate, List.length, List.append, List.set, List.getElem?_cons_zero, List.getElem?_cons_succ, List.cons_append, List.nil_append, Option.some.injEq, V.int.injEq, V.bl.injEq, V.ref.injEq, V.str.injEq, List.cons.injEq, reduceCtorEq, false_and, and_false, exists_false, or_false, false_or, exists_and_left, exists_and_right, exists_eq_left', exists_eq_left, true_and, and_true, Nat.sub_self, decide_eq_true_eq])
section
variable {P : Program} {w : World} {K : PySem.W.Frag} {mg : Str → Option Value} {base : Heap} {c : Nat → Addr} {cF cW cG : Addr}
def spNew (cW : Addr) : Sp := fun vs H Q _ => ∃ (p dx L M : Addr) (rs : List Addr) (size n : Nat) (δ : Nat → Nat → Option Nat) (par : Nat → Nat), vs = [.ref p] ∧ Wv cW H p dx L M rs size n δ par ∧ size ≤ 12 ∧ n ≤ 100000 ∧ (∀ s, δ n s = none) ∧ par n = n ∧
  ∀ H' r, Wv cW H' p dx L M (rs ++ [r]) size (n + 1) δ par → H r = none → Oth [L, M] H H' → Q (.int n) H'
theorem ok_wnew (S : SrcM K cW "new_spot" "Weave.new_spot" s_Weave_new_spot) (T : Txt P w K mg base c cF cW cG) : OkM P w K mg base cW 1 "new_spot" ["self"] (spNew cW) := by
  refine okm S (fun f fd F => F.ok sc_Weave_new_spot (fun vs H Q E h => ?_) (fun cdv A outer s H vs Q E hr h => ?_)) (fun _ _ _ _ _ _ us hl => match us, hl with | [_], _ => rfl)
  · obtain ⟨_, _, _, _, _, _, _, _, _, rfl, _⟩ := h
    rfl
  · obtain ⟨p, dx, L, M, rs, size, n, δ, par, rfl, W, h12, hn, hδ, hpar, q⟩ := h
    refine ⟨_, ((pss_cons (ps_expr (pe_bm PySem.F.plainAttrs_list PySem.F.slot_list_append PySem.F.type_list_append mt_append (pe_fldA (pv 0)) (pa_cons (pe_op op_rep (pe_lst (pa_cons pe_non pa_nil)) (pe_fldA (pv 0))) pa_nil)))
      (pss_cons (ps_expr (pe_bm PySem.F.plainAttrs_list PySem.F.slot_list_append PySem.F.type_list_append mt_append (pe_fldA (pv 0)) (pa_cons (pe_callB call_lenM (by rfl) T.n_len PySem.boot_len (pa_cons (pe_fldA (pv 0)) pa_nil)) pa_nil)))
      (pss_one (ps_ret (pe_op op_sub (pe_callB call_lenM (by rfl) T.n_len PySem.boot_len (pa_cons (pe_fldA (pv 0)) pa_nil)) pe_int)))))), ?_⟩
    walk_at "rd"
    have hz := sizeLine_eq
    refine ⟨_, W.fl T, .inl ⟨rfl, _, SqL.of W.hl⟩, by omega, fun a na => ?_⟩
    have W1 := W.same (same_upd na (o := .lst [V.non]))
    refine ⟨_, W1.fs T, a, (size : Nat), [V.non], rfl, rfl, upd_same, by omega, by omega, by simp; omega, fun r nr => ?_⟩
    have np : ∀ b ∈ p :: L :: M :: rs, H b ≠ none := fun b hb e => by
      rcases List.mem_cons.mp hb with rfl | hb
      · rw [W.hp] at e; cases e
      · rcases List.mem_cons.mp hb with rfl | hb
        · rw [W.hl] at e; cases e
        · rcases List.mem_cons.mp hb with rfl | hb
          · rw [W.hm] at e; cases e
          · obtain ⟨i, hi, rfl⟩ := List.mem_iff_getElem.mp hb
            rw [W.row i _ (List.getElem?_eq_getElem hi)] at e
            cases e
    have ra : r ≠ a := fun z => by rw [z, upd_same] at nr; cases nr
    have rH : H r = none := by rw [upd_ne ra] at nr; exact nr
    have rno : r ∉ p :: L :: M :: rs := fun z => np r z rH
    simp only [List.mem_cons, not_or] at rno
    obtain ⟨r1, r2, r3, r4⟩ := rno
    obtain ⟨nd1, nd2⟩ := List.nodup_cons.mp W.nd
    obtain ⟨nd3, nd4⟩ := List.nodup_cons.mp nd2
    have LM : L ≠ M := fun z => nd1 (by rw [z]; exact List.mem_cons_self)
    have pL : p ≠ L := fun z => W.pp (by rw [z]; simp)
    have pM : p ≠ M := fun z => W.pp (by rw [z]; simp)
    have W2 := W1.same (same_upd nr (o := .lst (List.replicate (size : Int).toNat [V.non]).flatten))
    have h2r : upd (upd H a (.lst [V.non])) r (.lst (List.replicate (size : Int).toNat [V.non]).flatten) r = some (.lst (rowV size (δ n))) := by
      rw [upd_same]
      congr 2
      unfold rowV
      rw [Int.toNat_natCast]
      apply List.ext_getElem?
      intro i
      rw [List.flatten_replicate_singleton, List.getElem?_replicate, List.getElem?_map]
      by_cases hi : i < size
      · rw [if_pos hi, List.getElem?_range hi]
        show _ = some (ov (δ n i))
        rw [hδ]
        rfl
      · rw [if_neg hi, List.getElem?_eq_none (by simpa using hi)]
        rfl
    have o2 : Same H (upd (upd H a (.lst [V.non])) r (.lst (List.replicate (size : Int).toNat [V.non]).flatten)) := (same_upd na).trans (same_upd nr)
    generalize upd (upd H a (.lst [V.non])) r (.lst (List.replicate (size : Int).toNat [V.non]).flatten) = H2 at W2 h2r o2 ⊢
    have f3 : FldAt K (upd H2 L (.lst (rs.map V.ref ++ [V.ref r]))) p "merged" (.ref M) := ⟨cW, dx, _, by rw [upd_ne pL]; exact W2.hp, T.o_Weave.cl, T.na_Weave _ (by simp), wf_merged _ _ _⟩
    have h3M : upd H2 L (.lst (rs.map V.ref ++ [V.ref r])) M = some (.lst (parV n par)) := by rw [upd_ne LM.symm]; exact W2.hm
    refine ⟨L, rfl, _, W2.hl, by rw [List.length_map, W.ln]; omega, _, f3, .inl ⟨rfl, _, SqL.of h3M⟩, _, f3, M, rfl, _, h3M, M, rfl, _, h3M, by rw [parV_len]; omega, _, ?_, M, rfl, _, upd_same, ?_⟩
    · exact ⟨cW, dx, _, by rw [upd_ne pM, upd_ne pL]; exact W2.hp, T.o_Weave.cl, T.na_Weave _ (by simp), wf_merged _ _ _⟩
    · rw [List.length_append, parV_len, List.length_singleton, show (((n + 1 : Nat) : Int) - 1) = (n : Int) by omega]
      refine q _ r ⟨?_, ?_, ?_, ?_, fun i r' e => ?_, ?_, ?_⟩ rH ?_
      · rw [upd_ne pM, upd_ne pL]
        exact W2.hp
      · rw [upd_ne LM, upd_same, List.map_append]
        rfl
      · rw [upd_same]
        congr 2
        unfold parV
        rw [List.range_succ, List.map_append, List.map_singleton, hpar]
      · rw [List.length_append, W.ln]
        rfl
      · have nL : r' ≠ L := fun z => by
          have := List.mem_of_getElem? e
          rcases List.mem_append.mp this with h | h
          · exact nd1 (by rw [← z]; exact List.mem_cons_of_mem _ h)
          · exact r2 (by rw [← List.mem_singleton.mp h, z])
        have nM : r' ≠ M := fun z => by
          have := List.mem_of_getElem? e
          rcases List.mem_append.mp this with h | h
          · exact nd3 (by rw [← z]; exact h)
          · exact r3 (by rw [← List.mem_singleton.mp h, z])
        rw [upd_ne nM, upd_ne nL]
        rcases Nat.lt_or_ge i rs.length with hl | hl
        · rw [List.getElem?_append_left hl] at e
          exact W2.row i r' e
        · rw [List.getElem?_append_right hl] at e
          have hi : i - rs.length = 0 := by
            have := (List.getElem?_eq_some_iff.mp e).1
            simp at this
            omega
          rw [hi] at e
          cases e
          rw [show i = n by have := W.ln; omega]
          exact h2r
      · refine List.nodup_cons.mpr ⟨?_, List.nodup_cons.mpr ⟨?_, List.nodup_append.mpr ⟨nd4, by simp, fun x hx y hy e => r4 (by rw [← List.mem_singleton.mp hy, ← e]; exact hx)⟩⟩⟩
        · simp only [List.mem_cons, List.mem_append, List.not_mem_nil, or_false, not_or]
          exact ⟨LM, fun z => nd1 (List.mem_cons_of_mem _ z), fun z => r2 z.symm⟩
        · simp only [List.mem_append, List.mem_cons, List.not_mem_nil, or_false, not_or]
          exact ⟨nd3, fun z => r3 z.symm⟩
      · simp only [List.mem_cons, List.mem_append, List.not_mem_nil, or_false, not_or]
        exact ⟨pL, pM, fun z => W.pp (List.mem_cons_of_mem _ (List.mem_cons_of_mem _ z)), fun z => r1 z.symm⟩
      · exact (Oth.of o2).trans ((Oth.set (by simp)).trans (Oth.set (by simp)))
def spLiving (cW : Addr) : Sp := fun vs H Q _ => ∃ (p dx L M : Addr) (rs : List Addr) (size n : Nat) (δ : Nat → Nat → Option Nat) (par : Nat → Nat) (x : Nat) (I : (Nat → Nat) → Prop), vs = [.ref p, .int x] ∧ Wv cW H p dx L M rs size n δ par ∧ x < n ∧ I par ∧ (∀ par, I par → ∀ a, par a ≤ a) ∧ (∀ par a, I par → I fun b => if b = a then par (par a) else par b) ∧
  ∀ H' par' y, Wv cW H' p dx L M rs size n δ par' → I par' → par' y = y → y < n → MN.E par' [] x y → (∀ a, par' a = a ↔ par a = a) → Oth [M] H H' → Q (.int (y : Nat)) H'
theorem ok_wliving (S : SrcM K cW "living" "Weave.living" s_Weave_living) (T : Txt P w K mg base c cF cW cG) : OkM P w K mg base cW 1 "living" ["self", "spot"] (spLiving cW) := by
  refine okm S (fun f fd F => F.ok sc_Weave_living (fun vs H Q E h => ?_) (fun cdv A outer s H vs Q E hr h => ?_)) (fun _ _ _ _ _ _ us hl => match us, hl with | [_, _], _ => rfl)
  · obtain ⟨_, _, _, _, _, _, _, _, _, _, _, rfl, _⟩ := h
    rfl
  · obtain ⟨p, dx, L, M, rs, size, n, δ, par, x, I, rfl, W, hx, hI, hle, hst, q⟩ := h
    refine ⟨_, ((pss_cons (ps_while PassesOwn.never (pt_cmpR op_ne (pe_ix ix_lM (pe_fldA (pv 0)) (pv 1) (fun _ _ => rfl)) (pv 1) (nomark _)) (pss_cons (ps_asg (pe_ix ix_lM (pe_fldA (pv 0)) (pe_ix ix_lM (pe_fldA (pv 0)) (pv 1) (fun _ _ => rfl)) (fun _ _ => rfl)) (pg_sub (pe_fldA (pv 0)) (pv 1) set_list))
      (pss_one (ps_set (i := 1) sc_Weave_living.nd rfl (.inl rfl) (pe_ix ix_lM (pe_fldA (pv 0)) (pv 1) (fun _ _ => rfl))))))
      (pss_one (ps_ret (pv 1))))), ?_⟩
    walk_at "rd"
    refine ⟨fun m σ H' => ∃ (y : Nat) (par' : Nat → Nat), σ = [some (.ref p), some (.int y)] ∧ Wv cW H' p dx L M rs size n δ par' ∧ I par' ∧ y < n ∧ y ≤ m ∧ MN.E par' [] x y ∧ (∀ a, par' a = a ↔ par a = a) ∧ Oth [M] H H', ⟨x, x, par, rfl, W, hI, hx, Nat.le_refl _, .refl _, fun a => Iff.rfl, .refl H⟩, ?_⟩
    rintro m σ H' ⟨y, par', rfl, W', hI', hy, hm, hE, hal, o⟩
    walk_at "rd"
    have fm := W'.fm T
    have hle' := hle par' hI'
    have g1 := atI_nat (parV_get par' hy)
    refine ⟨_, fm, M, rfl, _, W'.hm, _, g1, rfl, ?_⟩
    by_cases hp : par' y = y
    · rw [hp, decide_eq_true rfl, if_neg (by decide)]
      exact q _ par' y W' hI' hp hy hE hal o
    · rw [decide_eq_false (fun z => hp (by have := V.int.inj z; omega)), if_pos (by decide)]
      have hy1 : par' y < n := Nat.lt_of_le_of_lt (hle' y) hy
      have hlt : par' y < y := Nat.lt_of_le_of_ne (hle' y) hp
      have hpp : par' (par' y) ≤ par' y := hle' (par' y)
      have g2 := atI_nat (parV_get par' hy1)
      have W2 := W'.setPar (i := y) (v := par' (par' y))
      refine ⟨_, fun _ _ h => h, _, fm, _, fm, M, rfl, _, W'.hm, _, g1, M, rfl, _, _, rfl, W'.hm, _, g2, _, fm, M, rfl, _, W'.hm, y, ixN_nat (by rw [parV_len]; exact hy), _, W2.fm T, M, rfl, _, W2.hm, _, atI_nat (parV_get _ hy), ?_⟩
      rw [if_pos rfl]
      have e2 : MN.E (fun a => if a = y then par' (par' y) else par' a) [] y (par' (par' y)) := by
        have := MN.E.par (par := fun a => if a = y then par' (par' y) else par' a) (ps := []) y
        simp only [if_pos] at this
        exact this
      exact ⟨par' (par' y), by omega, _, rfl, _, W2, hst par' y hI', by omega, Nat.le_refl _, (MN.E.half y hE).trans e2, fun a => (MN.half_alive hle' y a).trans (hal a), o.trans (Oth.set (by simp))⟩
/-- a list of pairs of spots -/
def PrsAt (H : Hp) (q : Addr) (ps : List (Nat × Nat)) : Prop := ∃ ts : List Addr, H q = some (.lst (ts.map V.ref)) ∧ ts.length = ps.length ∧ ∀ (i : Nat) (t : Addr) (ab : Nat × Nat), ts[i]? = some t → ps[i]? = some ab → H t = some (.tup [.int (ab.1 : Nat), .int (ab.2 : Nat)])
def spLink (cW : Addr) : Sp := fun vs H Q _ => ∃ (p dx L M : Addr) (rs : List Addr) (size n : Nat) (δ : Nat → Nat → Option Nat) (par : Nat → Nat) (x y z : Nat), vs = [.ref p, .int x, .int y, .int z] ∧ Wv cW H p dx L M rs size n δ par ∧ size ≤ 12 ∧ x < n ∧ y < size ∧ MN.inv y < size ∧ z < n ∧
  ∀ H' q, Wv cW H' p dx L M rs size n (MN.linkT δ x y z).1 par → PrsAt H' q (MN.linkT δ x y z).2 → H q = none → Oth rs H H' → Q (.ref q) H'
theorem prs_one {H : Hp} {t q : Addr} {a b : Nat} (nq : (upd H t (.tup [.int (a : Nat), .int (b : Nat)])) q = none) : PrsAt (upd (upd H t (.tup [.int (a : Nat), .int (b : Nat)])) q (.lst [.ref t])) q [(a, b)] := by
  refine ⟨[t], upd_same, rfl, fun i t' ab h1 h2 => ?_⟩
  cases i with
  | zero =>
    cases h1
    cases h2
    rw [upd_ne (ne_none upd_same nq), upd_same]
  | succ i => cases h1
theorem ok_wlink (S : SrcM K cW "link" "Weave.link" s_Weave_link) (T : Txt P w K mg base c cF cW cG) (C_Weave_lay : OkM P w K mg base cW 1 "lay" ["self", "spot", "sign", "other"] (spLay cW)) : OkM P w K mg base cW 2 "link" ["self", "spot", "sign", "other"] (spLink cW) := by
  refine okm S (fun f fd F => F.ok sc_Weave_link (fun vs H Q E h => ?_) (fun cdv A outer s H vs Q E hr h => ?_)) (fun _ _ _ _ _ _ us hl => match us, hl with | [_, _, _, _], _ => rfl)
  · obtain ⟨_, _, _, _, _, _, _, _, _, _, _, _, rfl, _⟩ := h
    rfl
  · obtain ⟨p, dx, L, M, rs, size, n, δ, par, x, y, z, rfl, W, h12, hx, hy, hy2, hz, q⟩ := h
    refine ⟨_, ((pss_cons (ps_if (pt_cmpR op_notN (pe_ix ix_lM (pe_ix ix_lM (pe_fldA (pv 0)) (pv 1) (fun _ _ => rfl)) (pv 2) (fun _ _ => rfl)) pe_non (nomark _)) (pss_one (ps_ret (pe_lst (pa_cons (pe_tup (pa_cons (pe_ix ix_lM (pe_ix ix_lM (pe_fldA (pv 0)) (pv 1) (fun _ _ => rfl)) (pv 2) (fun _ _ => rfl)) (pa_cons (pv 3) pa_nil))) pa_nil)))) pss_nil)
      (pss_cons (ps_if (pt_cmpR op_notN (pe_ix ix_lM (pe_ix ix_lM (pe_fldA (pv 0)) (pv 3) (fun _ _ => rfl)) (pe_op op_xor (pv 2) pe_int) (fun _ _ => rfl)) pe_non (nomark _)) (pss_one (ps_ret (pe_lst (pa_cons (pe_tup (pa_cons (pe_ix ix_lM (pe_ix ix_lM (pe_fldA (pv 0)) (pv 3) (fun _ _ => rfl)) (pe_op op_xor (pv 2) pe_int) (fun _ _ => rfl)) (pa_cons (pv 1) pa_nil))) pa_nil)))) pss_nil)
      (pss_cons (ps_expr (pe_callM T.o_Weave C_Weave_lay (hr.mono (by decide)) (pv 0) (pa_cons (pv 1) (pa_cons (pv 2) (pa_cons (pv 3) pa_nil)))))
      (pss_one (ps_ret (pe_lst pa_nil))))))), ?_⟩
    walk_at "rd"
    have hsz := sizeLine_eq
    obtain ⟨r1, e1, h1, g1⟩ := W.at_ hx
    obtain ⟨r2, e2, h2, g2⟩ := W.at_ hz
    have b1 := atI_nat (rowV_get (δ x) hy)
    have b2 := atI_nat (rowV_get (δ z) hy2)
    rw [← (bx12 y (by omega)).1] at b2
    refine ⟨_, W.fl T, L, rfl, _, W.hl, _, atI_nat g1, r1, rfl, _, h1, _, b1, ?_⟩
    unfold MN.linkT at q
    cases eu : δ x y with
    | some u =>
      rw [eu] at q
      rw [if_pos (by simp [ov])]
      refine ⟨_, W.fl T, L, rfl, _, W.hl, _, atI_nat g1, r1, rfl, _, h1, _, b1, by omega, fun t nt => ⟨by omega, fun q' nq => ?_⟩⟩
      rw [eu] at nq ⊢
      have nq' : H q' = none := by
        rw [upd_ne fun z => by rw [z, upd_same] at nq; cases nq] at nq
        exact nq
      exact q _ q' ((W.same (same_upd nt)).same (same_upd nq)) (prs_one nq) nq' ((Oth.of (same_upd nt)).trans (.of (same_upd nq)))
    | none =>
      rw [eu] at q
      rw [if_neg (by simp [ov])]
      refine ⟨_, W.fl T, L, rfl, _, W.hl, _, atI_nat g2, r2, rfl, _, h2, _, b2, ?_⟩
      cases ev : δ z (MN.inv y) with
      | some v =>
        dsimp only at q
        rw [ev] at q
        rw [if_pos (by simp [ov])]
        refine ⟨_, W.fl T, L, rfl, _, W.hl, _, atI_nat g2, r2, rfl, _, h2, _, b2, by omega, fun t nt => ⟨by omega, fun q' nq => ?_⟩⟩
        rw [ev] at nq ⊢
        have nq' : H q' = none := by
          rw [upd_ne fun z => by rw [z, upd_same] at nq; cases nq] at nq
          exact nq
        exact q _ q' ((W.same (same_upd nt)).same (same_upd nq)) (prs_one nq) nq' ((Oth.of (same_upd nt)).trans (.of (same_upd nq)))
      | none =>
        dsimp only at q
        rw [ev] at q
        rw [if_neg (by simp [ov])]
        refine ⟨dx, _, W.hp, wf_no _ _ _ _ (by simp [mNames]), p, dx, L, M, rs, size, n, δ, par, x, y, z, rfl, W, h12, hx, hy, hy2, hz, fun H' W' o => ⟨by omega, fun q' nq => ?_⟩⟩
        have nq' : H q' = none := by
          cases e : H q' with
          | none => rfl
          | some oo =>
            have : q' ∉ rs := fun zz => by
              obtain ⟨i, hi, e3⟩ := List.mem_iff_getElem.mp zz
              have := W'.row i q' (by rw [List.getElem?_eq_getElem hi, e3])
              rw [nq] at this
              cases this
            rw [o _ _ this e] at nq
            cases nq
        exact q _ q' (W'.same (same_upd nq)) ⟨[], upd_same, rfl, fun i t ab e => by cases e⟩ nq' (o.trans (.of (same_upd nq)))
def spReadOn (cW : Addr) : Sp := fun vs H Q _ => ∃ (p dx L M : Addr) (rs : List Addr) (size n : Nat) (δ : Nat → Nat → Option Nat) (par : Nat → Nat) (x : Nat) (a : Addr) (ns : List Nat), vs = [.ref p, .int x, .ref a] ∧ Wv cW H p dx L M rs size n δ par ∧ size ≤ 12 ∧ x < n ∧ (∀ p s q, δ p s = some q → q < n) ∧ NumsAt H a ns ∧ (∀ s ∈ ns, s < size) ∧ ns.length ≤ 100000 ∧
  ∀ H' t head low, Same H H' → H t = none → H' t = some (.tup [.int (head : Nat), .int (low : Nat)]) → head < n → low ≤ ns.length → MN.run δ x (ns.take low) = some head → (∀ s, ns[low]? = some s → δ head s = none) → Q (.ref t) H'
theorem ok_wread (S : SrcM K cW "read_on" "Weave.read_on" s_Weave_read_on) (T : Txt P w K mg base c cF cW cG) : OkM P w K mg base cW 1 "read_on" ["self", "spot", "numbers"] (spReadOn cW) := by
  refine okm S (fun f fd F => F.ok sc_Weave_read_on (fun vs H Q E h => ?_) (fun cdv A outer s H vs Q E hr h => ?_)) (fun _ _ _ _ _ _ us hl => match us, hl with | [_, _, _], _ => rfl)
  · obtain ⟨_, _, _, _, _, _, _, _, _, _, _, _, rfl, _⟩ := h
    rfl
  · obtain ⟨p, dx, L, M, rs, size, n, δ, par, x, a, ns, rfl, W, h12, hx, hd, ha, hns, hl, q⟩ := h
    refine ⟨_, ((pss_cons (ps_set (i := 3) sc_Weave_read_on.nd rfl (.inl rfl) pe_int)
      (pss_cons (ps_while PassesOwn.never (PW.pt (pw_and (pt_cmpR op_lt (pv 3) (pe_callB call_lenM (by rfl) T.n_len PySem.boot_len (pa_cons (pv 2) pa_nil)) (nomark _)) (pw_and1 (pt_cmpR op_notN (pe_ix ix_lM (pe_ix ix_lM (pe_fldA (pv 0)) (pv 1) (fun _ _ => rfl)) (pe_ix ix_lM (pv 2) (pv 3) (fun _ _ => rfl)) (fun _ _ => rfl)) pe_non (nomark _))))) (pss_one (ps_par (i := 1) (j := 3) (by rfl) sc_Weave_read_on.nd rfl rfl (by decide) rfl rfl (pa_cons (pe_ix ix_lM (pe_ix ix_lM (pe_fldA (pv 0)) (pv 1) (fun _ _ => rfl)) (pe_ix ix_lM (pv 2) (pv 3) (fun _ _ => rfl)) (fun _ _ => rfl)) (pa_cons (pe_op op_add (pv 3) pe_int) pa_nil)) (by rfl))))
      (pss_one (ps_ret (pe_tup (pa_cons (pv 1) (pa_cons (pv 3) pa_nil)))))))), ?_⟩
    walk_at "rd"
    have hsz := sizeLine_eq
    refine ⟨fun m σ H' => ∃ (y k : Nat), σ = [some (.ref p), some (.int y), some (.ref a), some (.int k)] ∧ H' = H ∧ y < n ∧ k ≤ ns.length ∧ ns.length - k ≤ m ∧ MN.run δ x (ns.take k) = some y, ⟨ns.length, x, 0, rfl, rfl, hx, Nat.zero_le _, by omega, rfl⟩, ?_⟩
    rintro m σ H' ⟨y, k, rfl, rfl, hy, hk, hm, hrun⟩
    walk_at "rd"
    have ha' : H' a = some (.lst (ns.map fun n => V.int (n : Nat))) := ha
    refine ⟨_, ha', ?_⟩
    rw [List.length_map]
    by_cases hkl : k < ns.length
    · rw [if_pos (show ((k : Nat) : Int) < (ns.length : Nat) by omega)]
      have gs : ns[k]? = some ns[k] := List.getElem?_eq_getElem hkl
      have gk : atI (ns.map fun n => V.int (n : Nat)) (k : Int) = some (V.int (ns[k] : Nat)) := atI_nat (by rw [List.getElem?_map, gs]; rfl)
      have hs := hns _ (List.mem_of_getElem? gs)
      obtain ⟨r1, e1, h1, g1⟩ := W.at_ hy
      have b1 := atI_nat (rowV_get (δ y) hs)
      refine ⟨_, W.fl T, L, rfl, _, W.hl, _, atI_nat g1, _, ha', _, gk, r1, rfl, _, _, rfl, h1, _, b1, ?_⟩
      cases ev : δ y ns[k] with
      | none =>
        rw [if_neg (by simp [ov])]
        exact ⟨by omega, fun t nt => q _ t y k (same_upd nt) nt upd_same hy hk hrun fun s e => by rw [gs] at e; cases e; exact ev⟩
      | some v =>
        rw [if_pos (by simp [ov])]
        have hv := hd _ _ _ ev
        refine ⟨_, fun _ _ h => h, _, W.fl T, L, rfl, _, W.hl, _, atI_nat g1, _, ha', _, gk, r1, rfl, _, _, rfl, h1, _, b1, ?_⟩
        rw [ev]
        refine ⟨m - 1, by omega, v, k + 1, by simp [ov], rfl, hv, by omega, by omega, ?_⟩
        rw [MN.take_get gs, MN.run_append]
        exact ⟨y, hrun, MN.run_one.mpr ev⟩
    · rw [if_neg (show ¬ ((k : Nat) : Int) < (ns.length : Nat) by omega)]
      exact ⟨by omega, fun t nt => q _ t y k (same_upd nt) nt upd_same hy hk hrun fun s e => by rw [List.getElem?_eq_none (by omega)] at e; cases e⟩
def spReadBack (cW : Addr) : Sp := fun vs H Q _ => ∃ (p dx L M : Addr) (rs : List Addr) (size n : Nat) (δ : Nat → Nat → Option Nat) (par : Nat → Nat) (x : Nat) (a : Addr) (ns : List Nat) (low : Nat), vs = [.ref p, .int x, .ref a, .int low] ∧ Wv cW H p dx L M rs size n δ par ∧ size ≤ 12 ∧ x < n ∧ (∀ p s q, δ p s = some q → q < n) ∧ MN.Inv δ ∧ NumsAt H a ns ∧ (∀ s ∈ ns, s < size ∧ MN.inv s < size) ∧ ns.length ≤ 100000 ∧ low ≤ ns.length ∧
  ∀ H' t tail high, Same H H' → H t = none → H' t = some (.tup [.int (tail : Nat), .int (high : Nat)]) → tail < n → low ≤ high → high ≤ ns.length → MN.run δ tail (ns.drop high) = some x → (∀ s, low < high → ns[high - 1]? = some s → δ tail (MN.inv s) = none) → Q (.ref t) H'
theorem ok_wback (S : SrcM K cW "read_back" "Weave.read_back" s_Weave_read_back) (T : Txt P w K mg base c cF cW cG) : OkM P w K mg base cW 1 "read_back" ["self", "spot", "numbers", "low"] (spReadBack cW) := by
  refine okm S (fun f fd F => F.ok sc_Weave_read_back (fun vs H Q E h => ?_) (fun cdv A outer s H vs Q E hr h => ?_)) (fun _ _ _ _ _ _ us hl => match us, hl with | [_, _, _, _], _ => rfl)
  · obtain ⟨_, _, _, _, _, _, _, _, _, _, _, _, _, rfl, _⟩ := h
    rfl
  · obtain ⟨p, dx, L, M, rs, size, n, δ, par, x, a, ns, low, rfl, W, h12, hx, hd, hI, ha, hns, hl, hlow, q⟩ := h
    refine ⟨_, ((pss_cons (ps_set (i := 4) sc_Weave_read_back.nd rfl (.inl rfl) (pe_callB call_lenM (by rfl) T.n_len PySem.boot_len (pa_cons (pv 2) pa_nil)))
      (pss_cons (ps_while PassesOwn.never (PW.pt (pw_and (pt_cmpR op_gt (pv 4) (pv 3) (nomark _)) (pw_and1 (pt_cmpR op_notN (pe_ix ix_lM (pe_ix ix_lM (pe_fldA (pv 0)) (pv 1) (fun _ _ => rfl)) (pe_op op_xor (pe_ix ix_lM (pv 2) (pe_op op_sub (pv 4) pe_int) (fun _ _ => rfl)) pe_int) (fun _ _ => rfl)) pe_non (nomark _))))) (pss_one (ps_par (i := 1) (j := 4) (by rfl) sc_Weave_read_back.nd rfl rfl (by decide) rfl rfl (pa_cons (pe_ix ix_lM (pe_ix ix_lM (pe_fldA (pv 0)) (pv 1) (fun _ _ => rfl)) (pe_op op_xor (pe_ix ix_lM (pv 2) (pe_op op_sub (pv 4) pe_int) (fun _ _ => rfl)) pe_int) (fun _ _ => rfl)) (pa_cons (pe_op op_sub (pv 4) pe_int) pa_nil)) (by rfl))))
      (pss_one (ps_ret (pe_tup (pa_cons (pv 1) (pa_cons (pv 4) pa_nil)))))))), ?_⟩
    walk_at "rd"
    have hsz := sizeLine_eq
    have ha0 : H a = some (.lst (ns.map fun n => V.int (n : Nat))) := ha
    refine ⟨_, ha0, ?_⟩
    rw [List.length_map]
    refine ⟨fun m σ H' => ∃ (y k : Nat), σ = [some (.ref p), some (.int y), some (.ref a), some (.int low), some (.int k)] ∧ H' = H ∧ y < n ∧ low ≤ k ∧ k ≤ ns.length ∧ k - low ≤ m ∧ MN.run δ y (ns.drop k) = some x, ⟨ns.length, x, ns.length, rfl, rfl, hx, hlow, Nat.le_refl _, by omega, by rw [List.drop_length]; rfl⟩, ?_⟩
    rintro m σ H' ⟨y, k, rfl, rfl, hy, hk0, hk, hm, hrun⟩
    walk_at "rd"
    by_cases hkl : low < k
    · rw [if_pos (show ((low : Nat) : Int) < (k : Nat) by omega)]
      have gs : ns[k - 1]? = some ns[k - 1] := List.getElem?_eq_getElem (by omega)
      have gk : atI (ns.map fun n => V.int (n : Nat)) ((k : Int) - 1) = some (V.int (ns[k - 1] : Nat)) := by
        rw [show (k : Int) - 1 = ((k - 1 : Nat) : Int) by omega]
        exact atI_nat (by rw [List.getElem?_map, gs]; rfl)
      obtain ⟨hs, hs2⟩ := hns _ (List.mem_of_getElem? gs)
      obtain ⟨r1, e1, h1, g1⟩ := W.at_ hy
      have b1 := atI_nat (rowV_get (δ y) hs2)
      rw [← (bx12 _ (by omega)).1] at b1
      refine ⟨_, W.fl T, L, rfl, _, W.hl, _, atI_nat g1, _, ha0, _, gk, _, rfl, r1, rfl, _, h1, _, b1, ?_⟩
      cases ev : δ y (MN.inv ns[k - 1]) with
      | none =>
        rw [if_neg (by simp [ov])]
        exact ⟨by omega, fun t nt => q _ t y k (same_upd nt) nt upd_same hy hk0 hk hrun fun s _ e => by rw [gs] at e; cases e; exact ev⟩
      | some v =>
        rw [if_pos (by simp [ov])]
        have hv := hd _ _ _ ev
        refine ⟨_, fun _ _ h => h, _, W.fl T, L, rfl, _, W.hl, _, atI_nat g1, _, ha0, _, gk, _, rfl, r1, rfl, _, h1, _, b1, ?_⟩
        rw [ev]
        refine ⟨m - 1, by omega, v, k - 1, by simp [ov]; omega, rfl, hv, by omega, by omega, by omega, ?_⟩
        have dg := MN.drop_get gs
        rw [show k - 1 + 1 = k by omega] at dg
        rw [dg, MN.run_cons]
        refine ⟨y, ?_, hrun⟩
        have := hI _ _ _ ev
        rwa [MN.inv_inv] at this
    · rw [if_neg (show ¬ ((low : Nat) : Int) < (k : Nat) by omega)]
      exact ⟨by omega, fun t nt => q _ t y k (same_upd nt) nt upd_same hy hk0 hk hrun fun s z => absurd z hkl⟩
end

end K29

namespace K29
open PySem PySem.Spec PyProof.Rows L2 G1 MW
abbrev s_Weave_merge : Stmt := inClass (topS 26) 10
theorem sc_Weave_merge : FnScope ["self", "kept", "gone", "found", "sign", "target"] ["self", "kept", "gone"] (defScope s_Weave_merge) := ⟨rfl, rfl, rfl, by decide +kernel, rfl, by decide +kernel, by decide +kernel⟩
abbrev s_Weave_unite : Stmt := inClass (topS 26) 9
theorem sc_Weave_unite : FnScope ["self", "one", "other", "pairs", "left", "right"] ["self", "one", "other"] (defScope s_Weave_unite) := ⟨rfl, rfl, rfl, by decide +kernel, rfl, by decide +kernel, by decide +kernel⟩
local macro_rules | `(tactic| walk_at "rd") => `(tactic| simp only [L2.iZip, G1.rGtD, L2.rMin, L2.tLockE, L2.iKeys, L2.iEnum, L2.ipI, L2.rIn, L2.tPairs, L2.rSetD, L2.tDNewK, G1.tCallK3, G1.tCallK4, G1.tFldA, G1.tCallM, G1.tMakeO, L2.sFld, L2.rExtend, L2.tDNotIn, L2.tDIn, L2.tDGet2, L2.tDisp, L2.rPopAt, L2.tLstRg, L2.tRg1, G1.tMakeO2, G1.rOwnI, G1.rCntN, L2.tPar3, L2.tSeq, L2.tAug, L2.tTup, G1.tCallK3b, G1.tMt, G1.tMinK, G1.rIsTu, L2.rIxT, G1.rTr, G1.rLtD, if_true, if_false, L2.rNotB, L2.rMax, L2.iRng2,L2.tSeq, G1.iEnumS, L2.tDGet, L2.gTup, L2.gCons, L2.gNil, L2.tPar, L2.rIxS, G1.tRepU, L2.rSlS, L2.iStr, L2.tNotV, G1.rIsV, G1.mk_int, G1.mk_bool, G1.mk_str, G1.mk_list, G1.tCallX, V.ty.injEq, L2.tChain, L2.rIsB, G1.tRevS, L2.tM0, L2.tM1, L2.tCallS, G1.tCallK2, G1.tMkR, L2.rAll, L2.rPop, L2.tBM0, L2.tRevL, L2.tAsg, L2.tOp, L2.rI, L2.rI0, L2.tVar, L2.tC, L2.tCB, L2.tCons, L2.tNil, L2.tRet, L2.gName, L2.start, L2.tIf, L2.tIfS, L2.tTest, L2.tNext, L2.rIxL, L2.tSl, L2.rSlL, L2.tNoPart, L2.tPart, L2.tLst, L2.tTup, L2.rSum, L2.tBits, L2.gSub, L2.rSetL, L2.rCat, L2.tDrop, L2.tBM, L2.tBM0, L2.rAppend, L2.tYes, L2.tB, L2.tAnd, L2.tOr, L2.tNot, L2.tAndV, L2.tOrV, G1.tCallO, G1.tXm, G1.tXn, G1.tXv, HO.lst.injEq, HO.tup.injEq, Nat.reduceAdd, Nat.zero_add, List.set_cons_zero, List.set_cons_succ, G1.tFor_eq, G1.tLc_eq, G1.rIxM, G1.rLenM, G1.rSlM, G1.atI_0, G1.atI_1, G1.atI_2, G1.ixN_0, G1.ixN_2, L2.upd_same, L2.upd_upd, and_assoc, L2.iRng1, L2.iList, L2.tUn, L2.rU, G1.rRepS, L2.wipe, List.foldl, L2.rEq, L2.rNe, List.map, List.replicate, List.length, List.append, List.set, List.getElem?_cons_zero, List.getElem?_cons_succ, List.cons_append, List.nil_append, Option.some.injEq, V.int.injEq, V.bl.injEq, V.ref.injEq, V.str.injEq, List.cons.injEq, reduceCtorEq, false_and, and_false, exists_false, or_false, false_or, exists_and_left, exists_and_right, exists_eq_left', exists_eq_left, true_and, and_true, Nat.sub_self, decide_eq_true_eq])
section
variable {P : Program} {w : World} {K : PySem.W.Frag} {mg : Str → Option Value} {base : Heap} {c : Nat → Addr} {cF cW cG : Addr}
section
variable {H H' : Hp} {p dx L M : Addr} {rs : List Addr} {size n : Nat} {δ : Nat → Nat → Option Nat} {par : Nat → Nat}
theorem Wv.lists (W : Wv cW H p dx L M rs size n δ par) : ∀ b ∈ L :: M :: rs, ∃ xs, H b = some (.lst xs) := fun b hb => by
  rcases List.mem_cons.mp hb with rfl | hb
  · exact ⟨_, W.hl⟩
  · rcases List.mem_cons.mp hb with rfl | hb
    · exact ⟨_, W.hm⟩
    · obtain ⟨i, hi, rfl⟩ := List.mem_iff_getElem.mp hb
      exact ⟨_, W.row i _ (List.getElem?_eq_getElem hi)⟩
theorem Wv.noTup (W : Wv cW H p dx L M rs size n δ par) {t : Addr} {xs : List V} (h : H t = some (.tup xs)) : t ∉ L :: M :: rs := fun z => by
  obtain ⟨ys, e⟩ := W.lists t z
  rw [h] at e
  cases e
theorem Wv.oth (W : Wv cW H p dx L M rs size n δ par) {q : Addr} {o : HO} (hq : H q = some o) (nl : ∀ xs, o ≠ .lst xs) : q ∉ L :: M :: rs := fun z => by
  obtain ⟨ys, e⟩ := W.lists q z
  rw [hq] at e
  cases e
  exact nl _ rfl
theorem Wv.new (W : Wv cW H p dx L M rs size n δ par) {q : Addr} (nq : H q = none) : q ∉ L :: M :: rs := fun z => by
  obtain ⟨ys, e⟩ := W.lists q z
  rw [nq] at e
  cases e
theorem PrsAt.keep {q : Addr} {ps : List (Nat × Nat)} (h : PrsAt H q ps) (W : Wv cW H p dx L M rs size n δ par) (hq : q ∉ L :: M :: rs) (o : Oth (L :: M :: rs) H H') : PrsAt H' q ps := by
  obtain ⟨ts, h1, h2, h3⟩ := h
  exact ⟨ts, o _ _ hq h1, h2, fun i t ab a b => o _ _ (W.noTup (h3 i t ab a b)) (h3 i t ab a b)⟩
/-- another list changes -/
theorem Wv.but (W : Wv cW H p dx L M rs size n δ par) {q : Addr} {o o' : HO} (hq : q ∉ L :: M :: rs) (h : H q = some o) (hp : ∀ a b f, o ≠ .ins a b f) : Wv cW (upd H q o') p dx L M rs size n δ par := by
  refine W.keep fun b hb oo e => ?_
  have : b ≠ q := fun z => by
    subst z
    rcases List.mem_cons.mp hb with rfl | hb
    · rw [W.hp] at h
      cases h
      exact hp _ _ _ rfl
    · exact hq hb
  rw [upd_ne this]
  exact e
end
theorem linkT_some {δ : Nat → Nat → Option Nat} {p s q a b c : Nat} (h : (MN.linkT δ p s q).1 a b = some c) : δ a b = some c ∨ (a = p ∧ b = s ∧ c = q) ∨ (a = q ∧ b = MN.inv s ∧ c = p) := by
  unfold MN.linkT at h
  split at h
  · exact .inl h
  · split at h
    · exact .inl h
    · rcases MN.lay_some h with h | h | h
      · exact .inr (.inl h)
      · exact .inr (.inr h)
      · exact .inl h
theorem linkT_len (δ : Nat → Nat → Option Nat) (p s q : Nat) : (MN.linkT δ p s q).2.length ≤ 1 := by
  unfold MN.linkT
  split
  · exact Nat.le_refl _
  · split
    · exact Nat.le_refl _
    · exact Nat.zero_le _
def spMerge (cW : Addr) : Sp := fun vs H Q _ => ∃ (p dx L M : Addr) (rs : List Addr) (size n : Nat) (δ : Nat → Nat → Option Nat) (par : Nat → Nat) (kept gone : Nat) (ps : List (Nat × Nat)) (l : Nat → List Nat) (ws dn : List (List Nat)), vs = [.ref p, .int kept, .int gone] ∧ Wv cW H p dx L M rs size n δ par ∧ size ≤ 12 ∧ (∀ s, s < size → MN.inv s < size) ∧ kept < gone ∧ gone < n ∧
  MN.Wu size n δ (fun a => if a = gone then kept else par a) ps l ws dn ∧ MN.Dead δ par ∧ par kept = kept ∧
  ∀ H' q δ' ps', Wv cW H' p dx L M rs size n δ' (fun a => if a = gone then kept else par a) → PrsAt H' q ps' → H q = none → ps'.length ≤ size → MN.Wu size n δ' (fun a => if a = gone then kept else par a) (ps ++ ps') l ws dn → MN.Dead δ' (fun a => if a = gone then kept else par a) → Oth (L :: M :: rs) H H' → Q (.ref q) H'
theorem ok_wmerge (S : SrcM K cW "merge" "Weave.merge" s_Weave_merge) (T : Txt P w K mg base c cF cW cG) (C_Weave_link : OkM P w K mg base cW 2 "link" ["self", "spot", "sign", "other"] (spLink cW)) : OkM P w K mg base cW 3 "merge" ["self", "kept", "gone"] (spMerge cW) := by
  refine okm S (fun f fd F => F.ok sc_Weave_merge (fun vs H Q E h => ?_) (fun cdv A outer s H vs Q E hr h => ?_)) (fun _ _ _ _ _ _ us hl => match us, hl with | [_, _, _], _ => rfl)
  · obtain ⟨_, _, _, _, _, _, _, _, _, _, _, _, _, _, _, rfl, _⟩ := h
    rfl
  · obtain ⟨p, dx, L, M, rs, size, n, δ, par, kept, gone, ps, l, ws, dn, rfl, W, h12, hin, hkg, hgn, U, hD, hk, q⟩ := h
    refine ⟨_, ((pss_cons (ps_asg (pv 1) (pg_sub (pe_fldA (pv 0)) (pv 2) set_list))
      (pss_cons (ps_set (i := 3) sc_Weave_merge.nd rfl (.inl rfl) (pe_lst pa_nil))
      (pss_cons (ps_for PassesOwn.never rfl (pi_range1 (by rfl) T.n_range (pa_cons (pe_fldA (pv 0)) pa_nil)) (pg_name (i := 4) sc_Weave_merge.nd rfl (.inl rfl)) (pss_cons (ps_set (i := 5) sc_Weave_merge.nd rfl (.inl rfl) (pe_ix ix_lM (pe_ix ix_lM (pe_fldA (pv 0)) (pv 2) (fun _ _ => rfl)) (pv 4) (fun _ _ => rfl)))
      (pss_one (ps_if (pt_cmpR op_notN (pv 5) pe_non (nomark _)) (pss_cons (ps_asg pe_non (pg_sub (pe_ix ix_lM (pe_fldA (pv 0)) (pv 2) (fun _ _ => rfl)) (pv 4) set_list))
      (pss_cons (ps_asg pe_non (pg_sub (pe_ix ix_lM (pe_fldA (pv 0)) (pv 5) (fun _ _ => rfl)) (pe_op op_xor (pv 4) pe_int) set_list))
      (pss_one (ps_expr (pe_bm PySem.F.plainAttrs_list PySem.F.slot_list_extend PySem.F.type_list_extend mt_extend (pv 3) (pa_cons (pe_callM T.o_Weave C_Weave_link (hr.mono (by decide)) (pv 0) (pa_cons (pv 1) (pa_cons (pv 4) (pa_cons (pe_ifExp (pt_cmpR op_eq (pv 5) (pv 2) (nomark _)) (pv 1) (pv 5)) pa_nil)))) pa_nil)))))) pss_nil))))
      (pss_one (ps_ret (pv 3))))))), ?_⟩
    walk_at "rd"
    have hsz := sizeLine_eq
    have W1 := W.setPar (i := gone) (v := kept)
    refine ⟨_, W.fm T, M, rfl, _, W.hm, gone, ixN_nat (by rw [parV_len]; exact hgn), by omega, fun F nF => ?_⟩
    have nFM : F ≠ M := fun z => by rw [z, upd_same] at nF; cases nF
    have nFH : H F = none := by rw [upd_ne nFM] at nF; exact nF
    have W2 := W1.same (same_upd nF (o := .lst []))
    have o2 : Oth (L :: M :: rs) H (upd (upd H M (.lst ((parV n par).set gone (.int (kept : Nat))))) F (.lst [])) := (Oth.set (by simp)).trans (.of (same_upd nF))
    have hF2 : upd (upd H M (.lst ((parV n par).set gone (.int (kept : Nat))))) F (.lst []) F = some (.lst []) := upd_same
    have nFr := W.new nFH
    generalize upd (upd H M (.lst ((parV n par).set gone (.int (kept : Nat))))) F (.lst []) = H2 at W2 o2 hF2 ⊢
    refine ⟨_, W2.fs T, (size : Nat), rfl, by omega, by omega, ?_⟩
    rw [Int.toNat_natCast]
    have hpk : (if kept = gone then kept else par kept) = kept := by rw [if_neg (by omega), hk]
    have hpg : (if gone = gone then kept else par gone) = kept := if_pos rfl
    refine loop_range (n := size) (fun i σ H' => ∃ v4 v5 δ' ps', σ = [some (.ref p), some (.int kept), some (.int gone), some (.ref F), v4, v5] ∧ Wv cW H' p dx L M rs size n δ' (fun a => if a = gone then kept else par a) ∧ PrsAt H' F ps' ∧ ps'.length ≤ i ∧ MN.Wu size n δ' (fun a => if a = gone then kept else par a) (ps ++ ps') l ws dn ∧
      (∀ a s b, δ' a s = some b → (if a = gone then kept else par a) = a ∨ a = gone) ∧ (∀ s, s < i → δ' gone s = none) ∧ Oth (L :: M :: rs) H H') ⟨none, none, δ, [], rfl, W2, ⟨[], hF2, rfl, fun i t ab e => by cases e⟩, Nat.le_refl _, by rw [List.append_nil]; exact U, fun a s b e => ?_, fun s h => by omega, o2⟩ ?_ ?_
    · by_cases z : a = gone
      · exact .inr z
      · exact .inl (by rw [if_neg z]; exact hD a s b e)
    · rintro i σ H' hi ⟨v4, v5, δ', ps', rfl, W', hF, hpl, U', hal, hno, o⟩
      walk_at "rd"
      rw [show (0 : Int) + (i : Nat) = (i : Nat) by omega]
      obtain ⟨r1, e1, h1, g1⟩ := W'.at_ hgn
      refine ⟨_, W'.fl T, L, rfl, _, W'.hl, _, atI_nat g1, r1, rfl, _, h1, _, atI_nat (rowV_get (δ' gone) hi), ?_⟩
      cases et : δ' gone i with
      | none =>
        rw [if_neg (by simp [ov])]
        refine ⟨⟨_, rfl⟩, ⟨_, rfl⟩, δ', W', ps', hF, by omega, U', hal, fun s hs => ?_, o⟩
        by_cases z : s = i
        · rw [z, et]
        · exact hno s (by omega)
      | some t =>
        rw [if_pos (by simp [ov])]
        obtain ⟨d1, d2, d3⟩ := U'.dom _ _ _ et
        have W3 := W'.set (s := i) e1 none
        obtain ⟨r2, e2, h2, g2⟩ := W3.at_ d3
        have W4 := W3.set (s := MN.inv i) e2 none
        have hiv := hin i hi
        have b2 : ixN (rowV size (MN.set2 δ' gone i none t)).length (Builtin.bitXor ((i : Nat) : Int) 1) = some (MN.inv i) := by
          rw [(bx12 i (by omega)).1]
          exact ixN_nat (by rw [rowV_len]; exact hiv)
        refine ⟨_, W'.fl T, L, rfl, _, W'.hl, _, atI_nat g1, r1, rfl, _, h1, i, ixN_nat (by rw [rowV_len]; exact hi), _, W3.fl T, L, rfl, _, (t : Nat), rfl, W3.hl, _, atI_nat g2, r2, rfl, _, h2, _, b2, ?_⟩
        have oo4 : Oth rs H' (upd (upd H' r1 (.lst ((rowV size (δ' gone)).set i (ov none)))) r2 (.lst ((rowV size (MN.set2 δ' gone i none t)).set (MN.inv i) (ov none)))) := (Oth.set (List.mem_of_getElem? e1)).trans (Oth.set (List.mem_of_getElem? e2))
        have o4 := oo4.mono (l' := L :: M :: rs) (by simp +contextual)
        have hF4 := hF.keep W' nFr o4
        have W4' : Wv cW (upd (upd H' r1 (.lst ((rowV size (δ' gone)).set i (ov none)))) r2 (.lst ((rowV size (MN.set2 δ' gone i none t)).set (MN.inv i) (ov none)))) p dx L M rs size n (MN.rm δ' gone i t) (fun a => if a = gone then kept else par a) := W4
        simp only [show ov none = V.non from rfl] at o4 hF4 W4' oo4 ⊢
        have UL := U'.link (kept := kept) (by omega) (by have := MN.E.par (par := fun a => if a = gone then kept else par a) (ps := ps ++ ps') gone; simp only [if_pos] at this; exact this) (by have := U'.lpar gone; simp only [if_pos] at this; exact this) et
        generalize upd (upd H' r1 (.lst ((rowV size (δ' gone)).set i V.non))) r2 (.lst ((rowV size (MN.set2 δ' gone i none t)).set (MN.inv i) V.non)) = H4 at o4 hF4 W4' ⊢
        obtain ⟨ts, hF4l, htl, htt⟩ := hF4
        have hz1 : ov (some t) = V.int (gone : Nat) → MN.to kept gone t = kept := fun z => if_pos (by have := V.int.inj z; omega)
        have hz2 : ¬ ov (some t) = V.int (gone : Nat) → MN.to kept gone t = t := fun z => if_neg fun e => z (by rw [e]; rfl)
        have hton : MN.to kept gone t < n := by
          unfold MN.to
          split <;> omega
        have htal : (if MN.to kept gone t = gone then kept else par (MN.to kept gone t)) = MN.to kept gone t ∧ MN.to kept gone t ≠ gone := by
          unfold MN.to
          split
          · exact ⟨hpk, by omega⟩
          · rename_i z
            have := (hal _ _ _ (U'.inv _ _ _ et)).resolve_right z
            rw [if_neg z] at this
            exact ⟨this, z⟩
        obtain ⟨z, hz⟩ : ∃ z, z = MN.to kept gone t := ⟨_, rfl⟩
        rw [← hz] at UL hton htal hz1 hz2
        refine ⟨.inl ⟨rfl, _, .inl (.inl hF4l)⟩, dx, _, W4'.hp, wf_no _ _ _ _ (by simp [mNames]), rfl, ?_⟩
        split
        all_goals
          rename_i tg
          refine ⟨p, dx, L, M, rs, size, n, _, _, kept, i, z, by first | rw [hz1 tg] | (rw [hz2 tg]; rfl), W4', h12, by omega, hi, hiv, hton, fun H5 b W5 hb nb o5 => ⟨b, rfl, ?_⟩⟩
          have o5' := o5.mono (l' := L :: M :: rs) (by simp +contextual)
          have hF5l := o5' _ _ nFr hF4l
          obtain ⟨us, hb1, hb2, hb3⟩ := hb
          have hll := linkT_len (MN.rm δ' gone i t) kept i z
          refine ⟨_, hF5l, _, hb1, ?_, ⟨_, rfl⟩, ⟨_, rfl⟩, _, W5.but nFr hF5l (fun _ _ _ z => nomatch z), ps' ++ (MN.linkT (MN.rm δ' gone i t) kept i z).2, ?_, ?_, ?_, ?_, ?_, ?_⟩
          · rw [List.length_map, List.length_map, htl, hb2]
            omega
          · refine ⟨ts ++ us, by rw [upd_same, List.map_append], by rw [List.length_append, List.length_append, htl, hb2], fun k t' ab h1 h2 => ?_⟩
            rcases Nat.lt_or_ge k ts.length with z | z
            · rw [List.getElem?_append_left z] at h1
              rw [List.getElem?_append_left (by omega)] at h2
              have h3 := htt k t' ab h1 h2
              have h4 := o5' _ _ (W4'.noTup h3) h3
              rw [upd_ne fun e => by rw [e, hF5l] at h4; cases h4]
              exact h4
            · rw [List.getElem?_append_right z] at h1
              rw [List.getElem?_append_right (by omega), ← htl] at h2
              have h4 := hb3 _ t' ab h1 h2
              rw [upd_ne fun e => by rw [e, hF5l] at h4; cases h4]
              exact h4
          · rw [List.length_append]
            omega
          · rw [← List.append_assoc]
            exact UL
          · intro a s b h
            rcases linkT_some h with h | ⟨rfl, _, _⟩ | ⟨rfl, _, _⟩
            · exact hal a s b (MN.rm_some h).1
            · exact .inl hpk
            · exact .inl htal.1
          · intro s hs
            cases es : (MN.linkT (MN.rm δ' gone i t) kept i z).1 gone s with
            | none => rfl
            | some b =>
              rcases linkT_some es with h | ⟨e, _, _⟩ | ⟨e, _, _⟩
              · obtain ⟨h1, h2, _⟩ := MN.rm_some h
                by_cases z : s = i
                · exact absurd ⟨rfl, z⟩ h2
                · rw [hno s (by omega)] at h1
                  cases h1
              · omega
              · exact absurd e.symm htal.2
          · intro b oo nb e
            rw [upd_ne (ne_none e nFH)]
            exact (o.trans (o4.trans o5')) b oo nb e
    · rintro σ H' ⟨v4, v5, δ', ps', rfl, W', hF, hpl, U', hal, hno, o⟩
      walk_at "rd"
      refine q H' F δ' ps' W' hF nFH hpl U' (fun a s b e => ?_) o
      rcases hal a s b e with h | h
      · exact h
      · rw [h, hno s (U'.dom _ _ _ e).2.1] at e
        cases e
def cntA (par : Nat → Nat) (n : Nat) : Nat := ((List.range n).filter fun a => decide (par a = a)).length
theorem cntA_le (par : Nat → Nat) (n : Nat) : cntA par n ≤ n := by
  unfold cntA
  have := List.length_filter_le (fun a => decide (par a = a)) (List.range n)
  rwa [List.length_range] at this
theorem cntA_congr {par par' : Nat → Nat} (h : ∀ a, par' a = a ↔ par a = a) (n : Nat) : cntA par' n = cntA par n := by
  unfold cntA
  congr 2
  funext a
  exact decide_eq_decide.mpr (h a)
theorem cntA_succ (par : Nat → Nat) (n : Nat) : cntA par (n + 1) = cntA par n + if par n = n then 1 else 0 := by
  unfold cntA
  rw [List.range_succ, List.filter_append, List.length_append]
  congr 1
  by_cases h : par n = n
  · rw [if_pos h, List.filter_cons_of_pos (by simp [h])]
    rfl
  · rw [if_neg h, List.filter_cons_of_neg (by simp [h])]
    rfl
theorem cntA_set {par : Nat → Nat} {kept gone : Nat} (hg : par gone = gone) (hk : kept ≠ gone) : ∀ n, cntA (fun a => if a = gone then kept else par a) n + (if gone < n then 1 else 0) = cntA par n
  | 0 => rfl
  | n + 1 => by
    have ih := cntA_set hg hk n
    rw [cntA_succ, cntA_succ]
    by_cases e : n = gone
    · subst e
      rw [if_neg (by omega)] at ih
      rw [if_pos (show n < n + 1 by omega), if_pos hg]
      simp only [if_true, if_neg hk]
      omega
    · by_cases l : gone < n
      · rw [if_pos l] at ih
        rw [if_pos (show gone < n + 1 by omega)]
        simp only [if_neg e]
        omega
      · rw [if_neg l] at ih
        rw [if_neg (show ¬ gone < n + 1 by omega)]
        simp only [if_neg e]
        omega
def spUnite (cW : Addr) : Sp := fun vs H Q _ => ∃ (p dx L M : Addr) (rs : List Addr) (size n : Nat) (δ : Nat → Nat → Option Nat) (par : Nat → Nat) (x y : Nat) (l : Nat → List Nat) (ws dn : List (List Nat)), vs = [.ref p, .int x, .int y] ∧ Wv cW H p dx L M rs size n δ par ∧ size ≤ 12 ∧ (∀ s, s < size → MN.inv s < size) ∧ x < n ∧ y < n ∧ n ≤ 100000 ∧
  MN.Wu size n δ par [(x, y)] l ws dn ∧ MN.Dead δ par ∧
  ∀ H' δ' par', Wv cW H' p dx L M rs size n δ' par' → MN.Wu size n δ' par' [] l ws dn → MN.Dead δ' par' → (∀ a, n ≤ a → par a = a → par' a = a) → Oth (L :: M :: rs) H H' → Q .non H'
theorem ok_wunite (S : SrcM K cW "unite" "Weave.unite" s_Weave_unite) (T : Txt P w K mg base c cF cW cG) (C_Weave_living : OkM P w K mg base cW 1 "living" ["self", "spot"] (spLiving cW)) (C_Weave_merge : OkM P w K mg base cW 3 "merge" ["self", "kept", "gone"] (spMerge cW)) : OkM P w K mg base cW 4 "unite" ["self", "one", "other"] (spUnite cW) := by
  refine okm S (fun f fd F => F.ok sc_Weave_unite (fun vs H Q E h => ?_) (fun cdv A outer s H vs Q E hr h => ?_)) (fun _ _ _ _ _ _ us hl => match us, hl with | [_, _, _], _ => rfl)
  · obtain ⟨_, _, _, _, _, _, _, _, _, _, _, _, _, _, rfl, _⟩ := h
    rfl
  · obtain ⟨p, dx, L, M, rs, size, n, δ, par, x, y, l, ws, dn, rfl, W, h12, hin, hx, hy, hn, U, hD, q⟩ := h
    refine ⟨_, ((pss_cons (ps_set (i := 3) sc_Weave_unite.nd rfl (.inl rfl) (pe_lst (pa_cons (pe_tup (pa_cons (pv 1) (pa_cons (pv 2) pa_nil))) pa_nil)))
      (pss_one (ps_while PassesOwn.never (pt_truth (pv 3) (by intro _; rfl)) (pss_cons (ps_asg (pe_bm0 PySem.F.plainAttrs_list PySem.F.slot_list_pop PySem.F.type_list_pop mt_pop (pv 3)) (pg_tup (by rfl) (pgs_cons (pg_name (i := 4) sc_Weave_unite.nd rfl (.inl rfl)) (pgs_cons (pg_name (i := 5) sc_Weave_unite.nd rfl (.inl rfl)) pgs_nil))))
      (pss_cons (ps_par (i := 4) (j := 5) (by rfl) sc_Weave_unite.nd rfl rfl (by decide) rfl rfl (pa_cons (pe_callM T.o_Weave C_Weave_living (hr.mono (by decide)) (pv 0) (pa_cons (pv 4) pa_nil)) (pa_cons (pe_callM T.o_Weave C_Weave_living (hr.mono (by decide)) (pv 0) (pa_cons (pv 5) pa_nil)) pa_nil)) (by rfl))
      (pss_one (ps_if (pt_cmpR op_ne (pv 4) (pv 5) (nomark _)) (pss_one (ps_expr (pe_bm PySem.F.plainAttrs_list PySem.F.slot_list_extend PySem.F.type_list_extend mt_extend (pv 3) (pa_cons (pe_callM T.o_Weave C_Weave_merge (hr.mono (by decide)) (pv 0) (pa_cons (pe_callB (call_min2 rfl) (by rfl) T.n_min (by decide +kernel) (pa_cons (pv 4) (pa_cons (pv 5) pa_nil))) (pa_cons (pe_callB (call_max2 rfl) (by rfl) T.n_max (by decide +kernel) (pa_cons (pv 4) (pa_cons (pv 5) pa_nil))) pa_nil))) pa_nil)))) pss_nil)))))))), ?_⟩
    walk_at "rd"
    have hsz := sizeLine_eq
    refine ⟨by omega, fun t nt => ⟨by omega, fun F nF => ?_⟩⟩
    have nFt : F ≠ t := fun z => by rw [z, upd_same] at nF; cases nF
    have nFH : H F = none := by rw [upd_ne nFt] at nF; exact nF
    have W2 := (W.same (same_upd nt (o := .tup [.int x, .int y]))).same (same_upd nF (o := .lst [.ref t]))
    have o2 : Oth (L :: M :: rs) H (upd (upd H t (.tup [.int x, .int y])) F (.lst [.ref t])) := (Oth.of (same_upd nt)).trans (.of (same_upd nF))
    have hF2 : PrsAt (upd (upd H t (.tup [.int x, .int y])) F (.lst [.ref t])) F [(x, y)] := prs_one nF
    have nFr := W.new nFH
    generalize upd (upd H t (.tup [.int x, .int y])) F (.lst [.ref t]) = H2 at W2 o2 hF2 ⊢
    refine ⟨fun m σ H' => ∃ v4 v5 δ' par' ps, σ = [some (.ref p), some (.int x), some (.int y), some (.ref F), v4, v5] ∧ Wv cW H' p dx L M rs size n δ' par' ∧ PrsAt H' F ps ∧ MN.Wu size n δ' par' ps l ws dn ∧ MN.Dead δ' par' ∧ (∀ a, n ≤ a → par a = a → par' a = a) ∧ Oth (L :: M :: rs) H H' ∧ cntA par' n * 13 + ps.length ≤ m ∧ cntA par' n * 13 + ps.length ≤ 2000000, ⟨cntA par n * 13 + 1, none, none, δ, par, [(x, y)], rfl, W2, hF2, U, hD, fun _ _ h => h, o2, Nat.le_refl _, by have := cntA_le par n; show _ + 1 ≤ _; omega⟩, ?_⟩
    rintro m σ H' ⟨v4, v5, δ', par', ps, rfl, W', hF, U', hD', hpn, o, hm, hm2⟩
    walk_at "rd"
    obtain ⟨ts, hF1, htl, htt⟩ := hF
    cases hps : ps.length with
    | zero =>
      have : ps = [] := List.length_eq_zero_iff.mp hps
      subst this
      have : ts = [] := List.length_eq_zero_iff.mp htl
      subst this
      refine ⟨false, ?_, ?_⟩
      · exact .inl ⟨_, .inl (.inl hF1), rfl⟩
      rw [if_neg (by decide)]
      exact q H' δ' par' W' U' hD' hpn o
    | succ k =>
      obtain ⟨ps0, ab, rfl⟩ : ∃ ps0 ab, ps = ps0 ++ [ab] := ⟨ps.dropLast, ps.getLast (by intro z; rw [z] at hps; cases hps), (List.dropLast_concat_getLast _).symm⟩
      obtain ⟨ts0, tt, rfl⟩ : ∃ ts0 tt, ts = ts0 ++ [tt] := ⟨ts.dropLast, ts.getLast (by intro z; rw [z] at htl; rw [← htl] at hps; cases hps), (List.dropLast_concat_getLast _).symm⟩
      obtain ⟨a, b⟩ := ab
      rw [List.length_append, List.length_append, List.length_singleton, List.length_singleton] at htl
      have htl0 : ts0.length = ps0.length := by omega
      have htt0 : H' tt = some (.tup [.int (a : Nat), .int (b : Nat)]) := htt ts0.length tt (a, b) (by simp) (by rw [htl0]; simp)
      have W5 := W'.but (o' := .lst (ts0.map V.ref)) nFr hF1 (fun _ _ _ z => nomatch z)
      obtain ⟨ha, hb⟩ := U'.pss a b (by simp)
      refine ⟨true, ?_, ?_⟩
      · exact .inl ⟨_, .inl (.inl hF1), by simp⟩
      rw [if_pos rfl]
      refine ⟨_, fun _ _ h => h, .inl ⟨rfl, _, .inl (.inl hF1)⟩, _, hF1, V.ref tt, by simp, tt, rfl, ?_⟩
      rw [show (List.map V.ref (ts0 ++ [tt])).dropLast = ts0.map V.ref by rw [List.map_append]; simp]
      have nFt : tt ≠ F := fun z => by rw [z, hF1] at htt0; cases htt0
      have htt5 : upd H' F (.lst (ts0.map V.ref)) tt = some (.tup [.int (a : Nat), .int (b : Nat)]) := by rw [upd_ne nFt]; exact htt0
      have hF5 : PrsAt (upd H' F (.lst (ts0.map V.ref))) F ps0 := ⟨ts0, upd_same, htl0, fun i t' ab h1 h2 => by
        have h3 := htt i t' ab (by rw [List.getElem?_append_left (List.getElem?_eq_some_iff.mp h1).1]; exact h1) (by rw [List.getElem?_append_left (List.getElem?_eq_some_iff.mp h2).1]; exact h2)
        rw [upd_ne fun z => by rw [z, hF1] at h3; cases h3]
        exact h3⟩
      have o5 : Oth (L :: M :: rs) H (upd H' F (.lst (ts0.map V.ref))) := fun c oo nb e => by
        rw [upd_ne (ne_none e nFH)]
        exact o c oo nb e
      refine ⟨_, SqT.of htt5, rfl, _, _, rfl, _, _, rfl, rfl, dx, _, W5.hp, wf_no _ _ _ _ (by simp [mNames]), ?_⟩
      refine ⟨p, dx, L, M, rs, size, n, δ', par', a, fun par => MN.Wu size n δ' par (ps0 ++ [(a, b)]) l ws dn, rfl, W5, ha, U', fun par h => h.ple, fun par c h => h.half c, fun H6 par6 a' W6 U6 ha' han hE6 hal6 o6 => ⟨dx, _, W6.hp, wf_no _ _ _ _ (by simp [mNames]), ?_⟩⟩
      refine ⟨p, dx, L, M, rs, size, n, δ', par6, b, fun par => MN.Wu size n δ' par (ps0 ++ [(a, b)]) l ws dn ∧ MN.E par [] a a' ∧ par a' = a', rfl, W6, hb, ⟨U6, hE6, ha'⟩, fun par h => h.1.ple, fun par c h => ⟨h.1.half c, h.2.1.half c, (MN.half_alive h.1.ple c a').mpr h.2.2⟩, fun H7 par7 b' W7 hU7 hb7 hbn hE7 hal7 o7 => ?_⟩
      obtain ⟨U7, hE7a, ha7⟩ := hU7
      have oLM : Oth (L :: M :: rs) H H7 := o5.trans ((o6.mono (by simp)).trans (o7.mono (by simp)))
      have hF7 : PrsAt H7 F ps0 := (hF5.keep W5 nFr (o6.mono (by simp))).keep W6 nFr (o7.mono (by simp))
      have hal : ∀ c, par7 c = c ↔ par' c = c := fun c => (hal7 c).trans (hal6 c)
      have hD7 : MN.Dead δ' par7 := fun c s d e => (hal c).mpr (hD' c s d e)
      have hpn7 : ∀ c, n ≤ c → par c = c → par7 c = c := fun c h1 h2 => (hal c).mpr (hpn c h1 h2)
      have hcnt := cntA_congr hal n
      have up : ∀ {par : Nat → Nat} {ps : List (Nat × Nat)} {u v : Nat}, MN.E par [] u v → MN.E par ps u v := fun h => h.mono (fun _ => .par _) fun _ _ z => by cases z
      refine ⟨rfl, ?_⟩
      have hps1 : (ps0 ++ [(a, b)]).length = ps0.length + 1 := by simp
      rw [hps1] at hm hm2
      by_cases hab : a' = b'
      · subst hab
        rw [if_neg (by simp)]
        have U8 := U7.drop ((up hE7a).trans (up hE7).symm)
        exact ⟨m - 1, by omega, ⟨_, _, rfl⟩, δ', par7, W7, ps0, hF7, U8, hD7, hpn7, oLM, by rw [hcnt]; omega, by rw [hcnt]; omega⟩
      · rw [if_pos (by simp; omega)]
        obtain ⟨ts7, hF7l, ht7l, ht7⟩ := id hF7
        refine ⟨.inl ⟨rfl, _, .inl (.inl hF7l)⟩, dx, _, W7.hp, wf_no _ _ _ _ (by simp [mNames]), _, rfl, _, rfl, _, rfl, _, rfl, ?_⟩
        have hkg : min a' b' < max a' b' := by omega
        have hgn : max a' b' < n := by omega
        have hag : par7 (max a' b') = max a' b' := by
          rcases Nat.lt_or_ge a' b' with z | z
          · rw [Nat.max_eq_right (by omega)]; exact hb7
          · rw [Nat.max_eq_left (by omega)]; exact ha7
        have hak : par7 (min a' b') = min a' b' := by
          rcases Nat.lt_or_ge a' b' with z | z
          · rw [Nat.min_eq_left (by omega)]; exact ha7
          · rw [Nat.min_eq_right (by omega)]; exact hb7
        have hcos : ∀ {u v : Nat}, MN.E par7 [] u v → MN.Cos ws (l u) (l v) := fun h => by
          induction h with
          | refl => exact MN.Cos.refl _
          | symm _ ih => exact ih.symm
          | trans _ _ i j => exact i.trans j
          | par p => exact U7.lpar p
          | pair z => cases z
        have cab : MN.Cos ws (l a') (l b') := ((hcos hE7a).symm.trans (U7.lps a b (by simp))).trans (hcos hE7)
        have ccc : MN.Cos ws (l (max a' b')) (l (min a' b')) := by
          rcases Nat.lt_or_ge a' b' with z | z
          · rw [Nat.max_eq_right (by omega), Nat.min_eq_left (by omega)]; exact cab.symm
          · rw [Nat.max_eq_left (by omega), Nat.min_eq_right (by omega)]; exact cab
        have hor : (MN.E par7 ps0 a (min a' b') ∧ MN.E par7 ps0 b (max a' b')) ∨ (MN.E par7 ps0 a (max a' b') ∧ MN.E par7 ps0 b (min a' b')) := by
          rcases Nat.lt_or_ge a' b' with z | z
          · rw [Nat.max_eq_right (by omega), Nat.min_eq_left (by omega)]; exact .inl ⟨up hE7a, up hE7⟩
          · rw [Nat.max_eq_left (by omega), Nat.min_eq_right (by omega)]; exact .inr ⟨up hE7a, up hE7⟩
        have U8 := U7.join hkg hag hor ccc
        have c8 := cntA_set (par := par7) (kept := min a' b') hag (by omega) n
        rw [if_pos hgn, hcnt] at c8
        refine ⟨p, dx, L, M, rs, size, n, δ', par7, min a' b', max a' b', ps0, l, ws, dn, ?_, W7, h12, hin, hkg, hgn, U8, hD7, hak, fun H8 q8 δ8 ps8 W8 hq8 nq8 hl8 U8' hD8 o8 => ⟨q8, rfl, ?_⟩⟩
        · congr 3
          · congr 1
            split <;> omega
          · congr 2
            split <;> omega
        have hF8l := o8 _ _ nFr hF7l
        obtain ⟨us, hq8l, hul, hut⟩ := hq8
        refine ⟨_, hF8l, _, hq8l, by rw [List.length_map, List.length_map, ht7l, hul]; omega, m - 1, by omega, ⟨_, _, rfl⟩, δ8, _, W8.but nFr hF8l (fun _ _ _ z => nomatch z), ps0 ++ ps8, ?_, U8', hD8, fun c h1 h2 => ?_, ?_, ?_, ?_⟩
        · refine ⟨ts7 ++ us, by rw [upd_same, List.map_append], by rw [List.length_append, List.length_append, ht7l, hul], fun k t' ab h1 h2 => ?_⟩
          rcases Nat.lt_or_ge k ts7.length with z | z
          · rw [List.getElem?_append_left z] at h1
            rw [List.getElem?_append_left (by omega)] at h2
            have h3 := ht7 k t' ab h1 h2
            have h4 := o8 _ _ (W7.noTup h3) h3
            rw [upd_ne fun e => by rw [e, hF8l] at h4; cases h4]
            exact h4
          · rw [List.getElem?_append_right z] at h1
            rw [List.getElem?_append_right (by omega), ← ht7l] at h2
            have h4 := hut _ t' ab h1 h2
            rw [upd_ne fun e => by rw [e, hF8l] at h4; cases h4]
            exact h4
        · rw [if_neg (by omega)]
          exact hpn7 c h1 h2
        · intro c oo nb e
          rw [upd_ne (ne_none e nFH)]
          exact (oLM.trans o8) c oo nb e
        · rw [List.length_append]
          omega
        · rw [List.length_append]
          omega
end

end K29

namespace K29
open PySem PySem.Spec PyProof.Rows L2 G1 MW
abbrev s_Weave_put_loop : Stmt := inClass (topS 26) 5
theorem sc_Weave_put_loop : FnScope ["self", "numbers"] ["self", "numbers"] (defScope s_Weave_put_loop) := ⟨rfl, rfl, rfl, by decide +kernel, rfl, by decide +kernel, by decide +kernel⟩
abbrev s_Weave_put_path : Stmt := inClass (topS 26) 6
theorem sc_Weave_put_path : FnScope ["self", "one", "other", "numbers", "head", "low", "tail", "high", "spot", "at"] ["self", "one", "other", "numbers"] (defScope s_Weave_put_path) := ⟨rfl, rfl, rfl, by decide +kernel, rfl, by decide +kernel, by decide +kernel⟩
local macro_rules | `(tactic| walk_at "rd") => `(tactic| simp only [L2.iZip, G1.rGtD, L2.rMin, L2.tLockE, L2.iKeys, L2.iEnum, L2.ipI, L2.rIn, L2.tPairs, L2.rSetD, L2.tDNewK, G1.tCallK3, G1.tCallK4, G1.tFldA, G1.tCallM, G1.tMakeO, L2.sFld, L2.rExtend, L2.tDNotIn, L2.tDIn, L2.tDGet2, L2.tDisp, L2.rPopAt, L2.tLstRg, L2.tRg1, G1.tMakeO2, G1.rOwnI, G1.rCntN, L2.tPar3, L2.tSeq, L2.tAug, L2.tTup, G1.tCallK3b, G1.tMt, G1.tMinK, G1.rIsTu, L2.rIxT, G1.rTr, G1.rLtD, if_true, if_false, L2.rNotB, L2.rMax, L2.iRng2,L2.tSeq, G1.iEnumS, L2.tDGet, L2.gTup, L2.gCons, L2.gNil, L2.tPar, L2.rIxS, G1.tRepU, L2.rSlS, L2.iStr, L2.tNotV, G1.rIsV, G1.mk_int, G1.mk_bool, G1.mk_str, G1.mk_list, G1.tCallX, V.ty.injEq, L2.tChain, L2.rIsB, G1.tRevS, L2.tM0, L2.tM1, L2.tCallS, G1.tCallK2, G1.tMkR, L2.rAll, L2.rPop, L2.tBM0, L2.tRevL, L2.tAsg, L2.tOp, L2.rI, L2.rI0, L2.tVar, L2.tC, L2.tCB, L2.tCons, L2.tNil, L2.tRet, L2.gName, L2.start, L2.tIf, L2.tIfS, L2.tTest, L2.tNext, L2.rIxL, L2.tSl, L2.rSlL, L2.tNoPart, L2.tPart, L2.tLst, L2.tTup, L2.rSum, L2.tBits, L2.gSub, L2.rSetL, L2.rCat, L2.tDrop, L2.tBM, L2.tBM0, L2.rAppend, L2.tYes, L2.tB, L2.tAnd, L2.tOr, L2.tNot, L2.tAndV, L2.tOrV, G1.tCallO, G1.tXm, G1.tXn, G1.tXv, HO.lst.injEq, HO.tup.injEq, Nat.reduceAdd, Nat.zero_add, List.set_cons_zero, List.set_cons_succ, G1.tFor_eq, G1.tLc_eq, G1.rIxM, G1.rLenM, G1.rSlM, G1.atI_0, G1.atI_1, G1.atI_2, G1.ixN_0, G1.ixN_2, L2.upd_same, L2.upd_upd, and_assoc, L2.iRng1, L2.iList, L2.tUn, L2.rU, G1.rRepS, L2.wipe, List.foldl, L2.rEq, L2.rNe, List.map, List.replicate, List.length, List.append, List.set, List.getElem?_cons_zero, List.getElem?_cons_succ, List.cons_append, List.nil_append, Option.some.injEq, V.int.injEq, V.bl.injEq, V.ref.injEq, V.str.injEq, List.cons.injEq, reduceCtorEq, false_and, and_false, exists_false, or_false, false_or, exists_and_left, exists_and_right, exists_eq_left', exists_eq_left, true_and, and_true, Nat.sub_self, decide_eq_true_eq])
section
variable {P : Program} {w : World} {K : PySem.W.Frag} {mg : Str → Option Value} {base : Heap} {c : Nat → Addr} {cF cW cG : Addr}
def spPath (cW : Addr) : Sp := fun vs H Q _ => ∃ (p dx L M : Addr) (rs : List Addr) (size n : Nat) (δ : Nat → Nat → Option Nat) (par : Nat → Nat) (l : Nat → List Nat) (ws dn : List (List Nat)) (a : Addr) (ns : List Nat), vs = [.ref p, .int 0, .int 0, .ref a] ∧ Wv cW H p dx L M rs size n δ par ∧ size ≤ 12 ∧ (∀ s, s < size → MN.inv s < size) ∧
  MN.Wq size n δ par l ws dn ∧ (∀ a, n ≤ a → par a = a) ∧ 0 < n ∧ NumsAt H a ns ∧ a ∉ L :: M :: rs ∧ MN.Plain ns ∧ (∀ s ∈ ns, s < size) ∧ ns ∈ ws ∧ n + ns.length ≤ 100000 ∧
  ∀ H' rs' n' δ' par' l', Wv cW H' p dx L M rs' size n' δ' par' → MN.Wq size n' δ' par' l' ws (dn ++ [ns]) → (∀ a, n' ≤ a → par' a = a) → n ≤ n' → n' ≤ n + ns.length → Oth (L :: M :: rs) H H' → (∀ r ∈ rs', r ∈ rs ∨ H r = none) → Q .non H'
theorem plain_get : ∀ {l : List Nat}, MN.Plain l → ∀ {i a b : Nat}, l[i]? = some a → l[i + 1]? = some b → b ≠ MN.inv a
  | [], _, _, _, _, h, _ => by cases h
  | [x], _, 0, _, _, _, h => by cases h
  | [x], _, i + 1, _, _, h, _ => by cases h
  | x :: y :: r, hp, 0, a, b, h1, h2 => by
    cases h1
    cases h2
    exact hp.1
  | x :: y :: r, hp, i + 1, a, b, h1, h2 => plain_get (l := y :: r) hp.2 (i := i) h1 h2
theorem oth_new {l l2 : List Addr} {H H' H'' : Hp} (o : Oth l H H') (h : ∀ x ∈ l2, x ∈ l ∨ H x = none) (o2 : Oth l2 H' H'') : Oth l H H'' := fun b oo nb e => by
  refine o2 b oo (fun z => ?_) (o b oo nb e)
  rcases h b z with k | k
  · exact nb k
  · rw [k] at e
    cases e
theorem ok_wpath (S : SrcM K cW "put_path" "Weave.put_path" s_Weave_put_path) (T : Txt P w K mg base c cF cW cG) (C_Weave_new_spot : OkM P w K mg base cW 1 "new_spot" ["self"] (spNew cW)) (C_Weave_lay : OkM P w K mg base cW 1 "lay" ["self", "spot", "sign", "other"] (spLay cW)) (C_Weave_read_on : OkM P w K mg base cW 1 "read_on" ["self", "spot", "numbers"] (spReadOn cW)) (C_Weave_read_back : OkM P w K mg base cW 1 "read_back" ["self", "spot", "numbers", "low"] (spReadBack cW)) (C_Weave_unite : OkM P w K mg base cW 4 "unite" ["self", "one", "other"] (spUnite cW)) : OkM P w K mg base cW 5 "put_path" ["self", "one", "other", "numbers"] (spPath cW) := by
  refine okm S (fun f fd F => F.ok sc_Weave_put_path (fun vs H Q E h => ?_) (fun cdv A outer s H vs Q E hr h => ?_)) (fun _ _ _ _ _ _ us hl => match us, hl with | [_, _, _, _], _ => rfl)
  · obtain ⟨_, _, _, _, _, _, _, _, _, _, _, _, _, _, rfl, _⟩ := h
    rfl
  · obtain ⟨p, dx, L, M, rs, size, n, δ, par, l, ws, dn, a, ns, rfl, W, h12, hin, Wq, hpn, n0, ha, haL, hpl, hns, hws, hnl, q⟩ := h
    refine ⟨_, ((pss_cons (ps_asg (pe_callM T.o_Weave C_Weave_read_on (hr.mono (by decide)) (pv 0) (pa_cons (pv 1) (pa_cons (pv 3) pa_nil))) (pg_tup (by rfl) (pgs_cons (pg_name (i := 4) sc_Weave_put_path.nd rfl (.inl rfl)) (pgs_cons (pg_name (i := 5) sc_Weave_put_path.nd rfl (.inl rfl)) pgs_nil))))
      (pss_cons (ps_asg (pe_callM T.o_Weave C_Weave_read_back (hr.mono (by decide)) (pv 0) (pa_cons (pv 2) (pa_cons (pv 3) (pa_cons (pv 5) pa_nil)))) (pg_tup (by rfl) (pgs_cons (pg_name (i := 6) sc_Weave_put_path.nd rfl (.inl rfl)) (pgs_cons (pg_name (i := 7) sc_Weave_put_path.nd rfl (.inl rfl)) pgs_nil))))
      (pss_cons (ps_while PassesOwn.never (PW.pt (pw_and (pt_cmpR op_eq (pv 4) (pv 6) (nomark _)) (pw_and (pt_cmpR op_gt (pe_op op_sub (pv 7) (pv 5)) pe_int (nomark _)) (pw_and1 (pt_cmpR op_eq (pe_ix ix_lM (pv 3) (pv 5) (fun _ _ => rfl)) (pe_op op_xor (pe_ix ix_lM (pv 3) (pe_op op_sub (pv 7) pe_int) (fun _ _ => rfl)) pe_int) (nomark _)))))) (pss_cons (ps_set (i := 8) sc_Weave_put_path.nd rfl (.inl rfl) (pe_callM0 T.o_Weave C_Weave_new_spot (hr.mono (by decide)) (pv 0)))
      (pss_cons (ps_expr (pe_callM T.o_Weave C_Weave_lay (hr.mono (by decide)) (pv 0) (pa_cons (pv 4) (pa_cons (pe_ix ix_lM (pv 3) (pv 5) (fun _ _ => rfl)) (pa_cons (pv 8) pa_nil)))))
      (pss_one (ps_asg (pe_tup (pa_cons (pv 8) (pa_cons (pv 8) (pa_cons (pe_op op_add (pv 5) pe_int) (pa_cons (pe_op op_sub (pv 7) pe_int) pa_nil))))) (pg_tup (by rfl) (pgs_cons (pg_name (i := 4) sc_Weave_put_path.nd rfl (.inl rfl)) (pgs_cons (pg_name (i := 6) sc_Weave_put_path.nd rfl (.inl rfl)) (pgs_cons (pg_name (i := 5) sc_Weave_put_path.nd rfl (.inl rfl)) (pgs_cons (pg_name (i := 7) sc_Weave_put_path.nd rfl (.inl rfl)) pgs_nil))))))))))
      (pss_cons (ps_if (pt_cmpR op_eq (pv 5) (pv 7) (nomark _)) (pss_cons (ps_expr (pe_callM T.o_Weave C_Weave_unite (hr.mono (by decide)) (pv 0) (pa_cons (pv 4) (pa_cons (pv 6) pa_nil))))
      (pss_one ps_retN)) pss_nil)
      (pss_cons (ps_for PassesOwn.never rfl (pi_range2 (by rfl) T.n_range (pa_cons (pv 5) (pa_cons (pe_op op_sub (pv 7) pe_int) pa_nil))) (pg_name (i := 9) sc_Weave_put_path.nd rfl (.inl rfl)) (pss_cons (ps_set (i := 8) sc_Weave_put_path.nd rfl (.inl rfl) (pe_callM0 T.o_Weave C_Weave_new_spot (hr.mono (by decide)) (pv 0)))
      (pss_cons (ps_expr (pe_callM T.o_Weave C_Weave_lay (hr.mono (by decide)) (pv 0) (pa_cons (pv 4) (pa_cons (pe_ix ix_lM (pv 3) (pv 9) (fun _ _ => rfl)) (pa_cons (pv 8) pa_nil)))))
      (pss_one (ps_set (i := 4) sc_Weave_put_path.nd rfl (.inl rfl) (pv 8))))))
      (pss_one (ps_expr (pe_callM T.o_Weave C_Weave_lay (hr.mono (by decide)) (pv 0) (pa_cons (pv 4) (pa_cons (pe_ix ix_lM (pv 3) (pe_op op_sub (pv 7) pe_int) (fun _ _ => rfl)) (pa_cons (pv 6) pa_nil)))))))))))), ?_⟩
    walk_at "rd"
    have hsz := sizeLine_eq
    refine ⟨dx, _, W.hp, wf_no _ _ _ _ (by simp [mNames]), p, dx, L, M, rs, size, n, δ, par, 0, a, ns, rfl, W, h12, n0, fun p s q h => (Wq.dom p s q h).2.2, ha, hns, by omega, fun H1 t1 head low s1 nt1 ht1 hhn hlow hrun hno => ⟨t1, rfl, _, SqT.of ht1, rfl, _, _, rfl, _, _, rfl, rfl, ?_⟩⟩
    have W1 := W.same s1
    refine ⟨dx, _, W1.hp, wf_no _ _ _ _ (by simp [mNames]), p, dx, L, M, rs, size, n, δ, par, 0, a, ns, low, rfl, W1, h12, n0, fun p s q h => (Wq.dom p s q h).2.2, Wq.inv, s1 _ _ ha, fun s hs => ⟨hns s hs, hin s (hns s hs)⟩, by omega, hlow, fun H2 t2 tail high s2 nt2 ht2 htn hlh hhl hrun2 hno2 => ⟨t2, rfl, _, SqT.of ht2, rfl, _, _, rfl, _, _, rfl, rfl, ?_⟩⟩
    have W2 := W1.same s2
    have WP := Wq.start hpn n0 hrun hrun2 hlh hhl
    have nl2 : ns[low]? = ns[low]? := rfl
    -- what stands while the ends are drawn in
    let St : Hp → Nat → Nat → Nat → Nat → Prop := fun H' hd tl lo hi => ∃ (rs' : List Addr) (n' : Nat) (δ' : Nat → Nat → Option Nat) (l' : Nat → List Nat), Wv cW H' p dx L M rs' size n' δ' par ∧ MN.Wp size n' δ' par l' ws dn ns hd tl lo hi ∧ hd < n' ∧ tl < n' ∧ par hd = hd ∧ par tl = tl ∧
      (∀ s, lo < hi → ns[lo]? = some s → δ' hd s = none) ∧ (∀ s, lo < hi → ns[hi - 1]? = some s → δ' tl (MN.inv s) = none) ∧ n ≤ n' ∧ n' + (hi - lo) ≤ n + ns.length ∧ Oth (L :: M :: rs) H H' ∧ (∀ r ∈ rs', r ∈ rs ∨ H r = none) ∧ (∀ r ∈ rs, r ∈ rs')
    have hal : ∀ {x : Nat} {w : List Nat} {y : Nat}, MN.run δ x w = some y → par x = x → par y = y := by
      intro x w
      induction w generalizing x with
      | nil => intro y h k; cases h; exact k
      | cons s w ih =>
        intro y h k
        obtain ⟨r, h1, h2⟩ := MN.run_cons.mp h
        exact ih h2 (Wq.dead _ _ _ (Wq.inv _ _ _ h1))
    have h00 : par 0 = 0 := MN.alive0 Wq.ple
    have haT : par tail = tail := by
      have := MN.run_opp Wq.inv _ hrun2
      exact hal this h00
    have st0 : St H2 head tail low high := ⟨rs, n, δ, l, W2, WP, hhn, htn, hal hrun h00, haT, fun s _ => hno s, fun s h => hno2 s h, Nat.le_refl _, by omega, Oth.of (s1.trans s2), fun r hr => .inl hr, fun r hr => hr⟩
    have aH : H a ≠ none := fun z => by
      have : H a = some (.lst (ns.map fun n => V.int (n : Nat))) := ha
      rw [this] at z; cases z
    refine ⟨fun m σ H' => ∃ (hd tl lo hi : Nat) (v8 : Option V), σ = [some (.ref p), some (.int 0), some (.int 0), some (.ref a), some (.int (hd : Nat)), some (.int (lo : Nat)), some (.int (tl : Nat)), some (.int (hi : Nat)), v8, none] ∧ St H' hd tl lo hi ∧ hi - lo ≤ m, ⟨high - low, head, tail, low, high, none, rfl, st0, Nat.le_refl _⟩, ?_⟩
    rintro m σ H' ⟨hd, tl, lo, hi, v8, rfl, st, hm⟩
    obtain ⟨rs', n', δ', l', W', WP', hh', ht', hah, hat, hnh, hnt, hnn, hnb, o', hrs, hrs2⟩ := id st
    have haN : H' a = some (.lst (ns.map fun n => V.int (n : Nat))) := o' _ _ haL ha
    have hlohi := WP'.lohi
    have hhil := WP'.hil
    have gat : ∀ k, k < ns.length → ∃ s, ns[k]? = some s ∧ s < size ∧ atI (ns.map fun n => V.int (n : Nat)) (k : Int) = some (V.int (s : Nat)) := fun k hk => ⟨ns[k], List.getElem?_eq_getElem hk, hns _ (List.getElem_mem hk), atI_nat (by rw [List.getElem?_map, List.getElem?_eq_getElem hk]; rfl)⟩
    by_cases hc : hd = tl ∧ lo + 1 < hi ∧ ns[lo]? = (ns[hi - 1]?).map MN.inv
    · refine tt_by true (fun KK hK => ?_) ?_
      · walk_at "rd"
        obtain ⟨c1, c2, c3⟩ := hc
        obtain ⟨s, gs, hs, as⟩ := gat lo (by omega)
        obtain ⟨t, gt, ht, at'⟩ := gat (hi - 1) (by omega)
        rw [gs, gt] at c3
        have est : s = MN.inv t := Option.some.inj c3
        rw [if_pos (show ((hd : Nat) : Int) = (tl : Nat) by omega)]
        refine ⟨rfl, ?_⟩
        rw [if_pos (show (1 : Int) < (hi : Nat) - (lo : Nat) by omega)]
        refine ⟨_, haN, _, as, _, haN, _, by rw [show ((hi : Int) - 1) = ((hi - 1 : Nat) : Int) by omega]; exact at', _, rfl, rfl, ?_⟩
        rw [show decide (V.int (s : Nat) = V.int (Builtin.bitXor (t : Nat) 1)) = true from decide_eq_true (by rw [(bx12 t (by omega)).1, est])]
        exact hK
      · rw [if_pos rfl]
        refine ⟨_, fun _ _ h => h, ?_⟩
        walk_at "rd"
        obtain ⟨c1, c2, c3⟩ := hc
        subst c1
        obtain ⟨s, gs, hs, as⟩ := gat lo (by omega)
        obtain ⟨t, gt, ht, at'⟩ := gat (hi - 1) (by omega)
        rw [gs, gt] at c3
        have est : s = MN.inv t := Option.some.inj c3
        have est2 : MN.inv s = t := by rw [est, MN.inv_inv]
        have hnn' : ∀ s, δ' n' s = none := fun s => by
          cases e : δ' n' s with
          | none => rfl
          | some q => exact absurd (WP'.dom _ _ _ e).1 (Nat.lt_irrefl _)
        refine ⟨dx, _, W'.hp, wf_no _ _ _ _ (by simp [mNames]), p, dx, L, M, rs', size, n', δ', par, rfl, W', h12, by omega, hnn', hpn _ hnn, fun H5 r W5 nr o5 => ?_⟩
        have haR : a ∉ L :: M :: rs' := fun z => by
          rcases List.mem_cons.mp z with z | z
          · exact haL (by rw [z]; simp)
          · rcases List.mem_cons.mp z with z | z
            · exact haL (by rw [z]; simp)
            · rcases hrs a z with h | h
              · exact haL (by simp [h])
              · exact aH h
        have aLM : a ∉ [L, M] := fun z => haR (by simp at z ⊢; rcases z with z | z <;> simp [z])
        have haN5 := o5 _ _ aLM haN
        refine ⟨dx, _, W5.hp, wf_no _ _ _ _ (by simp [mNames]), _, haN5, _, as, p, dx, L, M, rs' ++ [r], size, n' + 1, δ', par, hd, s, n', rfl, W5, h12, by omega, hs, hin s hs, by omega, fun H6 W6 o6 => ⟨by omega, fun b nb => ⟨_, SqT.of upd_same, rfl, ?_⟩⟩⟩
        have WP6 := WP'.step gs hs (hin s hs) (by omega) (hnh s (by omega) gs) hh' hah
        have hm6 : MN.run (MN.lay δ' hd s n') n' (ns.drop (hi - 1)) = some 0 := by
          have dg := MN.drop_get gt
          rw [show hi - 1 + 1 = hi by omega] at dg
          rw [dg, MN.run_cons]
          refine ⟨hd, by rw [← est2]; exact MN.lay_eq', WP6.tl⟩
        have WP7 := WP6.both (by omega) hm6
        have rH : H r = none := by
          cases e : H r with
          | none => rfl
          | some oo =>
            have : r ∈ L :: M :: rs := by
              by_cases z : r ∈ L :: M :: rs
              · exact z
              · rw [o' r oo z e] at nr
                cases nr
            have : r ∈ L :: M :: rs' := by
              rcases List.mem_cons.mp this with z | z
              · rw [z]; simp
              · rcases List.mem_cons.mp z with z | z
                · rw [z]; simp
                · simp [hrs2 r z]
            obtain ⟨xs, e2⟩ := W'.lists r this
            rw [nr] at e2
            cases e2
        have hrs5 : ∀ x ∈ rs' ++ [r], x ∈ rs ∨ H x = none := fun x hx => by
          rcases List.mem_append.mp hx with z | z
          · exact hrs x z
          · rw [List.mem_singleton.mp z]
            exact .inr rH
        have o66 : Oth (L :: M :: rs) H H6 := oth_new (o'.trans (o5.mono (by simp))) (fun x hx => (hrs5 x hx).imp (fun z => by simp [z]) id) o6
        refine ⟨_, _, rfl, _, _, rfl, _, _, rfl, _, _, rfl, rfl, m - 1, by omega, n', rfl, n', lo + 1, by simp, rfl, hi - 1, by congr 1; omega, ⟨_, rfl⟩, ⟨rs' ++ [r], n' + 1, _, _, W6.same (same_upd nb), WP7, by omega, by omega, hpn _ hnn, hpn _ hnn, ?_, ?_, by omega, by omega, o66.trans (.of (same_upd nb)), hrs5, fun x hx => List.mem_append_left _ (hrs2 x hx)⟩, by omega⟩
        · intro s2 h2 g2
          exact MN.lay_new hnn' (by omega) (plain_get hpl gs g2)
        · intro t2 h2 g2
          refine MN.lay_new hnn' (by omega) fun z => ?_
          have e2 := MN.inv_inj z
          have := plain_get hpl (i := hi - 1 - 1) g2 (by rw [show hi - 1 - 1 + 1 = hi - 1 by omega]; exact gt)
          rw [e2, est2] at this
          exact this rfl
    · refine tt_by false (fun KK hK => ?_) ?_
      · walk_at "rd"
        refine ⟨rfl, ?_⟩
        by_cases c1 : hd = tl
        · rw [if_pos (show ((hd : Nat) : Int) = (tl : Nat) by omega)]
          by_cases c2 : lo + 1 < hi
          · rw [if_pos (show (1 : Int) < (hi : Nat) - (lo : Nat) by omega)]
            obtain ⟨s, gs, hs, as⟩ := gat lo (by omega)
            obtain ⟨t, gt, ht, at'⟩ := gat (hi - 1) (by omega)
            refine ⟨_, haN, _, as, _, haN, _, by rw [show ((hi : Int) - 1) = ((hi - 1 : Nat) : Int) by omega]; exact at', _, rfl, rfl, ?_⟩
            rw [show decide (V.int (s : Nat) = V.int (Builtin.bitXor (t : Nat) 1)) = false from decide_eq_false fun z => hc ⟨c1, c2, by
              rw [(bx12 t (by omega)).1] at z
              rw [gs, gt]
              have := V.int.inj z
              show some s = some _
              congr 1
              omega⟩]
            exact hK
          · rw [if_neg (show ¬ (1 : Int) < (hi : Nat) - (lo : Nat) by omega)]
            exact hK
        · rw [if_neg (show ¬ ((hd : Nat) : Int) = (tl : Nat) by omega)]
          exact hK
      · rw [if_neg (by decide)]
        walk_at "rd"
        refine ⟨rfl, ?_⟩
        by_cases hlh : lo = hi
        · subst hlh
          rw [if_pos rfl]
          have U5 := WP'.close (ps := [(hd, tl)]) hpl hws (.pair (by simp)) (fun a b z => by
            cases List.mem_singleton.mp z
            exact ⟨hh', ht'⟩) (fun a b z => by
            cases List.mem_singleton.mp z
            exact WP'.ends hws)
          refine ⟨dx, _, W'.hp, wf_no _ _ _ _ (by simp [mNames]), p, dx, L, M, rs', size, n', δ', par, hd, tl, l', ws, dn ++ [ns], rfl, W', h12, hin, hh', ht', by omega, U5, WP'.dead, fun H5 δ5 par5 W5 U5' D5 hp5 o5 => ?_⟩
          show Q V.non H5
          exact q H5 rs' n' δ5 par5 l' W5 (U5'.rest D5) (fun a h => hp5 a h (WP'.pn a h)) hnn (by omega) (oth_new o' (fun x hx => by
            rcases List.mem_cons.mp hx with z | z
            · exact .inl (by rw [z]; simp)
            · rcases List.mem_cons.mp z with z | z
              · exact .inl (by rw [z]; simp)
              · exact (hrs x z).imp (fun z => by simp [z]) id) o5) hrs
        · rw [if_neg (by omega)]
          refine ⟨by omega, by omega, by omega, by omega, ?_⟩
          rw [show ((hi : Int) - 1 - (lo : Int)).toNat = hi - 1 - lo by omega]
          refine loop_range (n := hi - 1 - lo) (fun i σ H' => ∃ (hdi : Nat) (v8 v9 : Option V), σ = [some (.ref p), some (.int 0), some (.int 0), some (.ref a), some (.int (hdi : Nat)), some (.int (lo : Nat)), some (.int (tl : Nat)), some (.int (hi : Nat)), v8, v9] ∧ St H' hdi tl (lo + i) hi ∧ (hdi = tl → lo + i + 1 < hi → ns[lo + i]? ≠ (ns[hi - 1]?).map MN.inv)) ⟨hd, v8, none, rfl, st, fun h1 h2 h3 => hc ⟨h1, h2, h3⟩⟩ ?_ ?_
          · rintro i σ H5 hi' ⟨hdi, u8, u9, rfl, st5, hne⟩
            walk_at "rd"
            obtain ⟨rs5, n5, δ5, l5, W5, WP5, hh5, ht5, hah5, hat5, hnh5, hnt5, hnn5, hnb5, o5, hrs5, hrs52⟩ := id st5
            obtain ⟨s, gs, hs, as⟩ := gat (lo + i) (by omega)
            have hnn' : ∀ s, δ5 n5 s = none := fun s => by
              cases e : δ5 n5 s with
              | none => rfl
              | some q => exact absurd (WP5.dom _ _ _ e).1 (Nat.lt_irrefl _)
            refine ⟨dx, _, W5.hp, wf_no _ _ _ _ (by simp [mNames]), p, dx, L, M, rs5, size, n5, δ5, par, rfl, W5, h12, by omega, hnn', hpn _ hnn5, fun H6 r W6 nr o6 => ?_⟩
            have rH : H r = none := by
              cases e : H r with
              | none => rfl
              | some oo =>
                have : r ∈ L :: M :: rs := by
                  by_cases z : r ∈ L :: M :: rs
                  · exact z
                  · rw [o5 r oo z e] at nr
                    cases nr
                have : r ∈ L :: M :: rs5 := by
                  rcases List.mem_cons.mp this with z | z
                  · rw [z]; simp
                  · rcases List.mem_cons.mp z with z | z
                    · rw [z]; simp
                    · simp [hrs52 r z]
                obtain ⟨xs, e2⟩ := W5.lists r this
                rw [nr] at e2
                cases e2
            have hrs6 : ∀ x ∈ rs5 ++ [r], x ∈ rs ∨ H x = none := fun x hx => by
              rcases List.mem_append.mp hx with z | z
              · exact hrs5 x z
              · rw [List.mem_singleton.mp z]
                exact .inr rH
            have o56 : Oth (L :: M :: rs) H H6 := o5.trans (o6.mono (by simp))
            have haN6 := o56 _ _ haL ha
            refine ⟨dx, _, W6.hp, wf_no _ _ _ _ (by simp [mNames]), _, haN6, _, by rw [show (lo : Int) + (i : Int) = ((lo + i : Nat) : Int) by omega]; exact as, p, dx, L, M, rs5 ++ [r], size, n5 + 1, δ5, par, hdi, s, n5, rfl, W6, h12, by omega, hs, hin s hs, by omega, fun H7 W7 o7 => ⟨n5, rfl, ⟨_, rfl⟩, ⟨_, rfl⟩, ⟨rs5 ++ [r], n5 + 1, _, _, W7, WP5.step gs hs (hin s hs) (by omega) (hnh5 s (by omega) gs) hh5 hah5, by omega, by omega, hpn _ hnn5, hat5, ?_, ?_, by omega, by omega, oth_new o56 (fun x hx => (hrs6 x hx).imp (fun z => by simp [z]) id) o7, hrs6, fun x hx => List.mem_append_left _ (hrs52 x hx)⟩, fun z => by omega⟩⟩
            · intro s2 h2 g2
              exact MN.lay_new hnn' (by omega) (plain_get hpl gs g2)
            · intro t2 h2 g2
              rw [MN.lay_else]
              · exact hnt5 t2 (by omega) g2
              · rintro ⟨z1, z2⟩
                refine hne z1.symm (by omega) ?_
                rw [gs, g2, ← z2]
                rfl
              · rintro ⟨z1, _⟩
                omega
          · rintro σ H5 ⟨hdi, u8, u9, rfl, st5, hne⟩
            walk_at "rd"
            obtain ⟨rs5, n5, δ5, l5, W5, WP5, hh5, ht5, hah5, hat5, hnh5, hnt5, hnn5, hnb5, o5, hrs5, hrs52⟩ := id st5
            rw [show lo + (hi - 1 - lo) = hi - 1 by omega] at WP5 hnh5 hnb5
            obtain ⟨s, gs, hs, as⟩ := gat (hi - 1) (by omega)
            have haN5 := o5 _ _ haL ha
            refine ⟨dx, _, W5.hp, wf_no _ _ _ _ (by simp [mNames]), _, haN5, _, by rw [show (hi : Int) - 1 = ((hi - 1 : Nat) : Int) by omega]; exact as, p, dx, L, M, rs5, size, n5, δ5, par, hdi, s, tl, rfl, W5, h12, hh5, hs, hin s hs, ht5, fun H7 W7 o7 => ?_⟩
            have WP7 := WP5.last hws gs (by omega) (hnh5 s (by omega) gs) (hnt5 s (by omega) gs) hs (hin s hs) hh5 hah5 ht5 hat5
            have U7 := WP7.close (ps := []) hpl hws (.refl _) (fun a b z => nomatch z) (fun a b z => nomatch z)
            exact q H7 rs5 n5 _ par l5 W7 (U7.rest WP7.dead) WP7.pn hnn5 (by omega) (oth_new o5 (fun x hx => (hrs5 x hx).imp (fun z => by simp [z]) id) o7) hrs5
def spLoop (cW : Addr) : Sp := fun vs H Q _ => ∃ (p dx L M : Addr) (rs : List Addr) (size n : Nat) (δ : Nat → Nat → Option Nat) (par : Nat → Nat) (l : Nat → List Nat) (ws dn : List (List Nat)) (a : Addr) (ns : List Nat), vs = [.ref p, .ref a] ∧ Wv cW H p dx L M rs size n δ par ∧ size ≤ 12 ∧ (∀ s, s < size → MN.inv s < size) ∧
  MN.Wq size n δ par l ws dn ∧ (∀ a, n ≤ a → par a = a) ∧ 0 < n ∧ NumsAt H a ns ∧ a ∉ L :: M :: rs ∧ MN.Plain ns ∧ (∀ s ∈ ns, s < size) ∧ ns ∈ ws ∧ n + ns.length ≤ 100000 ∧
  ∀ H' rs' n' δ' par' l', Wv cW H' p dx L M rs' size n' δ' par' → MN.Wq size n' δ' par' l' ws (dn ++ [ns]) → (∀ a, n' ≤ a → par' a = a) → n ≤ n' → n' ≤ n + ns.length → Oth (L :: M :: rs) H H' → (∀ r ∈ rs', r ∈ rs ∨ H r = none) → Q .non H'
theorem ok_wloop (S : SrcM K cW "put_loop" "Weave.put_loop" s_Weave_put_loop) (T : Txt P w K mg base c cF cW cG) (C_Weave_put_path : OkM P w K mg base cW 5 "put_path" ["self", "one", "other", "numbers"] (spPath cW)) : OkM P w K mg base cW 6 "put_loop" ["self", "numbers"] (spLoop cW) := by
  refine okm S (fun f fd F => F.ok sc_Weave_put_loop (fun vs H Q E h => ?_) (fun cdv A outer s H vs Q E hr h => ?_)) (fun _ _ _ _ _ _ us hl => match us, hl with | [_, _], _ => rfl)
  · obtain ⟨_, _, _, _, _, _, _, _, _, _, _, _, _, _, rfl, _⟩ := h
    rfl
  · obtain ⟨p, dx, L, M, rs, size, n, δ, par, l, ws, dn, a, ns, rfl, W, h12, hin, Wq, hpn, n0, ha, haL, hpl, hns, hws, hnl, q⟩ := h
    refine ⟨_, ((pss_one (ps_expr (pe_callM T.o_Weave C_Weave_put_path (hr.mono (by decide)) (pv 0) (pa_cons pe_int (pa_cons pe_int (pa_cons (pv 1) pa_nil))))))), ?_⟩
    walk_at "rd"
    exact ⟨dx, _, W.hp, wf_no _ _ _ _ (by simp [mNames]), p, dx, L, M, rs, size, n, δ, par, l, ws, dn, a, ns, rfl, W, h12, hin, Wq, hpn, n0, ha, haL, hpl, hns, hws, hnl, q⟩
end

end K29

namespace K29
open PySem PySem.Spec PyProof.Rows L2 G1 MW
abbrev s_numbered_rows : Stmt := topS 27
theorem sc_numbered_rows : FnScope ["lanes", "start", "numbers", "order", "at", "row", "target", "spot", "end"] ["lanes", "start"] (defScope s_numbered_rows) := ⟨rfl, rfl, rfl, by decide +kernel, rfl, by decide +kernel, by decide +kernel⟩
local macro_rules | `(tactic| walk_at "rd") => `(tactic| simp only [L2.iZip, G1.rGtD, L2.rMin, L2.tLockE, L2.iKeys, L2.iEnum, L2.ipI, L2.rIn, L2.tPairs, L2.rSetD, L2.tDNewK, G1.tCallK3, G1.tCallK4, G1.tFldA, G1.tCallM, G1.tMakeO, L2.sFld, L2.rExtend, L2.tDNotIn, L2.tDIn, L2.tDGet2, L2.tDisp, L2.rPopAt, L2.tLstRg, L2.tRg1, G1.tMakeO2, G1.rOwnI, G1.rCntN, L2.tPar3, L2.tSeq, L2.tAug, L2.tTup, G1.tCallK3b, G1.tMt, G1.tMinK, G1.rIsTu, L2.rIxT, G1.rTr, G1.rLtD, if_true, if_false, L2.rNotB, L2.rMax, L2.iRng2,L2.tSeq, G1.iEnumS, L2.tDGet, L2.gTup, L2.gCons, L2.gNil, L2.tPar, L2.rIxS, G1.tRepU, L2.rSlS, L2.iStr, L2.tNotV, G1.rIsV, G1.mk_int, G1.mk_bool, G1.mk_str, G1.mk_list, G1.tCallX, V.ty.injEq, L2.tChain, L2.rIsB, G1.tRevS, L2.tM0, L2.tM1, L2.tCallS, G1.tCallK2, G1.tMkR, L2.rAll, L2.rPop, L2.tBM0, L2.tRevL, L2.tAsg, L2.tOp, L2.rI, L2.rI0, L2.tVar, L2.tC, L2.tCB, L2.tCons, L2.tNil, L2.tRet, L2.gName, L2.start, L2.tIf, L2.tIfS, L2.tTest, L2.tNext, L2.rIxL, L2.tSl, L2.rSlL, L2.tNoPart, L2.tPart, L2.tLst, L2.tTup, L2.rSum, L2.tBits, L2.gSub, L2.rSetL, L2.rCat, L2.tDrop, L2.tBM, L2.tBM0, L2.rAppend, L2.tYes, L2.tB, L2.tAnd, L2.tOr, L2.tNot, L2.tAndV, L2.tOrV, G1.tCallO, G1.tXm, G1.tXn, G1.tXv, HO.lst.injEq, HO.tup.injEq, Nat.reduceAdd, Nat.zero_add, List.set_cons_zero, List.set_cons_succ, G1.tFor_eq, G1.tLc_eq, G1.rIxM, G1.rLenM, G1.rSlM, G1.atI_0, G1.atI_1, G1.atI_2, G1.ixN_0, G1.ixN_2, L2.upd_same, L2.upd_upd, and_assoc, L2.iRng1, L2.iList, L2.tUn, L2.rU, G1.rRepS, L2.wipe, List.foldl, L2.rEq, L2.rNe, List.map, List.replicate, List.length, List.append, List.set, List.getElem?_cons_zero, List.getElem?_cons_succ, List.cons_append, List.nil_append, Option.some.injEq, V.int.injEq, V.bl.injEq, V.ref.injEq, V.str.injEq, List.cons.injEq, reduceCtorEq, false_and, and_false, exists_false, or_false, false_or, exists_and_left, exists_and_right, exists_eq_left', exists_eq_left, true_and, and_true, Nat.sub_self, decide_eq_true_eq])
section
variable {P : Program} {w : World} {K : PySem.W.Frag} {mg : Str → Option Value} {base : Heap} {c : Nat → Addr} {cF cW cG : Addr}
/-- a table of lanes as a list of lists -/
structure Tab (H : Hp) (L : Addr) (rs : List Addr) (size n : Nat) (δ : Nat → Nat → Option Nat) : Prop where
  hl : H L = some (.lst (rs.map V.ref))
  ln : rs.length = n
  row : ∀ i r, rs[i]? = some r → H r = some (.lst (rowV size (δ i)))
theorem Tab.same {H H' : Hp} {L : Addr} {rs : List Addr} {size n : Nat} {δ : Nat → Nat → Option Nat} (t : Tab H L rs size n δ) (s : Same H H') : Tab H' L rs size n δ := ⟨s _ _ t.hl, t.ln, fun i r e => s _ _ (t.row i r e)⟩
/-- rows as a list of lists -/
structure RowsL (H : Hp) (q : Addr) (ts : List Addr) (rows : List (List (Option Nat))) : Prop where
  hl : H q = some (.lst (ts.map V.ref))
  ln : ts.length = rows.length
  row : ∀ (i : Nat) (t : Addr) (row : List (Option Nat)), ts[i]? = some t → rows[i]? = some row → H t = some (.lst (row.map ov))
theorem RowsL.same {H H' : Hp} {q : Addr} {ts : List Addr} {rows : List (List (Option Nat))} (t : RowsL H q ts rows) (s : Same H H') : RowsL H' q ts rows := ⟨s _ _ t.hl, t.ln, fun i r e a b => s _ _ (t.row i r e a b)⟩
theorem rowV_ends (size : Nat) (δ : Nat → Nat → Option Nat) (p : Nat) : rowV size (δ p) = (MN.ends δ size p).map ov := by
  unfold rowV MN.ends
  rw [List.map_map]
  rfl
theorem nd_len : ∀ (n : Nat) (l : List Nat), l.Nodup → (∀ x ∈ l, x < n) → l.length ≤ n
  | 0, l, _, h => by
    cases l with
    | nil => exact Nat.le_refl _
    | cons a l => exact absurd (h a List.mem_cons_self) (Nat.not_lt_zero _)
  | n + 1, l, nd, h => by
    have ih := nd_len n (l.erase n) (nd.erase n) fun x hx => by
      have h1 := h x (List.mem_of_mem_erase hx)
      have h2 : x ≠ n := fun e => by
        subst e
        exact (List.Nodup.not_mem_erase nd) hx
      omega
    have := List.length_erase (l := l) (a := n)
    split at this <;> omega
/-- numbers of spots, in the order in which they are found -/
def DnO (kvs : List (L2.Key × V)) (o : List Nat) : Prop := kvs.length = o.length ∧ ∀ q : Nat, valV kvs (.inl (q : Int)) = if q ∈ o then some (V.int (o.idxOf q : Nat)) else none
theorem DnO.add {kvs : List (L2.Key × V)} {o : List Nat} {q : Nat} (h : DnO kvs o) (n : q ∉ o) : DnO (putK kvs (.inl (q : Int)) (.int (o.length : Nat))) (o ++ [q]) := by
  have hq := h.2 q
  rw [if_neg n] at hq
  refine ⟨by rw [putK_new _ hq, List.length_append, List.length_append, h.1]; rfl, fun x => ?_⟩
  rw [valV_put]
  by_cases e : x = q
  · subst e
    rw [if_pos rfl, if_pos (by simp)]
    congr 3
    rw [List.idxOf_append, if_neg n]
    simp
  · rw [if_neg (fun z => e (by have := Sum.inl.inj z; omega)), h.2 x]
    by_cases m : x ∈ o
    · rw [if_pos m, if_pos (List.mem_append_left _ m), List.idxOf_append, if_pos m]
    · rw [if_neg m, if_neg (by simp [m, e])]
theorem DnO.put {kvs : List (L2.Key × V)} {o : List Nat} {q : Nat} (h : DnO kvs o) (m : q ∈ o) : valV kvs (.inl (q : Int)) = some (V.int (o.idxOf q : Nat)) := by rw [h.2 q, if_pos m]
def spNumb (K : PySem.W.Frag) : Sp := fun vs H Q _ => ∃ (L : Addr) (rs : List Addr) (size n : Nat) (δ : Nat → Nat → Option Nat), vs = [.ref L, .int 0] ∧ Tab H L rs size n δ ∧ 0 < n ∧ n ≤ 100000 ∧ size ≤ 12 ∧ (∀ p s q, δ p s = some q → q < n) ∧
  ∀ H' q ts rows, MN.Rows δ size 0 rows → rows.length ≤ n → RowsL H' q ts rows → H q = none → (∀ t ∈ ts, H t = none) → Same H H' → Q (.ref q) H'
theorem ok_numbered (S : Src K mg "numbered_rows" s_numbered_rows) (T : Txt P w K mg base c cF cW cG) : OkD P w K mg base 1 "numbered_rows" ["lanes", "start"] (spNumb K) := by
  refine okd S (fun f fd F => F.ok sc_numbered_rows (fun vs H Q E h => ?_) (fun cdv A outer s H vs Q E hr h => ?_)) (fun _ _ _ _ _ _ us hl => match us, hl with | [_, _], _ => rfl)
  · obtain ⟨_, _, _, _, _, rfl, _⟩ := h
    rfl
  · obtain ⟨L, rs, size, n, δ, rfl, hT, n0, hn, h12, hd, q⟩ := h
    refine ⟨_, ((pss_cons (ps_asg (pe_tup (pa_cons (pe_disp (pps_cons (pv 1) pe_int pps_nil) rfl rfl (by simp) (by decide)) (pa_cons (pe_lst (pa_cons (pv 1) pa_nil)) (pa_cons pe_int pa_nil)))) (pg_tup (by rfl) (pgs_cons (pg_name (i := 2) sc_numbered_rows.nd rfl (.inr rfl)) (pgs_cons (pg_name (i := 3) sc_numbered_rows.nd rfl (.inl rfl)) (pgs_cons (pg_name (i := 4) sc_numbered_rows.nd rfl (.inl rfl)) pgs_nil)))))
      (pss_cons (ps_while PassesOwn.never (pt_cmpR op_lt (pv 4) (pe_callB call_lenM (by rfl) T.n_len PySem.boot_len (pa_cons (pv 3) pa_nil)) (nomark _)) (pss_cons (ps_set (i := 5) sc_numbered_rows.nd rfl (.inl rfl) (pe_ix ix_lM (pv 0) (pe_ix ix_lM (pv 3) (pv 4) (fun _ _ => rfl)) (fun _ _ => rfl)))
      (pss_cons (ps_for PassesOwn.never rfl (pi_list (pv 5)) (pg_name (i := 6) sc_numbered_rows.nd rfl (.inl rfl)) (pss_one (ps_if (PW.pt (pw_and (pt_cmpR op_notN (pv 6) pe_non (nomark _)) (pw_and1 (pt_cmp (pc_dnotin (hu_of hr) (pv 6) (pv 2)))))) (pss_cons (ps_asg (pe_callB call_lenM (by rfl) T.n_len PySem.boot_len (pa_cons (pv 3) pa_nil)) (pg_sub (pv 2) (pv 6) (set_dict (hu_of hr))))
      (pss_one (ps_expr (pe_bm PySem.F.plainAttrs_list PySem.F.slot_list_append PySem.F.type_list_append mt_append (pv 3) (pa_cons (pv 6) pa_nil))))) pss_nil)))
      (pss_one (ps_aug (i := 4) sc_numbered_rows.nd rfl (.inl rfl) pe_int ip_add)))))
      (pss_one (ps_ret (pe_lc (own := [("spot", 7)]) (g := gName 7) (tt := tYes) (by rfl) sc_numbered_rows.nd (pi_list (pv 3)) (blkOk_by (own := [("spot", 7)]) (N := ["lanes", "start", "numbers", "order", "at", "row", "target", "spot", "end"]) (sc := defScope s_numbered_rows) (by decide +kernel)) (fun _ _ _ _ _ => pg_name (i := 7) sc_numbered_rows.nd rfl (Or.inl rfl)) (fun _ _ _ _ _ => pts_nil) (fun _ _ _ _ _ => (pe_lc (own := [("end", 8)]) (g := gName 8) (tt := tYes) (by rfl) sc_numbered_rows.nd (pi_listK K rfl (pe_ix ix_lM (pv 0) (pv 7) (fun _ _ => rfl))) (blkOk_by (own := [("end", 8)]) (by rfl)) (fun _ _ _ _ _ => pg_name (i := 8) sc_numbered_rows.nd rfl (Or.inl rfl)) (fun _ _ _ _ _ => pts_nil) (fun _ _ _ _ _ => (pe_ifExp (pt_cmpR op_isN (pv 8) pe_non (nomark _)) pe_non (pe_dget (hu_of hr) (pv 2) (pv 8) (fun _ _ => rfl)))))))))))), ?_⟩
    walk_at "rd"
    have hsz := sizeLine_eq
    intro D nD
    refine ⟨[(.inl 0, .int 0)], rfl, by decide, by omega, fun O nO => ⟨by omega, fun b nb => ⟨_, SqT.of upd_same, rfl, _, _, rfl, _, _, rfl, _, _, rfl, rfl, ?_⟩⟩⟩
    have eD : upd (upd H D (.dK [])) D (.dK (mergeK [] [(.inl 0, .int 0)])) = upd H D (.dK [(.inl 0, .int 0)]) := upd_upd
    have nOD : O ≠ D := fun z => by rw [z, upd_same] at nO; cases nO
    have nOH : H O = none := by
      rw [upd_ne nOD] at nO
      exact nO
    have d0 : DnO [(.inl 0, V.int 0)] [0] := ⟨rfl, fun x => by
      by_cases e : x = 0
      · subst e
        rfl
      · rw [if_neg (by simpa using e)]
        exact valV_neg (fun z => e (by have := Sum.inl.inj z; omega))⟩
    have S0 : Same H (upd (upd (upd H D (.dK [(.inl 0, .int 0)])) O (.lst [.int 0])) b (.tup [.ref D, .ref O, .int 0])) ∧ (upd (upd (upd H D (.dK [(.inl 0, .int 0)])) O (.lst [.int 0])) b (.tup [.ref D, .ref O, .int 0])) D = some (.dK [(.inl 0, .int 0)]) ∧ (upd (upd (upd H D (.dK [(.inl 0, .int 0)])) O (.lst [.int 0])) b (.tup [.ref D, .ref O, .int 0])) O = some (.lst [.int 0]) := by
      have nbO : b ≠ O := fun z => by rw [z, upd_same] at nb; cases nb
      have nbD : b ≠ D := fun z => by
        rw [z, upd_ne nOD.symm] at nb
        first | (rw [upd_same] at nb; cases nb) | (simp at nb)
      refine ⟨?_, by rw [upd_ne nbD.symm, upd_ne nOD.symm, upd_same], by rw [upd_ne nbO.symm, upd_same]⟩
      have nb' : H b = none := by
        rw [upd_ne nbO] at nb
        first | (rw [upd_ne nbD] at nb; exact nb) | (rw [upd_upd, upd_ne nbD] at nb; exact nb)
      intro x o e
      rw [upd_ne (ne_none e nb'), upd_ne (ne_none e nOH), upd_ne (ne_none e nD)]
      exact e
    have eM : mergeK [] [(Sum.inl (0 : Int), V.int 0)] = [((.inl 0 : L2.Key), V.int 0)] := rfl
    rw [eM]
    obtain ⟨sS, sD, sO⟩ := S0
    generalize upd (upd (upd H D (.dK [(.inl 0, .int 0)])) O (.lst [.int 0])) b (.tup [.ref D, .ref O, .int 0]) = H0 at sS sD sO ⊢
    have hmem : ∀ k, ∀ x ∈ MN.ord δ size 0 k, x < n := MN.ord_mem n0 (fun p s q _ e => hd p s q e)
    have hlen : ∀ k, (MN.ord δ size 0 k).length ≤ n := fun k => nd_len n _ (MN.ord_nodup δ size 0 k) (hmem k)
    refine ⟨fun m σ H' => ∃ (k : Nat) (kvs : List (L2.Key × V)) (v5 v6 : Option V), σ = [some (.ref L), some (.int 0), some (.ref D), some (.ref O), some (.int (k : Nat)), v5, v6, none, none] ∧ Same H H' ∧ H' D = some (.dK kvs) ∧ DnO kvs (MN.ord δ size 0 k) ∧ H' O = some (.lst ((MN.ord δ size 0 k).map fun x => V.int (x : Nat))) ∧ k ≤ (MN.ord δ size 0 k).length ∧ n - k ≤ m, ⟨n, 0, _, none, none, rfl, sS, sD, d0, sO, Nat.zero_le _, by omega⟩, ?_⟩
    rintro m σ H1 ⟨k, kvs, v5, v6, rfl, s1, h1D, dn, h1O, hk, hm⟩
    walk_at "rd"
    refine ⟨_, h1O, ?_⟩
    rw [List.length_map]
    by_cases hkl : k < (MN.ord δ size 0 k).length
    · rw [if_pos (by omega)]
      obtain ⟨pp, hpp⟩ : ∃ pp, (MN.ord δ size 0 k)[k]? = some pp := ⟨_, List.getElem?_eq_getElem hkl⟩
      have hppn := hmem k pp (List.mem_of_getElem? hpp)
      have hri : pp < rs.length := by rw [hT.ln]; exact hppn
      have hrr := List.getElem?_eq_getElem hri
      have hrow := hT.row pp _ hrr
      refine ⟨_, fun _ _ h => h, ?_⟩
      refine ⟨_, h1O, _, atI_nat (by rw [List.getElem?_map, hpp]; rfl), _, _, rfl, s1 _ _ hT.hl, _, atI_nat (by rw [List.getElem?_map, hrr]; rfl), ?_⟩
      refine ⟨_, rfl, ⟨_, SqL.of (s1 _ _ hrow)⟩, ?_⟩
      have eE := rowV_ends size δ pp
      have ord1 : MN.ord δ size 0 (k + 1) = MN.scan δ size pp (MN.ord δ size 0 k) := by
        rw [MN.ord, hpp]
      refine loop_list (xs := rowV size (δ pp)) (fun j σ H' => ∃ (kvs : List (L2.Key × V)) (v6 : Option V), σ = [some (.ref L), some (.int 0), some (.ref D), some (.ref O), some (.int (k : Nat)), some (.ref rs[pp]), v6, none, none] ∧ Same H H' ∧ H' D = some (.dK kvs) ∧ DnO kvs (((MN.ends δ size pp).take j).foldl MN.put (MN.ord δ size 0 k)) ∧ H' O = some (.lst ((((MN.ends δ size pp).take j).foldl MN.put (MN.ord δ size 0 k)).map fun x => V.int (x : Nat)))) ⟨kvs, v6, rfl, s1, h1D, dn, h1O⟩ (fun j σ H' hj ⟨_, _, _, s', _⟩ => SqL.of (s' _ _ hrow)) ?_ ?_
      · rintro j x σ H2 hx ⟨kvs2, v6', rfl, s2, h2D, dn2, h2O⟩
        rw [eE, List.getElem?_map] at hx
        obtain ⟨t, ht, rfl⟩ := Option.map_eq_some_iff.mp hx
        have tk : ((MN.ends δ size pp).take (j + 1)).foldl MN.put (MN.ord δ size 0 k) = MN.put (((MN.ends δ size pp).take j).foldl MN.put (MN.ord δ size 0 k)) t := by
          rw [take_step ht, List.foldl_append]
          rfl
        rw [tk]
        have hol : (((MN.ends δ size pp).take j).foldl MN.put (MN.ord δ size 0 k)).length ≤ n := by
          have e1 := hlen (k + 1)
          rw [ord1] at e1
          unfold MN.scan at e1
          rw [← List.take_append_drop j (MN.ends δ size pp), List.foldl_append] at e1
          obtain ⟨r, hr⟩ := MN.puts_app ((MN.ends δ size pp).drop j) (((MN.ends δ size pp).take j).foldl MN.put (MN.ord δ size 0 k))
          rw [hr, List.length_append] at e1
          omega
        generalize ((MN.ends δ size pp).take j).foldl MN.put (MN.ord δ size 0 k) = oj at dn2 h2O hol ⊢
        walk_at "rd"
        cases t with
        | none =>
          rw [if_neg (by simp [ov])]
          exact ⟨⟨_, rfl⟩, s2, kvs2, h2D, dn2, h2O⟩
        | some x =>
          rw [if_pos (by simp [ov])]
          have gx := dn2.2 x
          refine ⟨_, .inl ⟨kvs2, .inl (x : Int), .inl h2D, rfl, rfl⟩, ?_⟩
          by_cases m : x ∈ oj
          · rw [gx, if_pos m]
            simp only [Option.isSome_some, Bool.not_true, MN.put, if_pos m]
            rw [if_neg (by decide)]
            exact ⟨⟨_, rfl⟩, s2, kvs2, h2D, dn2, h2O⟩
          · rw [gx, if_neg m]
            simp only [Option.isSome_none, Bool.not_false, MN.put, if_neg m]
            rw [if_pos trivial]
            have hO3 : upd H2 D (.dK (putK kvs2 (.inl (x : Int)) (.int (oj.length : Nat)))) O = some (.lst (oj.map fun x => V.int (x : Nat))) := by rw [upd_ne nOD]; exact h2O
            refine ⟨_, h2O, _, .inl ⟨kvs2, .inl (x : Int), h2D, rfl, by rw [dn2.1]; omega, rfl⟩, ?_⟩
            rw [List.length_map]
            refine ⟨.inl ⟨rfl, _, .inl (.inl hO3)⟩, _, hO3, by rw [List.length_map]; omega, ⟨_, rfl⟩, ?_, _, by rw [upd_ne nOD.symm, upd_same], dn2.add m, by rw [List.map_append]; rfl⟩
            intro y o e
            rw [upd_ne (ne_none e nOH), upd_ne (ne_none e nD)]
            exact s2 y o e
      · rintro σ H2 ⟨kvs2, v6', rfl, s2, h2D, dn2, h2O⟩
        walk_at "rd"
        have eT : ((MN.ends δ size pp).take (rowV size (δ pp)).length).foldl MN.put (MN.ord δ size 0 k) = MN.ord δ size 0 (k + 1) := by
          rw [ord1, eE, List.length_map, List.take_length]
          rfl
        rw [eT] at dn2 h2O
        obtain ⟨r, hr⟩ := MN.ord_app δ size 0 k
        exact ⟨m - 1, by have := hlen k; omega, k + 1, by simp, ⟨_, rfl⟩, ⟨_, rfl⟩, s2, kvs2, h2D, dn2, h2O, by rw [hr, List.length_append]; omega, by omega⟩
    · rw [if_neg (by omega)]
      have hke : (MN.ord δ size 0 k).length = k := by omega
      refine ⟨⟨_, SqL.of h1O⟩, ?_⟩
      have hlk : ((MN.ord δ size 0 k).map fun x => V.int (x : Nat)).length = k := by rw [List.length_map, hke]
      have hn' : k ≤ n := by have := nd_len n _ (MN.ord_nodup δ size 0 k) (hmem k); omega
      refine comp_list (xs := (MN.ord δ size 0 k).map fun x => V.int (x : Nat)) (fun D2 i H' => Same H1 H' ∧ ∃ ts : List Addr, H' D2 = some (.lst (ts.map V.ref)) ∧ ts.length = i ∧ (∀ t ∈ ts, H1 t = none ∧ t ≠ D2) ∧ ∀ (j : Nat) (t : Addr) (pp : Nat), ts[j]? = some t → (MN.ord δ size 0 k)[j]? = some pp → H' t = some (.lst (((MN.ends δ size pp).map fun t => t.map fun q => (MN.ord δ size 0 k).idxOf q).map ov))) (fun D2 nD2 => ⟨same_upd nD2, [], upd_same, rfl, (fun _ z => nomatch z), fun j t pp e => by cases e⟩) (fun D2 i H' nD2 hi ⟨s', _⟩ => SqL.of (s' _ _ h1O)) ?_ ?_
      · rintro D2 i x H2 nD2 hx ⟨s2, ts, h2D, htl, htn, hts⟩
        rw [List.getElem?_map] at hx
        obtain ⟨pp, hpp, rfl⟩ := Option.map_eq_some_iff.mp hx
        have hppn := hmem k pp (List.mem_of_getElem? hpp)
        have hri : pp < rs.length := by rw [hT.ln]; exact hppn
        have hrr := List.getElem?_eq_getElem hri
        have hrow := hT.row pp _ hrr
        walk_at "rd"
        have s02 := s1.trans s2
        have h2D0 := s2 _ _ h1D
        refine ⟨_, s02 _ _ hT.hl, _, atI_nat (by rw [List.getElem?_map, hrr]; rfl), _, rfl, ⟨_, SqL.of (s02 _ _ hrow)⟩, ?_⟩
        have eE := rowV_ends size δ pp
        refine comp_list (xs := rowV size (δ pp)) (fun D3 j H' => Same H2 H' ∧ H' D3 = some (.lst ((((MN.ends δ size pp).take j).map fun t => t.map fun q => (MN.ord δ size 0 k).idxOf q).map ov))) (fun D3 nD3 => ⟨same_upd nD3, upd_same⟩) (fun D3 j H' nD3 hj ⟨s', _⟩ => SqL.of (s' _ _ (s02 _ _ hrow))) ?_ ?_
        · rintro D3 j x H3 nD3 hx ⟨s3, h3D⟩
          rw [eE, List.getElem?_map] at hx
          obtain ⟨t, ht, rfl⟩ := Option.map_eq_some_iff.mp hx
          walk_at "rd"
          have hjl : ((((MN.ends δ size pp).take j).map fun t => t.map fun q => (MN.ord δ size 0 k).idxOf q).map ov).length < sizeLine := by
            rw [List.length_map, List.length_map, List.length_take]
            have := (List.getElem?_eq_some_iff.mp ht).1
            have e2 : (MN.ends δ size pp).length = size := by unfold MN.ends; rw [List.length_map, List.length_range]
            omega
          have fin : ∀ y, y = ov (t.map fun q => (MN.ord δ size 0 k).idxOf q) → ((((MN.ends δ size pp).take j).map fun t => t.map fun q => (MN.ord δ size 0 k).idxOf q).map ov) ++ [y] = ((((MN.ends δ size pp).take (j + 1)).map fun t => t.map fun q => (MN.ord δ size 0 k).idxOf q).map ov) := fun y e => by
            rw [take_step ht, List.map_append, List.map_append, e]
            rfl
          cases t with
          | none =>
            rw [if_pos (by simp [ov])]
            exact ⟨_, h3D, hjl, same_over s3 nD3, fin _ rfl⟩
          | some z =>
            rw [if_neg (by simp [ov])]
            have hz : z ∈ MN.ord δ size 0 k := by
              unfold MN.ends at ht
              rw [List.getElem?_map] at ht
              obtain ⟨sg', hsg, e⟩ := Option.map_eq_some_iff.mp ht
              exact MN.ord_closed hke hpp (List.mem_range.mp (List.mem_of_getElem? hsg)) e
            exact ⟨_, .inl ⟨kvs, .inl (z : Int), .inl (s3 _ _ h2D0), rfl, (dn.put hz).symm⟩, _, h3D, hjl, same_over s3 nD3, fin _ rfl⟩
        · rintro D3 H3 nD3 ⟨s3, h3D⟩
          have h3D2 := s3 _ _ h2D
          have n3 : D3 ≠ D2 := fun z => by rw [z] at nD3; rw [h2D] at nD3; cases nD3
          rw [eE, List.length_map, List.take_length] at h3D
          refine ⟨_, h3D2, by rw [List.length_map, htl]; have := (List.getElem?_eq_some_iff.mp hpp).1; omega, same_over (s2.trans s3) nD2, ts ++ [D3], by rw [List.map_append]; rfl, by rw [List.length_append, htl]; rfl, fun t ht => ?_, fun j t pp' h1 h2 => ?_⟩
          · rcases List.mem_append.mp ht with h | h
            · exact htn t h
            · rw [List.mem_singleton.mp h]
              exact ⟨s2.free nD3, n3⟩
          · rcases Nat.lt_or_ge j ts.length with z | z
            · rw [List.getElem?_append_left z] at h1
              have h4 := hts j t pp' h1 h2
              rw [upd_ne (htn t (List.mem_of_getElem? h1)).2]
              exact s3 _ _ h4
            · rw [List.getElem?_append_right z] at h1
              have hj0 : j - ts.length = 0 := by
                have := (List.getElem?_eq_some_iff.mp h1).1
                simp at this
                omega
              rw [hj0] at h1
              cases h1
              rw [show j = i by omega, hpp] at h2
              cases h2
              rw [upd_ne n3]
              exact h3D
      · rintro D2 H2 nD2 ⟨s2, ts, h2D, htl, htn, hts⟩
        rw [hlk] at htl
        refine q H2 D2 ts (MN.rowsOf δ size (MN.ord δ size 0 k)) ⟨k, hke, rfl⟩ ?_ ⟨h2D, ?_, fun i t row a b => ?_⟩ (s1.free nD2) (fun t ht => s1.free (htn t ht).1) (s1.trans s2)
        · unfold MN.rowsOf
          rw [List.length_map]
          omega
        · unfold MN.rowsOf
          rw [List.length_map, htl, hke]
        · unfold MN.rowsOf at b
          rw [List.getElem?_map] at b
          obtain ⟨pp, hpp, rfl⟩ := Option.map_eq_some_iff.mp b
          exact hts i t pp a hpp
end

end K29

namespace K29
open PySem PySem.Spec PyProof.Rows L2 G1 MW
abbrev s_folded_rows : Stmt := topS 28
theorem sc_folded_rows : FnScope ["size", "loops", "weave", "numbers"] ["size", "loops"] (defScope s_folded_rows) := ⟨rfl, rfl, rfl, by decide +kernel, rfl, by decide +kernel, by decide +kernel⟩
abbrev s_picture_rows : Stmt := topS 29
theorem sc_picture_rows : FnScope ["many", "words", "word"] ["many", "words"] (defScope s_picture_rows) := ⟨rfl, rfl, rfl, by decide +kernel, rfl, by decide +kernel, by decide +kernel⟩
local macro_rules | `(tactic| walk_at "rd") => `(tactic| simp only [L2.iZip, G1.rGtD, L2.rMin, L2.tLockE, L2.iKeys, L2.iEnum, L2.ipI, L2.rIn, L2.tPairs, L2.rSetD, L2.tDNewK, G1.tCallK3, G1.tCallK4, G1.tFldA, G1.tCallM, G1.tMakeO, L2.sFld, L2.rExtend, L2.tDNotIn, L2.tDIn, L2.tDGet2, L2.tDisp, L2.rPopAt, L2.tLstRg, L2.tRg1, G1.tMakeO2, G1.rOwnI, G1.rCntN, L2.tPar3, L2.tSeq, L2.tAug, L2.tTup, G1.tCallK3b, G1.tMt, G1.tMinK, G1.rIsTu, L2.rIxT, G1.rTr, G1.rLtD, if_true, if_false, L2.rNotB, L2.rMax, L2.iRng2,L2.tSeq, G1.iEnumS, L2.tDGet, L2.gTup, L2.gCons, L2.gNil, L2.tPar, L2.rIxS, G1.tRepU, L2.rSlS, L2.iStr, L2.tNotV, G1.rIsV, G1.mk_int, G1.mk_bool, G1.mk_str, G1.mk_list, G1.tCallX, V.ty.injEq, L2.tChain, L2.rIsB, G1.tRevS, L2.tM0, L2.tM1, L2.tCallS, G1.tCallK2, G1.tMkR, L2.rAll, L2.rPop, L2.tBM0, L2.tRevL, L2.tAsg, L2.tOp, L2.rI, L2.rI0, L2.tVar, L2.tC, L2.tCB, L2.tCons, L2.tNil, L2.tRet, L2.gName, L2.start, L2.tIf, L2.tIfS, L2.tTest, L2.tNext, L2.rIxL, L2.tSl, L2.rSlL, L2.tNoPart, L2.tPart, L2.tLst, L2.tTup, L2.rSum, L2.tBits, L2.gSub, L2.rSetL, L2.rCat, L2.tDrop, L2.tBM, L2.tBM0, L2.rAppend, L2.tYes, L2.tB, L2.tAnd, L2.tOr, L2.tNot, L2.tAndV, L2.tOrV, G1.tCallO, G1.tXm, G1.tXn, G1.tXv, HO.lst.injEq, HO.tup.injEq, Nat.reduceAdd, Nat.zero_add, List.set_cons_zero, List.set_cons_succ, G1.tFor_eq, G1.tLc_eq, G1.rIxM, G1.rLenM, G1.rSlM, G1.atI_0, G1.atI_1, G1.atI_2, G1.ixN_0, G1.ixN_2, L2.upd_same, L2.upd_upd, and_assoc, L2.iRng1, L2.iList, L2.tUn, L2.rU, G1.rRepS, L2.wipe, List.foldl, L2.rEq, L2.rNe, List.map, List.replicate, List.length, List.append, List.set, List.getElem?_cons_zero, List.getElem?_cons_succ, List.cons_append, List.nil_append, Option.some.injEq, V.int.injEq, V.bl.injEq, V.ref.injEq, V.str.injEq, List.cons.injEq, reduceCtorEq, false_and, and_false, exists_false, or_false, false_or, exists_and_left, exists_and_right, exists_eq_left', exists_eq_left, true_and, and_true, Nat.sub_self, decide_eq_true_eq])
section
variable {P : Program} {w : World} {K : PySem.W.Frag} {mg : Str → Option Value} {base : Heap} {c : Nat → Addr} {cF cW cG : Addr}
/-- a list of lists of numbers -/
structure NumsL (H : Hp) (a : Addr) (as : List Addr) (nss : List (List Nat)) : Prop where
  hl : H a = some (.lst (as.map V.ref))
  ln : as.length = nss.length
  at_ : ∀ (i : Nat) (b : Addr) (ns : List Nat), as[i]? = some b → nss[i]? = some ns → NumsAt H b ns
def spFolded (K : PySem.W.Frag) : Sp := fun vs H Q _ => ∃ (a : Addr) (as : List Addr) (nss : List (List Nat)) (size : Nat), vs = [.int size, .ref a] ∧ NumsL H a as nss ∧ size ≤ 12 ∧ (∀ s, s < size → MN.inv s < size) ∧ (∀ ns ∈ nss, MN.Plain ns ∧ ∀ s ∈ ns, s < size) ∧ nss.flatten.length ≤ 90000 ∧
  ∀ H' q ts rows, MN.Picture nss size rows → rows.length ≤ 1 + nss.flatten.length → RowsL H' q ts rows → H q = none → (∀ t ∈ ts, H t = none) → Same H H' → Q (.ref q) H'
theorem ok_folded (S : Src K mg "folded_rows" s_folded_rows) (T : Txt P w K mg base c cF cW cG) (C_Weave_init : OkI CX0 P w K mg base cW 1 ["self", "size"] (spWInit cW)) (C_Weave_put_loop : OkM P w K mg base cW 6 "put_loop" ["self", "numbers"] (spLoop cW)) (C_numbered_rows : OkD P w K mg base 1 "numbered_rows" ["lanes", "start"] (spNumb K)) : OkD P w K mg base 7 "folded_rows" ["size", "loops"] (spFolded K) := by
  refine okd S (fun f fd F => F.ok sc_folded_rows (fun vs H Q E h => ?_) (fun cdv A outer s H vs Q E hr h => ?_)) (fun _ _ _ _ _ _ us hl => match us, hl with | [_, _], _ => rfl)
  · obtain ⟨_, _, _, _, rfl, _⟩ := h
    rfl
  · obtain ⟨a, as, nss, size, rfl, hA, h12, hin, hns, htot, q⟩ := h
    refine ⟨_, ((pss_cons (ps_set (i := 2) sc_folded_rows.nd rfl (.inl rfl) (pe_mkO pass0 T.o_Weave C_Weave_init (hr.mono (by decide)) (by rfl) (pa_cons (pv 0) pa_nil)))
      (pss_cons (ps_for PassesOwn.never rfl (pi_list (pv 1)) (pg_name (i := 3) sc_folded_rows.nd rfl (.inl rfl)) (pss_one (ps_expr (pe_callM T.o_Weave C_Weave_put_loop (hr.mono (by decide)) (pv 2) (pa_cons (pv 3) pa_nil)))))
      (pss_one (ps_ret (pe_callO C_numbered_rows (hr.mono (by decide)) (by rfl) (pa_cons (pe_fldA (pv 2)) (pa_cons pe_int pa_nil)))))))), ?_⟩
    walk_at "rd"
    have hsz := sizeLine_eq
    intro x dx nx ndx nxd
    have sH0 : Same H (upd (upd H dx (.own x)) x (.ins cW dx [])) := fun b o e => by
      rw [upd_ne (ne_none e nx), upd_ne (ne_none e ndx)]
      exact e
    refine ⟨x, dx, size, rfl, h12, upd_same, fun H1 L M r W1 nL nM nr o1 => ⟨rfl, ?_⟩⟩
    have s1 : Same H H1 := fun b o e => o1 b o (by simpa using ne_none e nx) (sH0 b o e)
    have fr1 : ∀ b ∈ [L, M, r], H b = none := fun b hb => by
      simp only [List.mem_cons, List.not_mem_nil, or_false] at hb
      rcases hb with rfl | rfl | rfl
      · exact sH0.free nL
      · exact sH0.free nM
      · exact sH0.free nr
    have q0 : MN.Wq size 1 (fun _ _ => none) (fun a => a) (fun _ => []) nss [] := ⟨(fun _ _ _ e => nomatch e), (fun _ _ _ e => nomatch e), fun _ => Nat.le_refl _, (fun _ _ _ e => nomatch e), rfl, (fun _ _ _ e => nomatch e), fun _ => MN.Cos.refl _, (fun _ z => nomatch z), (fun _ _ _ e => nomatch e)⟩
    refine ⟨⟨_, SqL.of (s1 _ _ hA.hl)⟩, ?_⟩
    refine loop_list (xs := as.map V.ref) (fun i σ H' => ∃ (rs : List Addr) (n : Nat) (δ : Nat → Nat → Option Nat) (par : Nat → Nat) (l : Nat → List Nat) (v3 : Option V), σ = [some (.int (size : Nat)), some (.ref a), some (.ref x), v3] ∧ Same H H' ∧ Wv cW H' x dx L M rs size n δ par ∧ MN.Wq size n δ par l nss (nss.take i) ∧ (∀ a, n ≤ a → par a = a) ∧ 0 < n ∧ n ≤ 1 + (nss.take i).flatten.length ∧ ∀ b ∈ L :: M :: rs, H b = none) ⟨[r], 1, _, _, _, none, rfl, s1, W1, q0, fun _ _ => rfl, by decide, by simp, fr1⟩ (fun i σ H' hi ⟨_, _, _, _, _, _, _, s', _⟩ => SqL.of (s' _ _ hA.hl)) ?_ ?_
    · rintro i y σ H2 hi ⟨rs, n, δ, par, l, v3, rfl, s2, W2, Q2, hpn, n0, hn, hfr⟩
      rw [List.getElem?_map] at hi
      obtain ⟨b, hb, rfl⟩ := Option.map_eq_some_iff.mp hi
      have hil := (List.getElem?_eq_some_iff.mp hb).1
      rw [hA.ln] at hil
      have hnsi := List.getElem?_eq_getElem hil
      have hbn := hA.at_ i b _ hb hnsi
      obtain ⟨hpl, hss⟩ := hns _ (List.getElem_mem hil)
      have tk : nss.take (i + 1) = nss.take i ++ [nss[i]] := take_step hnsi
      have tkl : (nss.take (i + 1)).flatten.length = (nss.take i).flatten.length + nss[i].length := by
        rw [tk, List.flatten_append, List.length_append]
        simp
      have tot2 : (nss.take (i + 1)).flatten.length ≤ nss.flatten.length := by
        have := List.take_append_drop (i + 1) nss
        conv => rhs; rw [← this]
        rw [List.flatten_append, List.length_append]
        omega
      walk_at "rd"
      refine ⟨dx, _, W2.hp, wf_no _ _ _ _ (by simp [mNames]), x, dx, L, M, rs, size, n, δ, par, l, nss, nss.take i, b, nss[i], rfl, W2, h12, hin, Q2, hpn, n0, s2 _ _ hbn, fun z => ?_, hpl, hss, List.getElem_mem hil, by omega, fun H3 rs' n' δ' par' l' W3 Q3 hpn3 h1 h2 o3 hr3 => ?_⟩
      · have := hfr b z
        have h4 : H b = some _ := hbn
        rw [this] at h4
        cases h4
      · refine ⟨⟨_, rfl⟩, fun b' o e => o3 b' o (fun z => by rw [hfr b' z] at e; cases e) (s2 b' o e), rs', n', δ', par', W3, ⟨l', by rw [tk]; exact Q3⟩, hpn3, by omega, by omega, fun b' hb' => ?_⟩
        rcases List.mem_cons.mp hb' with z | z
        · exact hfr b' (by rw [z]; simp)
        · rcases List.mem_cons.mp z with z | z
          · exact hfr b' (by rw [z]; simp)
          · rcases hr3 b' z with h | h
            · exact hfr b' (by simp [h])
            · exact s2.free h
    · rintro σ H2 ⟨rs, n, δ, par, l, v3, rfl, s2, W2, Q2, hpn, n0, hn, hfr⟩
      walk_at "rd"
      have eT : nss.take (as.map V.ref).length = nss := by rw [List.length_map, hA.ln, List.take_length]
      rw [eT] at Q2 hn
      refine ⟨_, W2.fl T, L, rs, size, n, δ, rfl, ⟨W2.hl, W2.ln, W2.row⟩, n0, by omega, h12, fun p s q e => (Q2.dom p s q e).2.2, fun H3 q3 ts rows hR hrl hL nq hts s3 => ?_⟩
      exact q H3 q3 ts rows ⟨δ, Q2.pic, hR, fun p s q e => (Q2.dom p s q e).2.1⟩ (by omega) hL (s2.free nq) (fun t ht => s2.free (hts t ht)) (s2.trans s3)
def spPicRows (K : PySem.W.Frag) : Sp := fun vs H Q _ => ∃ (m : Int) (a : Addr) (ws : List (List Nat)), vs = [.int m, .ref a] ∧ 1 ≤ m ∧ m ≤ 6 ∧ H a = some (.lst (ws.map fun l => V.str (W l))) ∧ (∀ l ∈ ws, (∀ c ∈ l, c ∈ sgs.take (2 * m).toNat) ∧ l.length ≤ 1000) ∧ ws.length ≤ 12 ∧
  ∀ H' q ts rows, MN.Picture (ws.map fun l => (red l).map num) (2 * m).toNat rows → rows.length ≤ 1 + ws.flatten.length → RowsL H' q ts rows → H q = none → (∀ t ∈ ts, H t = none) → Same H H' → Q (.ref q) H'
theorem num_inv : ∀ c ∈ sgs, num (inv c) = MN.inv (num c) := by decide +kernel
theorem num_inj : ∀ a ∈ sgs, ∀ b ∈ sgs, num a = num b → a = b := by decide +kernel
theorem inv_lt : ∀ m : Nat, m ≤ 6 → ∀ s : Nat, s < 2 * m → MN.inv s < 2 * m := by decide +kernel
theorem num_take : ∀ m : Nat, m ≤ 6 → ∀ c ∈ sgs.take (2 * m), num c < 2 * m := by decide +kernel
theorem plain_num : ∀ {l : List Nat}, Sg l → Plain l → MN.Plain (l.map num)
  | [], _, _ => trivial
  | [_], _, _ => trivial
  | a :: b :: r, hs, hp => by
    refine ⟨fun e => hp.1 ?_, plain_num (l := b :: r) (fun x hx => hs x (List.mem_cons_of_mem _ hx)) hp.2⟩
    have ha := hs a List.mem_cons_self
    have hb := hs b (List.mem_cons_of_mem _ List.mem_cons_self)
    rw [← num_inv a ha] at e
    have hi : inv a ∈ sgs := by
      have : ∀ c ∈ sgs, inv c ∈ sgs := by decide
      exact this a ha
    exact num_inj _ hb _ hi e
theorem ok_picture_rows (S : Src K mg "picture_rows" s_picture_rows) (T : Txt P w K mg base c cF cW cG) (C_folded_rows : OkD P w K mg base 7 "folded_rows" ["size", "loops"] (spFolded K)) (C_sign_numbers : OkD P w K mg base 1 "sign_numbers" ["word"] spSNums) (C_reduced : OkD P w K mg base 1 "reduced" ["word"] spRed) : OkD P w K mg base 8 "picture_rows" ["many", "words"] (spPicRows K) := by
  refine okd S (fun f fd F => F.ok sc_picture_rows (fun vs H Q E h => ?_) (fun cdv A outer s H vs Q E hr h => ?_)) (fun _ _ _ _ _ _ us hl => match us, hl with | [_, _], _ => rfl)
  · obtain ⟨_, _, _, rfl, _⟩ := h
    rfl
  · obtain ⟨m, a, ws, rfl, h1, h2, ha, hws, hwl, q⟩ := h
    refine ⟨_, ((pss_one (ps_ret (pe_callO C_folded_rows (hr.mono (by decide)) (by rfl) (pa_cons (pe_op op_mulW pe_int (pv 0)) (pa_cons (pe_lc (own := [("word", 2)]) (g := gName 2) (tt := tYes) (by rfl) sc_picture_rows.nd (pi_list (pv 1)) (blkOk_by (own := [("word", 2)]) (N := ["many", "words", "word"]) (sc := defScope s_picture_rows) (by decide +kernel)) (fun _ _ _ _ _ => pg_name (i := 2) sc_picture_rows.nd rfl (Or.inl rfl)) (fun _ _ _ _ _ => pts_nil) (fun _ _ _ _ _ => (pe_callO C_sign_numbers (hr.mono (by decide)) (by rfl) (pa_cons (pe_callO C_reduced (hr.mono (by decide)) (by rfl) (pa_cons (pv 2) pa_nil)) pa_nil)))) pa_nil)))))), ?_⟩
    walk_at "rd"
    have hsz := sizeLine_eq
    have hmw : (ws.map fun l => V.str (W l)).length = ws.length := List.length_map ..
    refine ⟨cmul (by decide) (by omega), ⟨_, SqL.of ha⟩, ?_⟩
    refine comp_list (xs := ws.map fun l => V.str (W l)) (fun D i H' => Same H H' ∧ ∃ as : List Addr, H' D = some (.lst (as.map V.ref)) ∧ as.length = i ∧ (∀ b ∈ as, b ≠ D) ∧ ∀ (j : Nat) (b : Addr) (l : List Nat), as[j]? = some b → ws[j]? = some l → NumsAt H' b ((red l).map num)) (fun D nD => ⟨same_upd nD, [], upd_same, rfl, (fun _ z => nomatch z), fun j b l e => by cases e⟩) (fun D i H' nD hi ⟨s', _⟩ => SqL.of (s' _ _ ha)) ?_ ?_
    · rintro D i x H1 nD hx ⟨s1, as, h1D, hal, han, has⟩
      rw [List.getElem?_map] at hx
      obtain ⟨l, hl, rfl⟩ := Option.map_eq_some_iff.mp hx
      obtain ⟨g1, g2⟩ := hws l (List.mem_of_getElem? hl)
      have hS : Sg l := fun x hx => List.mem_of_mem_take (g1 x hx)
      have hlr := len_red l
      walk_at "rd"
      refine ⟨l, rfl, hS, by omega, fun H2 s2 => ⟨red l, rfl, fun x hx => hS x (mem_red hx), by omega, fun b H3 s3 nb hb => ?_⟩⟩
      have h3D := s3 _ _ (s2 _ _ h1D)
      have bD : b ≠ D := fun z => by rw [z] at nb; rw [s2 _ _ h1D] at nb; cases nb
      refine ⟨_, h3D, by rw [List.length_map, hal]; have := (List.getElem?_eq_some_iff.mp hl).1; omega, same_over (s1.trans (s2.trans s3)) nD, as ++ [b], by rw [List.map_append]; rfl, by rw [List.length_append, hal]; rfl, fun t ht => ?_, fun j t l' h1 h2 => ?_⟩
      · rcases List.mem_append.mp ht with h | h
        · exact han t h
        · rw [List.mem_singleton.mp h]
          exact bD
      · unfold NumsAt
        rcases Nat.lt_or_ge j as.length with z | z
        · rw [List.getElem?_append_left z] at h1
          rw [upd_ne (han t (List.mem_of_getElem? h1))]
          exact s3 _ _ (s2 _ _ (has j t l' h1 h2))
        · rw [List.getElem?_append_right z] at h1
          have hj0 : j - as.length = 0 := by
            have := (List.getElem?_eq_some_iff.mp h1).1
            simp at this
            omega
          rw [hj0] at h1
          cases h1
          rw [show j = i by omega, hl] at h2
          cases h2
          rw [upd_ne bD]
          exact hb
    · rintro D H1 nD ⟨s1, as, h1D, hal, han, has⟩
      rw [hmw] at hal
      have e2m : (2 * m) = (((2 * m).toNat : Nat) : Int) := by omega
      obtain ⟨mn, hmn⟩ : ∃ mn : Nat, (2 * m).toNat = 2 * mn ∧ mn ≤ 6 := ⟨m.toNat, by omega, by omega⟩
      have hfl : ∀ (us : List (List Nat)), (us.map fun l => (red l).map num).flatten.length ≤ us.flatten.length := by
        intro us
        induction us with
        | nil => exact Nat.le_refl _
        | cons u us ih =>
          rw [List.map_cons, List.flatten_cons, List.flatten_cons, List.length_append, List.length_append, List.length_map]
          have := len_red u
          omega
      have hfb : ws.flatten.length ≤ 12000 := by
        have : ∀ (us : List (List Nat)), (∀ l ∈ us, l.length ≤ 1000) → us.flatten.length ≤ 1000 * us.length := by
          intro us
          induction us with
          | nil => exact fun _ => Nat.le_refl _
          | cons u us ih =>
            intro h
            rw [List.flatten_cons, List.length_append, List.length_cons]
            have := h u List.mem_cons_self
            have := ih fun l hl => h l (List.mem_cons_of_mem _ hl)
            omega
        have := this ws fun l hl => (hws l hl).2
        omega
      refine ⟨D, as, ws.map fun l => (red l).map num, (2 * m).toNat, by rw [← e2m], ⟨h1D, by rw [hal, List.length_map], fun i b ns h1 h2 => ?_⟩, by omega, fun s hs => ?_, fun ns hns => ?_, by have := hfl ws; omega, fun H2 q2 ts rows hP hrl hL nq hts s2 => q H2 q2 ts rows hP (by have := hfl ws; omega) hL (s1.free nq) (fun t ht => s1.free (hts t ht)) (s1.trans s2)⟩
      · rw [List.getElem?_map] at h2
        obtain ⟨l, hl, rfl⟩ := Option.map_eq_some_iff.mp h2
        exact has i b l h1 hl
      · rw [hmn.1] at hs ⊢
        exact inv_lt mn hmn.2 s hs
      · obtain ⟨l, hl, rfl⟩ := List.mem_map.mp hns
        have g1 := (hws l hl).1
        have hS : Sg l := fun x hx => List.mem_of_mem_take (g1 x hx)
        refine ⟨plain_num (fun x hx => hS x (mem_red hx)) (red_plain l), fun s hs => ?_⟩
        obtain ⟨ch, hc, rfl⟩ := List.mem_map.mp hs
        have := g1 ch (mem_red hc)
        rw [hmn.1] at this ⊢
        exact num_take mn hmn.2 ch this
end

end K29

namespace K29
open PySem PySem.Spec PyProof.Rows L2 G1 MW
abbrev s_Group_init : Stmt := inClass (topS 34) 0
theorem sc_Group_init : FnScope ["self", "many", "words", "rows"] ["self", "many", "words"] (defScope s_Group_init) := ⟨rfl, rfl, rfl, by decide +kernel, rfl, by decide +kernel, by decide +kernel⟩
abbrev s_copied_rows : Stmt := topS 30
theorem sc_copied_rows : FnScope ["rows", "row"] ["rows"] (defScope s_copied_rows) := ⟨rfl, rfl, rfl, by decide +kernel, rfl, by decide +kernel, by decide +kernel⟩
abbrev s_spots_passed : Stmt := topS 31
theorem sc_spots_passed : FnScope ["rows", "numbers", "passed", "number", "target"] ["rows", "numbers"] (defScope s_spots_passed) := ⟨rfl, rfl, rfl, by decide +kernel, rfl, by decide +kernel, by decide +kernel⟩
abbrev s_reads_back : Stmt := topS 32
theorem sc_reads_back : FnScope ["rows", "word", "passed"] ["rows", "word"] (defScope s_reads_back) := ⟨rfl, rfl, rfl, by decide +kernel, rfl, by decide +kernel, by decide +kernel⟩
abbrev s_check_group : Stmt := topS 35
theorem sc_check_group : FnScope ["group"] ["group"] (defScope s_check_group) := ⟨rfl, rfl, rfl, by decide +kernel, rfl, by decide +kernel, by decide +kernel⟩
abbrev s_check_group_word : Stmt := topS 36
theorem sc_check_group_word : FnScope ["group", "word"] ["group", "word"] (defScope s_check_group_word) := ⟨rfl, rfl, rfl, by decide +kernel, rfl, by decide +kernel, by decide +kernel⟩
abbrev s_belongs : Stmt := topS 37
theorem sc_belongs : FnScope ["group", "word"] ["group", "word"] (defScope s_belongs) := ⟨rfl, rfl, rfl, by decide +kernel, rfl, by decide +kernel, by decide +kernel⟩
local macro_rules | `(tactic| walk_at "rd") => `(tactic| simp only [L2.iZip, G1.rGtD, L2.rMin, L2.tLockE, L2.iKeys, L2.iEnum, L2.ipI, L2.rIn, L2.tPairs, L2.rSetD, L2.tDNewK, G1.tCallK3, G1.tCallK4, G1.tFldA, G1.tCallM, G1.tMakeO, L2.sFld, L2.rExtend, L2.tDNotIn, L2.tDIn, L2.tDGet2, L2.tDisp, L2.rPopAt, L2.tLstRg, L2.tRg1, G1.tMakeO2, G1.rOwnI, G1.rCntN, L2.tPar3, L2.tSeq, L2.tAug, L2.tTup, G1.tCallK3b, G1.tMt, G1.tMinK, G1.rIsTu, L2.rIxT, G1.rTr, G1.rLtD, if_true, if_false, L2.rNotB, L2.rMax, L2.iRng2,L2.tSeq, G1.iEnumS, L2.tDGet, L2.gTup, L2.gCons, L2.gNil, L2.tPar, L2.rIxS, G1.tRepU, L2.rSlS, L2.iStr, L2.tNotV, G1.rIsV, G1.mk_int, G1.mk_bool, G1.mk_str, G1.mk_list, G1.tCallX, V.ty.injEq, L2.tChain, L2.rIsB, G1.tRevS, L2.tM0, L2.tM1, L2.tCallS, G1.tCallK2, G1.tMkR, L2.rAll, L2.rPop, L2.tBM0, L2.tRevL, L2.tAsg, L2.tOp, L2.rI, L2.rI0, L2.tVar, L2.tC, L2.tCB, L2.tCons, L2.tNil, L2.tRet, L2.gName, L2.start, L2.tIf, L2.tIfS, L2.tTest, L2.tNext, L2.rIxL, L2.tSl, L2.rSlL, L2.tNoPart, L2.tPart, L2.tLst, L2.tTup, L2.rSum, L2.tBits, L2.gSub, L2.rSetL, L2.rCat, L2.tDrop, L2.tBM, L2.tBM0, L2.rAppend, L2.tYes, L2.tB, L2.tAnd, L2.tOr, L2.tNot, L2.tAndV, L2.tOrV, G1.tCallO, G1.tXm, G1.tXn, G1.tXv, HO.lst.injEq, HO.tup.injEq, Nat.reduceAdd, Nat.zero_add, List.set_cons_zero, List.set_cons_succ, G1.tFor_eq, G1.tLc_eq, G1.rIxM, G1.rLenM, G1.rSlM, G1.atI_0, G1.atI_1, G1.atI_2, G1.ixN_0, G1.ixN_2, L2.upd_same, L2.upd_upd, and_assoc, L2.iRng1, L2.iList, L2.tUn, L2.rU, G1.rRepS, L2.wipe, List.foldl, L2.rEq, L2.rNe, List.map, List.replicate, List.length, List.append, List.set, List.getElem?_cons_zero, List.getElem?_cons_succ, List.cons_append, List.nil_append, Option.some.injEq, V.int.injEq, V.bl.injEq, V.ref.injEq, V.str.injEq, List.cons.injEq, reduceCtorEq, false_and, and_false, exists_false, or_false, false_or, exists_and_left, exists_and_right, exists_eq_left', exists_eq_left, true_and, and_true, Nat.sub_self, decide_eq_true_eq])
section
variable {P : Program} {w : World} {K : PySem.W.Frag} {mg : Str → Option Value} {base : Heap} {c : Nat → Addr} {cF cW cG : Addr}
def WsAt (H : Hp) (a : Addr) (ls : List (List Nat)) : Prop := H a = some (.lst (ls.map fun l => V.str (W l)))
def Sm (m : Int) (l : List Nat) : Prop := ∀ c ∈ l, c ∈ sgs.take (2 * m).toNat
theorem Sm.sg {m : Int} {l : List Nat} (h : Sm m l) : Sg l := fun c hc => List.mem_of_mem_take (h c hc)
theorem spBn_W {n : Nat} {m : Int} {l : List Nat} (h : Sm m l) (hl : l.length ≤ n) : spBn n m (.str (W l)) = true := by
  simp only [spBn, Bool.and_eq_true, decide_eq_true_eq, List.all_eq_true]
  exact ⟨by rw [W_len]; exact hl, fun ch hc => h ch hc⟩
theorem okv_int {H : Hp} (m : Int) : Okv H (.int m) := ⟨_, .int m, fun _ z => nomatch z⟩
theorem okv_W {H : Hp} {l : List Nat} (hl : l.length ≤ 100000) : Okv H (.str (W l)) := ⟨_, .str _, fun x z => by cases z; rw [W_len]; exact hl⟩
theorem many_ok {m : Int} (h1 : 1 ≤ m) (h2 : m ≤ 6) : manyB (.int m) = true := by
  simp only [manyB, Bool.and_eq_true, decide_eq_true_eq]
  exact ⟨h1, h2⟩
/-- a list of words of which a group is made -/
def Short (m : Int) (ws : List (List Nat)) : Prop := ws.length ≤ 12 ∧ ∀ l ∈ ws, Sm m l ∧ l.length ≤ 200
theorem Short.okl {H : Hp} {a : Addr} {m : Int} {ws : List (List Nat)} (h : Short m ws) (ha : WsAt H a ws) : Okl H (.ref a) := by
  refine ⟨⟨_, .lst ha, fun _ z => nomatch z⟩, fun b xs e hb => ?_⟩
  cases e
  rw [ha] at hb
  cases hb
  refine ⟨by rw [List.length_map]; have := h.1; omega, fun x hx => ?_⟩
  obtain ⟨l, hl, rfl⟩ := List.mem_map.mp hx
  have := (h.2 l hl).2
  exact okv_W (by omega)
theorem Short.slB {H : Hp} {a : Addr} {m : Int} {ws : List (List Nat)} (h : Short m ws) (ha : WsAt H a ws) : slB m H (.ref a) = true := by
  have ha' : H a = some (.lst (ws.map fun l => V.str (W l))) := ha
  simp only [K29.slB, ha', Bool.and_eq_true, decide_eq_true_eq, List.all_eq_true]
  refine ⟨by rw [List.length_map]; exact h.1, fun x hx => ?_⟩
  obtain ⟨l, hl, rfl⟩ := List.mem_map.mp hx
  exact spBn_W (h.2 l hl).1 (h.2 l hl).2
def gf (m : Int) (R : Addr) : List (Str × V) := [("letter_count", .int m), ("lane_rows", .ref R)]
theorem gf_count (m : Int) (R : Addr) : (gf m R).lookup (("letter_count" : Str)) = some (.int m) := rfl
theorem gf_rows (m : Int) (R : Addr) : (gf m R).lookup (("lane_rows" : Str)) = some (V.ref R) := rfl
/-- a group as it stands -/
structure Gr (cG : Addr) (H : Hp) (g dx R : Addr) (ts : List Addr) (m : Int) (rows : List (List (Option Nat))) : Prop where
  hp : H g = some (.ins cG dx (gf m R))
  rl : RowsL H R ts rows
theorem Gr.same {H H' : Hp} {g dx R : Addr} {ts : List Addr} {m : Int} {rows : List (List (Option Nat))} (G : Gr cG H g dx R ts m rows) (s : Same H H') : Gr cG H' g dx R ts m rows := ⟨s _ _ G.hp, G.rl.same s⟩
theorem Gr.fc {H : Hp} {g dx R : Addr} {ts : List Addr} {m : Int} {rows : List (List (Option Nat))} (G : Gr cG H g dx R ts m rows) (T : Txt P w K mg base c cF cW cG) : FldAt K H g "letter_count" (.int m) := ⟨cG, dx, _, G.hp, T.o_Group.cl, T.na_Group _ (by simp), gf_count _ _⟩
theorem Gr.fr {H : Hp} {g dx R : Addr} {ts : List Addr} {m : Int} {rows : List (List (Option Nat))} (G : Gr cG H g dx R ts m rows) (T : Txt P w K mg base c cF cW cG) : FldAt K H g "lane_rows" (.ref R) := ⟨cG, dx, _, G.hp, T.o_Group.cl, T.na_Group _ (by simp), gf_rows _ _⟩
abbrev numW (ws : List (List Nat)) : List (List Nat) := ws.map fun l => (red l).map num
def spGInit (cG : Addr) : Sp := fun vs H Q _ => ∃ (p dx : Addr) (m : Int) (a : Addr) (ws : List (List Nat)), vs = [.ref p, .int m, .ref a] ∧ H p = some (.ins cG dx []) ∧ 1 ≤ m ∧ m ≤ 6 ∧ WsAt H a ws ∧ Short m ws ∧ (∀ rows, MN.Picture (numW ws) (2 * m).toNat rows → rows.length ≤ 1 + ws.flatten.length → rows.length ≤ 300) ∧
  ∀ H' R ts rows, MN.Picture (numW ws) (2 * m).toNat rows → rows.length ≤ 300 → Gr cG H' p dx R ts m rows → H R = none → (∀ t ∈ ts, H t = none) → Oth [p] H H' → Q .non H'
theorem ok_ginit (S : SrcI K cG "Group.__init__" s_Group_init) (T : Txt P w K mg base c cF cW cG) (C_check_many : OkX P w K mg base 3 "check_many" ["many"] (spCheckMany c)) (C_check_short_list : OkX P w K mg base 4 "check_short_list" ["many", "words"] (spCheckShort c)) (C_picture_rows : OkD P w K mg base 8 "picture_rows" ["many", "words"] (spPicRows K)) : OkI2 (L2.CX P w) P w K mg base cG 9 "self" "many" "words" (spGInit cG) := by
  refine oki2 S (fun f fd F => F.okX sc_Group_init (fun vs H Q E h => ?_) (fun cdv A outer s H vs Q E hr h => ?_)) (fun _ _ _ _ _ _ us hl => match us, hl with | [_, _, _], _ => rfl) (fun _ _ _ _ _ _ _ _ _ => rfl)
  · obtain ⟨_, _, _, _, _, rfl, _⟩ := h
    rfl
  · obtain ⟨p, dx, m, a, ws, rfl, hp, h1, h2, ha, hsh, hlim, q⟩ := h
    refine ⟨_, ((pss_cons (ps_expr (pe_callX (takes_of rfl rfl rfl rfl) C_check_many (hr.mono (by decide)) (by rfl) (pa_cons (pv 1) pa_nil)))
      (pss_cons (ps_expr (pe_callX (takes_of rfl rfl rfl rfl) C_check_short_list (hr.mono (by decide)) (by rfl) (pa_cons (pv 1) (pa_cons (pv 2) pa_nil))))
      (pss_cons (ps_set (i := 3) sc_Group_init.nd rfl (.inl rfl) (pe_callO C_picture_rows (hr.mono (by decide)) (by rfl) (pa_cons (pv 1) (pa_cons (pv 2) pa_nil))))
      (pss_cons (ps_if (pt_cmpR op_gt (pe_callB call_lenM (by rfl) T.n_len PySem.boot_len (pa_cons (pv 3) pa_nil)) (pe_gc (by rfl) T.c_MOST_SPOTS) (nomark _)) (pss_one (ps_raiseX rfl (takes_of rfl rfl rfl rfl) (T.x 4 (by decide)) (hr.mono (by decide)) (by rfl) (pa_cons (pe_callB call_lenM (by rfl) T.n_len PySem.boot_len (pa_cons (pv 3) pa_nil)) pa_nil))) pss_nil)
      (pss_cons (ps_fld (pv 0) (pv 1) rfl)
      (pss_one (ps_fld (pv 0) (pv 3) rfl)))))))), ?_⟩
    walk_at "rd"
    have hsz := sizeLine_eq
    refine ⟨_, rfl, okv_int m, fun _ => ?_, fun e => by rw [many_ok h1 h2] at e; cases e⟩
    refine ⟨m, _, rfl, h1, h2, hsh.okl ha, fun _ H1 s1 => ?_, fun e => by rw [hsh.slB ha] at e; cases e⟩
    refine ⟨m, a, ws, rfl, h1, h2, s1 _ _ ha, fun l hl => ⟨(hsh.2 l hl).1, by have := (hsh.2 l hl).2; omega⟩, hsh.1, fun H2 R ts rows hP hrl hL nR hts s2 => ?_⟩
    refine ⟨R, rfl, _, hL.hl, ?_⟩
    have hlen : (ts.map V.ref).length = rows.length := by rw [List.length_map, hL.ln]
    have hle := hlim rows hP hrl
    rw [hlen, if_neg (by omega)]
    have s12 := s1.trans s2
    refine ⟨cG, dx, [], s12 _ _ hp, T.o_Group.cl, T.na_Group _ (by simp), by decide, cG, dx, _, rfl, T.o_Group.cl, T.na_Group _ (by simp), by show 1 < 1000; decide, ?_⟩
    have pR : R ≠ p := fun z => by rw [z, s1 _ _ hp] at nR; cases nR
    refine q _ R ts rows hP hle ⟨by rw [upd_same]; rfl, ?_, hL.ln, fun i t row e1 e2 => ?_⟩ (s1.free nR) (fun t ht => s1.free (hts t ht)) (fun b o nb e => ?_)
    · rw [upd_ne pR]
      exact hL.hl
    · have := hts t (List.mem_of_getElem? e1)
      have pt : t ≠ p := fun z => by rw [z, s1 _ _ hp] at this; cases this
      rw [upd_ne pt]
      exact hL.row i t row e1 e2
    · rw [upd_ne (by simpa using nb)]
      exact s12 _ _ e
/-- the spots that are passed -/
def wayL (δ : Nat → Nat → Option Nat) : Nat → List Nat → List Nat
  | p, [] => [p]
  | p, s :: w => p :: (match δ p s with | none => [] | some q => wayL δ q w)
theorem wayL_ne (δ : Nat → Nat → Option Nat) (p : Nat) (w : List Nat) : wayL δ p w ≠ [] := by cases w <;> simp [wayL]
theorem wayL_len (δ : Nat → Nat → Option Nat) : ∀ (w : List Nat) (p : Nat), (wayL δ p w).length ≤ w.length + 1
  | [], p => Nat.le_refl _
  | s :: w, p => by
    rw [wayL, List.length_cons, List.length_cons]
    cases e : δ p s with
    | none => simp
    | some q =>
      have := wayL_len δ w q
      show (wayL δ q w).length + 1 ≤ _
      omega
theorem wayL_run (δ : Nat → Nat → Option Nat) : ∀ (w : List Nat) (p q : Nat), MN.run δ p w = some q ↔ (wayL δ p w).length = w.length + 1 ∧ (wayL δ p w).getLast? = some q
  | [], p, q => by simp [wayL, MN.run]
  | s :: w, p, q => by
    rw [MN.run_cons, wayL]
    cases e : δ p s with
    | none =>
      constructor
      · rintro ⟨r, h, _⟩
        cases h
      · rintro ⟨h, _⟩
        simp at h
    | some r =>
      have ih := wayL_run δ w r q
      have hne := wayL_ne δ r w
      show (∃ r', some r = some r' ∧ _) ↔ (p :: wayL δ r w).length = _ ∧ (p :: wayL δ r w).getLast? = some q
      rw [List.length_cons, List.length_cons, List.getLast?_cons_of_ne_nil hne]
      constructor
      · rintro ⟨r', h, k⟩
        cases h
        obtain ⟨a, b⟩ := ih.mp k
        exact ⟨by omega, b⟩
      · rintro ⟨a, b⟩
        exact ⟨r, rfl, ih.mpr ⟨by omega, b⟩⟩
/-- rows whose entries are rows -/
def Shape (size : Nat) (rows : List (List (Option Nat))) : Prop := 0 < rows.length ∧ ∀ r ∈ rows, r.length = size ∧ ∀ q, some q ∈ r → q < rows.length
def spPassed (K : PySem.W.Frag) : Sp := fun vs H Q _ => ∃ (R : Addr) (ts : List Addr) (rows : List (List (Option Nat))) (size : Nat) (a : Addr) (ns : List Nat), vs = [.ref R, .ref a] ∧ RowsL H R ts rows ∧ Shape size rows ∧ NumsAt H a ns ∧ (∀ s ∈ ns, s < size) ∧ ns.length ≤ 100000 ∧
  ∀ H' q, Same H H' → H q = none → NumsAt H' q (wayL (MN.rowsD rows) 0 ns) → Q (.ref q) H'
theorem ok_passed (S : Src K mg "spots_passed" s_spots_passed) (T : Txt P w K mg base c cF cW cG) : OkD P w K mg base 1 "spots_passed" ["rows", "numbers"] (spPassed K) := by
  refine okd S (fun f fd F => F.ok sc_spots_passed (fun vs H Q E h => ?_) (fun cdv A outer s H vs Q E hr h => ?_)) (fun _ _ _ _ _ _ us hl => match us, hl with | [_, _], _ => rfl)
  · obtain ⟨_, _, _, _, _, _, rfl, _⟩ := h
    rfl
  · obtain ⟨R, ts, rows, size, a, ns, rfl, hR, hS, ha, hns, hl, q⟩ := h
    refine ⟨_, ((pss_cons (ps_set (i := 2) sc_spots_passed.nd rfl (.inl rfl) (pe_lst (pa_cons pe_int pa_nil)))
      (pss_cons (ps_for PassesOwn.never rfl (pi_list (pv 1)) (pg_name (i := 3) sc_spots_passed.nd rfl (.inl rfl)) (pss_cons (ps_set (i := 4) sc_spots_passed.nd rfl (.inl rfl) (pe_ix ix_lM (pe_ix ix_lM (pv 0) (pe_ix ix_lM (pv 2) (pe_un un_neg pe_int) (fun _ _ => rfl)) (fun _ _ => rfl)) (pv 3) (fun _ _ => rfl)))
      (pss_cons (ps_if (pt_cmpR op_isN (pv 4) pe_non (nomark _)) (pss_one (ps_ret (pv 2))) pss_nil)
      (pss_one (ps_expr (pe_bm PySem.F.plainAttrs_list PySem.F.slot_list_append PySem.F.type_list_append mt_append (pv 2) (pa_cons (pv 4) pa_nil)))))))
      (pss_one (ps_ret (pv 2)))))), ?_⟩
    walk_at "rd"
    have hsz := sizeLine_eq
    refine ⟨by omega, fun p np => ?_⟩
    have ha0 : H a = some (.lst (ns.map fun n => V.int (n : Nat))) := ha
    refine ⟨⟨_, SqL.of (same_upd np _ _ ha0)⟩, ?_⟩
    refine loop_list (xs := ns.map fun n => V.int (n : Nat)) (fun i σ H' => ∃ (pre : List Nat) (pp : Nat) (v3 v4 : Option V), σ = [some (.ref R), some (.ref a), some (.ref p), v3, v4] ∧ Same H H' ∧ H' p = some (.lst ((pre ++ [pp]).map fun n => V.int (n : Nat))) ∧ pp < rows.length ∧ pre.length = i ∧ wayL (MN.rowsD rows) 0 ns = pre ++ wayL (MN.rowsD rows) pp (ns.drop i)) ⟨[], 0, none, none, rfl, same_upd np, upd_same, hS.1, rfl, rfl⟩ (fun i σ H' hi ⟨_, _, _, _, _, s', _⟩ => SqL.of (s' _ _ ha0)) ?_ ?_
    · rintro i x σ H1 hx ⟨pre, pp, v3, v4, rfl, s1, h1p, hpp, hpl, hw⟩
      rw [List.getElem?_map] at hx
      obtain ⟨s, hs, rfl⟩ := Option.map_eq_some_iff.mp hx
      have hil := (List.getElem?_eq_some_iff.mp hs).1
      have hss := hns s (List.mem_of_getElem? hs)
      walk_at "rd"
      have hrow := List.getElem?_eq_getElem hpp
      have hti : pp < ts.length := by rw [hR.ln]; exact hpp
      have htt := List.getElem?_eq_getElem hti
      have hR1 := hR.same s1
      have hrv := hR1.row pp _ _ htt hrow
      obtain ⟨hrl, hrq⟩ := hS.2 _ (List.getElem_mem hpp)
      have hsr : s < (rows[pp]).length := by rw [hrl]; exact hss
      have hD : MN.rowsD rows pp s = (rows[pp])[s] := by
        unfold MN.rowsD
        rw [hrow]
        show (rows[pp][s]?).join = _
        rw [List.getElem?_eq_getElem hsr]
        rfl
      refine ⟨_, h1p, _, by rw [List.map_append]; exact atI_last _ _, _, _, rfl, hR1.hl, _, atI_nat (by rw [List.getElem?_map, htt]; rfl), _, rfl, _, hrv, ov (rows[pp])[s], atI_nat (by rw [List.getElem?_map, List.getElem?_eq_getElem hsr]; rfl), ?_⟩
      have dg := MN.drop_get hs
      rw [dg, wayL, hD] at hw
      cases e : (rows[pp])[s] with
      | none =>
        rw [if_pos (by simp [ov])]
        rw [e] at hw
        refine q H1 p s1 np ?_
        unfold NumsAt
        rw [hw]
        exact h1p
      | some r =>
        rw [e] at hw
        rw [if_neg (by simp [ov])]
        have hr : r < rows.length := hrq r (by rw [← e]; exact List.getElem_mem hsr)
        refine ⟨.inl ⟨rfl, _, .inl (.inl h1p)⟩, _, h1p, by rw [List.length_map, List.length_append, hpl]; show i + 1 < _; omega, ⟨_, rfl⟩, ⟨_, rfl⟩, same_over s1 np, pre ++ [pp], r, ?_, hr, by rw [List.length_append, hpl]; rfl, by rw [hw]; simp⟩
        rw [List.map_append (l₁ := pre ++ [pp])]
        rfl
    · rintro σ H1 ⟨pre, pp, v3, v4, rfl, s1, h1p, hpp, hpl, hw⟩
      walk_at "rd"
      refine q H1 p s1 np ?_
      unfold NumsAt
      rw [List.length_map, List.drop_length, wayL] at hw
      rw [hw]
      exact h1p
def spReadsBack (K : PySem.W.Frag) : Sp := fun vs H Q _ => ∃ (R : Addr) (ts : List Addr) (rows : List (List (Option Nat))) (size : Nat) (l : List Nat), vs = [.ref R, .str (W l)] ∧ RowsL H R ts rows ∧ Shape size rows ∧ Sg l ∧ (∀ ch ∈ l, num ch < size) ∧ l.length ≤ 100000 ∧
  ∀ H', Same H H' → Q (.bl (decide (MN.run (MN.rowsD rows) 0 (l.map num) = some 0))) H'
theorem ok_reads_back (S : Src K mg "reads_back" s_reads_back) (T : Txt P w K mg base c cF cW cG) (C_spots_passed : OkD P w K mg base 1 "spots_passed" ["rows", "numbers"] (spPassed K)) (C_sign_numbers : OkD P w K mg base 1 "sign_numbers" ["word"] spSNums) : OkD P w K mg base 2 "reads_back" ["rows", "word"] (spReadsBack K) := by
  refine okd S (fun f fd F => F.ok sc_reads_back (fun vs H Q E h => ?_) (fun cdv A outer s H vs Q E hr h => ?_)) (fun _ _ _ _ _ _ us hl => match us, hl with | [_, _], _ => rfl)
  · obtain ⟨_, _, _, _, _, rfl, _⟩ := h
    rfl
  · obtain ⟨R, ts, rows, size, l, rfl, hR, hS, hl, hls, hll, q⟩ := h
    refine ⟨_, ((pss_cons (ps_set (i := 2) sc_reads_back.nd rfl (.inl rfl) (pe_callO C_spots_passed (hr.mono (by decide)) (by rfl) (pa_cons (pv 0) (pa_cons (pe_callO C_sign_numbers (hr.mono (by decide)) (by rfl) (pa_cons (pv 1) pa_nil)) pa_nil))))
      (pss_one (ps_ret (pe_and (pe_cmpR op_eq (pe_callB call_lenM (by rfl) T.n_len PySem.boot_len (pa_cons (pv 2) pa_nil)) (pe_op op_add (pe_callB call_len_str (by rfl) T.n_len PySem.boot_len (pa_cons (pv 1) pa_nil)) pe_int) (nomark _)) (pe_one (pe_cmpR op_eq (pe_ix ix_lM (pv 2) (pe_un un_neg pe_int) (fun _ _ => rfl)) pe_int (nomark _)))))))), ?_⟩
    walk_at "rd"
    have hsz := sizeLine_eq
    refine ⟨l, rfl, hl, hll, fun b H1 s1 nb hb => ⟨R, ts, rows, size, b, l.map num, rfl, hR.same s1, hS, hb, fun s hs => ?_, by rw [List.length_map]; exact hll, fun H2 p s2 np hp => ?_⟩⟩
    · obtain ⟨ch, hc, rfl⟩ := List.mem_map.mp hs
      exact hls ch hc
    · have hne := wayL_ne (MN.rowsD rows) 0 (l.map num)
      have hrun := wayL_run (MN.rowsD rows) (l.map num) 0 0
      have s12 := s1.trans s2
      refine ⟨p, rfl, _, hp, by rw [W_len]; omega, rfl, ?_⟩
      rw [List.length_map, W_len]
      rw [List.length_map] at hrun
      by_cases hlen : (wayL (MN.rowsD rows) 0 (l.map num)).length = l.length + 1
      · rw [if_pos (by omega)]
        have e1 := List.dropLast_concat_getLast hne
        have hat : atI ((wayL (MN.rowsD rows) 0 (l.map num)).map fun n => V.int (n : Nat)) (-1) = some (V.int (((wayL (MN.rowsD rows) 0 (l.map num)).getLast hne : Nat) : Int)) := by
          have e2 := congrArg (fun z : List Nat => atI (z.map fun n => V.int (n : Nat)) (-1)) e1
          rw [← e2, List.map_append]
          exact atI_last _ _
        refine ⟨p, rfl, _, hp, V.int (((wayL (MN.rowsD rows) 0 (l.map num)).getLast hne : Nat) : Int), hat, rfl, ?_⟩
        have : decide (V.int (((wayL (MN.rowsD rows) 0 (l.map num)).getLast hne : Nat) : Int) = V.int 0) = decide (MN.run (MN.rowsD rows) 0 (l.map num) = some 0) := by
          apply decide_eq_decide.mpr
          rw [hrun, List.getLast?_eq_some_getLast hne]
          constructor
          · intro z
            have := V.int.inj z
            exact ⟨hlen, by congr 1; omega⟩
          · rintro ⟨_, z⟩
            rw [Option.some.inj z]
            rfl
        rw [this]
        exact q H2 s12
      · rw [if_neg (by omega)]
        have : decide (MN.run (MN.rowsD rows) 0 (l.map num) = some 0) = false := decide_eq_false fun z => hlen (hrun.mp z).1
        rw [this] at q
        exact q H2 s12
theorem ok_copied (S : Src K mg "copied_rows" s_copied_rows) (T : Txt P w K mg base c cF cW cG) : OkD P w K mg base 1 "copied_rows" ["rows"] (fun vs H Q _ => ∃ (R : Addr) (ts : List Addr) (rows : List (List (Option Nat))), vs = [.ref R] ∧ RowsL H R ts rows ∧ rows.length ≤ 100000 ∧
  ∀ H' q us, Same H H' → H q = none → (∀ u ∈ us, H u = none) → RowsL H' q us rows → us.Nodup → q ∉ us → Q (.ref q) H') := by
  refine okd S (fun f fd F => F.ok sc_copied_rows (fun vs H Q E h => ?_) (fun cdv A outer s H vs Q E hr h => ?_)) (fun _ _ _ _ _ _ us hl => match us, hl with | [_], _ => rfl)
  · obtain ⟨_, _, _, rfl, _⟩ := h
    rfl
  · obtain ⟨R, ts, rows, rfl, hR, hl, q⟩ := h
    refine ⟨_, ((pss_one (ps_ret (pe_lc (own := [("row", 1)]) (g := gName 1) (tt := tYes) (by rfl) sc_copied_rows.nd (pi_list (pv 0)) (blkOk_by (own := [("row", 1)]) (N := ["rows", "row"]) (sc := defScope s_copied_rows) (by decide +kernel)) (fun _ _ _ _ _ => pg_name (i := 1) sc_copied_rows.nd rfl (Or.inl rfl)) (fun _ _ _ _ _ => pts_nil) (fun _ _ _ _ _ => (pe_callTy (call_list_ofK K rfl) (by rfl) T.n_list (by decide +kernel) (pa_cons (pv 1) pa_nil))))))), ?_⟩
    walk_at "rd"
    have hsz := sizeLine_eq
    refine ⟨⟨_, SqL.of hR.hl⟩, ?_⟩
    refine comp_list (xs := ts.map V.ref) (fun D i H' => Same H H' ∧ ∃ us : List Addr, H' D = some (.lst (us.map V.ref)) ∧ us.length = i ∧ us.Nodup ∧ (∀ u ∈ us, u ≠ D ∧ H u = none) ∧ ∀ (j : Nat) (u : Addr) (row : List (Option Nat)), us[j]? = some u → rows[j]? = some row → H' u = some (.lst (row.map ov))) (fun D nD => ⟨same_upd nD, [], upd_same, rfl, List.nodup_nil, (fun _ z => nomatch z), fun j u row e => by cases e⟩) (fun D i H' nD hi ⟨s', _⟩ => SqL.of (s' _ _ hR.hl)) ?_ ?_
    · rintro D i x H1 nD hx ⟨s1, us, h1D, hul, hnd, hun, hus⟩
      rw [List.getElem?_map] at hx
      obtain ⟨t, ht, rfl⟩ := Option.map_eq_some_iff.mp hx
      have hil := (List.getElem?_eq_some_iff.mp ht).1
      rw [hR.ln] at hil
      have hrow := List.getElem?_eq_getElem hil
      walk_at "rd"
      refine ⟨_, .inl (SqL.of (s1 _ _ (hR.row i t _ ht hrow))), fun u nu => ?_⟩
      have uD : u ≠ D := fun z => by rw [z, h1D] at nu; cases nu
      have uus : ∀ v ∈ us, v ≠ u := fun v hv z => by
        subst z
        obtain ⟨j, hj⟩ := List.mem_iff_getElem?.mp hv
        have hjl := (List.getElem?_eq_some_iff.mp hj).1
        have := hus j v _ hj (List.getElem?_eq_getElem (by omega))
        rw [nu] at this
        cases this
      refine ⟨_, by rw [upd_ne uD.symm]; exact h1D, by rw [List.length_map, hul]; omega, same_over (s1.trans (same_upd nu)) nD, us ++ [u], by rw [List.map_append]; rfl, by rw [List.length_append, hul]; rfl, List.nodup_append.mpr ⟨hnd, by simp, fun a ha b hb e => uus a ha (by rw [e]; exact List.mem_singleton.mp hb)⟩, fun v hv => ?_, fun j v row h1 h2 => ?_⟩
      · rcases List.mem_append.mp hv with h | h
        · exact hun v h
        · rw [List.mem_singleton.mp h]
          exact ⟨uD, s1.free nu⟩
      · rcases Nat.lt_or_ge j us.length with z | z
        · rw [List.getElem?_append_left z] at h1
          have hm := List.mem_of_getElem? h1
          rw [upd_ne (hun v hm).1, upd_ne (uus v hm)]
          exact hus j v row h1 h2
        · rw [List.getElem?_append_right z] at h1
          have hj0 : j - us.length = 0 := by
            have := (List.getElem?_eq_some_iff.mp h1).1
            simp at this
            omega
          rw [hj0] at h1
          cases h1
          rw [show j = i by omega, hrow] at h2
          cases h2
          rw [upd_ne uD, upd_same]
    · rintro D H1 nD ⟨s1, us, h1D, hul, hnd, hun, hus⟩
      rw [List.length_map, hR.ln] at hul
      exact q H1 D us s1 nD (fun u hu => (hun u hu).2) ⟨h1D, hul, hus⟩ hnd fun z => (hun D z).1 rfl
def spCheckGroup (cG : Addr) : Sp := fun vs H Q E => ∃ (g dx R : Addr) (ts : List Addr) (m : Int) (rows : List (List (Option Nat))), vs = [.ref g] ∧ Gr cG H g dx R ts m rows ∧ Q .non H
theorem ok_check_group (S : Src K mg "check_group" s_check_group) (T : Txt P w K mg base c cF cW cG) : OkX P w K mg base 3 "check_group" ["group"] (spCheckGroup cG) := by
  refine okx S (fun f fd F => F.okX sc_check_group (fun vs H Q E h => ?_) (fun cdv A outer s H vs Q E hr h => ?_)) (fun _ _ _ _ _ _ us hl => match us, hl with | [_], _ => rfl)
  · obtain ⟨_, _, _, _, _, _, rfl, _⟩ := h
    rfl
  · obtain ⟨g, dx, R, ts, m, rows, rfl, hG, q⟩ := h
    refine ⟨_, ((pss_one (ps_if (pt_not (pt_val (pe_callB call_isi (by rfl) T.n_isinstance (by decide +kernel) (pa_cons (pv 0) (pa_cons (pe_gref (by rfl) T.o_Group.g) pa_nil))))) (pss_one (ps_raiseX rfl (takes_of rfl rfl rfl rfl) (T.x 3 (by decide)) (hr.mono (by decide)) (by rfl) (pa_cons (pv 0) pa_nil))) pss_nil))), ?_⟩
    walk_at "rd"
    exact ⟨_, _, .ref cG, .ref cG, true, rfl, .own cG, .base (.ins hG.hp T.o_Group.cl T.cl_Group T.cl_get T.cl_takes T.mro_Group), by unfold PySem.W.kitOne; simp, true, rfl, by rw [if_neg (by decide)]; exact q⟩
def spCheckGW (cG : Addr) : Sp := fun vs H Q E => ∃ (g dx R : Addr) (ts : List Addr) (m : Int) (rows : List (List (Option Nat))) (l : List Nat), vs = [.ref g, .str (W l)] ∧ Gr cG H g dx R ts m rows ∧ 1 ≤ m ∧ m ≤ 6 ∧ Sm m l ∧ l.length ≤ 1000 ∧ Q .non H
theorem ok_check_gw (S : Src K mg "check_group_word" s_check_group_word) (T : Txt P w K mg base c cF cW cG) (C_check_group : OkX P w K mg base 3 "check_group" ["group"] (spCheckGroup cG)) (C_check_word : OkX P w K mg base 3 "check_word" ["many", "word"] (spCheckWord c)) : OkX P w K mg base 4 "check_group_word" ["group", "word"] (spCheckGW cG) := by
  refine okx S (fun f fd F => F.okX sc_check_group_word (fun vs H Q E h => ?_) (fun cdv A outer s H vs Q E hr h => ?_)) (fun _ _ _ _ _ _ us hl => match us, hl with | [_, _], _ => rfl)
  · obtain ⟨_, _, _, _, _, _, _, rfl, _⟩ := h
    rfl
  · obtain ⟨g, dx, R, ts, m, rows, l, rfl, hG, h1, h2, hl, hll, q⟩ := h
    refine ⟨_, ((pss_cons (ps_expr (pe_callX (takes_of rfl rfl rfl rfl) C_check_group (hr.mono (by decide)) (by rfl) (pa_cons (pv 0) pa_nil)))
      (pss_one (ps_expr (pe_callX (takes_of rfl rfl rfl rfl) C_check_word (hr.mono (by decide)) (by rfl) (pa_cons (pe_fldA (pv 0)) (pa_cons (pv 1) pa_nil))))))), ?_⟩
    walk_at "rd"
    exact ⟨g, dx, R, ts, m, rows, rfl, hG, _, hG.fc T, m, _, rfl, h1, h2, okv_W (by omega), fun _ => q, fun e => absurd ((spBn_W (n := 1000) hl hll).symm.trans e) (by simp)⟩
theorem size_num {m : Int} (h1 : 1 ≤ m) (h2 : m ≤ 6) {l : List Nat} (h : Sm m l) : ∀ ch ∈ l, num ch < (2 * m).toNat := fun ch hc => by
  have e : (2 * m).toNat = 2 * m.toNat := by omega
  have := h ch hc
  rw [e] at this ⊢
  exact num_take m.toNat (by omega) ch this
def spBelongs (cG : Addr) : Sp := fun vs H Q E => ∃ (g dx R : Addr) (ts : List Addr) (m : Int) (rows : List (List (Option Nat))) (l : List Nat), vs = [.ref g, .str (W l)] ∧ Gr cG H g dx R ts m rows ∧ 1 ≤ m ∧ m ≤ 6 ∧ Shape (2 * m).toNat rows ∧ Sm m l ∧ l.length ≤ 1000 ∧
  ∀ H', Same H H' → Q (.bl (decide (MN.run (MN.rowsD rows) 0 ((red l).map num) = some 0))) H'
theorem ok_belongs (S : Src K mg "belongs" s_belongs) (T : Txt P w K mg base c cF cW cG) (C_check_group_word : OkX P w K mg base 4 "check_group_word" ["group", "word"] (spCheckGW cG)) (C_reads_back : OkD P w K mg base 2 "reads_back" ["rows", "word"] (spReadsBack K)) (C_reduced : OkD P w K mg base 1 "reduced" ["word"] spRed) : OkX2 P w K mg base 5 "belongs" "group" "word" (spBelongs cG) := by
  refine okx2 S (fun f fd F => F.okX sc_belongs (fun vs H Q E h => ?_) (fun cdv A outer s H vs Q E hr h => ?_)) (fun _ _ _ _ _ _ us hl => match us, hl with | [_, _], _ => rfl) (fun _ _ _ _ _ _ _ _ => rfl)
  · obtain ⟨_, _, _, _, _, _, _, rfl, _⟩ := h
    rfl
  · obtain ⟨g, dx, R, ts, m, rows, l, rfl, hG, h1, h2, hS, hl, hll, q⟩ := h
    refine ⟨_, ((pss_cons (ps_expr (pe_callX (takes_of rfl rfl rfl rfl) C_check_group_word (hr.mono (by decide)) (by rfl) (pa_cons (pv 0) (pa_cons (pv 1) pa_nil))))
      (pss_one (ps_ret (pe_callO C_reads_back (hr.mono (by decide)) (by rfl) (pa_cons (pe_fldA (pv 0)) (pa_cons (pe_callO C_reduced (hr.mono (by decide)) (by rfl) (pa_cons (pv 1) pa_nil)) pa_nil))))))), ?_⟩
    walk_at "rd"
    have hlr := len_red l
    exact ⟨g, dx, R, ts, m, rows, l, rfl, hG, h1, h2, hl, hll, _, hG.fr T, l, rfl, hl.sg, by omega, fun H1 s1 => ⟨R, ts, rows, _, red l, rfl, (hG.same s1).rl, hS, fun ch hc => hl.sg ch (mem_red hc), fun ch hc => size_num h1 h2 hl ch (mem_red hc), by omega, fun H2 s2 => q H2 (s1.trans s2)⟩⟩
def spWay (cG : Addr) : Sp := fun vs H Q E => ∃ (g dx R : Addr) (ts : List Addr) (m : Int) (rows : List (List (Option Nat))) (l : List Nat), vs = [.ref g, .str (W l)] ∧ Gr cG H g dx R ts m rows ∧ 1 ≤ m ∧ m ≤ 6 ∧ Shape (2 * m).toNat rows ∧ Sm m l ∧ l.length ≤ 1000 ∧
  ∀ H' q, Same H H' → H q = none → NumsAt H' q (wayL (MN.rowsD rows) 0 ((red l).map num)) → Q (.ref q) H'
end

end K29

namespace K29
open PySem PySem.Spec PyProof.Rows L2 G1 MW
abbrev s_Group_picture : Stmt := inClass (topS 34) 4
theorem sc_Group_picture : FnScope ["self"] ["self"] (defScope s_Group_picture) := ⟨rfl, rfl, rfl, by decide +kernel, rfl, by decide +kernel, by decide +kernel⟩
local macro_rules | `(tactic| walk_at "rd") => `(tactic| simp only [L2.iZip, G1.rGtD, L2.rMin, L2.tLockE, L2.iKeys, L2.iEnum, L2.ipI, L2.rIn, L2.tPairs, L2.rSetD, L2.tDNewK, G1.tCallK3, G1.tCallK4, G1.tFldA, G1.tCallM, G1.tMakeO, L2.sFld, L2.rExtend, L2.tDNotIn, L2.tDIn, L2.tDGet2, L2.tDisp, L2.rPopAt, L2.tLstRg, L2.tRg1, G1.tMakeO2, G1.rOwnI, G1.rCntN, L2.tPar3, L2.tSeq, L2.tAug, L2.tTup, G1.tCallK3b, G1.tMt, G1.tMinK, G1.rIsTu, L2.rIxT, G1.rTr, G1.rLtD, if_true, if_false, L2.rNotB, L2.rMax, L2.iRng2,L2.tSeq, G1.iEnumS, L2.tDGet, L2.gTup, L2.gCons, L2.gNil, L2.tPar, L2.rIxS, G1.tRepU, L2.rSlS, L2.iStr, L2.tNotV, G1.rIsV, G1.mk_int, G1.mk_bool, G1.mk_str, G1.mk_list, G1.tCallX, V.ty.injEq, L2.tChain, L2.rIsB, G1.tRevS, L2.tM0, L2.tM1, L2.tCallS, G1.tCallK2, G1.tMkR, L2.rAll, L2.rPop, L2.tBM0, L2.tRevL, L2.tAsg, L2.tOp, L2.rI, L2.rI0, L2.tVar, L2.tC, L2.tCB, L2.tCons, L2.tNil, L2.tRet, L2.gName, L2.start, L2.tIf, L2.tIfS, L2.tTest, L2.tNext, L2.rIxL, L2.tSl, L2.rSlL, L2.tNoPart, L2.tPart, L2.tLst, L2.tTup, L2.rSum, L2.tBits, L2.gSub, L2.rSetL, L2.rCat, L2.tDrop, L2.tBM, L2.tBM0, L2.rAppend, L2.tYes, L2.tB, L2.tAnd, L2.tOr, L2.tNot, L2.tAndV, L2.tOrV, G1.tCallO, G1.tXm, G1.tXn, G1.tXv, HO.lst.injEq, HO.tup.injEq, Nat.reduceAdd, Nat.zero_add, List.set_cons_zero, List.set_cons_succ, G1.tFor_eq, G1.tLc_eq, G1.rIxM, G1.rLenM, G1.rSlM, G1.atI_0, G1.atI_1, G1.atI_2, G1.ixN_0, G1.ixN_2, L2.upd_same, L2.upd_upd, and_assoc, L2.iRng1, L2.iList, L2.tUn, L2.rU, G1.rRepS, L2.wipe, List.foldl, L2.rEq, L2.rNe, List.map, List.replicate, List.length, List.append, List.set, List.getElem?_cons_zero, List.getElem?_cons_succ, List.cons_append, List.nil_append, Option.some.injEq, V.int.injEq, V.bl.injEq, V.ref.injEq, V.str.injEq, List.cons.injEq, reduceCtorEq, false_and, and_false, exists_false, or_false, false_or, exists_and_left, exists_and_right, exists_eq_left', exists_eq_left, true_and, and_true, Nat.sub_self, decide_eq_true_eq])
section
variable {P : Program} {w : World} {K : PySem.W.Frag} {mg : Str → Option Value} {base : Heap} {c : Nat → Addr} {cF cW cG : Addr}
def spCW (c : Nat → Addr) : Sp := fun vs H Q E => ∃ (m : Int) (a : Addr) (ws : List (List Nat)), vs = [.int m, .ref a] ∧ 1 ≤ m ∧ m ≤ 6 ∧ WsAt H a ws ∧ (∀ l ∈ ws, Sm m l ∧ l.length ≤ 1000) ∧ ws.length ≤ 1000 ∧ ∀ H', Same H H' → Q .non H'
def spWd (f : List Nat → List Nat) : Sp := fun vs H Q _ => ∃ (m : Int) (l : List Nat), vs = [.int m, .str (W l)] ∧ 1 ≤ m ∧ m ≤ 6 ∧ Sm m l ∧ l.length ≤ 1000 ∧ ∀ H', Same H H' → Q (.str (W (f l))) H'
theorem lens_flat : ∀ ls : List (List Nat), (List.map (fun x : Str => x.length) (ls.map W)).sum = ls.flatten.length
  | [] => rfl
  | l :: ls => by
    have ih := lens_flat ls
    rw [List.map_cons, List.map_cons, List.sum_cons, ih, List.flatten_cons, List.length_append, W_len]
def spProd : Sp := fun vs H Q _ => ∃ (m : Int) (a : Addr) (ws : List (List Nat)), vs = [.int m, .ref a] ∧ 1 ≤ m ∧ m ≤ 6 ∧ WsAt H a ws ∧ (∀ l ∈ ws, Sm m l ∧ l.length ≤ 1000) ∧ ws.length ≤ 100 ∧ ws.flatten.length ≤ 100000 ∧ (red ws.flatten).length ≤ 1000 ∧ ∀ H', Same H H' → Q (.str (W (red ws.flatten))) H'
/-- the picture of a group, in new lists -/
def spPict (cG : Addr) : Sp := fun vs H Q _ => ∃ (g dx R : Addr) (ts : List Addr) (m : Int) (rows : List (List (Option Nat))), vs = [.ref g] ∧ Gr cG H g dx R ts m rows ∧ rows.length ≤ 100000 ∧
  ∀ H' q us, Same H H' → H q = none → (∀ u ∈ us, H u = none) → RowsL H' q us rows → us.Nodup → q ∉ us → Q (.ref q) H'
theorem ok_gpicture (S : SrcM K cG "picture" "Group.picture" s_Group_picture) (T : Txt P w K mg base c cF cW cG) (C_copied_rows : OkD P w K mg base 1 "copied_rows" ["rows"] (fun vs H Q _ => ∃ (R : Addr) (ts : List Addr) (rows : List (List (Option Nat))), vs = [.ref R] ∧ RowsL H R ts rows ∧ rows.length ≤ 100000 ∧
  ∀ H' q us, Same H H' → H q = none → (∀ u ∈ us, H u = none) → RowsL H' q us rows → us.Nodup → q ∉ us → Q (.ref q) H')) : OkM P w K mg base cG 2 "picture" ["self"] (spPict cG) := by
  refine okm S (fun f fd F => F.ok sc_Group_picture (fun vs H Q E h => ?_) (fun cdv A outer s H vs Q E hr h => ?_)) (fun _ _ _ _ _ _ us hl => match us, hl with | [_], _ => rfl)
  · obtain ⟨_, _, _, _, _, _, rfl, _⟩ := h
    rfl
  · obtain ⟨g, dx, R, ts, m, rows, rfl, hG, hl, q⟩ := h
    refine ⟨_, ((pss_one (ps_ret (pe_callO C_copied_rows (hr.mono (by decide)) (by rfl) (pa_cons (pe_fldA (pv 0)) pa_nil))))), ?_⟩
    walk_at "rd"
    exact ⟨_, hG.fr T, R, rfl, ts, rows, hG.rl, hl, q⟩
end

end K29

namespace K29
open PySem PySem.Spec PyProof.Rows L2 G1 MW
abbrev s_law_hash : Stmt := topS 46
theorem sc_law_hash : FnScope ["_law_seed", "_law_index", "_law_mixed"] ["_law_seed", "_law_index"] (defScope s_law_hash) := ⟨rfl, rfl, rfl, by decide +kernel, rfl, by decide +kernel, by decide +kernel⟩
abbrev s_law_cell : Stmt := topS 48
theorem sc_law_cell : FnScope ["_law_script", "_law_index"] ["_law_script", "_law_index"] (defScope s_law_cell) := ⟨rfl, rfl, rfl, by decide +kernel, rfl, by decide +kernel, by decide +kernel⟩
abbrev s_law_generator : Stmt := topS 49
theorem sc_law_generator : FnScope ["_law_script", "_law_index", "_law_seed"] ["_law_script", "_law_index"] (defScope s_law_generator) := ⟨rfl, rfl, rfl, by decide +kernel, rfl, by decide +kernel, by decide +kernel⟩
abbrev s_law_random : Stmt := topS 47
theorem sc_law_random : FnScope ["_law_generator_here", "_law_bound", "_law_drawn", "_law_turn"] ["_law_generator_here", "_law_bound"] (defScope s_law_random) := ⟨rfl, rfl, rfl, by decide +kernel, rfl, by decide +kernel, by decide +kernel⟩
abbrev s_law_text : Stmt := topS 51
theorem sc_law_text : FnScope ["_law_numbers_here", "_law_number"] ["_law_numbers_here"] (defScope s_law_text) := ⟨rfl, rfl, rfl, by decide +kernel, rfl, by decide +kernel, by decide +kernel⟩
abbrev s_law_word : Stmt := topS 54
theorem sc_law_word : FnScope ["_law_generator_here", "_law_many", "_law_most", "_law_turn"] ["_law_generator_here", "_law_many", "_law_most"] (defScope s_law_word) := ⟨rfl, rfl, rfl, by decide +kernel, rfl, by decide +kernel, by decide +kernel⟩
abbrev s_law_numbers : Stmt := topS 50
theorem sc_law_numbers : FnScope ["_law_word_here", "_law_places", "_law_at", "_law_sign"] ["_law_word_here"] (defScope s_law_numbers) := ⟨rfl, rfl, rfl, by decide +kernel, rfl, by decide +kernel, by decide +kernel⟩
abbrev s_law_plain : Stmt := topS 52
theorem sc_law_plain : FnScope ["_law_word_here", "_law_found", "_law_number"] ["_law_word_here"] (defScope s_law_plain) := ⟨rfl, rfl, rfl, by decide +kernel, rfl, by decide +kernel, by decide +kernel⟩
abbrev s_law_opposite : Stmt := topS 53
theorem sc_law_opposite : FnScope ["_law_word_here", "_law_number"] ["_law_word_here"] (defScope s_law_opposite) := ⟨rfl, rfl, rfl, by decide +kernel, rfl, by decide +kernel, by decide +kernel⟩
local macro_rules | `(tactic| walk_at "rd") => `(tactic| simp only [L2.iZip, G1.rGtD, L2.rMin, L2.tLockE, L2.iKeys, L2.iEnum, L2.ipI, L2.rIn, L2.tPairs, L2.rSetD, L2.tDNewK, G1.tCallK3, G1.tCallK4, G1.tFldA, G1.tCallM, G1.tMakeO, L2.sFld, L2.rExtend, L2.tDNotIn, L2.tDIn, L2.tDGet2, L2.tDisp, L2.rPopAt, L2.tLstRg, L2.tRg1, G1.tMakeO2, G1.rOwnI, G1.rCntN, L2.tPar3, L2.tSeq, L2.tAug, L2.tTup, G1.tCallK3b, G1.tMt, G1.tMinK, G1.rIsTu, L2.rIxT, G1.rTr, G1.rLtD, if_true, if_false, L2.rNotB, L2.rMax, L2.iRng2,L2.tSeq, G1.iEnumS, L2.tDGet, L2.gTup, L2.gCons, L2.gNil, L2.tPar, L2.rIxS, G1.tRepU, L2.rSlS, L2.iStr, L2.tNotV, G1.rIsV, G1.mk_int, G1.mk_bool, G1.mk_str, G1.mk_list, G1.tCallX, V.ty.injEq, L2.tChain, L2.rIsB, G1.tRevS, L2.tM0, L2.tM1, L2.tCallS, G1.tCallK2, G1.tMkR, L2.rAll, L2.rPop, L2.tBM0, L2.tRevL, L2.tAsg, L2.tOp, L2.rI, L2.rI0, L2.tVar, L2.tC, L2.tCB, L2.tCons, L2.tNil, L2.tRet, L2.gName, L2.start, L2.tIf, L2.tIfS, L2.tTest, L2.tNext, L2.rIxL, L2.tSl, L2.rSlL, L2.tNoPart, L2.tPart, L2.tLst, L2.tTup, L2.rSum, L2.tBits, L2.gSub, L2.rSetL, L2.rCat, L2.tDrop, L2.tBM, L2.tBM0, L2.rAppend, L2.tYes, L2.tB, L2.tAnd, L2.tOr, L2.tNot, L2.tAndV, L2.tOrV, G1.tCallO, G1.tXm, G1.tXn, G1.tXv, HO.lst.injEq, HO.tup.injEq, Nat.reduceAdd, Nat.zero_add, List.set_cons_zero, List.set_cons_succ, G1.tFor_eq, G1.tLc_eq, G1.rIxM, G1.rLenM, G1.rSlM, G1.atI_0, G1.atI_1, G1.atI_2, G1.ixN_0, G1.ixN_2, L2.upd_same, L2.upd_upd, and_assoc, L2.iRng1, L2.iList, L2.tUn, L2.rU, G1.rRepS, L2.wipe, List.foldl, L2.rEq, L2.rNe, List.map, List.replicate, List.length, List.append, List.set, List.getElem?_cons_zero, List.getElem?_cons_succ, List.cons_append, List.nil_append, Option.some.injEq, V.int.injEq, V.bl.injEq, V.ref.injEq, V.str.injEq, List.cons.injEq, reduceCtorEq, false_and, and_false, exists_false, or_false, false_or, exists_and_left, exists_and_right, exists_eq_left', exists_eq_left, true_and, and_true, Nat.sub_self, decide_eq_true_eq])
section
variable {P : Program} {w : World} {K : PySem.W.Frag} {mg : Str → Option Value} {base : Heap} {c : Nat → Addr} {cF cW cG : Addr}
def spHash : Sp := fun vs H Q _ => ∃ s i : Int, vs = [.int s, .int i] ∧ 0 ≤ s ∧ s < 2147483647 ∧ 0 ≤ i ∧ i ≤ 1000000000 ∧ ∀ h : Int, 0 ≤ h → h < 2147483647 → Q (.int h) H
theorem ok_hash (S : Src K mg "_law_hash" s_law_hash) (T : Txt P w K mg base c cF cW cG) : OkD P w K mg base 1 "_law_hash" ["_law_seed", "_law_index"] spHash := by
  refine okd S (fun f fd F => F.ok sc_law_hash (fun vs H Q E h => ?_) (fun cdv A outer s H vs Q E hr h => ?_)) (fun _ _ _ _ _ _ us hl => match us, hl with | [_, _], _ => rfl)
  · obtain ⟨_, _, rfl, _⟩ := h
    rfl
  · obtain ⟨sd, ix, rfl, h0, h1, h2, h3, q⟩ := h
    refine ⟨_, ((pss_cons (ps_set (i := 2) sc_law_hash.nd rfl (.inl rfl) (pe_op op_mod (pe_callTy call_int1 (by rfl) T.n_int PyProof.Rows.boot_int (pa_cons (pe_op op_add (pe_op op_add (pe_op op_add (pe_op op_mulW (pv 0) pe_int) (pe_op op_mulW (pe_op op_mulW pe_int (pv 1)) (pv 1))) (pe_op op_mulW pe_int (pv 1))) pe_int) pa_nil)) pe_int))
      (pss_cons (ps_set (i := 2) sc_law_hash.nd rfl (.inl rfl) (pe_op op_mod (pe_callTy call_int1 (by rfl) T.n_int PyProof.Rows.boot_int (pa_cons (pe_op op_add (pe_op op_add (pe_op op_mulW (pv 2) (pv 2)) (pe_op op_mulW pe_int (pv 1))) pe_int) pa_nil)) pe_int))
      (pss_one (ps_ret (pe_op op_mod (pe_callTy call_int1 (by rfl) T.n_int PyProof.Rows.boot_int (pa_cons (pe_op op_mulW (pv 2) pe_int) pa_nil)) pe_int)))))), ?_⟩
    walk_at "rd"
    have n (x : Int) : 0 ≤ x % 2147483629 ∧ x % 2147483629 < 2147483629 := ⟨Int.emod_nonneg _ (by decide), Int.emod_lt_of_pos _ (by decide)⟩
    have n2 (x : Int) : 0 ≤ x % 2147483587 ∧ x % 2147483587 < 2147483587 := ⟨Int.emod_nonneg _ (by decide), Int.emod_lt_of_pos _ (by decide)⟩
    have n3 (x : Int) : 0 ≤ x % 2147483647 ∧ x % 2147483647 < 2147483647 := ⟨Int.emod_nonneg _ (by decide), Int.emod_lt_of_pos _ (by decide)⟩
    refine ⟨cmul (by omega) (by decide), cmul (by decide) (by omega), cmul (by omega) (by omega), cmul (by decide) (by omega), by decide, ?_, cmul (by decide) (by omega), by decide, ?_, by decide, ?_⟩
    · exact cmul (by have := n (sd * 1140671 + 27644437 * ix * ix + 131 * ix + 19); omega) (by have := n (sd * 1140671 + 27644437 * ix * ix + 131 * ix + 19); omega)
    · refine cmul ?_ (by decide)
      generalize (sd * 1140671 + 27644437 * ix * ix + 131 * ix + 19) = y
      have := n2 (y % 2147483629 * (y % 2147483629) + 62089 * ix + 32416187)
      omega
    · exact q _ (n3 _).1 (n3 _).2
/-- a generator at g -/
def GenAt (H : Hp) (g : Addr) (x y z : Int) : Prop := H g = some (.lst [.int x, .int y, .int z])
def spGen (K : PySem.W.Frag) : Sp := fun vs H Q _ => ∃ (a : Addr) (ns : List Int) (i : Int), vs = [.ref a, .int i] ∧ SqL K H a (ns.map V.int) ∧ ns.length ≤ 63 ∧ 0 ≤ i ∧ i ≤ 1000 ∧
  ∀ (g : Addr) (H' : Hp) (x y : Int), Same H H' → H g = none → GenAt H' g x y (1000 * i) → 0 ≤ x → x < 10 ^ 600 → 0 ≤ y → y < 2147483647 → Q (.ref g) H'
def spCell (K : PySem.W.Frag) : Sp := fun vs H Q _ => ∃ (a : Addr) (ns : List Int) (i : Int), vs = [.ref a, .int i] ∧ SqL K H a (ns.map V.int) ∧ ns.length ≤ 63 ∧ 0 ≤ i ∧ ∀ (sd : Int) H', Same H H' → Q (.int sd) H'
theorem ok_cell (S : Src K mg "_law_cell" s_law_cell) (T : Txt P w K mg base c cF cW cG) : OkD P w K mg base 1 "_law_cell" ["_law_script", "_law_index"] (spCell K) := by
  refine okd S (fun f fd F => F.ok sc_law_cell (fun vs H Q E h => ?_) (fun cdv A outer s H vs Q E hr h => ?_)) (fun _ _ _ _ _ _ us hl => match us, hl with | [_, _], _ => rfl)
  · obtain ⟨_, _, _, rfl, _⟩ := h
    rfl
  · obtain ⟨a, ns, ix, rfl, hS, hl, h0, q⟩ := h
    refine ⟨_, ((pss_cons (ps_if (pt_cmpR op_lt (pv 1) (pe_callB call_len_seq (by rfl) T.n_len (by decide +kernel) (pa_cons (pv 0) pa_nil)) (nomark _)) (pss_one (ps_ret (pe_ix ix_list (pv 0) (pv 1) (fun _ _ => rfl)))) pss_nil)
      (pss_one (ps_ret (pe_op op_mod (pe_callB (cr_sum rfl) (by rfl) T.n_sum (by decide +kernel) (pa_cons (pe_slice (sl_listK K rfl) (pv 0) po_none (po_some pe_int)) pa_nil)) pe_int))))), ?_⟩
    walk_at "rd"
    obtain ⟨j, rfl⟩ := Int.eq_ofNat_of_zero_le h0
    refine ⟨_, .inl hS, ?_⟩
    rw [List.length_map]
    split
    · rename_i hj
      have hj' : j < ns.length := by omega
      exact ⟨_, hS, _, atI_nat (v := V.int ns[j]) (by rw [List.getElem?_map, List.getElem?_eq_getElem hj']; rfl), q _ _ (.refl H)⟩
    · refine ⟨_, hS, fun p np => ?_⟩
      obtain ⟨ns', hc⟩ : ∃ ns' : List Int, cutV (ns.map V.int) none (some 1) = ns'.map V.int := ⟨_, by unfold cutV; rw [← List.map_drop, ← List.map_take]⟩
      rw [hc]
      exact ⟨ns', .inl (.inl upd_same), by decide, q _ _ (same_upd np)⟩
theorem ok_gen (S : Src K mg "_law_generator" s_law_generator) (T : Txt P w K mg base c cF cW cG) (C_law_cell : OkD P w K mg base 1 "_law_cell" ["_law_script", "_law_index"] (spCell K)) : OkD P w K mg base 2 "_law_generator" ["_law_script", "_law_index"] (spGen K) := by
  refine okd S (fun f fd F => F.ok sc_law_generator (fun vs H Q E h => ?_) (fun cdv A outer s H vs Q E hr h => ?_)) (fun _ _ _ _ _ _ us hl => match us, hl with | [_, _], _ => rfl)
  · obtain ⟨_, _, _, rfl, _⟩ := h
    rfl
  · obtain ⟨a, ns, ix, rfl, hS, hl, h0, h1, q⟩ := h
    refine ⟨_, ((pss_cons (ps_set (i := 2) sc_law_generator.nd rfl (.inl rfl) (pe_callO C_law_cell (hr.mono (by decide)) (by rfl) (pa_cons (pv 0) (pa_cons (pv 1) pa_nil))))
      (pss_one (ps_ret (pe_lst (pa_cons (pe_op op_mod (pe_callTy call_int1 (by rfl) T.n_int PyProof.Rows.boot_int (pa_cons (pe_callB (call_max2 rfl) (by rfl) T.n_max (by decide +kernel) (pa_cons (pe_op op_sub (pv 2) (pe_op op_powW pe_int pe_int)) (pa_cons pe_int pa_nil))) pa_nil)) (pe_op op_powW (pe_op op_powW pe_int pe_int) pe_int)) (pa_cons (pe_op op_mod (pe_callTy call_int1 (by rfl) T.n_int PyProof.Rows.boot_int (pa_cons (pv 2) pa_nil)) pe_int) (pa_cons (pe_op op_mulW pe_int (pv 1)) pa_nil)))))))), ?_⟩
    walk_at "rd"
    refine ⟨a, ns, ix, rfl, hS, hl, h0, fun sd H1 sm => ?_⟩
    obtain ⟨j, rfl⟩ := Int.eq_ofNat_of_zero_le h0
    have e10 : ((10 : Int) ^ Int.toNat 60) ^ Int.toNat 10 = 10 ^ 600 := by decide +kernel
    have p10 : (0 : Int) < ((10 : Int) ^ Int.toNat 60) ^ Int.toNat 10 := by decide +kernel
    refine ⟨⟨by decide, by decide +kernel⟩, _, rfl, ⟨by decide, by decide +kernel⟩, ⟨by decide, by decide +kernel⟩, p10, .inl ⟨_, rfl, by decide, cmul (by decide) (by omega), by decide, fun p np => ?_⟩⟩
    refine q p _ _ _ (sm.trans (same_upd np)) (sm.free np) upd_same (Int.emod_nonneg _ (Int.ne_of_gt p10)) ?_ (Int.emod_nonneg _ (by decide)) (Int.emod_lt_of_pos _ (by decide))
    rw [← e10]
    exact Int.emod_lt_of_pos _ p10
/-- what a draw does: the generator's numbers go on, the rest stays -/
def spRandom : Sp := fun vs H Q _ => ∃ (g : Addr) (b x y z : Int), vs = [.ref g, .int b] ∧ GenAt H g x y z ∧ 0 < b ∧ b.natAbs < 2 ^ 6000 ∧ 0 ≤ x ∧ x < 10 ^ 600 ∧ 0 ≤ y ∧ y < 2147483647 ∧ 0 ≤ z ∧ z ≤ 100000000 ∧
  ∀ d x' z' : Int, 0 ≤ d → d < b → 0 ≤ x' → x' < 10 ^ 600 → z ≤ z' → z' ≤ z + 300 → Q (.int d) (upd H g (.lst [.int x', .int y, .int z']))
theorem ok_random (S : Src K mg "_law_random" s_law_random) (T : Txt P w K mg base c cF cW cG) (C_law_hash : OkD P w K mg base 1 "_law_hash" ["_law_seed", "_law_index"] spHash) : OkD P w K mg base 2 "_law_random" ["_law_generator_here", "_law_bound"] spRandom := by
  refine okd S (fun f fd F => F.ok sc_law_random (fun vs H Q E h => ?_) (fun cdv A outer s H vs Q E hr h => ?_)) (fun _ _ _ _ _ _ us hl => match us, hl with | [_, _], _ => rfl)
  · obtain ⟨_, _, _, _, _, rfl, _⟩ := h
    rfl
  · obtain ⟨g, b, x, y, z, rfl, hg, hb, hb2, hx, hx2, hy, hy2, hz, hz2, q⟩ := h
    have hg' : H g = some (.lst [.int x, .int y, .int z]) := hg
    refine ⟨_, ((pss_cons (ps_if (pt_cmpR op_gt (pe_ix ix_lM (pv 0) pe_int (fun _ _ => rfl)) pe_int (nomark _)) (pss_cons (ps_set (i := 2) sc_law_random.nd rfl (.inl rfl) (pe_op op_mod (pe_callTy call_int1 (by rfl) T.n_int PyProof.Rows.boot_int (pa_cons (pe_ix ix_lM (pv 0) pe_int (fun _ _ => rfl)) pa_nil)) (pv 1)))
      (pss_cons (ps_asg (pe_op op_fdivW (pe_ix ix_lM (pv 0) pe_int (fun _ _ => rfl)) (pv 1)) (pg_sub (pv 0) pe_int set_list))
      (pss_one (ps_ret (pv 2))))) pss_nil)
      (pss_cons (ps_set (i := 2) sc_law_random.nd rfl (.inl rfl) pe_int)
      (pss_cons (ps_for PassesOwn.never rfl (pi_range1 (by rfl) T.n_range (pa_cons (pe_op op_add pe_int (pe_op op_fdivW (pe_bits (pv 1)) pe_int)) pa_nil)) (pg_name (i := 3) sc_law_random.nd rfl (.inl rfl)) (pss_cons (ps_asg (pe_op op_add (pe_ix ix_lM (pv 0) pe_int (fun _ _ => rfl)) pe_int) (pg_sub (pv 0) pe_int set_list))
      (pss_one (ps_set (i := 2) sc_law_random.nd rfl (.inl rfl) (pe_op op_add (pe_op op_mulW (pv 2) pe_int) (pe_callO C_law_hash (hr.mono (by decide)) (by rfl) (pa_cons (pe_ix ix_lM (pv 0) pe_int (fun _ _ => rfl)) (pa_cons (pe_ix ix_lM (pv 0) pe_int (fun _ _ => rfl)) pa_nil))))))))
      (pss_one (ps_ret (pe_op op_mod (pe_callTy call_int1 (by rfl) T.n_int PyProof.Rows.boot_int (pa_cons (pv 2) pa_nil)) (pv 1)))))))), ?_⟩
    walk_at "rd"
    simp only [hg']
    walk_at "rd"
    have hbits : Builtin.Int.intBits b ≤ 6000 := PyProof.Rows.intBits_le hb2
    refine ite2 (fun h0 => ?_) (fun h0 => ?_)
    · exact ⟨hb, wide_div hb hb2 (by decide) (by decide), q _ _ _ (Int.emod_nonneg _ (by omega)) (Int.emod_lt_of_pos _ hb) (Int.ediv_nonneg hx (by omega)) (Int.lt_of_le_of_lt (Int.ediv_le_self _ hx) hx2) (Int.le_refl _) (by omega)⟩
    · refine ⟨⟨by decide, by decide⟩, by omega, by omega, ?_⟩
      obtain ⟨n, hn⟩ : ∃ n : Nat, n = (1 + ((Builtin.Int.intBits b : Nat) : Int) / 30).toNat := ⟨_, rfl⟩
      have hn2 : n ≤ 201 := by omega
      rw [← hn]
      refine loop_range (fun i σ H' => ∃ (d : Int) (v : Option V), σ = [some (.ref g), some (.int b), some (.int d), v] ∧ 0 ≤ d ∧ d < 2 ^ (31 * i) ∧ H' = upd H g (.lst [.int x, .int y, .int (z + i)])) ⟨0, none, rfl, by decide, by decide, ?_⟩ ?_ ?_
      · rw [upd_id]
        simpa using hg'
      · rintro i σ H' hi ⟨d, v, rfl, d0, d1, rfl⟩
        walk_at "rd"
        refine ⟨wide_mul (a := 31 * i + 1) (b := 64) ?_ (by decide) (by omega) (by decide) (by omega), ?_⟩
        · have e : (2 : Int) ^ (31 * i) = ((2 ^ (31 * i) : Nat) : Int) := by rw [Int.natCast_pow]; rfl
          rw [e] at d1
          rw [Nat.pow_succ]
          omega
        · refine ⟨y, _, rfl, hy, hy2, by omega, by omega, fun h h0 h1 => ⟨_, rfl, ⟨_, rfl⟩, by omega, ?_, ?_⟩⟩
          · rw [Nat.mul_add, Int.pow_add]
            have : (2 : Int) ^ (31 * 1) = 2147483648 := by decide
            rw [this]
            generalize (2 : Int) ^ (31 * i) = p at d1
            omega
          · rw [show z + ((i + 1 : Nat) : Int) = z + i + 1 by omega]
      · rintro σ H' ⟨d, v, rfl, d0, d1, rfl⟩
        walk_at "rd"
        exact ⟨hb, q _ _ _ (Int.emod_nonneg _ (by omega)) (Int.emod_lt_of_pos _ hb) hx hx2 (by omega) (by omega)⟩
/-- a generator that is still good -/
def GenOk (H : Hp) (g : Addr) (Z : Int) : Prop := ∃ x y z, GenAt H g x y z ∧ 0 ≤ x ∧ x < 10 ^ 600 ∧ 0 ≤ y ∧ y < 2147483647 ∧ 0 ≤ z ∧ z ≤ Z
/-- what stood but at g stands -/
def But (g : Addr) (H H' : Hp) : Prop := ∀ b o, b ≠ g → H b = some o → H' b = some o
theorem But.refl {g : Addr} (H : Hp) : But g H H := fun _ _ _ e => e
theorem But.trans {g : Addr} {H H1 H2 : Hp} (a : But g H H1) (b : But g H1 H2) : But g H H2 := fun x o n e => b x o n (a x o n e)
theorem But.of {g : Addr} {H H1 : Hp} (a : Same H H1) : But g H H1 := fun x o _ e => a x o e
theorem But.set {g : Addr} {H : Hp} {o : HO} : But g H (upd H g o) := fun x o' n e => by rw [upd_ne n]; exact e
theorem GenOk.but {g : Addr} {H H' : Hp} {Z : Int} (h : GenOk H g Z) (s : Same H H') : GenOk H' g Z := let ⟨x, y, z, h1, h2⟩ := h; ⟨x, y, z, s _ _ h1, h2⟩
theorem GenOk.le {g : Addr} {H : Hp} {Z Z' : Int} (h : GenOk H g Z) (l : Z ≤ Z') : GenOk H g Z' := let ⟨x, y, z, h1, h2, h3, h4, h5, h6, h7⟩ := h; ⟨x, y, z, h1, h2, h3, h4, h5, h6, by omega⟩
/-- a draw -/
theorem draw {g : Addr} {H : Hp} {Z b : Int} {Q : VK} (h : GenOk H g Z) (hZ : Z ≤ 100000000) (hb : 0 < b) (hb2 : b < 1000000) (q : ∀ (d : Int) (H' : Hp), 0 ≤ d → d < b → But g H H' → GenOk H' g (Z + 300) → Q (.int d) H') : spRandom [.ref g, .int b] H Q (fun _ _ _ => False) := by
  obtain ⟨x, y, z, h1, h2, h3, h4, h5, h6, h7⟩ := h
  refine ⟨g, b, x, y, z, rfl, h1, hb, ?_, h2, h3, h4, h5, h6, by omega, fun d x' z' d0 d1 x0 x1 z0 z1 => q d _ d0 d1 .set ⟨x', y, z', upd_same, x0, x1, h4, h5, by omega, by omega⟩⟩
  exact Nat.lt_of_lt_of_le (show b.natAbs < 1000000 by omega) (Nat.le_trans (show 1000000 ≤ 2 ^ 20 by decide) (Nat.pow_le_pow_right (by decide) (by decide)))
/-- the numbers of signs -/
def sg (n : Nat) : Nat := sgs.getD n 0
theorem ones_len (z : List Nat) : (List.map (fun x : Str => x.length) (List.map (fun c => (⟨#[c]⟩ : Str)) z)).sum = z.length := by
  induction z with
  | nil => rfl
  | cons a z ih =>
    rw [List.map_cons, List.map_cons, List.sum_cons, ih, List.length_cons]
    show 1 + _ = _
    omega
def spText : Sp := fun vs H Q _ => ∃ a ns, vs = [.ref a] ∧ NumsAt H a ns ∧ (∀ n ∈ ns, n < 12) ∧ ns.length ≤ 200000 ∧ ∀ H', Same H H' → Q (.str (W (ns.map sg))) H'
theorem ok_text (S : Src K mg "_law_text" s_law_text) (T : Txt P w K mg base c cF cW cG) : OkD P w K mg base 1 "_law_text" ["_law_numbers_here"] spText := by
  refine okd S (fun f fd F => F.ok sc_law_text (fun vs H Q E h => ?_) (fun cdv A outer s H vs Q E hr h => ?_)) (fun _ _ _ _ _ _ us hl => match us, hl with | [_], _ => rfl)
  · obtain ⟨_, _, rfl, _⟩ := h
    rfl
  · obtain ⟨a, ns, rfl, ha, hn, hl, q⟩ := h
    refine ⟨_, ((pss_one (ps_ret (pe_join pe_str (pe_lc (own := [("_law_number", 1)]) (g := gName 1) (tt := tYes) (by rfl) sc_law_text.nd (pi_list (pv 0)) (blkOk_by (own := [("_law_number", 1)]) (N := ["_law_numbers_here", "_law_number"]) (sc := defScope s_law_text) (by decide +kernel)) (fun _ _ _ _ _ => pg_name (i := 1) sc_law_text.nd rfl (Or.inl rfl)) (fun _ _ _ _ _ => pts_nil) (fun _ _ _ _ _ => (pe_ix ix_str pe_str (pv 1) (fun _ _ => rfl)))))))), ?_⟩
    walk_at "rd"
    refine ⟨⟨_, rfl⟩, ⟨_, SqL.of ha⟩, ?_⟩
    refine comp_list (xs := ns.map fun n => V.int (n : Nat)) (fun D i H' => H' = upd H D (.lst ((ns.take i).map fun n => V.str ⟨#[sg n]⟩))) (fun D nD => rfl) ?_ ?_ ?_
    · rintro D i H' nD hi rfl
      exact SqL.of (by rw [upd_ne (ne_none ha nD)]; exact ha)
    · rintro D i x H' nD hi rfl
      rw [List.getElem?_map] at hi
      obtain ⟨n, hn', rfl⟩ := Option.map_eq_some_iff.mp hi
      have hlt := hn n (List.mem_of_getElem? hn')
      walk_at "rd"
      refine ⟨by decide +kernel, sg n, ?_, ?_, ?_⟩
      · have : (PySem.Str.ofString "aAbBcCdDeEfF").cps.toList = sgs := by decide +kernel
        rw [this]
        apply atI_nat
        unfold sg
        rw [List.getD_eq_getElem?_getD, List.getElem?_eq_getElem (by show n < 12; exact hlt), Option.getD_some]
      · rw [List.length_map, List.length_take, sizeLine_eq]
        omega
      · rw [take_step hn', List.map_append]
        rfl
    · rintro D H' nD rfl
      rw [List.length_map, List.take_length]
      walk_at "rd"
      refine ⟨(ns.map sg).map fun c => ⟨#[c]⟩, .inl (SqL.of ?_), ?_, ?_⟩
      · rw [upd_same, List.map_map, List.map_map]
        rfl
      · rw [ones_len, List.length_map]
        have e0 : (PySem.Str.ofString "").length = 0 := rfl
        rw [e0]
        omega
      · have e0 : PySem.Str.ofString "" = (⟨#[]⟩ : Str) := rfl
        rw [e0, join_signs]
        exact q _ (same_upd nD)
theorem sg_mem {m : Int} {k : Nat} (hm : m ≤ 6) (h : k < (2 * m).toNat) : sg k ∈ sgs.take (2 * m).toNat := by
  have hk : k < sgs.length := by show k < 12; omega
  unfold sg
  rw [List.getD_eq_getElem?_getD, List.getElem?_eq_getElem hk, Option.getD_some]
  apply List.mem_iff_getElem?.mpr
  exact ⟨k, by rw [List.getElem?_take_of_lt h, List.getElem?_eq_getElem hk]⟩
def spWord (K : PySem.W.Frag) : Sp := fun vs H Q _ => ∃ g m n Z, vs = [.ref g, .int m, .int n] ∧ 1 ≤ m ∧ m ≤ 6 ∧ 0 ≤ n ∧ n ≤ 1000 ∧ GenOk H g Z ∧ Z + 300 * (n + 2) ≤ 100000000 ∧
  ∀ l H', Sm m l → (l.length : Int) ≤ n → But g H H' → GenOk H' g (Z + 300 * (n + 1)) → Q (.str (W l)) H'
theorem ok_word (S : Src K mg "_law_word" s_law_word) (T : Txt P w K mg base c cF cW cG) (C_law_random : OkD P w K mg base 2 "_law_random" ["_law_generator_here", "_law_bound"] spRandom) (C_law_text : OkD P w K mg base 1 "_law_text" ["_law_numbers_here"] spText) : OkD P w K mg base 3 "_law_word" ["_law_generator_here", "_law_many", "_law_most"] (spWord K) := by
  refine okd S (fun f fd F => F.ok sc_law_word (fun vs H Q E h => ?_) (fun cdv A outer s H vs Q E hr h => ?_)) (fun _ _ _ _ _ _ us hl => match us, hl with | [_, _, _], _ => rfl)
  · obtain ⟨_, _, _, _, rfl, _⟩ := h
    rfl
  · obtain ⟨g, m, n, Z, rfl, h1, h2, h3, h4, hg, hZ, q⟩ := h
    refine ⟨_, ((pss_one (ps_ret (pe_callO C_law_text (hr.mono (by decide)) (by rfl) (pa_cons (pe_lc (own := [("_law_turn", 3)]) (g := gName 3) (tt := tYes) (by rfl) sc_law_word.nd (pi_range1 (by rfl) T.n_range (pa_cons (pe_callO C_law_random (hr.mono (by decide)) (by rfl) (pa_cons (pv 0) (pa_cons (pe_op op_add (pv 2) pe_int) pa_nil))) pa_nil)) (blkOk_by (own := [("_law_turn", 3)]) (N := ["_law_generator_here", "_law_many", "_law_most", "_law_turn"]) (sc := defScope s_law_word) (by decide +kernel)) (fun _ _ _ _ _ => pg_name (i := 3) sc_law_word.nd rfl (Or.inl rfl)) (fun _ _ _ _ _ => pts_nil) (fun _ _ _ _ _ => (pe_callO C_law_random (hr.mono (by decide)) (by rfl) (pa_cons (pv 0) (pa_cons (pe_op op_mulW pe_int (pv 1)) pa_nil))))) pa_nil))))), ?_⟩
    walk_at "rd"
    refine draw hg (by omega) (by omega) (by omega) fun d H1 d0 d1 bt gk => ?_
    refine ⟨d, rfl, by omega, by omega, ?_⟩
    refine comp_range (fun D i H' => ∃ ns : List Nat, H' D = some (.lst (ns.map fun k => V.int (k : Nat))) ∧ ns.length = i ∧ (∀ k ∈ ns, k < (2 * m).toNat) ∧ But g H1 H' ∧ GenOk H' g (Z + 300 + 300 * i)) (fun D nD => ⟨[], upd_same, rfl, (fun _ z => nomatch z), .of (same_upd nD), (gk.but (same_upd nD)).le (by omega)⟩) ?_ ?_
    · rintro D i H' nD hi ⟨ns, hD, hlen, hns, bt', gk'⟩
      walk_at "rd"
      refine ⟨cmul (by decide) (by omega), ?_⟩
      refine draw gk' (by omega) (by omega) (by omega) fun e H2 e0 e1 bt2 gk2 => ?_
      have ngD : D ≠ g := by
        obtain ⟨x, y, z, hx, _⟩ := gk
        exact fun z => by rw [z] at nD; rw [GenAt, nD] at hx; cases hx
      have hD2 := bt2 D _ ngD hD
      refine ⟨_, hD2, by rw [List.length_map, hlen, sizeLine_eq]; omega, ns ++ [e.toNat], ?_, by rw [List.length_append, hlen]; rfl, ?_, ?_, ?_⟩
      · rw [List.map_append]
        congr 1
        show [V.int e] = [V.int (e.toNat : Nat)]
        rw [Int.toNat_of_nonneg e0]
      · intro k hk
        rcases List.mem_append.mp hk with hk | hk
        · exact hns k hk
        · rw [List.mem_singleton.mp hk]
          omega
      · intro b o n q
        have q2 := bt2 b o n (bt' b o n q)
        have : b ≠ D := fun z => by rw [z, nD] at q; cases q
        rw [upd_ne this]
        exact q2
      · obtain ⟨x, y, z, hx, r⟩ := gk2.le (show Z + 300 + 300 * (i : Int) + 300 ≤ Z + 300 + 300 * ((i + 1 : Nat) : Int) by omega)
        exact ⟨x, y, z, by rw [GenAt, upd_ne (Ne.symm ngD)]; exact hx, r⟩
    · rintro D H' nD ⟨ns, hD, hlen, hns, bt', gk'⟩
      refine ⟨D, ns, rfl, hD, fun k hk => by have := hns k hk; omega, by omega, fun H2 s2 => ?_⟩
      refine q _ H2 ?_ ?_ ((bt.trans bt').trans (.of s2)) ((gk'.but s2).le (by omega))
      · intro ch hc
        obtain ⟨k, hk, rfl⟩ := List.mem_map.mp hc
        exact sg_mem (by omega) (hns k hk)
      · rw [List.length_map]
        omega
theorem bx : ∀ s : Nat, s < 12 → Builtin.bitXor (s : Int) 1 = ((s ^^^ 1 : Nat) : Int) ∧ s ^^^ 1 < 12 ∧ sg (s ^^^ 1) = inv (sg s) := by decide +kernel
theorem bx2 : ∀ m : Nat, m ≤ 6 → ∀ s : Nat, s < 2 * m → s ^^^ 1 < 2 * m := by decide +kernel
def trc (ch : Nat) : Nat := 97 + num ch
theorem num_sg : ∀ j, j < 12 → num (sg j) = j ∧ sg j ∈ sgs := by decide +kernel
theorem num_sgs : ∀ ns : List Nat, (∀ j ∈ ns, j < 12) → (ns.map sg).map num = ns
  | [], _ => rfl
  | n :: ns, h => by
    rw [List.map_cons, List.map_cons, (num_sg n (h n List.mem_cons_self)).1, num_sgs ns fun j hj => h j (List.mem_cons_of_mem _ hj)]
theorem num_invx : ∀ c ∈ sgs, num (inv c) = num c ^^^ 1 := by decide +kernel
theorem inv_num : ∀ a ∈ sgs, ∀ b ∈ sgs, (b = inv a) = (num b = num a ^^^ 1) := by
  have h : ∀ a ∈ sgs, ∀ b ∈ sgs, decide (b = inv a) = decide (num b = num a ^^^ 1) := by decide +kernel
  intro a ha b hb
  exact propext (decide_eq_decide.mp (h a ha b hb))
def kvsA : List (L2.Key × V) := (List.range 12).map fun i => (Sum.inr (⟨#[sg i]⟩ : Str), V.int (i : Nat))
theorem kvsA_at {i ch : Nat} (h : sgs[i]? = some ch) : kvsA[i]? = some (Sum.inr (⟨#[ch]⟩ : Str), V.int (i : Nat)) := by
  have hi : i < 12 := (List.getElem?_eq_some_iff.mp h).1
  unfold kvsA
  rw [List.getElem?_map, List.getElem?_range hi, Option.map_some]
  unfold sg
  rw [List.getD_eq_getElem?_getD, h, Option.getD_some]
theorem kvsA_val : ∀ ch ∈ sgs, valV kvsA (Sum.inr (⟨#[ch]⟩ : Str)) = some (V.int (num ch : Nat)) := by
  intro ch hc
  simp only [sgs, List.mem_cons, List.not_mem_nil, or_false] at hc
  rcases hc with rfl | rfl | rfl | rfl | rfl | rfl | rfl | rfl | rfl | rfl | rfl | rfl <;> rfl
theorem paired_snoc {α β : Type} {R : α → β → Prop} {a : α} {b : β} (r : R a b) : ∀ {as : List α} {bs : List β}, Paired R as bs → Paired R (as ++ [a]) (bs ++ [b])
  | _, _, .nil => .cons r .nil
  | _, _, .cons h t => .cons h (paired_snoc r t)
theorem paired_mono {α β : Type} {R R' : α → β → Prop} (k : ∀ a b, R a b → R' a b) : ∀ {as : List α} {bs : List β}, Paired R as bs → Paired R' as bs
  | _, _, .nil => .nil
  | _, _, .cons h t => .cons (k _ _ h) (paired_mono k t)
def spNumbers : Sp := fun vs H Q _ => ∃ l, vs = [.str (W l)] ∧ Sg l ∧ l.length ≤ 200000 ∧ ∀ a H', Same H H' → H a = none → NumsAt H' a (l.map num) → Q (.ref a) H'
theorem ok_numbers (S : Src K mg "_law_numbers" s_law_numbers) (T : Txt P w K mg base c cF cW cG) : OkD P w K mg base 1 "_law_numbers" ["_law_word_here"] spNumbers := by
  refine okd S (fun f fd F => F.ok sc_law_numbers (fun vs H Q E h => ?_) (fun cdv A outer s H vs Q E hr h => ?_)) (fun _ _ _ _ _ _ us hl => match us, hl with | [_], _ => rfl)
  · obtain ⟨_, rfl, _⟩ := h
    rfl
  · obtain ⟨l, rfl, hS, hl, q⟩ := h
    refine ⟨_, ((pss_cons (ps_set (i := 1) sc_law_numbers.nd rfl (.inr rfl) (pe_callTy (call_dictP rfl) (by rfl) T.n_dict (by decide +kernel) (pa_cons (pe_lc (own := [("_law_at", 2), ("_law_sign", 3)]) (g := gTup K 2 (gCons (gName 2) (gCons (gName 3) gNil))) (tt := tYes) (by rfl) sc_law_numbers.nd (pi_enumS (by rfl) T.n_enumerate pe_str) (blkOk_by (own := [("_law_at", 2), ("_law_sign", 3)]) (N := ["_law_word_here", "_law_places", "_law_at", "_law_sign"]) (sc := defScope s_law_numbers) (by decide +kernel)) (fun _ _ _ _ _ => pg_tup (by rfl) (pgs_cons (pg_name (i := 2) sc_law_numbers.nd rfl (Or.inl rfl)) (pgs_cons (pg_name (i := 3) sc_law_numbers.nd rfl (Or.inl rfl)) pgs_nil))) (fun _ _ _ _ _ => pts_nil) (fun _ _ _ _ _ => (pe_tup (pa_cons (pv 3) (pa_cons (pv 2) pa_nil))))) pa_nil)))
      (pss_one (ps_ret (pe_lc (own := [("_law_sign", 3)]) (g := gName 3) (tt := tYes) (by rfl) sc_law_numbers.nd (pi_str (pv 0)) (blkOk_by (own := [("_law_sign", 3)]) (N := ["_law_word_here", "_law_places", "_law_at", "_law_sign"]) (sc := defScope s_law_numbers) (by decide +kernel)) (fun _ _ _ _ _ => pg_name (i := 3) sc_law_numbers.nd rfl (Or.inl rfl)) (fun _ _ _ _ _ => pts_nil) (fun _ _ _ _ _ => (pe_dget (hu_of hr) (pv 1) (pv 3) (fun _ _ => rfl)))))))), ?_⟩
    walk_at "rd"
    refine comp_enumS (fun D i H' => ∃ ps : List Addr, Same H H' ∧ H' D = some (.lst (ps.map V.ref)) ∧ Paired (fun p kv => H' p = some (.tup [kV kv.1, kv.2])) ps (kvsA.take i)) (fun D nD => ⟨[], same_upd nD, upd_same, .nil⟩) ?_ ?_
    · rintro D i ch H' A nD hi ⟨ps, sm, hD, hps⟩ nA
      walk_at "rd"
      have hi' : sgs[i]? = some ch := by
        have e : (PySem.Str.ofString "aAbBcCdDeEfF").cps = sgs.toArray := by decide +kernel
        rw [e] at hi
        simpa using hi
      have nAD : D ≠ A := ne_none hD nA
      refine ⟨_, SqT.of upd_same, rfl, _, _, rfl, _, _, rfl, rfl, ?_⟩
      refine ⟨by show 2 ≤ sizeLine; decide, fun p np => ?_⟩
      have npA : A ≠ p := ne_none upd_same np
      have np' : H' p = none := by rw [upd_ne (Ne.symm npA)] at np; exact np
      have npD : D ≠ p := ne_none hD np'
      have hlen : ps.length ≤ 12 := by
        have h1 := Paired.length hps
        have h2 : (kvsA.take i).length ≤ 12 := by
          rw [List.length_take]
          have : kvsA.length = 12 := by decide
          omega
        omega
      refine ⟨ps.map V.ref, by rw [upd_ne npD, upd_ne nAD]; exact hD, by rw [List.length_map, sizeLine_eq]; omega, ?_, ps ++ [p], by rw [List.map_append]; rfl, ?_⟩
      · intro b o e
        have nb : b ≠ D := ne_none e nD
        rw [upd_ne nb]
        exact same_upd np _ _ (same_upd nA _ _ (sm b o e))
      · rw [take_step (kvsA_at hi')]
        refine paired_snoc ?_ (paired_mono ?_ hps)
        · rw [upd_ne (Ne.symm npD), upd_same]
          rfl
        · intro a kv e
          have n1 : a ≠ D := fun z => by rw [z, hD] at e; cases e
          rw [upd_ne n1]
          exact same_upd np _ _ (same_upd nA _ _ e)
    · rintro D H' nD ⟨ps, sm, hD, hps⟩
      walk_at "rd"
      have e12 : (PySem.Str.ofString "aAbBcCdDeEfF").cps.size = 12 := by decide +kernel
      rw [e12, show kvsA.take 12 = kvsA from rfl] at hps
      refine ⟨ps, SqL.of hD, kvsA, paired_mono (fun a kv e => SqT.of e) hps, fun p np => ?_⟩
      rw [show mergeK [] kvsA = kvsA from rfl]
      have hl2 := sizeLine_eq
      refine comp_str (fun A i H2 => H2 = upd (upd H' p (.dK kvsA)) A (.lst ((l.take i).map fun n => V.int (num n : Nat)))) (fun A nA => rfl) ?_ ?_
      · rintro A i ch H2 nA hi rfl
        have hi' : l[i]? = some ch := by simpa [W] using hi
        have hc := hS ch (List.mem_of_getElem? hi')
        have npA : p ≠ A := ne_none upd_same nA
        walk_at "rd"
        refine ⟨V.int (num ch : Nat), ?_, by rw [List.length_map, List.length_take, sizeLine_eq]; omega, ?_⟩
        · have := DGet.k (H := upd (upd H' p (.dK kvsA)) A (.lst ((l.take i).map fun n => V.int (num n : Nat)))) (a := p) (kvs := kvsA) (k := Sum.inr (⟨#[ch]⟩ : Str)) (by rw [upd_ne npA, upd_same])
          rw [kvsA_val ch hc] at this
          exact this
        · rw [take_step hi', List.map_append]
          rfl
      · rintro A H2 nA rfl
        have npA : p ≠ A := ne_none upd_same nA
        have nA' : H' A = none := by rw [upd_ne (Ne.symm npA)] at nA; exact nA
        rw [show (W l).cps.size = l.length by simp, List.take_length]
        refine q A _ ((sm.trans (same_upd np)).trans (same_upd nA)) (sm.free nA') ?_
        unfold NumsAt
        rw [upd_same, List.map_map]
        rfl
theorem dp_ints {H : Hp} : ∀ ns : List Nat, DpAll K H (ns.map fun n => V.int ((n : Nat) : Int)) (ns.map fun n => PyData.int ((n : Nat) : Int))
  | [] => .nil
  | n :: ns => .cons (.int _) (dp_ints ns)
theorem ints_lay : ∀ ns : List Nat, PyData.canLayAll0 (ns.map fun n => PyData.int ((n : Nat) : Int)) = true ∧ PyData.depthAll (ns.map fun n => PyData.int ((n : Nat) : Int)) = 0
  | [] => ⟨rfl, rfl⟩
  | n :: ns => by
    obtain ⟨h1, h2⟩ := ints_lay ns
    refine ⟨?_, ?_⟩
    · rw [List.map_cons, PyData.canLayAll0, PyData.canLay0, h1]
      rfl
    · rw [List.map_cons, PyData.depthAll, PyData.depth, h2]
      rfl
theorem ints_shaped (ns : List Nat) : SeqAt.shaped (.list (ns.map fun n => PyData.int ((n : Nat) : Int))) = true := by
  obtain ⟨h1, h2⟩ := ints_lay ns
  unfold SeqAt.shaped
  rw [PyData.canLay0, PyData.depth, h1, h2]
  rfl
theorem eq_nil {H : Hp} {a p : Addr} {ns : List Nat} {Q : VK} (ha : NumsAt H a ns) (hp : H p = some (.lst [])) (k : Q (.bl (decide (ns = []))) H) : rEqD K (.ref a) (.ref p) H Q := by
  refine ⟨_, _, .lst (SqL.of ha) (dp_ints ns), .lst (SqL.of hp) .nil, ints_shaped ns, rfl, ?_⟩
  cases ns with
  | nil => exact k
  | cons n ns => exact k
theorem ne_nil {H : Hp} {a p : Addr} {ns : List Nat} {Q : VK} (ha : NumsAt H a ns) (hp : H p = some (.lst [])) (k : Q (.bl (!decide (ns = []))) H) : rNeD K (.ref a) (.ref p) H Q := by
  refine ⟨_, _, .lst (SqL.of ha) (dp_ints ns), .lst (SqL.of hp) .nil, ints_shaped ns, rfl, ?_⟩
  cases ns with
  | nil => exact k
  | cons n ns => exact k
theorem sg_num : ∀ c ∈ sgs, sg (num c) = c := by decide +kernel
theorem sg_nums : ∀ l : List Nat, Sg l → (l.map num).map sg = l
  | [], _ => rfl
  | c :: l, h => by
    rw [List.map_cons, List.map_cons, sg_num c (h c List.mem_cons_self), sg_nums l fun x hx => h x (List.mem_cons_of_mem _ hx)]
theorem stk_mem {l : List Nat} {x : Nat} (h : x ∈ stk [] l) : x ∈ l := mem_red (show x ∈ red l from List.mem_reverse.mpr h)
def spPlain : Sp := fun vs H Q _ => ∃ l, vs = [.str (W l)] ∧ Sg l ∧ l.length ≤ 200000 ∧ ∀ H', Same H H' → Q (.str (W (red l))) H'
theorem ok_plain (S : Src K mg "_law_plain" s_law_plain) (T : Txt P w K mg base c cF cW cG) (C_law_numbers : OkD P w K mg base 1 "_law_numbers" ["_law_word_here"] spNumbers) (C_law_text : OkD P w K mg base 1 "_law_text" ["_law_numbers_here"] spText) : OkD P w K mg base 2 "_law_plain" ["_law_word_here"] spPlain := by
  refine okd S (fun f fd F => F.ok sc_law_plain (fun vs H Q E h => ?_) (fun cdv A outer s H vs Q E hr h => ?_)) (fun _ _ _ _ _ _ us hl => match us, hl with | [_], _ => rfl)
  · obtain ⟨_, rfl, _⟩ := h
    rfl
  · obtain ⟨l, rfl, hS, hl, q⟩ := h
    refine ⟨_, ((pss_cons (ps_set (i := 1) sc_law_plain.nd rfl (.inl rfl) (pe_lst pa_nil))
      (pss_cons (ps_for PassesOwn.never rfl (pi_list (pe_callO C_law_numbers (hr.mono (by decide)) (by rfl) (pa_cons (pv 0) pa_nil))) (pg_name (i := 2) sc_law_plain.nd rfl (.inl rfl)) (pss_one (ps_if (PW.pt (pw_and (pt_cmpR (op_neDK K rfl hr.units) (pv 1) (pe_lst pa_nil) (nomark _)) (pw_and1 (pt_cmpR op_eq (pe_ix ix_lM (pv 1) (pe_op op_sub (pe_callB call_lenM (by rfl) T.n_len PySem.boot_len (pa_cons (pv 1) pa_nil)) pe_int) (fun _ _ => rfl)) (pe_op op_xor (pv 2) pe_int) (nomark _))))) (pss_one (ps_expr (pe_bm0 PySem.F.plainAttrs_list PySem.F.slot_list_pop PySem.F.type_list_pop mt_pop (pv 1)))) (pss_one (ps_expr (pe_bm PySem.F.plainAttrs_list PySem.F.slot_list_append PySem.F.type_list_append mt_append (pv 1) (pa_cons (pv 2) pa_nil)))))))
      (pss_one (ps_ret (pe_callO C_law_text (hr.mono (by decide)) (by rfl) (pa_cons (pv 1) pa_nil))))))), ?_⟩
    walk_at "rd"
    have hz := sizeLine_eq
    refine ⟨Nat.zero_le _, fun p np => ⟨l, rfl, hS, hl, fun a H1 s1 na ha => ⟨a, rfl, ⟨_, SqL.of ha⟩, ?_⟩⟩⟩
    have nap : a ≠ p := (ne_none upd_same na).symm
    have hp1 : H1 p = some (.lst []) := s1 _ _ upd_same
    refine loop_list (xs := (l.map num).map fun n => V.int ((n : Nat) : Int)) (fun i σ H' => ∃ v, σ = [some (.str (W l)), some (.ref p), v] ∧ NumsAt H' p ((stk [] (l.take i)).reverse.map num) ∧ But p H1 H') ⟨none, rfl, hp1, .refl _⟩ (fun i σ H' hi ⟨_, _, _, b⟩ => SqL.of (b _ _ nap ha)) ?_ ?_
    · rintro i x σ H' hi ⟨v, rfl, hp, bt⟩
      rw [List.getElem?_map, List.getElem?_map] at hi
      obtain ⟨ch, hi', rfl⟩ : ∃ ch, l[i]? = some ch ∧ V.int ((num ch : Nat) : Int) = x := by
        cases e : l[i]? with
        | none => rw [e] at hi; cases hi
        | some ch => rw [e] at hi; cases hi; exact ⟨ch, rfl, rfl⟩
      have hc : ch ∈ sgs := hS ch (List.mem_of_getElem? hi')
      walk_at "rd"
      have hlen : (stk [] (List.take i l)).length ≤ 200000 := by
        have h1 := len_stk (List.take i l) []
        have h2 : (List.take i l).length ≤ l.length := by rw [List.length_take]; omega
        simp only [List.length_nil, Nat.zero_add] at h1
        omega
      have hstep : stk [] (List.take (i + 1) l) = MW.step (stk [] (List.take i l)) ch := by
        rw [List.take_add_one, hi', Option.toList_some, stk_append]
        rfl
      have hmem : ∀ x ∈ stk [] (List.take i l), x ∈ sgs := fun x hx => hS x (List.mem_of_mem_take (stk_mem hx))
      rw [hstep]
      generalize stk [] (List.take i l) = st at hlen hmem hp
      refine ⟨Nat.zero_le _, fun p1 np1 => ne_nil (ns := st.reverse.map num) (same_upd np1 _ _ hp) upd_same ⟨_, rfl, ?_⟩⟩
      have hp' : NumsAt (upd H' p1 (.lst [])) p (st.reverse.map num) := same_upd np1 _ _ hp
      have bt' : But p H1 (upd H' p1 (.lst [])) := bt.trans (.of (same_upd np1))
      generalize upd H' p1 (.lst []) = F at hp' bt' ⊢
      cases st with
      | nil =>
        rw [if_neg (by simp)]
        exact ⟨.inl ⟨rfl, _, .inl (.inl hp')⟩, _, hp', by show 0 < _; omega, ⟨_, rfl⟩, upd_same, bt'.trans .set⟩
      | cons t r =>
        rw [if_pos (by simp)]
        have e : ((t :: r).reverse.map num).map (fun n => V.int ((n : Nat) : Int)) = (r.reverse.map num).map (fun n => V.int ((n : Nat) : Int)) ++ [V.int ((num t : Nat) : Int)] := by simp
        have hp2 : F p = some (.lst ((r.reverse.map num).map (fun n => V.int ((n : Nat) : Int)) ++ [V.int ((num t : Nat) : Int)])) := by rw [← e]; exact hp'
        refine ⟨_, hp2, _, hp2, V.int ((num t : Nat) : Int), ?_, rfl, ?_⟩
        · rw [List.length_append, show ((((r.reverse.map num).map fun n => V.int ((n : Nat) : Int)).length + [V.int ((num t : Nat) : Int)].length : Nat) : Int) - 1 = ((((r.reverse.map num).map fun n => V.int ((n : Nat) : Int)).length : Nat) : Int) by simp]
          exact atI_nat (by simp)
        · rw [(bx _ (num_lt ch hc)).1]
          have hin := inv_num ch hc t (hmem t List.mem_cons_self)
          simp only [MW.step]
          by_cases h6 : t = inv ch
          · rw [if_pos (by rw [show num t = num ch ^^^ 1 from hin.mp h6]), if_pos h6]
            refine ⟨.inl ⟨rfl, _, .inl (.inl hp2)⟩, _, hp2, ⟨_, by rw [List.length_append]; exact List.getElem?_concat_length⟩, ⟨_, rfl⟩, ?_, bt'.trans .set⟩
            unfold NumsAt
            rw [upd_same, List.dropLast_concat]
          · rw [if_neg (fun z => h6 (hin.mpr (by have := V.int.inj z; omega))), if_neg h6]
            refine ⟨.inl ⟨rfl, _, .inl (.inl hp2)⟩, _, hp2, ?_, ⟨_, rfl⟩, ?_, bt'.trans .set⟩
            · simp only [List.length_append, List.length_map, List.length_reverse, List.length_cons, List.length_nil] at hlen ⊢
              omega
            · unfold NumsAt
              rw [upd_same]
              simp
    · rintro σ H' ⟨v, rfl, hp, bt⟩
      walk_at "rd"
      rw [List.length_map, List.length_map, List.take_length] at hp
      have sA : Same H H' := fun b o e => bt b o (ne_none e np) (s1 _ _ (same_upd np _ _ e))
      have hR : Sg (red l) := hS.red
      have lr := len_red l
      refine ⟨p, (red l).map num, rfl, hp, fun n hn => ?_, by rw [List.length_map]; omega, fun H2 s2 => ?_⟩
      · obtain ⟨x, hx, rfl⟩ := List.mem_map.mp hn
        exact num_lt x (hR x hx)
      · rw [sg_nums _ hR]
        exact q _ (sA.trans s2)
def spOther : Sp := fun vs H Q _ => ∃ l, vs = [.str (W l)] ∧ Sg l ∧ l.length ≤ 200000 ∧ ∀ H', Same H H' → Q (.str (W (opp l))) H'
theorem ok_other (S : Src K mg "_law_opposite" s_law_opposite) (T : Txt P w K mg base c cF cW cG) (C_law_numbers : OkD P w K mg base 1 "_law_numbers" ["_law_word_here"] spNumbers) (C_law_text : OkD P w K mg base 1 "_law_text" ["_law_numbers_here"] spText) : OkD P w K mg base 2 "_law_opposite" ["_law_word_here"] spOther := by
  refine okd S (fun f fd F => F.ok sc_law_opposite (fun vs H Q E h => ?_) (fun cdv A outer s H vs Q E hr h => ?_)) (fun _ _ _ _ _ _ us hl => match us, hl with | [_], _ => rfl)
  · obtain ⟨_, rfl, _⟩ := h
    rfl
  · obtain ⟨l, rfl, hS, hl, q⟩ := h
    refine ⟨_, ((pss_one (ps_ret (pe_callO C_law_text (hr.mono (by decide)) (by rfl) (pa_cons (pe_lc (own := [("_law_number", 1)]) (g := gName 1) (tt := tYes) (by rfl) sc_law_opposite.nd (pi_list (pe_revL (pe_callO C_law_numbers (hr.mono (by decide)) (by rfl) (pa_cons (pv 0) pa_nil)))) (blkOk_by (own := [("_law_number", 1)]) (N := ["_law_word_here", "_law_number"]) (sc := defScope s_law_opposite) (by decide +kernel)) (fun _ _ _ _ _ => pg_name (i := 1) sc_law_opposite.nd rfl (Or.inl rfl)) (fun _ _ _ _ _ => pts_nil) (fun _ _ _ _ _ => (pe_op op_xor (pv 1) pe_int))) pa_nil))))), ?_⟩
    walk_at "rd"
    have hz := sizeLine_eq
    refine ⟨l, rfl, hS, hl, fun a H1 s1 na ha => ⟨a, rfl, _, SqL.of ha, fun p np => ⟨⟨_, SqL.of upd_same⟩, ?_⟩⟩⟩
    have e : ((l.map num).map fun n => V.int ((n : Nat) : Int)).reverse = l.reverse.map fun c => V.int ((num c : Nat) : Int) := by rw [List.map_map, ← List.map_reverse]; rfl
    rw [e]
    refine comp_list (xs := l.reverse.map fun c => V.int ((num c : Nat) : Int)) (fun D i H' => Same (upd H1 p (.lst (l.reverse.map fun c => V.int ((num c : Nat) : Int)))) H' ∧ H' D = some (.lst ((l.reverse.take i).map fun c => V.int ((num (inv c) : Nat) : Int)))) (fun D nD => ⟨same_upd nD, upd_same⟩) (fun D i H' nD hi ⟨s', _⟩ => SqL.of (s' _ _ upd_same)) ?_ ?_
    · rintro D i x H' nD hi ⟨s', hD⟩
      rw [List.getElem?_map] at hi
      obtain ⟨c', hc', rfl⟩ := Option.map_eq_some_iff.mp hi
      have hc := hS c' (List.mem_reverse.mp (List.mem_of_getElem? hc'))
      walk_at "rd"
      refine ⟨_, hD, by rw [List.length_map, List.length_take, List.length_reverse]; omega, same_over s' nD, ?_⟩
      rw [take_step hc', List.map_append, (bx _ (num_lt c' hc)).1, ← num_invx c' hc]
      rfl
    · rintro D H' nD ⟨s', hD⟩
      rw [List.length_map, List.take_length] at hD
      have sA := s1.trans ((same_upd np).trans s')
      refine ⟨D, (opp l).map num, rfl, ?_, fun n hn => ?_, by rw [List.length_map]; unfold opp; rw [List.length_reverse, List.length_map]; omega, fun H2 s2 => ?_⟩
      · unfold NumsAt
        rw [hD]
        unfold opp
        rw [← List.map_reverse, List.map_map, List.map_map]
        rfl
      · obtain ⟨x, hx, rfl⟩ := List.mem_map.mp hn
        exact num_lt x (hS.opp x hx)
      · rw [sg_nums _ hS.opp]
        exact q _ (sA.trans s2)
end

end K29

namespace K29
open PySem PySem.Spec PyProof.Rows L2 G1 MW
abbrev s_law_words : Stmt := topS 55
theorem sc_law_words : FnScope ["_law_generator_here", "_law_many", "_law_size", "_law_most", "_law_found", "_law_turn"] ["_law_generator_here", "_law_many", "_law_size", "_law_most"] (defScope s_law_words) := ⟨rfl, rfl, rfl, by decide +kernel, rfl, by decide +kernel, by decide +kernel⟩
local macro_rules | `(tactic| walk_at "rd") => `(tactic| simp only [L2.iZip, G1.rGtD, L2.rMin, L2.tLockE, L2.iKeys, L2.iEnum, L2.ipI, L2.rIn, L2.tPairs, L2.rSetD, L2.tDNewK, G1.tCallK3, G1.tCallK4, G1.tFldA, G1.tCallM, G1.tMakeO, L2.sFld, L2.rExtend, L2.tDNotIn, L2.tDIn, L2.tDGet2, L2.tDisp, L2.rPopAt, L2.tLstRg, L2.tRg1, G1.tMakeO2, G1.rOwnI, G1.rCntN, L2.tPar3, L2.tSeq, L2.tAug, L2.tTup, G1.tCallK3b, G1.tMt, G1.tMinK, G1.rIsTu, L2.rIxT, G1.rTr, G1.rLtD, if_true, if_false, L2.rNotB, L2.rMax, L2.iRng2,L2.tSeq, G1.iEnumS, L2.tDGet, L2.gTup, L2.gCons, L2.gNil, L2.tPar, L2.rIxS, G1.tRepU, L2.rSlS, L2.iStr, L2.tNotV, G1.rIsV, G1.mk_int, G1.mk_bool, G1.mk_str, G1.mk_list, G1.tCallX, V.ty.injEq, L2.tChain, L2.rIsB, G1.tRevS, L2.tM0, L2.tM1, L2.tCallS, G1.tCallK2, G1.tMkR, L2.rAll, L2.rPop, L2.tBM0, L2.tRevL, L2.tAsg, L2.tOp, L2.rI, L2.rI0, L2.tVar, L2.tC, L2.tCB, L2.tCons, L2.tNil, L2.tRet, L2.gName, L2.start, L2.tIf, L2.tIfS, L2.tTest, L2.tNext, L2.rIxL, L2.tSl, L2.rSlL, L2.tNoPart, L2.tPart, L2.tLst, L2.tTup, L2.rSum, L2.tBits, L2.gSub, L2.rSetL, L2.rCat, L2.tDrop, L2.tBM, L2.tBM0, L2.rAppend, L2.tYes, L2.tB, L2.tAnd, L2.tOr, L2.tNot, L2.tAndV, L2.tOrV, G1.tCallO, G1.tXm, G1.tXn, G1.tXv, HO.lst.injEq, HO.tup.injEq, Nat.reduceAdd, Nat.zero_add, List.set_cons_zero, List.set_cons_succ, G1.tFor_eq, G1.tLc_eq, G1.rIxM, G1.rLenM, G1.rSlM, G1.atI_0, G1.atI_1, G1.atI_2, G1.ixN_0, G1.ixN_2, L2.upd_same, L2.upd_upd, and_assoc, L2.iRng1, L2.iList, L2.tUn, L2.rU, G1.rRepS, L2.wipe, List.foldl, L2.rEq, L2.rNe, List.map, List.replicate, List.length, List.append, List.set, List.getElem?_cons_zero, List.getElem?_cons_succ, List.cons_append, List.nil_append, Option.some.injEq, V.int.injEq, V.bl.injEq, V.ref.injEq, V.str.injEq, List.cons.injEq, reduceCtorEq, false_and, and_false, exists_false, or_false, false_or, exists_and_left, exists_and_right, exists_eq_left', exists_eq_left, true_and, and_true, Nat.sub_self, decide_eq_true_eq])
section
variable {P : Program} {w : World} {K : PySem.W.Frag} {mg : Str → Option Value} {base : Heap} {c : Nat → Addr} {cF cW cG : Addr}
theorem cutS_lo {l : List Nat} {k : Nat} (h : k ≤ l.length) : cutS (W l) none (some (k : Int)) = W (l.take k) := by
  rw [cut_W]
  have e1 : HT.sIx l.length l.length (some (k : Int)) = k := by
    unfold HT.sIx
    simp
    rw [if_neg (by omega)]
    omega
  have e2 : HT.sIx l.length 0 none = 0 := rfl
  rw [e1, e2]
  simp
theorem cutS_hi {l : List Nat} {k : Nat} (h : k ≤ l.length) : cutS (W l) (some (k : Int)) none = W (l.drop k) := by
  rw [cut_W]
  have e1 : HT.sIx l.length 0 (some (k : Int)) = k := by
    unfold HT.sIx
    simp
    rw [if_neg (by omega)]
    omega
  have e2 : HT.sIx l.length l.length none = l.length := rfl
  rw [e1, e2, List.take_of_length_le (by rw [List.length_drop]; exact Nat.le_refl _)]
theorem GenOk.ne {H : Hp} {g p : Addr} {Z : Int} (h : GenOk H g Z) (n : H p = none) : p ≠ g := fun e => by
  obtain ⟨_, _, _, h1, _⟩ := h
  subst e
  unfold GenAt at h1
  rw [n] at h1
  cases h1
theorem GenOk.set {H : Hp} {g p : Addr} {o : HO} {Z : Int} (h : GenOk H g Z) (n : p ≠ g) : GenOk (upd H p o) g Z := by
  obtain ⟨x, y, z, h1, h2⟩ := h
  exact ⟨x, y, z, by unfold GenAt; rw [upd_ne (Ne.symm n)]; exact h1, h2⟩
theorem But.free {g D : Addr} {H H1 : Hp} (b : But g H H1) (n : H1 D = none) (ne : D ≠ g) : H D = none := by
  cases e : H D with
  | none => rfl
  | some o =>
    rw [b D o ne e] at n
    cases n
theorem inv_take {m : Int} (h1 : 1 ≤ m) (h2 : m ≤ 6) : ∀ ch ∈ sgs.take (2 * m).toNat, inv ch ∈ sgs.take (2 * m).toNat := by
  have : m = 1 ∨ m = 2 ∨ m = 3 ∨ m = 4 ∨ m = 5 ∨ m = 6 := by omega
  rcases this with rfl | rfl | rfl | rfl | rfl | rfl <;> decide +kernel
theorem sm_opp {m : Int} {l : List Nat} (h1 : 1 ≤ m) (h2 : m ≤ 6) (h : Sm m l) : Sm m (opp l) := by
  intro ch hc
  unfold MW.opp at hc
  obtain ⟨d, hd, rfl⟩ := List.mem_map.mp (List.mem_reverse.mp hc)
  exact inv_take h1 h2 d (h d hd)
def spLoose : Sp := fun vs H Q _ => ∃ g m l Z, vs = [.ref g, .int m, .str (W l)] ∧ 1 ≤ m ∧ m ≤ 6 ∧ Sm m l ∧ l.length ≤ 20000 ∧ GenOk H g Z ∧ Z + 5000 ≤ 100000000 ∧
  ∀ l' H', Sm m l' → l'.length = l.length + 2 → red l' = red l → But g H H' → GenOk H' g (Z + 600) → Q (.str (W l')) H'
theorem strOk_W {l : List Nat} (h : Sg l) : PyData.strOk (W l) = true := by
  have hs : ∀ c ∈ sgs, c < 1114112 := by decide
  show (l.toArray).all (fun x => decide (x < 1114112)) = true
  simp only [List.all_toArray, List.all_eq_true, decide_eq_true_eq]
  exact fun c hc => hs c (h c hc)
theorem strs_lay : ∀ ls : List (List Nat), (∀ l ∈ ls, Sg l) → PyData.canLayAll0 (ls.map fun l => PyData.str (W l)) = true ∧ PyData.depthAll (ls.map fun l => PyData.str (W l)) = 0
  | [], _ => ⟨rfl, rfl⟩
  | l :: ls, h => by
    obtain ⟨h1, h2⟩ := strs_lay ls fun x hx => h x (List.mem_cons_of_mem _ hx)
    refine ⟨?_, ?_⟩
    · rw [List.map_cons, PyData.canLayAll0, PyData.canLay0, h1, strOk_W (h l List.mem_cons_self)]
      rfl
    · rw [List.map_cons, PyData.depthAll, PyData.depth, h2]
      rfl
theorem strs_shaped (ls : List (List Nat)) (h : ∀ l ∈ ls, Sg l) : SeqAt.shaped (.list (ls.map fun l => PyData.str (W l))) = true := by
  obtain ⟨h1, h2⟩ := strs_lay ls h
  unfold SeqAt.shaped
  rw [PyData.canLay0, PyData.depth, h1, h2]
  rfl
theorem dp_strs {H : Hp} : ∀ ls : List (List Nat), DpAll K H (ls.map fun l => V.str (W l)) (ls.map fun l => PyData.str (W l))
  | [] => .nil
  | l :: ls => .cons (.str _) (dp_strs ls)
theorem ne_nilW {H : Hp} {a p : Addr} {ls : List (List Nat)} {Q : VK} (ha : WsAt H a ls) (hs : ∀ l ∈ ls, Sg l) (hp : H p = some (.lst [])) (k : Q (.bl (!decide (ls = []))) H) : rNeD K (.ref a) (.ref p) H Q := by
  refine ⟨_, _, .lst (SqL.of ha) (dp_strs ls), .lst (SqL.of hp) .nil, strs_shaped ls hs, rfl, ?_⟩
  cases ls with
  | nil => exact k
  | cons n ns => exact k
theorem tot_k {m n k : Int} (n0 : 0 ≤ n) (k0 : 0 ≤ k) : ∀ ls : List (List Nat), (∀ l ∈ ls, Sm m l ∧ (l.length : Int) ≤ 2 * k) → (ls.flatten.length : Int) ≤ 2 * (ls.length * k)
  | [], _ => by simp
  | l :: ls, h => by
    have := tot_k n0 k0 ls fun x hx => h x (List.mem_cons_of_mem _ hx)
    have h1 := (h l List.mem_cons_self).2
    rw [List.flatten_cons, List.length_append, List.length_cons]
    push_cast
    rw [Int.add_mul]
    omega
theorem tot_n {m n k : Int} (n0 : 0 ≤ n) (k0 : 0 ≤ k) {ls : List (List Nat)} (h : ∀ l ∈ ls, Sm m l ∧ (l.length : Int) ≤ 2 * k) (hn : (ls.length : Int) ≤ n) : (ls.flatten.length : Int) + 6 * k ≤ (2 * n + 6) * k := by
  have h1 := tot_k n0 k0 ls h
  have h2 := Int.mul_le_mul_of_nonneg_right hn k0
  rw [Int.add_mul, Int.mul_assoc]
  omega
def spWords : Sp := fun vs H Q _ => ∃ (g : Addr) (m n k Z : Int), vs = [.ref g, .int m, .int n, .int k] ∧ 1 ≤ m ∧ m ≤ 6 ∧ 0 ≤ n ∧ n ≤ 11 ∧ 0 ≤ k ∧ k ≤ 30 ∧ GenOk H g Z ∧ Z + 200000 ≤ 100000000 ∧
  ∀ a ws H', H a = none → WsAt H' a ws → (ws.length : Int) ≤ n + 1 → (∀ l ∈ ws, Sm m l ∧ (l.length : Int) ≤ 5 * k) → But g H H' → GenOk H' g (Z + 150000) → (ws.flatten.length : Int) ≤ (2 * n + 6) * k → Q (.ref a) H'
theorem ok_words (S : Src K mg "_law_words" s_law_words) (T : Txt P w K mg base c cF cW cG) (C_law_random : OkD P w K mg base 2 "_law_random" ["_law_generator_here", "_law_bound"] spRandom) (C_law_word : OkD P w K mg base 3 "_law_word" ["_law_generator_here", "_law_many", "_law_most"] (spWord K)) (C_law_plain : OkD P w K mg base 2 "_law_plain" ["_law_word_here"] spPlain) (C_law_opposite : OkD P w K mg base 2 "_law_opposite" ["_law_word_here"] spOther) : OkD P w K mg base 4 "_law_words" ["_law_generator_here", "_law_many", "_law_size", "_law_most"] spWords := by
  refine okd S (fun f fd F => F.ok sc_law_words (fun vs H Q E h => ?_) (fun cdv A outer s H vs Q E hr h => ?_)) (fun _ _ _ _ _ _ us hl => match us, hl with | [_, _, _, _], _ => rfl)
  · obtain ⟨_, _, _, _, _, rfl, _⟩ := h
    rfl
  · obtain ⟨g, m, n, k, Z, rfl, h1, h2, n0, n1, k0, k1, hg, hZ, q⟩ := h
    refine ⟨_, ((pss_cons (ps_setLc (i := 4) (own := [("_law_turn", 5)]) (g := gName 5) (tt := tYes) (by rfl) sc_law_words.nd rfl rfl (sw_true rfl rfl rfl (by decide +kernel)) (pi_range1 (by rfl) T.n_range (pa_cons (pe_callO C_law_random (hr.mono (by decide)) (by rfl) (pa_cons (pv 0) (pa_cons (pe_op op_add (pv 2) pe_int) pa_nil))) pa_nil)) (blkOk_by (own := [("_law_turn", 5)]) (N := ["_law_generator_here", "_law_many", "_law_size", "_law_most", "_law_found", "_law_turn"]) (sc := defScope s_law_words) (by decide +kernel)) (fun _ _ _ _ _ => pg_name (i := 5) sc_law_words.nd rfl (Or.inl rfl)) (fun _ _ _ _ _ => pts_nil) (fun _ _ _ _ _ => (pe_callO C_law_word (hr.mono (by decide)) (by rfl) (pa_cons (pv 0) (pa_cons (pv 1) (pa_cons (pv 3) pa_nil))))))
      (pss_cons (ps_if (PW.pt (pw_and (pt_cmpR op_gt (pe_callB call_lenM (by rfl) T.n_len PySem.boot_len (pa_cons (pv 4) pa_nil)) pe_int (nomark _)) (pw_and1 (pt_cmpR op_eq (pe_callO C_law_random (hr.mono (by decide)) (by rfl) (pa_cons (pv 0) (pa_cons pe_int pa_nil))) pe_int (nomark _))))) (pss_one (ps_asg (pe_callO C_law_plain (hr.mono (by decide)) (by rfl) (pa_cons (pe_op op_add_str (pe_ix ix_lM (pv 4) pe_int (fun _ _ => rfl)) (pe_ix ix_lM (pv 4) pe_int (fun _ _ => rfl))) pa_nil)) (pg_sub (pv 4) pe_int set_list))) pss_nil)
      (pss_cons (ps_if (PW.pt (pw_and (pt_cmpR (op_neDK K rfl hr.units) (pv 4) (pe_lst pa_nil) (nomark _)) (pw_and1 (pt_cmpR op_eq (pe_callO C_law_random (hr.mono (by decide)) (by rfl) (pa_cons (pv 0) (pa_cons pe_int pa_nil))) pe_int (nomark _))))) (pss_one (ps_expr (pe_bm PySem.F.plainAttrs_list PySem.F.slot_list_append PySem.F.type_list_append mt_append (pv 4) (pa_cons (pe_callO C_law_plain (hr.mono (by decide)) (by rfl) (pa_cons (pe_op op_add_str (pe_op op_add_str (pe_callO C_law_opposite (hr.mono (by decide)) (by rfl) (pa_cons (pe_ix ix_lM (pv 4) pe_int (fun _ _ => rfl)) pa_nil)) (pe_ix ix_lM (pv 4) (pe_op op_sub (pe_callB call_lenM (by rfl) T.n_len PySem.boot_len (pa_cons (pv 4) pa_nil)) pe_int) (fun _ _ => rfl))) (pe_ix ix_lM (pv 4) pe_int (fun _ _ => rfl))) pa_nil)) pa_nil)))) pss_nil)
      (pss_one (ps_ret (pv 4))))))), ?_⟩
    walk_at "rd"
    have hz := sizeLine_eq
    refine draw hg (by omega) (by omega) (by omega) fun d H1 d0 d1 bt gk => ?_
    refine ⟨d, rfl, by omega, by omega, ?_⟩
    refine comp_range (n := d.toNat) (fun D i H' => ∃ ls : List (List Nat), ls.length = i ∧ WsAt H' D ls ∧ (∀ l ∈ ls, Sm m l ∧ (l.length : Int) ≤ k) ∧ But g H1 H' ∧ GenOk H' g (Z + 300 + 10000 * i)) (fun D nD => ⟨[], rfl, upd_same, fun _ z => (nomatch z), .of (same_upd nD), (gk.but (same_upd nD)).le (by omega)⟩) ?_ ?_
    · rintro D i H' nD hi ⟨ls, hls, hD, hg', bt', gk'⟩
      walk_at "rd"
      have nDg : D ≠ g := GenOk.ne gk nD
      refine ⟨g, m, k, _, rfl, h1, h2, k0, by omega, gk', by omega, fun l H7 hSl hll bt7 gk7 => ⟨_, bt7 _ _ nDg hD, by rw [List.length_map]; omega, ?_⟩⟩
      refine ⟨ls ++ [l], by rw [List.length_append, hls]; rfl, by unfold WsAt; rw [upd_same, List.map_append]; rfl, fun l' hl' => ?_, fun b o nb e => by rw [upd_ne (ne_none e nD)]; exact bt7 _ _ nb (bt' _ _ nb e), GenOk.le (Z := Z + 300 + 10000 * i + 300 * (k + 1)) (gk7.set nDg) (by omega)⟩
      rcases List.mem_append.mp hl' with h | h
      · exact hg' l' h
      · rw [List.mem_singleton.mp h]
        exact ⟨hSl, hll⟩
    · rintro D H2 nD ⟨ls, hls, hD, hg', bt', gk'⟩
      have nDg : D ≠ g := GenOk.ne gk nD
      have hxl : (ls.map fun l => V.str (W l)).length = ls.length := List.length_map ..
      have fD : H D = none := (bt.free nD nDg)
      have tail : ∀ (F : Hp) (ls : List (List Nat)), WsAt F D ls → (∀ l ∈ ls, Sm m l ∧ (l.length : Int) ≤ 2 * k) → (∀ lz, ls[ls.length - 1]? = some lz → (lz.length : Int) ≤ k) → (ls.length : Int) ≤ n → But g H F → GenOk F g (Z + 130000) → 0 ≤ sizeLine ∧ ∀ p, F p = none → rNeD K (V.ref D) (V.ref p) (upd F p (HO.lst [])) fun x H' => ∃ k, x = V.bl k ∧ if k = true then spRandom [V.ref g, V.int 4] H' (fun x H1 => scal x (V.int 0) = true ∧ if x = V.int 0 then tyV K "list" (V.ref D) H1 ∧ ∃ p, V.ref D = V.ref p ∧ ∃ x, H1 p = some (HO.lst x) ∧ ∃ x_1, atI x 0 = some x_1 ∧ spOther [x_1] H1 (fun x H1 => ∃ p, V.ref D = V.ref p ∧ ∃ x_2, H1 p = some (HO.lst x_2) ∧ ∃ p, V.ref D = V.ref p ∧ ∃ x_3, H1 p = some (HO.lst x_3) ∧ ∃ x_4, atI x_3 (↑x_2.length - 1) = some x_4 ∧ ∃ i, x = V.str i ∧ ∃ x, x_4 = V.str x ∧ i.length + x.length ≤ sizeLine ∧ ∃ p, V.ref D = V.ref p ∧ ∃ x_5, H1 p = some (HO.lst x_5) ∧ ∃ x_6, atI x_5 0 = some x_6 ∧ ∃ x_7, x_6 = V.str x_7 ∧ (i ++ x).length + x_7.length ≤ sizeLine ∧ spPlain [V.str (i ++ x ++ x_7)] H1 (fun x H1 => ∃ l, V.ref D = V.ref l ∧ ∃ x_8, H1 l = some (HO.lst x_8) ∧ x_8.length < sizeLine ∧ Q (V.ref D) (upd H1 l (HO.lst (x_8 ++ [x])))) fun x x_8 x_9 => False) fun x x_2 x_3 => False else Q (V.ref D) H1) fun x x_1 x_2 => False else Q (V.ref D) H' := by
        intro F ls hF hg2 hzk hl2 btF gkF
        refine ⟨Nat.zero_le _, fun p np => ne_nilW (same_upd np _ _ hF) (fun l hl => (hg2 l hl).1.sg) upd_same ⟨_, rfl, ?_⟩⟩
        have hF' : WsAt (upd F p (.lst [])) D ls := same_upd np _ _ hF
        have btF' : But g H (upd F p (.lst [])) := btF.trans (.of (same_upd np))
        have gkF' : GenOk (upd F p (.lst [])) g (Z + 130000) := gkF.but (same_upd np)
        generalize upd F p (.lst []) = F1 at hF' btF' gkF' ⊢
        have hxl : (ls.map fun l => V.str (W l)).length = ls.length := List.length_map ..
        have big : ∀ l ∈ ls, Sm m l ∧ (l.length : Int) ≤ 5 * k := fun l hl => ⟨(hg2 l hl).1, by have := (hg2 l hl).2; omega⟩
        by_cases hn : ls = []
        · rw [if_neg (by simp [hn])]
          exact q D ls F1 fD hF' (by omega) big btF' (gkF'.le (by omega)) (by have := tot_n n0 k0 hg2 hl2; omega)
        · rw [if_pos (by simp [hn])]
          refine draw gkF' (by omega) (by decide) (by decide) fun r F2 r0 r1 bt2 gk2 => ⟨rfl, ?_⟩
          have hF2 : WsAt F2 D ls := bt2 _ _ nDg hF'
          by_cases hr : r = 0
          · subst hr
            rw [if_pos rfl]
            have hpos : 0 < ls.length := List.length_pos_iff.mpr hn
            obtain ⟨l0, hl0⟩ : ∃ l, ls[0]? = some l := ⟨_, List.getElem?_eq_getElem (h := hpos)⟩
            obtain ⟨lz, hlz⟩ : ∃ l, ls[ls.length - 1]? = some l := ⟨_, List.getElem?_eq_getElem (h := by omega)⟩
            have g0 := hg2 l0 (List.mem_of_getElem? hl0)
            have gz := hg2 lz (List.mem_of_getElem? hlz)
            have gzk := hzk lz hlz
            have a0 : atI (ls.map fun l => V.str (W l)) 0 = some (V.str (W l0)) := atI_nat (j := 0) (by rw [List.getElem?_map, hl0]; rfl)
            have az : atI (ls.map fun l => V.str (W l)) (((ls.map fun l => V.str (W l)).length : Nat) - 1) = some (V.str (W lz)) := by
              rw [hxl, show ((ls.length : Nat) : Int) - 1 = ((ls.length - 1 : Nat) : Int) by omega]
              exact atI_nat (by rw [List.getElem?_map, hlz]; rfl)
            have lo : (opp l0).length = l0.length := by unfold opp; rw [List.length_reverse, List.length_map]
            have lrd := len_red (opp l0 ++ lz ++ l0)
            have lcat : (opp l0 ++ lz ++ l0).length = l0.length + lz.length + l0.length := by rw [List.length_append, List.length_append, lo]
            refine ⟨.inl ⟨rfl, _, .inl (.inl hF2)⟩, D, rfl, _, hF2, _, a0, l0, rfl, g0.1.sg, by omega, fun F3 s3 => ?_⟩
            have hF3 : WsAt F3 D ls := s3 _ _ hF2
            refine ⟨D, rfl, _, hF3, D, rfl, _, hF3, _, az, _, rfl, _, rfl, by rw [W_len, W_len]; omega, D, rfl, _, hF3, _, a0, _, rfl, by rw [cat_W, W_len, W_len, List.length_append]; omega, ?_⟩
            rw [cat_W, cat_W]
            refine ⟨opp l0 ++ lz ++ l0, rfl, ?_, by omega, fun F4 s4 => ?_⟩
            · intro ch hc
              rcases List.mem_append.mp hc with hc | hc
              · rcases List.mem_append.mp hc with hc | hc
                · exact g0.1.sg.opp ch hc
                · exact gz.1.sg ch hc
              · exact g0.1.sg ch hc
            · have hF4 : WsAt F4 D ls := s4 _ _ hF3
              have bt4 : But g H F4 := (btF'.trans bt2).trans (.of (s3.trans s4))
              refine ⟨D, rfl, _, hF4, by rw [hxl]; omega, ?_⟩
              refine q D (ls ++ [red (opp l0 ++ lz ++ l0)]) _ fD ?_ ?_ ?_ ?_ ?_ ?_
              · unfold WsAt
                rw [upd_same, List.map_append]
                rfl
              · rw [List.length_append]
                show ((ls.length + 1 : Nat) : Int) ≤ _
                omega
              · intro l hl
                rcases List.mem_append.mp hl with h | h
                · exact big l h
                · rw [List.mem_singleton.mp h]
                  refine ⟨fun ch hc => ?_, by omega⟩
                  rcases List.mem_append.mp (mem_red hc) with hc | hc
                  · rcases List.mem_append.mp hc with hc | hc
                    · exact sm_opp h1 h2 g0.1 ch hc
                    · exact gz.1 ch hc
                  · exact g0.1 ch hc
              · exact fun b o nb e => by rw [upd_ne (ne_none e fD)]; exact bt4 b o nb e
              · exact GenOk.le ((gk2.but (s3.trans s4)).set nDg) (by omega)
              · have := tot_n n0 k0 hg2 hl2
                rw [List.flatten_append, List.length_append]
                simp only [List.flatten_cons, List.flatten_nil, List.append_nil]
                push_cast
                omega
          · rw [if_neg (fun z => hr (V.int.inj z))]
            exact q D ls F2 fD hF2 (by omega) big (btF'.trans bt2) (gk2.le (by omega)) (by have := tot_n n0 k0 hg2 hl2; omega)
      have btH2 := bt.trans bt'
      have hdn : ls.length ≤ n := by omega
      refine ⟨D, rfl, _, hD, ?_⟩
      rw [hxl]
      by_cases h1l : 1 < ls.length
      · rw [if_pos (by omega)]
        refine draw gk' (by omega) (by decide) (by decide) fun r F2 r0 r1 bt2 gk2 => ⟨rfl, ?_⟩
        have hF2 : WsAt F2 D ls := bt2 _ _ nDg hD
        by_cases hr : r = 0
        · subst hr
          rw [if_pos rfl]
          obtain ⟨l0, hl0⟩ : ∃ l, ls[0]? = some l := ⟨_, List.getElem?_eq_getElem (h := by omega)⟩
          obtain ⟨l1, hl1⟩ : ∃ l, ls[1]? = some l := ⟨_, List.getElem?_eq_getElem (h := by omega)⟩
          have g0 := hg' l0 (List.mem_of_getElem? hl0)
          have g1 := hg' l1 (List.mem_of_getElem? hl1)
          have a0 : atI (ls.map fun l => V.str (W l)) 0 = some (V.str (W l0)) := atI_nat (j := 0) (by rw [List.getElem?_map, hl0]; rfl)
          have a1 : atI (ls.map fun l => V.str (W l)) 1 = some (V.str (W l1)) := atI_nat (j := 1) (by rw [List.getElem?_map, hl1]; rfl)
          have lrd := len_red (l1 ++ l0)
          rw [List.length_append] at lrd
          refine ⟨D, rfl, _, hF2, _, a1, D, rfl, _, hF2, _, a0, _, rfl, _, rfl, by rw [W_len, W_len]; omega, ?_⟩
          rw [cat_W]
          refine ⟨_, rfl, fun ch hc => (List.mem_append.mp hc).elim (g1.1.sg ch) (g0.1.sg ch), by rw [List.length_append]; omega, fun F3 s3 => ?_⟩
          have hF3 : WsAt F3 D ls := s3 _ _ hF2
          refine ⟨D, rfl, _, hF3, 0, ?_, ?_⟩
          · rw [hxl]
            unfold ixN
            rw [if_pos (by decide), if_pos (by omega)]
            rfl
          · have eset : (ls.map fun l => V.str (W l)).set 0 (V.str (W (red (l1 ++ l0)))) = (ls.set 0 (red (l1 ++ l0))).map fun l => V.str (W l) := by rw [List.map_set]
            rw [eset]
            refine tail _ (ls.set 0 (red (l1 ++ l0))) upd_same (fun l hl => ?_) (fun lz h => by rw [List.length_set, List.getElem?_set_ne (by omega)] at h; exact (hg' lz (List.mem_of_getElem? h)).2) (by rw [List.length_set]; exact hdn) (fun b o nb e => by rw [upd_ne (ne_none e fD)]; exact s3 _ _ (bt2 b o nb (btH2 b o nb e))) (GenOk.le ((gk2.but s3).set nDg) (by omega))
            rcases List.mem_or_eq_of_mem_set hl with h | h
            · exact ⟨(hg' l h).1, by have := (hg' l h).2; omega⟩
            · subst h
              exact ⟨fun ch hc => (List.mem_append.mp (mem_red hc)).elim (g1.1 ch) (g0.1 ch), by omega⟩
        · rw [if_neg (fun z => hr (V.int.inj z))]
          exact tail F2 ls hF2 (fun l hl => ⟨(hg' l hl).1, by have := (hg' l hl).2; omega⟩) (fun lz h => (hg' lz (List.mem_of_getElem? h)).2) hdn (btH2.trans bt2) (gk2.le (by omega))
      · rw [if_neg (by omega)]
        exact tail H2 ls hD (fun l hl => ⟨(hg' l hl).1, by have := (hg' l hl).2; omega⟩) (fun lz h => (hg' lz (List.mem_of_getElem? h)).2) hdn btH2 (gk'.le (by omega))
end

end K29

namespace K29
open PySem PySem.Spec PyProof.Rows L2 G1 MW
abbrev s_law_way : Stmt := topS 63
theorem sc_law_way : FnScope ["_law_rows_here", "_law_word_here", "_law_found", "_law_number", "_law_other"] ["_law_rows_here", "_law_word_here"] (defScope s_law_way) := ⟨rfl, rfl, rfl, by decide +kernel, rfl, by decide +kernel, by decide +kernel⟩
local macro_rules | `(tactic| walk_at "rd") => `(tactic| simp only [L2.iZip, G1.rGtD, L2.rMin, L2.tLockE, L2.iKeys, L2.iEnum, L2.ipI, L2.rIn, L2.tPairs, L2.rSetD, L2.tDNewK, G1.tCallK3, G1.tCallK4, G1.tFldA, G1.tCallM, G1.tMakeO, L2.sFld, L2.rExtend, L2.tDNotIn, L2.tDIn, L2.tDGet2, L2.tDisp, L2.rPopAt, L2.tLstRg, L2.tRg1, G1.tMakeO2, G1.rOwnI, G1.rCntN, L2.tPar3, L2.tSeq, L2.tAug, L2.tTup, G1.tCallK3b, G1.tMt, G1.tMinK, G1.rIsTu, L2.rIxT, G1.rTr, G1.rLtD, if_true, if_false, L2.rNotB, L2.rMax, L2.iRng2,L2.tSeq, G1.iEnumS, L2.tDGet, L2.gTup, L2.gCons, L2.gNil, L2.tPar, L2.rIxS, G1.tRepU, L2.rSlS, L2.iStr, L2.tNotV, G1.rIsV, G1.mk_int, G1.mk_bool, G1.mk_str, G1.mk_list, G1.tCallX, V.ty.injEq, L2.tChain, L2.rIsB, G1.tRevS, L2.tM0, L2.tM1, L2.tCallS, G1.tCallK2, G1.tMkR, L2.rAll, L2.rPop, L2.tBM0, L2.tRevL, L2.tAsg, L2.tOp, L2.rI, L2.rI0, L2.tVar, L2.tC, L2.tCB, L2.tCons, L2.tNil, L2.tRet, L2.gName, L2.start, L2.tIf, L2.tIfS, L2.tTest, L2.tNext, L2.rIxL, L2.tSl, L2.rSlL, L2.tNoPart, L2.tPart, L2.tLst, L2.tTup, L2.rSum, L2.tBits, L2.gSub, L2.rSetL, L2.rCat, L2.tDrop, L2.tBM, L2.tBM0, L2.rAppend, L2.tYes, L2.tB, L2.tAnd, L2.tOr, L2.tNot, L2.tAndV, L2.tOrV, G1.tCallO, G1.tXm, G1.tXn, G1.tXv, HO.lst.injEq, HO.tup.injEq, Nat.reduceAdd, Nat.zero_add, List.set_cons_zero, List.set_cons_succ, G1.tFor_eq, G1.tLc_eq, G1.rIxM, G1.rLenM, G1.rSlM, G1.atI_0, G1.atI_1, G1.atI_2, G1.ixN_0, G1.ixN_2, L2.upd_same, L2.upd_upd, and_assoc, L2.iRng1, L2.iList, L2.tUn, L2.rU, G1.rRepS, L2.wipe, List.foldl, L2.rEq, L2.rNe, List.map, List.replicate, List.length, List.append, List.set, List.getElem?_cons_zero, List.getElem?_cons_succ, List.cons_append, List.nil_append, Option.some.injEq, V.int.injEq, V.bl.injEq, V.ref.injEq, V.str.injEq, List.cons.injEq, reduceCtorEq, false_and, and_false, exists_false, or_false, false_or, exists_and_left, exists_and_right, exists_eq_left', exists_eq_left, true_and, and_true, Nat.sub_self, decide_eq_true_eq])
section
variable {P : Program} {w : World} {K : PySem.W.Frag} {mg : Str → Option Value} {base : Heap} {c : Nat → Addr} {cF cW cG : Addr}
def spLWay (K : PySem.W.Frag) : Sp := fun vs H Q _ => ∃ (R : Addr) (ts : List Addr) (rows : List (List (Option Nat))) (size : Nat) (l : List Nat), vs = [.ref R, .str (W l)] ∧ RowsL H R ts rows ∧ Shape size rows ∧ Sg l ∧ (∀ ch ∈ l, num ch < size) ∧ l.length ≤ 100000 ∧
  ∀ H' q, Same H H' → H q = none → NumsAt H' q (wayL (MN.rowsD rows) 0 ((red l).map num)) → Q (.ref q) H'
theorem ok_lway (S : Src K mg "_law_way" s_law_way) (T : Txt P w K mg base c cF cW cG) (C_law_plain : OkD P w K mg base 2 "_law_plain" ["_law_word_here"] spPlain) (C_law_numbers : OkD P w K mg base 1 "_law_numbers" ["_law_word_here"] spNumbers) : OkD P w K mg base 3 "_law_way" ["_law_rows_here", "_law_word_here"] (spLWay K) := by
  refine okd S (fun f fd F => F.ok sc_law_way (fun vs H Q E h => ?_) (fun cdv A outer s H vs Q E hr h => ?_)) (fun _ _ _ _ _ _ us hl => match us, hl with | [_, _], _ => rfl)
  · obtain ⟨_, _, _, _, _, rfl, _⟩ := h
    rfl
  · obtain ⟨R, ts, rows, size, l, rfl, hR, hS, hl, hls, hll, q⟩ := h
    refine ⟨_, ((pss_cons (ps_set (i := 2) sc_law_way.nd rfl (.inl rfl) (pe_lst (pa_cons pe_int pa_nil)))
      (pss_cons (ps_for PassesOwn.never rfl (pi_list (pe_callO C_law_numbers (hr.mono (by decide)) (by rfl) (pa_cons (pe_callO C_law_plain (hr.mono (by decide)) (by rfl) (pa_cons (pv 1) pa_nil)) pa_nil))) (pg_name (i := 3) sc_law_way.nd rfl (.inl rfl)) (pss_cons (ps_set (i := 4) sc_law_way.nd rfl (.inl rfl) (pe_ix ix_lM (pe_ix ix_lM (pv 0) (pe_ix ix_lM (pv 2) (pe_op op_sub (pe_callB call_lenM (by rfl) T.n_len PySem.boot_len (pa_cons (pv 2) pa_nil)) pe_int) (fun _ _ => rfl)) (fun _ _ => rfl)) (pv 3) (fun _ _ => rfl)))
      (pss_cons (ps_if (pt_cmpR op_isN (pv 4) pe_non (nomark _)) (pss_one (ps_ret (pv 2))) pss_nil)
      (pss_one (ps_expr (pe_bm PySem.F.plainAttrs_list PySem.F.slot_list_append PySem.F.type_list_append mt_append (pv 2) (pa_cons (pv 4) pa_nil)))))))
      (pss_one (ps_ret (pv 2)))))), ?_⟩
    walk_at "rd"
    have hsz := sizeLine_eq
    have hredl : (red l).length ≤ l.length := len_red l
    refine ⟨by omega, fun p np => ?_⟩
    refine ⟨l, rfl, hl, by omega, fun H1 s1 => ⟨red l, rfl, fun x hx => hl x (mem_red hx), by omega, fun b H2 s2 nb hb => ?_⟩⟩
    have hns : ∀ s ∈ (red l).map num, s < size := fun s hs => by
      obtain ⟨ch, hc, rfl⟩ := List.mem_map.mp hs
      exact hls ch (mem_red hc)
    have hnl : ((red l).map num).length ≤ 100000 := by rw [List.length_map]; omega
    generalize (red l).map num = ns at *
    have h2p : H2 p = some (.lst [.int 0]) := s2 _ _ (s1 _ _ upd_same)
    have pb : b ≠ p := fun z => by rw [z, s1 _ _ upd_same] at nb; cases nb
    have s02 : Same H H2 := (same_upd np).trans (s1.trans s2)
    have hb0 : H2 b = some (.lst (ns.map fun n => V.int (n : Nat))) := hb
    refine ⟨b, rfl, ⟨_, SqL.of hb0⟩, ?_⟩
    refine loop_list (xs := ns.map fun n => V.int (n : Nat)) (fun i σ H' => ∃ (pre : List Nat) (pp : Nat) (v3 v4 : Option V), σ = [some (.ref R), some (.str (W l)), some (.ref p), v3, v4] ∧ Same H H' ∧ H' b = some (.lst (ns.map fun n => V.int (n : Nat))) ∧ H' p = some (.lst ((pre ++ [pp]).map fun n => V.int (n : Nat))) ∧ pp < rows.length ∧ pre.length = i ∧ wayL (MN.rowsD rows) 0 ns = pre ++ wayL (MN.rowsD rows) pp (ns.drop i)) ⟨[], 0, none, none, rfl, s02, hb0, h2p, hS.1, rfl, rfl⟩ (fun i σ H' hi ⟨_, _, _, _, _, _, hb', _⟩ => SqL.of hb') ?_ ?_
    · rintro i x σ H1 hx ⟨pre, pp, v3, v4, rfl, s1, h1b, h1p, hpp, hpl, hw⟩
      rw [List.getElem?_map] at hx
      obtain ⟨s, hs, rfl⟩ := Option.map_eq_some_iff.mp hx
      have hil := (List.getElem?_eq_some_iff.mp hs).1
      have hss := hns s (List.mem_of_getElem? hs)
      walk_at "rd"
      have hrow := List.getElem?_eq_getElem hpp
      have hti : pp < ts.length := by rw [hR.ln]; exact hpp
      have htt := List.getElem?_eq_getElem hti
      have hR1 := hR.same s1
      have hrv := hR1.row pp _ _ htt hrow
      obtain ⟨hrl, hrq⟩ := hS.2 _ (List.getElem_mem hpp)
      have hsr : s < (rows[pp]).length := by rw [hrl]; exact hss
      have hD : MN.rowsD rows pp s = (rows[pp])[s] := by
        unfold MN.rowsD
        rw [hrow]
        show (rows[pp][s]?).join = _
        rw [List.getElem?_eq_getElem hsr]
        rfl
      have hlast : atI ((pre ++ [pp]).map fun n => V.int (n : Nat)) ((((pre ++ [pp]).map fun n => V.int (n : Nat)).length : Int) - 1) = some (V.int (pp : Nat)) := by
        rw [List.length_map, List.length_append, List.length_singleton, show (((pre.length + 1 : Nat) : Int) - 1) = ((pre.length : Nat) : Int) by omega]
        refine atI_nat ?_
        rw [List.getElem?_map, List.getElem?_append_right (Nat.le_refl _), Nat.sub_self]
        rfl
      refine ⟨_, h1p, _, h1p, _, hlast, _, _, rfl, hR1.hl, _, atI_nat (by rw [List.getElem?_map, htt]; rfl), _, rfl, _, hrv, ov (rows[pp])[s], atI_nat (by rw [List.getElem?_map, List.getElem?_eq_getElem hsr]; rfl), ?_⟩
      have dg := MN.drop_get hs
      rw [dg, wayL, hD] at hw
      cases e : (rows[pp])[s] with
      | none =>
        rw [if_pos (by simp [ov])]
        rw [e] at hw
        refine q H1 p s1 np ?_
        unfold NumsAt
        rw [hw]
        exact h1p
      | some r =>
        rw [e] at hw
        rw [if_neg (by simp [ov])]
        have hr : r < rows.length := hrq r (by rw [← e]; exact List.getElem_mem hsr)
        refine ⟨.inl ⟨rfl, _, .inl (.inl h1p)⟩, _, h1p, by rw [List.length_map, List.length_append, hpl]; show i + 1 < _; omega, ⟨_, rfl⟩, ⟨_, rfl⟩, same_over s1 np, by rw [upd_ne pb]; exact h1b, pre ++ [pp], r, ?_, hr, by rw [List.length_append, hpl]; rfl, by rw [hw]; simp⟩
        rw [List.map_append (l₁ := pre ++ [pp])]
        rfl
    · rintro σ H1 ⟨pre, pp, v3, v4, rfl, s1, h1b, h1p, hpp, hpl, hw⟩
      walk_at "rd"
      refine q H1 p s1 np ?_
      unfold NumsAt
      rw [List.length_map, List.drop_length, wayL] at hw
      rw [hw]
      exact h1p
def spLHas (K : PySem.W.Frag) : Sp := fun vs H Q _ => ∃ (R : Addr) (ts : List Addr) (rows : List (List (Option Nat))) (size : Nat) (l : List Nat), vs = [.ref R, .str (W l)] ∧ RowsL H R ts rows ∧ Shape size rows ∧ Sg l ∧ (∀ ch ∈ l, num ch < size) ∧ l.length ≤ 100000 ∧
  ∀ H', Same H H' → Q (.bl (decide (MN.run (MN.rowsD rows) 0 ((red l).map num) = some 0))) H'
end

end K29

namespace K29
open PySem PySem.Spec PyProof.Rows L2 G1 MW
abbrev s_law_together : Stmt := topS 59
theorem sc_law_together : FnScope ["_law_lanes", "_law_kept", "_law_gone", "_law_found", "_law_low", "_law_letter", "_law_high", "_law_lane"] ["_law_lanes", "_law_kept", "_law_gone"] (defScope s_law_together) := ⟨rfl, rfl, rfl, by decide +kernel, rfl, by decide +kernel, by decide +kernel⟩
abbrev s_law_leading : Stmt := topS 57
theorem sc_law_leading : FnScope ["_law_lanes", "_law_found", "_law_low", "_law_letter", "_law_high", "_law_key_here", "_law_spot"] ["_law_lanes"] (defScope s_law_leading) := ⟨rfl, rfl, rfl, by decide +kernel, rfl, by decide +kernel, by decide +kernel⟩
local macro_rules | `(tactic| walk_at "rd") => `(tactic| simp only [L2.iZip, G1.rGtD, L2.rMin, L2.tLockE, L2.iKeys, L2.iEnum, L2.ipI, L2.rIn, L2.tPairs, L2.rSetD, L2.tDNewK, G1.tCallK3, G1.tCallK4, G1.tFldA, G1.tCallM, G1.tMakeO, L2.sFld, L2.rExtend, L2.tDNotIn, L2.tDIn, L2.tDGet2, L2.tDisp, L2.rPopAt, L2.tLstRg, L2.tRg1, G1.tMakeO2, G1.rOwnI, G1.rCntN, L2.tPar3, L2.tSeq, L2.tAug, L2.tTup, G1.tCallK3b, G1.tMt, G1.tMinK, G1.rIsTu, L2.rIxT, G1.rTr, G1.rLtD, if_true, if_false, L2.rNotB, L2.rMax, L2.iRng2,L2.tSeq, G1.iEnumS, L2.tDGet, L2.gTup, L2.gCons, L2.gNil, L2.tPar, L2.rIxS, G1.tRepU, L2.rSlS, L2.iStr, L2.tNotV, G1.rIsV, G1.mk_int, G1.mk_bool, G1.mk_str, G1.mk_list, G1.tCallX, V.ty.injEq, L2.tChain, L2.rIsB, G1.tRevS, L2.tM0, L2.tM1, L2.tCallS, G1.tCallK2, G1.tMkR, L2.rAll, L2.rPop, L2.tBM0, L2.tRevL, L2.tAsg, L2.tOp, L2.rI, L2.rI0, L2.tVar, L2.tC, L2.tCB, L2.tCons, L2.tNil, L2.tRet, L2.gName, L2.start, L2.tIf, L2.tIfS, L2.tTest, L2.tNext, L2.rIxL, L2.tSl, L2.rSlL, L2.tNoPart, L2.tPart, L2.tLst, L2.tTup, L2.rSum, L2.tBits, L2.gSub, L2.rSetL, L2.rCat, L2.tDrop, L2.tBM, L2.tBM0, L2.rAppend, L2.tYes, L2.tB, L2.tAnd, L2.tOr, L2.tNot, L2.tAndV, L2.tOrV, G1.tCallO, G1.tXm, G1.tXn, G1.tXv, HO.lst.injEq, HO.tup.injEq, Nat.reduceAdd, Nat.zero_add, List.set_cons_zero, List.set_cons_succ, G1.tFor_eq, G1.tLc_eq, G1.rIxM, G1.rLenM, G1.rSlM, G1.atI_0, G1.atI_1, G1.atI_2, G1.ixN_0, G1.ixN_2, L2.upd_same, L2.upd_upd, and_assoc, L2.iRng1, L2.iList, L2.tUn, L2.rU, G1.rRepS, L2.wipe, List.foldl, L2.rEq, L2.rNe, List.map, List.replicate, List.length, List.append, List.set, List.getElem?_cons_zero, List.getElem?_cons_succ, List.cons_append, List.nil_append, Option.some.injEq, V.int.injEq, V.bl.injEq, V.ref.injEq, V.str.injEq, List.cons.injEq, reduceCtorEq, false_and, and_false, exists_false, or_false, false_or, exists_and_left, exists_and_right, exists_eq_left', exists_eq_left, true_and, and_true, Nat.sub_self, decide_eq_true_eq])
section
variable {P : Program} {w : World} {K : PySem.W.Frag} {mg : Str → Option Value} {base : Heap} {c : Nat → Addr} {cF cW cG : Addr}
def lnV (x : MN.Ln) : List V := [.int (x.1 : Nat), .int (x.2.1 : Nat), .int (x.2.2 : Nat)]
def lnD (x : MN.Ln) : PyData := .tuple [.int (x.1 : Nat), .int (x.2.1 : Nat), .int (x.2.2 : Nat)]
/-- a list of lanes -/
structure LnsAt (H : Hp) (a : Addr) (ts : List Addr) (ls : List MN.Ln) : Prop where
  hl : H a = some (.lst (ts.map V.ref))
  ln : ts.length = ls.length
  tp : ∀ (i : Nat) (t : Addr) (x : MN.Ln), ts[i]? = some t → ls[i]? = some x → H t = some (.tup (lnV x))
theorem LnsAt.same {H H' : Hp} {a : Addr} {ts : List Addr} {ls : List MN.Ln} (L : LnsAt H a ts ls) (s : Same H H') : LnsAt H' a ts ls := ⟨s _ _ L.hl, L.ln, fun i t x e1 e2 => s _ _ (L.tp i t x e1 e2)⟩
theorem LnsAt.nil {H : Hp} {a : Addr} (h : H a = some (.lst [])) : LnsAt H a [] [] := ⟨h, rfl, fun _ _ _ e => nomatch e⟩
theorem LnsAt.snoc {H : Hp} {a t : Addr} {ts : List Addr} {ls : List MN.Ln} {x : MN.Ln} (L : LnsAt H a ts ls) (ht : H t = some (.tup (lnV x))) : LnsAt (upd H a (.lst (ts.map V.ref ++ [.ref t]))) a (ts ++ [t]) (ls ++ [x]) := by
  have ne : ∀ u y, H u = some (.tup (lnV y)) → u ≠ a := fun u y e z => by rw [z, L.hl] at e; cases e
  refine ⟨by rw [upd_same, List.map_append]; rfl, by rw [List.length_append, List.length_append, L.ln]; rfl, fun i u y e1 e2 => ?_⟩
  rcases Nat.lt_or_ge i ts.length with h | h
  · rw [List.getElem?_append_left h] at e1
    rw [List.getElem?_append_left (by rw [← L.ln]; exact h)] at e2
    have := L.tp i u y e1 e2
    rw [upd_ne (ne u y this)]
    exact this
  · rw [List.getElem?_append_right h] at e1
    rw [List.getElem?_append_right (by rw [← L.ln]; exact h), ← L.ln] at e2
    have hi : i - ts.length = 0 := by
      have := (List.getElem?_eq_some_iff.mp e1).1
      simp at this
      omega
    rw [hi] at e1 e2
    cases e1
    cases e2
    rw [upd_ne (ne _ _ ht)]
    exact ht
theorem dp_ln {H : Hp} {t : Addr} {x : MN.Ln} (h : H t = some (.tup (lnV x))) : Dp K H (.ref t) (lnD x) := .tup (SqT.of h) (.cons (.int _) (.cons (.int _) (.cons (.int _) .nil)))
theorem dp_lnsA {H : Hp} : ∀ (ts : List Addr) (ls : List MN.Ln), ts.length = ls.length → (∀ (i : Nat) (t : Addr) (x : MN.Ln), ts[i]? = some t → ls[i]? = some x → H t = some (.tup (lnV x))) → DpAll K H (ts.map V.ref) (ls.map lnD)
  | [], [], _, _ => .nil
  | t :: ts, x :: ls, h, f => .cons (dp_ln (f 0 t x rfl rfl)) (dp_lnsA ts ls (by simpa using h) fun i u y e1 e2 => f (i + 1) u y e1 e2)
theorem LnsAt.dp {H : Hp} {a : Addr} {ts : List Addr} {ls : List MN.Ln} (L : LnsAt H a ts ls) : Dp K H (.ref a) (.list (ls.map lnD)) := .lst (SqL.of L.hl) (dp_lnsA ts ls L.ln L.tp)
theorem ln_lay : ∀ x : MN.Ln, SeqAt.shaped (lnD x) = true := fun x => rfl
theorem lns_lay : ∀ ls : List MN.Ln, PyData.canLayAll0 (ls.map lnD) = true ∧ PyData.depthAll (ls.map lnD) ≤ 1
  | [] => ⟨rfl, by decide⟩
  | x :: ls => by
    obtain ⟨h1, h2⟩ := lns_lay ls
    refine ⟨?_, ?_⟩
    · rw [List.map_cons, PyData.canLayAll0, h1]
      rfl
    · rw [List.map_cons, PyData.depthAll]
      have : (lnD x).depth = 1 := rfl
      omega
theorem lns_shaped (ls : List MN.Ln) : SeqAt.shaped (.list (ls.map lnD)) = true := by
  obtain ⟨h1, h2⟩ := lns_lay ls
  unfold SeqAt.shaped
  rw [PyData.canLay0, PyData.depth, h1, Bool.true_and, decide_eq_true_eq]
  omega
theorem eqv_ln (x y : MN.Ln) : PyData.eqv (lnD x) (lnD y) = decide (x = y) := by
  obtain ⟨a, b, c⟩ := x
  obtain ⟨d, e, f⟩ := y
  simp only [lnD, PyData.eqv, PyData.eqvAll, Bool.and_true]
  rw [Bool.eq_iff_iff]
  simp only [Bool.and_eq_true, beq_iff_eq, decide_eq_true_eq, Prod.mk.injEq]
  omega
theorem any_ln (ls : List MN.Ln) (x : MN.Ln) : (ls.map lnD).any (fun z => PyData.eqv z (lnD x)) = decide (x ∈ ls) := by
  rw [Bool.eq_iff_iff]
  simp only [List.any_map, List.any_eq_true, Function.comp, eqv_ln, decide_eq_true_eq]
  exact ⟨fun ⟨y, h, e⟩ => e ▸ h, fun h => ⟨x, h, rfl⟩⟩
/-- `x not in ls` -/
theorem notin_ln {H : Hp} {a t : Addr} {ts : List Addr} {ls : List MN.Ln} {x : MN.Ln} {Q : VK} (L : LnsAt H a ts ls) (ht : H t = some (.tup (lnV x))) (k : Q (.bl (!decide (x ∈ ls))) H) : rNotInD K (.ref t) (.ref a) H Q :=
  ⟨_, _, dp_ln ht, L.dp, ln_lay x, lns_shaped ls, by rw [any_ln]; exact k⟩
theorem uniq_snoc {α : Type} [DecidableEq α] (xs : List α) (x : α) : MN.uniq (xs ++ [x]) = if x ∈ MN.uniq xs then MN.uniq xs else MN.uniq xs ++ [x] := by
  unfold MN.uniq
  rw [List.foldl_append]
  rfl
theorem uniq_len {α : Type} [DecidableEq α] (xs : List α) : (MN.uniq xs).length ≤ xs.length := by
  have := (MN.uniq_go_len xs []).1
  rw [List.length_nil, Nat.zero_add] at this
  exact this
def spTog : Sp := fun vs H Q _ => ∃ (a : Addr) (ts : List Addr) (ls : List MN.Ln) (kept gone : Nat), vs = [.ref a, .int (kept : Nat), .int (gone : Nat)] ∧ LnsAt H a ts ls ∧ ls.length ≤ 100000 ∧
  ∀ H' q us, Same H H' → H q = none → LnsAt H' q us (MN.together kept gone ls) → Q (.ref q) H'
theorem ok_together (S : Src K mg "_law_together" s_law_together) (T : Txt P w K mg base c cF cW cG) : OkD P w K mg base 1 "_law_together" ["_law_lanes", "_law_kept", "_law_gone"] spTog := by
  refine okd S (fun f fd F => F.ok sc_law_together (fun vs H Q E h => ?_) (fun cdv A outer s H vs Q E hr h => ?_)) (fun _ _ _ _ _ _ us hl => match us, hl with | [_, _, _], _ => rfl)
  · obtain ⟨_, _, _, _, _, rfl, _⟩ := h
    rfl
  · obtain ⟨a, ts, ls, kept, gone, rfl, hL, hll, q⟩ := h
    refine ⟨_, ((pss_cons (ps_set (i := 3) sc_law_together.nd rfl (.inl rfl) (pe_lst pa_nil))
      (pss_cons (ps_for PassesOwn.never rfl (pi_list (pv 0)) (pg_tup (by rfl) (pgs_cons (pg_name (i := 4) sc_law_together.nd rfl (.inl rfl)) (pgs_cons (pg_name (i := 5) sc_law_together.nd rfl (.inl rfl)) (pgs_cons (pg_name (i := 6) sc_law_together.nd rfl (.inl rfl)) pgs_nil)))) (pss_cons (ps_set (i := 7) sc_law_together.nd rfl (.inl rfl) (pe_tup (pa_cons (pe_ifExp (pt_cmpR op_eq (pv 4) (pv 2) (nomark _)) (pv 1) (pv 4)) (pa_cons (pv 5) (pa_cons (pe_ifExp (pt_cmpR op_eq (pv 6) (pv 2) (nomark _)) (pv 1) (pv 6)) pa_nil)))))
      (pss_one (ps_if (pt_cmpR (op_notInDK K rfl (u65 hr)) (pv 7) (pv 3) rfl) (pss_one (ps_expr (pe_bm PySem.F.plainAttrs_list PySem.F.slot_list_append PySem.F.type_list_append mt_append (pv 3) (pa_cons (pv 7) pa_nil)))) pss_nil))))
      (pss_one (ps_ret (pv 3)))))), ?_⟩
    walk_at "rd"
    have hsz := sizeLine_eq
    refine ⟨by omega, fun p np => ⟨⟨_, SqL.of (same_upd np _ _ hL.hl)⟩, ?_⟩⟩
    refine loop_list (xs := ts.map V.ref) (fun i σ H' => ∃ (us : List Addr) (v4 v5 v6 v7 : Option V), σ = [some (.ref a), some (.int (kept : Nat)), some (.int (gone : Nat)), some (.ref p), v4, v5, v6, v7] ∧ Same H H' ∧ LnsAt H' p us (MN.uniq ((ls.take i).map (MN.phiL kept gone)))) ⟨[], none, none, none, none, rfl, same_upd np, LnsAt.nil upd_same⟩ (fun i σ H' hi ⟨_, _, _, _, _, _, s', _⟩ => SqL.of (s' _ _ hL.hl)) ?_ ?_
    · rintro i x σ H1 hx ⟨us, v4, v5, v6, v7, rfl, s1, hU⟩
      rw [List.getElem?_map] at hx
      obtain ⟨t, ht, rfl⟩ := Option.map_eq_some_iff.mp hx
      have hil : i < ls.length := by rw [← hL.ln]; exact (List.getElem?_eq_some_iff.mp ht).1
      have hlx := List.getElem?_eq_getElem hil
      have htx := s1 _ _ (hL.tp i t _ ht hlx)
      rw [take_step hlx, List.map_append, List.map_singleton, uniq_snoc]
      have hol : (MN.uniq ((ls.take i).map (MN.phiL kept gone))).length ≤ 100000 := by
        have := uniq_len ((ls.take i).map (MN.phiL kept gone))
        rw [List.length_map, List.length_take] at this
        omega
      generalize MN.uniq ((ls.take i).map (MN.phiL kept gone)) = o at hU hol ⊢
      generalize ls[i] = x at htx ⊢
      obtain ⟨lo, le, hi⟩ := x
      walk_at "rd"
      have cI : ∀ {a b : Nat}, (V.int (a : Nat) = V.int (b : Nat)) → a = b := fun h => by have := V.int.inj h; omega
      refine ⟨_, SqT.of htx, rfl, _, _, rfl, _, _, rfl, _, _, rfl, rfl, rfl, ?_⟩
      have eA : lo = gone → hi = gone → lnV (MN.phiL kept gone (lo, le, hi)) = [V.int (kept : Nat), V.int (le : Nat), V.int (kept : Nat)] := fun x y => by simp only [lnV, MN.phiL, MN.phi, if_pos x, if_pos y]
      have eB : lo = gone → ¬ hi = gone → lnV (MN.phiL kept gone (lo, le, hi)) = [V.int (kept : Nat), V.int (le : Nat), V.int (hi : Nat)] := fun x y => by simp only [lnV, MN.phiL, MN.phi, if_pos x, if_neg y]
      have eC : ¬ lo = gone → hi = gone → lnV (MN.phiL kept gone (lo, le, hi)) = [V.int (lo : Nat), V.int (le : Nat), V.int (kept : Nat)] := fun x y => by simp only [lnV, MN.phiL, MN.phi, if_neg x, if_pos y]
      have eD : ¬ lo = gone → ¬ hi = gone → lnV (MN.phiL kept gone (lo, le, hi)) = [V.int (lo : Nat), V.int (le : Nat), V.int (hi : Nat)] := fun x y => by simp only [lnV, MN.phiL, MN.phi, if_neg x, if_neg y]
      split <;> (rename_i h1; refine ⟨rfl, ?_⟩; split) <;> rename_i h2 <;> refine ⟨by omega, fun b nb => ?_⟩
      all_goals
        first | have e := eA (cI h1) (cI h2) | have e := eB (cI h1) (fun z => h2 (by rw [z])) | have e := eC (fun z => h1 (by rw [z])) (cI h2) | have e := eD (fun z => h1 (by rw [z])) (fun z => h2 (by rw [z]))
        clear eA eB eC eD
        generalize MN.phiL kept gone (lo, le, hi) = y at e ⊢
        refine notin_ln (hU.same (same_upd nb)) (by rw [e]; exact upd_same) ⟨_, rfl, ?_⟩
        by_cases m : y ∈ o
        · rw [if_neg (by simp [m])]
          exact ⟨⟨_, rfl⟩, ⟨_, rfl⟩, ⟨_, rfl⟩, ⟨_, rfl⟩, s1.trans (same_upd nb), us, by rw [if_pos m]; exact hU.same (same_upd nb)⟩
        · rw [if_pos (by simp [m])]
          exact ⟨.inl ⟨rfl, _, .inl (.inl (same_upd nb _ _ hU.hl))⟩, _, same_upd nb _ _ hU.hl, by rw [List.length_map, hU.ln]; omega, ⟨_, rfl⟩, ⟨_, rfl⟩, ⟨_, rfl⟩, ⟨_, rfl⟩, same_over (s1.trans (same_upd nb)) np, us ++ [b], by rw [if_neg m]; exact (hU.same (same_upd nb)).snoc (by rw [e]; exact upd_same)⟩
    · rintro σ H1 ⟨us, v4, v5, v6, v7, rfl, s1, hU⟩
      walk_at "rd"
      rw [List.length_map, hL.ln, List.take_length] at hU
      exact q H1 p us s1 np hU
abbrev ky (p s : Nat) : List L2.Key := [Sum.inl ((p : Nat) : Int), Sum.inl ((s : Nat) : Int)]
theorem ky_inj {p s p' s' : Nat} : ky p s = ky p' s' ↔ p = p' ∧ s = s' := by
  constructor
  · intro h
    simp only [ky, List.cons.injEq, Sum.inl.injEq, and_true] at h
    omega
  · rintro ⟨rfl, rfl⟩
    rfl
/-- a dict of lists of spots -/
structure LedF (H : Hp) (kvs : List (List L2.Key × V)) (g : Nat → Nat → List Nat) : Prop where
  val : ∀ p s, (g p s = [] ∧ valV kvs (ky p s) = none) ∨ (g p s ≠ [] ∧ ∃ t, valV kvs (ky p s) = some (.ref t) ∧ NumsAt H t (g p s))
  keys : ∀ e ∈ kvs, ∃ p s, e.1 = ky p s ∧ g p s ≠ []
theorem LedF.frame {H H' : Hp} {kvs : List (List L2.Key × V)} {g : Nat → Nat → List Nat} (L : LedF H kvs g) (h : ∀ t ns, NumsAt H t ns → NumsAt H' t ns) : LedF H' kvs g :=
  ⟨fun p s => (L.val p s).imp id fun ⟨a, t, b, c⟩ => ⟨a, t, b, h _ _ c⟩, L.keys⟩
def stp (g : Nat → Nat → List Nat) (p0 s0 x : Nat) : Nat → Nat → List Nat := fun p s => if p = p0 ∧ s = s0 then g p s ++ [x] else g p s
theorem putK_keys {kvs : List (List L2.Key × V)} {k : List L2.Key} {v : V} {e : List L2.Key × V} (h : e ∈ putK kvs k v) : e.1 = k ∨ ∃ e' ∈ kvs, e'.1 = e.1 := by
  unfold putK at h
  split at h
  · obtain ⟨e', he, rfl⟩ := List.mem_map.mp h
    by_cases z : e'.1 = k
    · left
      rw [if_pos z]
      exact z
    · right
      rw [if_neg z]
      exact ⟨e', he, rfl⟩
  · rcases List.mem_append.mp h with h | h
    · exact .inr ⟨e, h, rfl⟩
    · rw [List.mem_singleton.mp h]
      exact .inl rfl
theorem LedF.put {H : Hp} {kvs : List (List L2.Key × V)} {g : Nat → Nat → List Nat} (L : LedF H kvs g) {p0 s0 x : Nat} {t : Addr} (ht : NumsAt H t (g p0 s0 ++ [x])) : LedF H (putK kvs (ky p0 s0) (.ref t)) (stp g p0 s0 x) := by
  refine ⟨fun p s => ?_, fun e he => ?_⟩
  · rw [valV_put]
    unfold stp
    by_cases h : p = p0 ∧ s = s0
    · obtain ⟨rfl, rfl⟩ := h
      rw [if_pos ⟨rfl, rfl⟩, if_pos rfl]
      exact .inr ⟨by simp, t, rfl, ht⟩
    · rw [if_neg h, if_neg (fun z => h (ky_inj.mp z))]
      exact L.val p s
  · rcases putK_keys he with h | ⟨e', h, h2⟩
    · exact ⟨p0, s0, h, by simp [stp]⟩
    · obtain ⟨p, s, a, b⟩ := L.keys e' h
      refine ⟨p, s, by rw [← h2, a], ?_⟩
      unfold stp
      split
      · simp
      · exact b
theorem ld_snoc (ls : List MN.Ln) (lo le hi : Nat) : stp (stp (MN.ld ls) lo (2 * le) hi) hi (2 * le + 1) lo = MN.ld (ls ++ [(lo, le, hi)]) := by
  funext p s
  unfold stp MN.ld
  rw [List.flatMap_append, List.flatMap_singleton]
  by_cases h1 : p = lo ∧ s = 2 * le
  · obtain ⟨rfl, rfl⟩ := h1
    have h2 : ¬ (p = hi ∧ 2 * le = 2 * le + 1) := by omega
    have h3 : ¬ (hi = p ∧ 2 * le + 1 = 2 * le) := by omega
    simp only [h2, h3, if_false, and_self, if_true, List.append_nil]
  · by_cases h2 : p = hi ∧ s = 2 * le + 1
    · obtain ⟨rfl, rfl⟩ := h2
      have h3 : ¬ (lo = p ∧ 2 * le = 2 * le + 1) := by omega
      simp only [h1, h3, if_false, and_self, if_true, List.nil_append]
    · have h3 : ¬ (lo = p ∧ 2 * le = s) := by omega
      have h4 : ¬ (hi = p ∧ 2 * le + 1 = s) := by omega
      simp only [h1, h2, h3, h4, if_false, List.append_nil]
theorem ld_len (ls : List MN.Ln) (p s : Nat) : (MN.ld ls p s).length ≤ 2 * ls.length := by
  unfold MN.ld
  induction ls with
  | nil => simp
  | cons x ls ih =>
    rw [List.flatMap_cons, List.length_append, List.length_append, List.length_cons]
    have h1 : (if x.1 = p ∧ 2 * x.2.1 = s then [x.2.2] else []).length ≤ 1 := by split <;> simp
    have h2 : (if x.2.2 = p ∧ 2 * x.2.1 + 1 = s then [x.1] else []).length ≤ 1 := by split <;> simp
    omega
def spLead : Sp := fun vs H Q _ => ∃ (a : Addr) (ts : List Addr) (ls : List MN.Ln), vs = [.ref a] ∧ LnsAt H a ts ls ∧ (∀ x ∈ ls, x.2.1 < 6) ∧ ls.length ≤ 100000 ∧
  ∀ H' d kvs, Same H H' → H d = none → H' d = some (.dT kvs) → LedF H' kvs (MN.ld ls) → kvs.length ≤ 2 * ls.length → Q (.ref d) H'
theorem ok_leading (S : Src K mg "_law_leading" s_law_leading) (T : Txt P w K mg base c cF cW cG) : OkD P w K mg base 1 "_law_leading" ["_law_lanes"] spLead := by
  refine okd S (fun f fd F => F.ok sc_law_leading (fun vs H Q E h => ?_) (fun cdv A outer s H vs Q E hr h => ?_)) (fun _ _ _ _ _ _ us hl => match us, hl with | [_], _ => rfl)
  · obtain ⟨_, _, _, rfl, _⟩ := h
    rfl
  · obtain ⟨a, ts, ls, rfl, hL, h6, hll, q⟩ := h
    refine ⟨_, ((pss_cons (ps_set (i := 1) sc_law_leading.nd rfl (.inl rfl) pe_dnewT)
      (pss_cons (ps_for PassesOwn.never rfl (pi_list (pv 0)) (pg_tup (by rfl) (pgs_cons (pg_name (i := 2) sc_law_leading.nd rfl (.inl rfl)) (pgs_cons (pg_name (i := 3) sc_law_leading.nd rfl (.inl rfl)) (pgs_cons (pg_name (i := 4) sc_law_leading.nd rfl (.inl rfl)) pgs_nil)))) (pss_one (ps_for PassesOwn.never rfl (pi_list (pe_lst (pa_cons (pe_tup (pa_cons (pe_tup (pa_cons (pv 2) (pa_cons (pe_op op_mulW pe_int (pv 3)) pa_nil))) (pa_cons (pv 4) pa_nil))) (pa_cons (pe_tup (pa_cons (pe_tup (pa_cons (pv 4) (pa_cons (pe_op op_add (pe_op op_mulW pe_int (pv 3)) pe_int) pa_nil))) (pa_cons (pv 2) pa_nil))) pa_nil)))) (pg_tup (by rfl) (pgs_cons (pg_name (i := 5) sc_law_leading.nd rfl (.inl rfl)) (pgs_cons (pg_name (i := 6) sc_law_leading.nd rfl (.inl rfl)) pgs_nil))) (pss_one (ps_asg (pe_op op_cat (pe_dget2 (hu_of hr) (pv 1) (pv 5) (pe_lst pa_nil) ⟨rfl, rfl, rfl, rfl⟩) (pe_lst (pa_cons (pv 6) pa_nil))) (pg_sub (pv 1) (pv 5) (set_dict (hu_of hr))))))))
      (pss_one (ps_ret (pv 1)))))), ?_⟩
    walk_at "rd"
    have hsz := sizeLine_eq
    intro d nd
    refine ⟨⟨_, SqL.of (same_upd nd _ _ hL.hl)⟩, ?_⟩
    refine loop_list (xs := ts.map V.ref) (fun i σ H' => ∃ (kvs : List (List L2.Key × V)) (v2 v3 v4 v5 v6 : Option V), σ = [some (.ref a), some (.ref d), v2, v3, v4, v5, v6] ∧ Same H H' ∧ H' d = some (.dT kvs) ∧ LedF H' kvs (MN.ld (ls.take i)) ∧ kvs.length ≤ 2 * i) ⟨[], none, none, none, none, none, rfl, same_upd nd, upd_same, ⟨fun p s => .inl ⟨rfl, rfl⟩, fun e he => nomatch he⟩, by simp⟩ (fun i σ H' hi ⟨_, _, _, _, _, _, _, s', _⟩ => SqL.of (s' _ _ hL.hl)) ?_ ?_
    · rintro i x σ H1 hx ⟨kvs, v2, v3, v4, v5, v6, rfl, s1, h1d, hF, hk⟩
      rw [List.getElem?_map] at hx
      obtain ⟨t, ht, rfl⟩ := Option.map_eq_some_iff.mp hx
      have hil : i < ls.length := by rw [← hL.ln]; exact (List.getElem?_eq_some_iff.mp ht).1
      have hlx := List.getElem?_eq_getElem hil
      have htx := s1 _ _ (hL.tp i t _ ht hlx)
      have h6x := h6 _ (List.getElem_mem hil)
      rw [take_step hlx]
      generalize ls[i] = x at htx h6x ⊢
      obtain ⟨lo, le, hi⟩ := x
      replace h6x : le < 6 := h6x
      rw [← ld_snoc]
      have hgl : ∀ p s, (MN.ld (ls.take i) p s).length ≤ 2 * ls.length := fun p s => by
        refine Nat.le_trans (ld_len _ p s) ?_
        rw [List.length_take]
        omega
      generalize MN.ld (ls.take i) = g at hF hgl ⊢
      walk_at "rd"
      have cm : CMulW 2 (le : Int) := cmul (by decide) (by rw [Int.natAbs_natCast]; exact Nat.lt_of_lt_of_le h6x (by decide))
      refine ⟨_, SqT.of htx, rfl, _, _, rfl, _, _, rfl, _, _, rfl, rfl, _, rfl, cm, by omega, fun ka nka => ⟨by omega, fun pa npa => ⟨_, rfl, cm, by omega, fun kb nkb => ⟨by omega, fun pb npb => ⟨by omega, fun l nl => ?_⟩⟩⟩⟩⟩
      dsimp only at nka npa nkb npb nl ⊢
      have e2 : (2 : Int) * ((le : Nat) : Int) = ((2 * le : Nat) : Int) := by omega
      have e3 : ((2 * le : Nat) : Int) + 1 = ((2 * le + 1 : Nat) : Int) := by omega
      simp only [e2, e3] at nka npa nkb npb nl ⊢
      clear e2 e3
      have sa := same_upd (o := HO.tup [V.int (lo : Nat), V.int ((2 * le : Nat) : Int)]) nka
      have hka := @upd_same H1 ka (HO.tup [V.int (lo : Nat), V.int ((2 * le : Nat) : Int)])
      generalize upd H1 ka (HO.tup [V.int (lo : Nat), V.int ((2 * le : Nat) : Int)]) = Ha at *
      have sb := same_upd (o := HO.tup [V.ref ka, V.int (hi : Nat)]) npa
      have hpa := @upd_same Ha pa (HO.tup [V.ref ka, V.int (hi : Nat)])
      generalize upd Ha pa (HO.tup [V.ref ka, V.int (hi : Nat)]) = Hb at *
      have sc := same_upd (o := HO.tup [V.int (hi : Nat), V.int ((2 * le + 1 : Nat) : Int)]) nkb
      have hkb := @upd_same Hb kb (HO.tup [V.int (hi : Nat), V.int ((2 * le + 1 : Nat) : Int)])
      generalize upd Hb kb (HO.tup [V.int (hi : Nat), V.int ((2 * le + 1 : Nat) : Int)]) = Hc at *
      have sd := same_upd (o := HO.tup [V.ref kb, V.int (lo : Nat)]) npb
      have hpb := @upd_same Hc pb (HO.tup [V.ref kb, V.int (lo : Nat)])
      generalize upd Hc pb (HO.tup [V.ref kb, V.int (lo : Nat)]) = Hd at *
      have se := same_upd (o := HO.lst [V.ref pa, V.ref pb]) nl
      have hl := @upd_same Hd l (HO.lst [V.ref pa, V.ref pb])
      generalize upd Hd l (HO.lst [V.ref pa, V.ref pb]) = H5 at *
      have s15 := sa.trans (sb.trans (sc.trans (sd.trans se)))
      replace hka := se _ _ (sd _ _ (sc _ _ (sb _ _ hka)))
      replace hpa := se _ _ (sd _ _ (sc _ _ hpa))
      replace hkb := se _ _ (sd _ _ hkb)
      replace hpb := se _ _ hpb
      clear sa sb sc sd se nka npa nkb npb
      have dl : d ≠ l := fun z => by rw [← z, s15 _ _ h1d] at hl; cases hl
      refine ⟨⟨_, SqL.of hl⟩, ?_⟩
      have hF5 : LedF H5 kvs g := hF.frame fun t ns h => s15 _ _ h
      refine loop_list (xs := [V.ref pa, V.ref pb]) (fun j σ H' => ∃ (kvs' : List (List L2.Key × V)) (v5 v6 : Option V) (g' : Nat → Nat → List Nat), σ = [some (.ref a), some (.ref d), some (V.int (lo : Nat)), some (V.int (le : Nat)), some (V.int (hi : Nat)), v5, v6] ∧ Same H H' ∧ H' d = some (.dT kvs') ∧ LedF H' kvs' g' ∧ kvs'.length ≤ 2 * i + j ∧ (∀ p s, (g' p s).length ≤ 2 * ls.length + j) ∧ H' ka = some (HO.tup [V.int (lo : Nat), V.int ((2 * le : Nat) : Int)]) ∧ H' pa = some (HO.tup [V.ref ka, V.int (hi : Nat)]) ∧ H' kb = some (HO.tup [V.int (hi : Nat), V.int ((2 * le + 1 : Nat) : Int)]) ∧ H' pb = some (HO.tup [V.ref kb, V.int (lo : Nat)]) ∧ H' l = some (HO.lst [V.ref pa, V.ref pb]) ∧ g' = (if j = 0 then g else if j = 1 then stp g lo (2 * le) hi else stp (stp g lo (2 * le) hi) hi (2 * le + 1) lo)) ⟨kvs, v5, v6, g, rfl, s1.trans s15, s15 _ _ h1d, hF5, hk, hgl, hka, hpa, hkb, hpb, hl, rfl⟩ (fun j σ H' hj ⟨_, _, _, _, _, _, _, _, _, _, _, _, _, _, h, _⟩ => SqL.of h) ?_ ?_
      · rintro j x σ H2 hx ⟨kvs2, v5', v6', g2, rfl, s2, h2d, hF2, hk2, hgl2, hka2, hpa2, hkb2, hpb2, hl2, hg2⟩
        obtain ⟨b, k, p0, s0, x0, rfl, hb, hkk, hg3⟩ : ∃ (b k : Addr) (p0 s0 x0 : Nat), x = .ref b ∧ H2 b = some (HO.tup [V.ref k, V.int (x0 : Nat)]) ∧ H2 k = some (HO.tup [V.int (p0 : Nat), V.int ((s0 : Nat) : Int)]) ∧ stp g2 p0 s0 x0 = (if j + 1 = 0 then g else if j + 1 = 1 then stp g lo (2 * le) hi else stp (stp g lo (2 * le) hi) hi (2 * le + 1) lo) := by
          match j, hx, hg2 with
          | 0, hx, hg2 =>
            cases hx
            exact ⟨pa, ka, lo, 2 * le, hi, rfl, hpa2, hka2, by rw [hg2]; rfl⟩
          | 1, hx, hg2 =>
            cases hx
            exact ⟨pb, kb, hi, 2 * le + 1, lo, rfl, hpb2, hkb2, by rw [hg2]; rfl⟩
          | j + 2, hx, _ => simp at hx
        walk_at "rd"
        refine ⟨_, SqT.of hb, rfl, _, _, rfl, _, _, rfl, rfl, .inr ⟨kvs2, .inl h2d⟩, by omega, fun e ne => ⟨_, DGet.t (k := ky p0 s0) (same_upd ne _ _ h2d) (same_upd ne _ _ hkk), by omega, fun e1 ne1 => ?_⟩⟩
        obtain ⟨l1, ho, hl1⟩ : ∃ l1, (valV kvs2 (ky p0 s0)).getD (V.ref e) = V.ref l1 ∧ NumsAt (upd H2 e (.lst [])) l1 (g2 p0 s0) := by
          rcases hF2.val p0 s0 with ⟨z1, z2⟩ | ⟨_, t1, z2, z3⟩
          · exact ⟨e, by rw [z2]; rfl, by rw [z1]; exact upd_same⟩
          · exact ⟨t1, by rw [z2]; rfl, same_upd ne _ _ z3⟩
        have sA := (same_upd (o := HO.lst []) ne)
        have sB := sA.trans (same_upd (o := HO.lst [V.int (x0 : Nat)]) ne1)
        refine ⟨l1, ho, (g2 p0 s0).map fun n => V.int (n : Nat), (same_upd ne1) _ _ hl1, by rw [List.length_map]; have := hgl2 p0 s0; have : j < 2 := (List.getElem?_eq_some_iff.mp hx).1; omega, fun e2 ne2 => ?_⟩
        have hne := @upd_same (upd (upd H2 e (HO.lst [])) e1 (HO.lst [V.int (x0 : Nat)])) e2 (HO.lst ((g2 p0 s0).map (fun n => V.int (n : Nat)) ++ [V.int (x0 : Nat)]))
        have sC := sB.trans (same_upd (o := HO.lst ((g2 p0 s0).map (fun n => V.int (n : Nat)) ++ [V.int (x0 : Nat)])) ne2)
        generalize upd (upd (upd H2 e (HO.lst [])) e1 (HO.lst [V.int (x0 : Nat)])) e2 (HO.lst ((g2 p0 s0).map (fun n => V.int (n : Nat)) ++ [V.int (x0 : Nat)])) = H3 at hne sC ⊢
        have h3d := sC _ _ h2d
        have hN : NumsAt H3 e2 (g2 p0 s0 ++ [x0]) := by
          unfold NumsAt
          rw [List.map_append]
          exact hne
        have hF3 := (hF2.frame (H' := H3) fun t ns h => sC _ _ h).put hN
        have hj : j < 2 := (List.getElem?_eq_some_iff.mp hx).1
        have nd3 : ∀ (b : Addr) (o : HO), H3 b = some o → (∀ kk, o ≠ .dT kk) → b ≠ d := fun b o h hn z => by rw [z, h3d] at h; exact hn _ (Option.some.inj h).symm
        have kp : ∀ (b : Addr) (o : HO), H2 b = some o → (∀ kk, o ≠ .dT kk) → upd H3 d (.dT (putK kvs2 (ky p0 s0) (.ref e2))) b = some o := fun b o h hn => by
          rw [upd_ne (nd3 b o (sC _ _ h) hn)]
          exact sC _ _ h
        refine ⟨_, DPut.t (k := ky p0 s0) h3d (sC _ _ hkk) (by omega), ⟨_, rfl⟩, ⟨_, rfl⟩, same_over (s2.trans sC) nd, _, upd_same, _, hF3.frame fun t ns h => ?_, ?_, fun p s => ?_, kp _ _ hka2 (fun _ z => nomatch z), kp _ _ hpa2 (fun _ z => nomatch z), kp _ _ hkb2 (fun _ z => nomatch z), kp _ _ hpb2 (fun _ z => nomatch z), kp _ _ hl2 (fun _ z => nomatch z), hg3⟩
        · have h' : H3 t = some (.lst (ns.map fun n => V.int (n : Nat))) := h
          show upd H3 d _ t = _
          rw [upd_ne (nd3 t _ h' (fun _ z => nomatch z))]
          exact h'
        · have := length_putK kvs2 (ky p0 s0) (V.ref e2)
          omega
        · have := hgl2 p s
          unfold stp
          split
          · rw [List.length_append, List.length_singleton]
            omega
          · omega
      · rintro σ H2 ⟨kvs2, v5', v6', g2, rfl, s2, h2d, hF2, hk2, hgl2, hka2, hpa2, hkb2, hpb2, hl2, hg2⟩
        walk_at "rd"
        rw [hg2] at hF2
        exact ⟨⟨_, rfl⟩, ⟨_, rfl⟩, ⟨_, rfl⟩, ⟨_, rfl⟩, ⟨_, rfl⟩, s2, kvs2, h2d, hF2, by have : [V.ref pa, V.ref pb].length = 2 := rfl; omega⟩
    · rintro σ H1 ⟨kvs, v2, v3, v4, v5, v6, rfl, s1, h1d, hF, hk⟩
      walk_at "rd"
      rw [List.length_map, hL.ln] at hk
      rw [List.length_map, hL.ln, List.take_length] at hF
      exact q H1 d kvs s1 nd h1d hF hk
end

end K29

namespace K29
open PySem PySem.Spec PyProof.Rows L2 G1 MW
abbrev s_law_clashes : Stmt := topS 58
theorem sc_law_clashes : FnScope ["_law_lanes", "_law_found", "_law_key_here"] ["_law_lanes"] (defScope s_law_clashes) := ⟨rfl, rfl, rfl, by decide +kernel, rfl, by decide +kernel, by decide +kernel⟩
abbrev s_law_rounds : Stmt := topS 56
theorem sc_law_rounds : FnScope ["_law_words_here", "_law_spots", "_law_lanes", "_law_word_here", "_law_numbers_here", "_law_spot", "_law_at", "_law_number", "_law_other", "_law_lane"] ["_law_words_here"] (defScope s_law_rounds) := ⟨rfl, rfl, rfl, by decide +kernel, rfl, by decide +kernel, by decide +kernel⟩
abbrev s_law_folded : Stmt := topS 60
theorem sc_law_folded : FnScope ["_law_words_here", "_law_lanes", "_law_clashes_here"] ["_law_words_here"] (defScope s_law_folded) := ⟨rfl, rfl, rfl, by decide +kernel, rfl, by decide +kernel, by decide +kernel⟩
local macro_rules | `(tactic| walk_at "rd") => `(tactic| simp only [L2.iZip, G1.rGtD, L2.rMin, L2.tLockE, L2.iKeys, L2.iEnum, L2.ipI, L2.rIn, L2.tPairs, L2.rSetD, L2.tDNewK, G1.tCallK3, G1.tCallK4, G1.tFldA, G1.tCallM, G1.tMakeO, L2.sFld, L2.rExtend, L2.tDNotIn, L2.tDIn, L2.tDGet2, L2.tDisp, L2.rPopAt, L2.tLstRg, L2.tRg1, G1.tMakeO2, G1.rOwnI, G1.rCntN, L2.tPar3, L2.tSeq, L2.tAug, L2.tTup, G1.tCallK3b, G1.tMt, G1.tMinK, G1.rIsTu, L2.rIxT, G1.rTr, G1.rLtD, if_true, if_false, L2.rNotB, L2.rMax, L2.iRng2,L2.tSeq, G1.iEnumS, L2.tDGet, L2.gTup, L2.gCons, L2.gNil, L2.tPar, L2.rIxS, G1.tRepU, L2.rSlS, L2.iStr, L2.tNotV, G1.rIsV, G1.mk_int, G1.mk_bool, G1.mk_str, G1.mk_list, G1.tCallX, V.ty.injEq, L2.tChain, L2.rIsB, G1.tRevS, L2.tM0, L2.tM1, L2.tCallS, G1.tCallK2, G1.tMkR, L2.rAll, L2.rPop, L2.tBM0, L2.tRevL, L2.tAsg, L2.tOp, L2.rI, L2.rI0, L2.tVar, L2.tC, L2.tCB, L2.tCons, L2.tNil, L2.tRet, L2.gName, L2.start, L2.tIf, L2.tIfS, L2.tTest, L2.tNext, L2.rIxL, L2.tSl, L2.rSlL, L2.tNoPart, L2.tPart, L2.tLst, L2.tTup, L2.rSum, L2.tBits, L2.gSub, L2.rSetL, L2.rCat, L2.tDrop, L2.tBM, L2.tBM0, L2.rAppend, L2.tYes, L2.tB, L2.tAnd, L2.tOr, L2.tNot, L2.tAndV, L2.tOrV, G1.tCallO, G1.tXm, G1.tXn, G1.tXv, HO.lst.injEq, HO.tup.injEq, Nat.reduceAdd, Nat.zero_add, List.set_cons_zero, List.set_cons_succ, G1.tFor_eq, G1.tLc_eq, G1.rIxM, G1.rLenM, G1.rSlM, G1.atI_0, G1.atI_1, G1.atI_2, G1.ixN_0, G1.ixN_2, L2.upd_same, L2.upd_upd, and_assoc, L2.iRng1, L2.iList, L2.tUn, L2.rU, G1.rRepS, L2.wipe, List.foldl, L2.rEq, L2.rNe, List.map, List.replicate, List.length, List.append, List.set, List.getElem?_cons_zero, List.getElem?_cons_succ, List.cons_append, List.nil_append, Option.some.injEq, V.int.injEq, V.bl.injEq, V.ref.injEq, V.str.injEq, List.cons.injEq, reduceCtorEq, false_and, and_false, exists_false, or_false, false_or, exists_and_left, exists_and_right, exists_eq_left', exists_eq_left, true_and, and_true, Nat.sub_self, decide_eq_true_eq])
section
variable {P : Program} {w : World} {K : PySem.W.Frag} {mg : Str → Option Value} {base : Heap} {c : Nat → Addr} {cF cW cG : Addr}
def spClash : Sp := fun vs H Q _ => ∃ (a : Addr) (ts : List Addr) (ls : List MN.Ln), vs = [.ref a] ∧ LnsAt H a ts ls ∧ (∀ x ∈ ls, x.2.1 < 6) ∧ ls.length ≤ 100000 ∧
  ∀ H' q (xs : List Addr), Same H H' → H q = none → H' q = some (.lst (xs.map V.ref)) → (∀ t ∈ xs, ∃ p s, NumsAt H' t (MN.ld ls p s) ∧ 1 < (MN.ld ls p s).length) → (xs = [] → ∀ p s, (MN.ld ls p s).length ≤ 1) → Q (.ref q) H'
theorem ok_clashes (S : Src K mg "_law_clashes" s_law_clashes) (T : Txt P w K mg base c cF cW cG) (C_law_leading : OkD P w K mg base 1 "_law_leading" ["_law_lanes"] spLead) : OkD P w K mg base 2 "_law_clashes" ["_law_lanes"] spClash := by
  refine okd S (fun f fd F => F.ok sc_law_clashes (fun vs H Q E h => ?_) (fun cdv A outer s H vs Q E hr h => ?_)) (fun _ _ _ _ _ _ us hl => match us, hl with | [_], _ => rfl)
  · obtain ⟨_, _, _, rfl, _⟩ := h
    rfl
  · obtain ⟨a, ts, ls, rfl, hL, h6, hll, q⟩ := h
    refine ⟨_, ((pss_cons (ps_set (i := 1) sc_law_clashes.nd rfl (.inr rfl) (pe_callO C_law_leading (hr.mono (by decide)) (by rfl) (pa_cons (pv 0) pa_nil)))
      (pss_one (ps_ret (pe_lock (pe_lc (own := [("_law_key_here", 2)]) (g := gName 2) (by rfl) sc_law_clashes.nd (pi_keys (pv 1)) (blkOk_by (own := [("_law_key_here", 2)]) (N := ["_law_lanes", "_law_found", "_law_key_here"]) (sc := defScope s_law_clashes) (by decide +kernel)) (fun _ _ _ _ _ => pg_name (i := 2) sc_law_clashes.nd rfl (Or.inl rfl)) (fun _ _ _ _ _ => (pts_one (pt_cmpR op_gt (pe_callB call_lenM (by rfl) T.n_len PySem.boot_len (pa_cons (pe_dget (hu_of hr) (pv 1) (pv 2) (fun _ _ => rfl)) pa_nil)) pe_int (nomark _)))) (fun _ _ _ _ _ => (pe_dget (hu_of hr) (pv 1) (pv 2) (fun _ _ => rfl))))))))), ?_⟩
    walk_at "rd"
    have hsz := sizeLine_eq
    refine ⟨a, ts, ls, rfl, hL, h6, hll, fun H1 d kvs s1 nd hd hF hk => ?_⟩
    have nt : ∀ {t ns}, NumsAt H1 t ns → t ≠ d := fun {t ns} h z => by
      have h' : H1 t = some (.lst (ns.map fun n => V.int (n : Nat))) := h
      rw [z, hd] at h'
      cases h'
    refine ⟨d, _, hd, trivial, fun od => ⟨d, rfl, od, .inr ⟨kvs, upd_same, ?_⟩⟩⟩
    refine comp_keysT (fun D i H' => ∃ xs : List Addr, H' D = some (.lst (xs.map V.ref)) ∧ H' d = some (.frz od (.dT kvs)) ∧ Oth [d] H1 H' ∧ xs.length ≤ i ∧ (∀ t ∈ xs, ∃ p s, NumsAt H1 t (MN.ld ls p s) ∧ 1 < (MN.ld ls p s).length) ∧ (xs = [] → ∀ j e p s, j < i → kvs[j]? = some e → e.1 = ky p s → (MN.ld ls p s).length ≤ 1)) (fun D nD => ⟨[], upd_same, ?_, ?_, Nat.le_refl _, by simp, fun _ j _ _ _ z => absurd z (Nat.not_lt_zero j)⟩) (fun D i H' nD ⟨_, _, h, _⟩ => h) ?_ ?_
    · have : d ≠ D := fun z => by rw [← z, upd_same] at nD; cases nD
      rw [upd_ne this, upd_same]
    · have : D ≠ d := fun z => by rw [z, upd_same] at nD; cases nD
      intro b o hb e
      have hb' : b ≠ d := by simpa using hb
      have : b ≠ D := fun z => by rw [← z, upd_ne hb', e] at nD; cases nD
      rw [upd_ne this, upd_ne hb']
      exact e
    · rintro D i k v kq H2 nD hki ⟨xs, hD, h2d, ho, hxl, hx, hn⟩ hkq
      have Dd : D ≠ d := fun z => by rw [z, upd_same] at nD; cases nD
      obtain ⟨p, s, e1, e2⟩ := hF.keys _ (List.mem_of_getElem? hki)
      replace e1 : k = ky p s := e1
      subst e1
      obtain ⟨z, _⟩ | ⟨_, t, ht, hN⟩ := hF.val p s
      · exact absurd z e2
      have hil := (List.getElem?_eq_some_iff.mp hki).1
      have hN2 : H2 t = some (.lst ((MN.ld ls p s).map fun n => V.int (n : Nat))) := ho _ _ (by simpa using nt hN) hN
      have hg : DGet H2 d (.ref kq) (some (.ref t)) := .inr ⟨kvs, _, kq, .inr ⟨od, h2d⟩, rfl, hkq, ht.symm⟩
      walk_at "rd"
      refine ⟨_, hg, t, rfl, _, hN2, ?_⟩
      rw [List.length_map]
      by_cases h1 : 1 < (MN.ld ls p s).length
      · rw [if_pos (by omega)]
        refine ⟨_, hg, _, hD, by rw [List.length_map]; omega, xs ++ [t], by rw [List.map_append]; rfl, by rw [upd_ne (Ne.symm Dd)]; exact h2d, fun b o hb e => ?_, by rw [List.length_append, List.length_singleton]; omega, fun t' ht' => ?_, fun z => absurd z (by simp)⟩
        · rw [upd_ne (fun z => by rw [← z, upd_ne (by simpa using hb), e] at nD; cases nD)]
          exact ho b o hb e
        · rcases List.mem_append.mp ht' with z | z
          · exact hx t' z
          · rw [List.mem_singleton.mp z]
            exact ⟨p, s, hN, h1⟩
      · rw [if_neg (by omega)]
        refine ⟨xs, hD, h2d, ho, by omega, hx, fun z j e p' s' hj he e3 => ?_⟩
        rcases Nat.lt_succ_iff_lt_or_eq.mp hj with hj | rfl
        · exact hn z j e p' s' hj he e3
        · rw [hki] at he
          cases he
          obtain ⟨rfl, rfl⟩ := ky_inj.mp e3
          omega
    · rintro D H2 nD ⟨xs, hD, h2d, ho, hxl, hx, hn⟩
      have Dd : D ≠ d := fun z => by rw [z, upd_same] at nD; cases nD
      have sF : Same H1 (upd H2 d (.dT kvs)) := fun b o e => by
        by_cases z : b = d
        · rw [z, upd_same]
          rw [z, hd] at e
          exact e
        · rw [upd_ne z]
          exact ho b o (by simpa using z) e
      have nD1 : H1 D = none := by rwa [upd_ne Dd] at nD
      refine ⟨h2d, q _ D xs (s1.trans sF) (s1.free nD1) (by rw [upd_ne Dd]; exact hD) (fun t ht => ?_) fun z p s => ?_⟩
      · obtain ⟨p, s, h1, h2⟩ := hx t ht
        exact ⟨p, s, sF _ _ h1, h2⟩
      · obtain ⟨z1, _⟩ | ⟨_, t, ht, hN⟩ := hF.val p s
        · rw [z1]
          exact Nat.zero_le _
        · obtain ⟨e, he, e2⟩ : ∃ e ∈ kvs, e.1 = ky p s := by
            unfold valV at ht
            obtain ⟨e, he, _⟩ := Option.map_eq_some_iff.mp ht
            exact ⟨e, List.mem_of_find?_eq_some he, by have := List.find?_some he; simpa using this⟩
          obtain ⟨j, hj⟩ := List.mem_iff_getElem?.mp he
          exact hn z j e p s (List.getElem?_eq_some_iff.mp hj).1 hj e2
end

end K29

namespace K29
open PySem PySem.Spec PyProof.Rows L2 G1 MW

local macro_rules | `(tactic| walk_at "rd") => `(tactic| simp only [L2.iZip, G1.rGtD, L2.rMin, L2.tLockE, L2.iKeys, L2.iEnum, L2.ipI, L2.rIn, L2.tPairs, L2.rSetD, L2.tDNewK, G1.tCallK3, G1.tCallK4, G1.tFldA, G1.tCallM, G1.tMakeO, L2.sFld, L2.rExtend, L2.tDNotIn, L2.tDIn, L2.tDGet2, L2.tDisp, L2.rPopAt, L2.tLstRg, L2.tRg1, G1.tMakeO2, G1.rOwnI, G1.rCntN, L2.tPar3, L2.tSeq, L2.tAug, L2.tTup, G1.tCallK3b, G1.tMt, G1.tMinK, G1.rIsTu, L2.rIxT, G1.rTr, G1.rLtD, if_true, if_false, L2.rNotB, L2.rMax, L2.iRng2,L2.tSeq, G1.iEnumS, L2.tDGet, L2.gTup, L2.gCons, L2.gNil, L2.tPar, L2.rIxS, G1.tRepU, L2.rSlS, L2.iStr, L2.tNotV, G1.rIsV, G1.mk_int, G1.mk_bool, G1.mk_str, G1.mk_list, G1.tCallX, V.ty.injEq, L2.tChain, L2.rIsB, G1.tRevS, L2.tM0, L2.tM1, L2.tCallS, G1.tCallK2, G1.tMkR, L2.rAll, L2.rPop, L2.tBM0, L2.tRevL, L2.tAsg, L2.tOp, L2.rI, L2.rI0, L2.tVar, L2.tC, L2.tCB, L2.tCons, L2.tNil, L2.tRet, L2.gName, L2.start, L2.tIf, L2.tIfS, L2.tTest, L2.tNext, L2.rIxL, L2.tSl, L2.rSlL, L2.tNoPart, L2.tPart, L2.tLst, L2.tTup, L2.rSum, L2.tBits, L2.gSub, L2.rSetL, L2.rCat, L2.tDrop, L2.tBM, L2.tBM0, L2.rAppend, L2.tYes, L2.tB, L2.tAnd, L2.tOr, L2.tNot, L2.tAndV, L2.tOrV, G1.tCallO, G1.tXm, G1.tXn, G1.tXv, HO.lst.injEq, HO.tup.injEq, Nat.reduceAdd, Nat.zero_add, List.set_cons_zero, List.set_cons_succ, G1.tFor_eq, G1.tLc_eq, G1.rIxM, G1.rLenM, G1.rSlM, G1.atI_0, G1.atI_1, G1.atI_2, G1.ixN_0, G1.ixN_2, L2.upd_same, L2.upd_upd, and_assoc, L2.iRng1, L2.iList, L2.tUn, L2.rU, G1.rRepS, L2.wipe, List.foldl, L2.rEq, L2.rNe, List.map, List.replicate, List.length, List.append, List.set, List.getElem?_cons_zero, List.getElem?_cons_succ, List.cons_append, List.nil_append, Option.some.injEq, V.int.injEq, V.bl.injEq, V.ref.injEq, V.str.injEq, List.cons.injEq, reduceCtorEq, false_and, and_false, exists_false, or_false, false_or, exists_and_left, exists_and_right, exists_eq_left', exists_eq_left, true_and, and_true, Nat.sub_self, decide_eq_true_eq])
section
variable {P : Program} {w : World} {K : PySem.W.Frag} {mg : Str → Option Value} {base : Heap} {c : Nat → Addr} {cF cW cG : Addr}
theorem laneOf_let {p s q : Nat} : (MN.laneOf p s q).2.1 = s / 2 := by
  unfold MN.laneOf
  split <;> rfl
theorem addL_len (ls : List MN.Ln) (x : MN.Ln) : (MN.addL ls x).length ≤ ls.length + 1 := by
  unfold MN.addL
  split
  · omega
  · rw [List.length_append]; exact Nat.le_refl _
theorem Lp.last {ls : List MN.Ln} {l : Nat → List Nat} {ws dn : List (List Nat)} {w : List Nat} {n k spot s : Nat} (W : MN.Lp ls l ws dn w n k spot) (hs : w[k]? = some s) (hk : k + 1 = w.length) (hw : w ∈ ws) : MN.Cos ws (l spot ++ [s]) (l 0) := by
  have a := MN.nrun_cos W.lab W.hd
  rw [W.l0, List.nil_append] at a
  have b := (a.symm.app [s])
  rw [← MN.take_get hs, hk, List.take_length] at b
  rw [W.l0]
  refine b.trans ?_
  have := MN.Sub.gen (ws := ws) hw
  unfold MN.Cos
  simpa [MN.opp] using this
/-- one lane more -/
theorem Lp.inner {ls : List MN.Ln} {l : Nat → List Nat} {ws dn : List (List Nat)} {w : List Nat} {n k spot s : Nat} (W : MN.Lp ls l ws dn w n k spot) (hs : w[k]? = some s) : ∃ l', MN.Lp (MN.addL ls (MN.laneOf spot s n)) l' ws dn w (n + 1) (k + 1) n := by
  have := W.sn
  refine ⟨fun p => if p = n then l spot ++ [s] else l p, W.step hs (Nat.le_succ n) (Nat.lt_succ_self n) (fun p hp => if_neg (by omega)) ?_⟩
  show MN.Cos ws ((if spot = n then l spot ++ [s] else l spot) ++ [s]) (if n = n then l spot ++ [s] else l n)
  rw [if_neg (by omega), if_pos rfl]
  exact MN.Cos.refl _
theorem Lp.outer {ls : List MN.Ln} {l : Nat → List Nat} {ws dn : List (List Nat)} {w : List Nat} {n k spot s : Nat} (W : MN.Lp ls l ws dn w n k spot) (hs : w[k]? = some s) (hk : k + 1 = w.length) (hw : w ∈ ws) : MN.Lp (MN.addL ls (MN.laneOf spot s 0)) l ws dn w n (k + 1) 0 :=
  W.step hs (Nat.le_refl n) W.n0 (fun _ _ => rfl) (Lp.last W hs hk hw)
theorem Lw.nil (ws : List (List Nat)) : MN.Lw [] (fun _ => []) ws [] := by
  have no : ∀ p s q, ¬ MN.Ed [] p s q := fun p s q e => by
    rcases e with ⟨_, _, e⟩ | ⟨_, _, e⟩ <;> cases e
  exact ⟨List.nodup_nil, rfl, fun p s q e => absurd e (no p s q), (fun w h => nomatch h), fun p s q e => absurd e (no p s q)⟩
def spRounds : Sp := fun vs H Q _ => ∃ (a : Addr) (ws : List (List Nat)) (B : Nat), vs = [.ref a] ∧ WsAt H a ws ∧ (∀ l ∈ ws, Sg l ∧ l.length ≤ 1000) ∧ (∀ l ∈ ws, ∀ ch ∈ l, num ch < 2 * B) ∧ B ≤ 6 ∧ ws.length ≤ 50 ∧
  ∀ H' q L ts ls (n : Nat) l, Same H H' → H q = none → H' q = some (.tup [.int (n : Nat), .ref L]) → LnsAt H' L ts ls → MN.Lw ls l (numW ws) (numW ws) → (∀ x ∈ ls, x.2.1 < B) → ls.length ≤ ws.flatten.length → MN.Rk ls ws.length → Q (.ref q) H'
theorem flat_le : ∀ ws : List (List Nat), (∀ l ∈ ws, l.length ≤ 1000) → ws.flatten.length ≤ 1000 * ws.length
  | [], _ => Nat.le_refl _
  | l :: ws, h => by
    have := flat_le ws fun x hx => h x (List.mem_cons_of_mem _ hx)
    have := h l List.mem_cons_self
    rw [List.flatten_cons, List.length_append, List.length_cons]
    omega
theorem ok_rounds (S : Src K mg "_law_rounds" s_law_rounds) (T : Txt P w K mg base c cF cW cG) (C_law_plain : OkD P w K mg base 2 "_law_plain" ["_law_word_here"] spPlain) (C_law_numbers : OkD P w K mg base 1 "_law_numbers" ["_law_word_here"] spNumbers) : OkD P w K mg base 3 "_law_rounds" ["_law_words_here"] spRounds := by
  refine okd S (fun f fd F => F.ok sc_law_rounds (fun vs H Q E h => ?_) (fun cdv A outer s H vs Q E hr h => ?_)) (fun _ _ _ _ _ _ us hl => match us, hl with | [_], _ => rfl)
  · obtain ⟨_, _, _, rfl, _⟩ := h
    rfl
  · obtain ⟨a, ws, B, rfl, ha, hws, hB, hB6, hwl, q⟩ := h
    refine ⟨_, ((pss_cons (ps_par (i := 1) (j := 2) (by rfl) sc_law_rounds.nd rfl rfl (by decide) rfl rfl (pa_cons pe_int (pa_cons (pe_lst pa_nil) pa_nil)) (by rfl))
      (pss_cons (ps_for PassesOwn.never rfl (pi_list (pv 0)) (pg_name (i := 3) sc_law_rounds.nd rfl (.inl rfl)) (pss_cons (ps_par (i := 4) (j := 5) (by rfl) sc_law_rounds.nd rfl rfl (by decide) rfl rfl (pa_cons (pe_callO C_law_numbers (hr.mono (by decide)) (by rfl) (pa_cons (pe_callO C_law_plain (hr.mono (by decide)) (by rfl) (pa_cons (pv 3) pa_nil)) pa_nil)) (pa_cons pe_int pa_nil)) (by rfl))
      (pss_one (ps_for PassesOwn.never rfl (pi_enum (by rfl) T.n_enumerate (pa_cons (pv 4) pa_nil)) (pg_tup (by rfl) (pgs_cons (pg_name (i := 6) sc_law_rounds.nd rfl (.inl rfl)) (pgs_cons (pg_name (i := 7) sc_law_rounds.nd rfl (.inl rfl)) pgs_nil))) (pss_cons (ps_set (i := 8) sc_law_rounds.nd rfl (.inl rfl) (pe_ifExp (pt_cmpR op_lt (pv 6) (pe_op op_sub (pe_callB call_lenM (by rfl) T.n_len PySem.boot_len (pa_cons (pv 4) pa_nil)) pe_int) (nomark _)) (pv 1) pe_int))
      (pss_cons (ps_set (i := 1) sc_law_rounds.nd rfl (.inl rfl) (pe_op op_add (pv 1) (pe_callTy call_int1 (by rfl) T.n_int PyProof.Rows.boot_int (pa_cons (pe_cmpR op_lt (pv 6) (pe_op op_sub (pe_callB call_lenM (by rfl) T.n_len PySem.boot_len (pa_cons (pv 4) pa_nil)) pe_int) (nomark _)) pa_nil))))
      (pss_cons (ps_set (i := 9) sc_law_rounds.nd rfl (.inl rfl) (pe_ifExp (pt_cmpR op_eq (pe_op op_mod (pe_callTy call_int1 (by rfl) T.n_int PyProof.Rows.boot_int (pa_cons (pv 7) pa_nil)) pe_int) pe_int (nomark _)) (pe_tup (pa_cons (pv 5) (pa_cons (pe_op op_fdivW (pv 7) pe_int) (pa_cons (pv 8) pa_nil)))) (pe_tup (pa_cons (pv 8) (pa_cons (pe_op op_fdivW (pv 7) pe_int) (pa_cons (pv 5) pa_nil))))))
      (pss_cons (ps_if (pt_cmpR (op_notInDK K rfl (u65 hr)) (pv 9) (pv 2) rfl) (pss_one (ps_expr (pe_bm PySem.F.plainAttrs_list PySem.F.slot_list_append PySem.F.type_list_append mt_append (pv 2) (pa_cons (pv 9) pa_nil)))) pss_nil)
      (pss_one (ps_set (i := 5) sc_law_rounds.nd rfl (.inl rfl) (pv 8)))))))))))
      (pss_one (ps_ret (pe_tup (pa_cons (pv 1) (pa_cons (pv 2) pa_nil)))))))), ?_⟩
    walk_at "rd"
    have hsz := sizeLine_eq
    have ha0 : H a = some (.lst (ws.map fun l => V.str (W l))) := ha
    have hfl := flat_le ws fun l h => (hws l h).2
    refine ⟨by omega, fun L nL => ⟨⟨_, SqL.of (same_upd nL _ _ ha0)⟩, ?_⟩⟩
    refine loop_list (xs := ws.map fun l => V.str (W l)) (fun i σ H' => ∃ (n : Nat) (ls : List MN.Ln) (ts : List Addr) (l : Nat → List Nat) (v3 v4 v5 v6 v7 v8 v9 : Option V), σ = [some (.ref a), some (.int (n : Nat)), some (.ref L), v3, v4, v5, v6, v7, v8, v9] ∧ Same H H' ∧ LnsAt H' L ts ls ∧ 0 < n ∧ (∀ x ∈ ls, x.1 < n ∧ x.2.2 < n) ∧ MN.Lw ls l (numW ws) (numW (ws.take i)) ∧ (∀ x ∈ ls, x.2.1 < B) ∧ ls.length ≤ (ws.take i).flatten.length ∧ MN.Rk ls i) ⟨1, [], [], fun _ => [], none, none, none, none, none, none, none, rfl, same_upd nL, LnsAt.nil upd_same, Nat.one_pos, by simp, Lw.nil _, by simp, by simp, MN.Rk.nil⟩ (fun i σ H' hi hh => by obtain ⟨_, _, _, _, _, _, _, _, _, _, _, _, s', _⟩ := hh; exact SqL.of (s' _ _ ha0)) ?_ ?_
    · rintro i x σ H1 hx ⟨n, ls, ts, l, v3, v4, v5, v6, v7, v8, v9, rfl, s1, hL, hn, hb, hW, h6, hll, hR⟩
      rw [List.getElem?_map] at hx
      obtain ⟨wd, hwd, rfl⟩ := Option.map_eq_some_iff.mp hx
      have hwm := List.mem_of_getElem? hwd
      obtain ⟨hsg, hwl1⟩ := hws wd hwm
      have hredl : (red wd).length ≤ wd.length := len_red wd
      walk_at "rd"
      refine ⟨wd, rfl, hsg, by omega, fun H2 s2 => ⟨red wd, rfl, fun x hx => hsg x (mem_red hx), by omega, fun b H3 s3 nb hb3 => ?_⟩⟩
      have hlen : ((red wd).map num).length ≤ wd.length := by rw [List.length_map]; exact hredl
      have hwin : (red wd).map num ∈ numW ws := List.mem_map.mpr ⟨wd, hwm, rfl⟩
      have hw12 : ∀ s ∈ (red wd).map num, s < 2 * B := fun s hs => by
        obtain ⟨ch, hc, rfl⟩ := List.mem_map.mp hs
        exact hB wd hwm _ (mem_red hc)
      have hpl : MN.Plain ((red wd).map num) := plain_num (fun x hx => hsg x (mem_red hx)) (red_plain wd)
      have tkW : numW (ws.take (i + 1)) = numW (ws.take i) ++ [(red wd).map num] := by
        rw [take_step hwd]
        simp [numW]
      have tkF : (ws.take (i + 1)).flatten.length = (ws.take i).flatten.length + wd.length := by
        rw [take_step hwd]
        simp
      have hfi : (ws.take i).flatten.length ≤ ws.flatten.length := by
        have : ws = ws.take i ++ ws.drop i := (List.take_append_drop i ws).symm
        have e := congrArg (fun z : List (List Nat) => z.flatten.length) this
        rw [List.flatten_append, List.length_append] at e
        omega
      generalize (red wd).map num = w at *
      have hb0 : H3 b = some (.lst (w.map fun n => V.int (n : Nat))) := hb3
      have nbL : b ≠ L := fun z => by rw [z, s2 _ _ hL.hl] at nb; cases nb
      refine ⟨b, rfl, ⟨_, SqL.of hb0⟩, ?_⟩
      refine loop_enum (xs := w.map fun n => V.int (n : Nat)) (fun j σ H' => ∃ (n : Nat) (ls : List MN.Ln) (ts : List Addr) (l : Nat → List Nat) (spot : Nat) (v6 v7 v8 v9 : Option V), σ = [some (.ref a), some (.int (n : Nat)), some (.ref L), some (.str (W wd)), some (.ref b), some (.int (spot : Nat)), v6, v7, v8, v9] ∧ Same H H' ∧ H' b = some (.lst (w.map fun n => V.int (n : Nat))) ∧ LnsAt H' L ts ls ∧ MN.Lp ls l (numW ws) (numW (ws.take i)) w n j spot ∧ (j = w.length → spot = 0) ∧ (∀ x ∈ ls, x.2.1 < B) ∧ ls.length ≤ (ws.take i).flatten.length + j ∧ (j < w.length → MN.Rk ls i) ∧ MN.Rk ls (i + 1)) ⟨n, ls, ts, l, 0, v6, v7, v8, v9, rfl, s1.trans (s2.trans s3), hb0, hL.same (s2.trans s3), hW.start hn hb w, fun _ => rfl, h6, hll, fun _ => hR, hR.mono (Nat.le_succ _)⟩ (fun j σ H' hj hh => by obtain ⟨_, _, _, _, _, _, _, _, _, _, _, h, _⟩ := hh; exact SqL.of h) ?_ ?_
      · rintro j x Tq σ H4 hx4 ⟨n, ls, ts, l, spot, v6, v7, v8, v9, rfl, s4, h4b, hL4, hP, hend, h64, hll4, hR1, hR2⟩ nT
        rw [List.getElem?_map] at hx4
        obtain ⟨s0, hs0, rfl⟩ := Option.map_eq_some_iff.mp hx4
        have hs12 := hw12 s0 (List.mem_of_getElem? hs0)
        have hjl := (List.getElem?_eq_some_iff.mp hs0).1
        walk_at "rd"
        have h5b := same_upd (o := HO.tup [V.int (j : Nat), V.int (s0 : Nat)]) nT _ _ h4b
        have cd : CDivW (s0 : Int) 2 := wide_div (by decide) (b := 2) (by decide) (by decide) (by decide)
        have hL5 := hL4.same (same_upd (o := HO.tup [V.int (j : Nat), V.int (s0 : Nat)]) nT)
        have s45 := same_upd (o := HO.tup [V.int (j : Nat), V.int (s0 : Nat)]) nT
        have h5T := @upd_same H4 Tq (HO.tup [V.int (j : Nat), V.int (s0 : Nat)])
        generalize upd H4 Tq (HO.tup [V.int (j : Nat), V.int (s0 : Nat)]) = H5 at *
        have t0 : ((s0 : Nat) : Int) % 2 = ((s0 % 2 : Nat) : Int) := by omega
        have t1 : ((s0 : Nat) : Int) / 2 = ((s0 / 2 : Nat) : Int) := by omega
        refine ⟨_, SqT.of h5T, rfl, _, _, rfl, _, _, rfl, rfl, _, h5b, _, rfl, ?_⟩
        rw [List.length_map]
        by_cases hj : j + 1 < w.length
        · rw [if_pos (by omega)]
          refine ⟨_, h5b, _, rfl, .inl ⟨_, rfl, by decide, rfl, ?_⟩⟩
          have hend' : j + 1 = w.length → n = 0 := fun z => by omega
          obtain ⟨l', LP⟩ := Lp.inner hP hs0
          have RA : j + 1 < w.length → MN.Rk (MN.addL ls (MN.laneOf spot s0 n)) i := fun _ => (hR1 hjl).inner hP.bd hP.n0
          have RB := (RA hj).mono (Nat.le_succ _)
          by_cases he : s0 % 2 = 0
          · rw [if_pos (by omega)]
            refine ⟨_, rfl, cd, by omega, fun p np => ?_⟩
            rw [t1]
            have e : lnV (MN.laneOf spot s0 n) = [V.int (spot : Nat), V.int ((s0 / 2 : Nat) : Int), V.int ((n : Nat) : Int)] := by
              unfold MN.laneOf lnV
              rw [if_pos he]
            refine notin_ln (x := MN.laneOf spot s0 n) (hL5.same (same_upd np)) (by rw [e]; exact upd_same) ⟨_, rfl, ?_⟩
            have hn' : ((n : Nat) : Int) + (if ((j : Nat) : Int) < (((w.map fun n => V.int (n : Nat)).length : Nat) : Int) - 1 then (1 : Int) else 0) = ((n + 1 : Nat) : Int) := by rw [List.length_map, if_pos (by omega)]; omega
            by_cases m : MN.laneOf spot s0 n ∈ ls
            · rw [if_neg (by simp [m])]
              have ea : MN.addL ls (MN.laneOf spot s0 n) = ls := if_pos m
              rw [ea] at LP RA RB
              exact ⟨n + 1, hn', ls, ts, l', n, rfl, ⟨_, rfl⟩, ⟨_, rfl⟩, ⟨_, rfl⟩, ⟨_, rfl⟩, s4.trans (s45.trans (same_upd np)), same_upd np _ _ h5b, hL5.same (same_upd np), LP, hend', h64, by omega, RA, RB⟩
            · rw [if_pos (by simp [m])]
              have ea : MN.addL ls (MN.laneOf spot s0 n) = ls ++ [MN.laneOf spot s0 n] := if_neg m
              rw [ea] at LP RA RB
              exact ⟨.inl ⟨rfl, _, .inl (.inl (same_upd np _ _ hL5.hl))⟩, _, same_upd np _ _ hL5.hl, by rw [List.length_map, hL5.ln]; omega, n + 1, hn', ls ++ [MN.laneOf spot s0 n], ts ++ [p], l', n, rfl, ⟨_, rfl⟩, ⟨_, rfl⟩, ⟨_, rfl⟩, ⟨_, rfl⟩, same_over (s4.trans (s45.trans (same_upd np))) nL, by rw [upd_ne nbL]; exact same_upd np _ _ h5b, (hL5.same (same_upd np)).snoc (by rw [e]; exact upd_same), LP, hend', fun x hx => (List.mem_append.mp hx).elim (h64 x) (fun z => by rw [List.mem_singleton.mp z, laneOf_let]; omega), by rw [List.length_append, List.length_singleton]; omega, RA, RB⟩
          · rw [if_neg (by omega)]
            refine ⟨_, rfl, cd, by omega, fun p np => ?_⟩
            rw [t1]
            have e : lnV (MN.laneOf spot s0 n) = [V.int ((n : Nat) : Int), V.int ((s0 / 2 : Nat) : Int), V.int (spot : Nat)] := by
              unfold MN.laneOf lnV
              rw [if_neg he]
            refine notin_ln (x := MN.laneOf spot s0 n) (hL5.same (same_upd np)) (by rw [e]; exact upd_same) ⟨_, rfl, ?_⟩
            have hn' : ((n : Nat) : Int) + (if ((j : Nat) : Int) < (((w.map fun n => V.int (n : Nat)).length : Nat) : Int) - 1 then (1 : Int) else 0) = ((n + 1 : Nat) : Int) := by rw [List.length_map, if_pos (by omega)]; omega
            by_cases m : MN.laneOf spot s0 n ∈ ls
            · rw [if_neg (by simp [m])]
              have ea : MN.addL ls (MN.laneOf spot s0 n) = ls := if_pos m
              rw [ea] at LP RA RB
              exact ⟨n + 1, hn', ls, ts, l', n, rfl, ⟨_, rfl⟩, ⟨_, rfl⟩, ⟨_, rfl⟩, ⟨_, rfl⟩, s4.trans (s45.trans (same_upd np)), same_upd np _ _ h5b, hL5.same (same_upd np), LP, hend', h64, by omega, RA, RB⟩
            · rw [if_pos (by simp [m])]
              have ea : MN.addL ls (MN.laneOf spot s0 n) = ls ++ [MN.laneOf spot s0 n] := if_neg m
              rw [ea] at LP RA RB
              exact ⟨.inl ⟨rfl, _, .inl (.inl (same_upd np _ _ hL5.hl))⟩, _, same_upd np _ _ hL5.hl, by rw [List.length_map, hL5.ln]; omega, n + 1, hn', ls ++ [MN.laneOf spot s0 n], ts ++ [p], l', n, rfl, ⟨_, rfl⟩, ⟨_, rfl⟩, ⟨_, rfl⟩, ⟨_, rfl⟩, same_over (s4.trans (s45.trans (same_upd np))) nL, by rw [upd_ne nbL]; exact same_upd np _ _ h5b, (hL5.same (same_upd np)).snoc (by rw [e]; exact upd_same), LP, hend', fun x hx => (List.mem_append.mp hx).elim (h64 x) (fun z => by rw [List.mem_singleton.mp z, laneOf_let]; omega), by rw [List.length_append, List.length_singleton]; omega, RA, RB⟩
        · rw [if_neg (by omega)]
          refine ⟨_, h5b, _, rfl, .inl ⟨_, rfl, by decide, rfl, ?_⟩⟩
          have hend' : j + 1 = w.length → (0 : Nat) = 0 := fun _ => rfl
          have RA : j + 1 < w.length → MN.Rk (MN.addL ls (MN.laneOf spot s0 0)) i := fun z => absurd z hj
          have RB : MN.Rk (MN.addL ls (MN.laneOf spot s0 0)) (i + 1) := (hR1 hjl).last _
          obtain ⟨l', LP⟩ : ∃ l', MN.Lp (MN.addL ls (MN.laneOf spot s0 0)) l' (numW ws) (numW (ws.take i)) w n (j + 1) 0 := ⟨l, Lp.outer hP hs0 (by omega) hwin⟩
          by_cases he : s0 % 2 = 0
          · rw [if_pos (by omega)]
            refine ⟨_, rfl, cd, by omega, fun p np => ?_⟩
            rw [t1]
            have e : lnV (MN.laneOf spot s0 0) = [V.int (spot : Nat), V.int ((s0 / 2 : Nat) : Int), V.int ((0 : Nat) : Int)] := by
              unfold MN.laneOf lnV
              rw [if_pos he]
            refine notin_ln (x := MN.laneOf spot s0 0) (hL5.same (same_upd np)) (by rw [e]; exact upd_same) ⟨_, rfl, ?_⟩
            have hn' : ((n : Nat) : Int) + (if ((j : Nat) : Int) < (((w.map fun n => V.int (n : Nat)).length : Nat) : Int) - 1 then (1 : Int) else 0) = ((n : Nat) : Int) := by rw [List.length_map, if_neg (by omega)]; omega
            by_cases m : MN.laneOf spot s0 0 ∈ ls
            · rw [if_neg (by simp [m])]
              have ea : MN.addL ls (MN.laneOf spot s0 0) = ls := if_pos m
              rw [ea] at LP RA RB
              exact ⟨n, hn', ls, ts, l', 0, rfl, ⟨_, rfl⟩, ⟨_, rfl⟩, ⟨_, rfl⟩, ⟨_, rfl⟩, s4.trans (s45.trans (same_upd np)), same_upd np _ _ h5b, hL5.same (same_upd np), LP, hend', h64, by omega, RA, RB⟩
            · rw [if_pos (by simp [m])]
              have ea : MN.addL ls (MN.laneOf spot s0 0) = ls ++ [MN.laneOf spot s0 0] := if_neg m
              rw [ea] at LP RA RB
              exact ⟨.inl ⟨rfl, _, .inl (.inl (same_upd np _ _ hL5.hl))⟩, _, same_upd np _ _ hL5.hl, by rw [List.length_map, hL5.ln]; omega, n, hn', ls ++ [MN.laneOf spot s0 0], ts ++ [p], l', 0, rfl, ⟨_, rfl⟩, ⟨_, rfl⟩, ⟨_, rfl⟩, ⟨_, rfl⟩, same_over (s4.trans (s45.trans (same_upd np))) nL, by rw [upd_ne nbL]; exact same_upd np _ _ h5b, (hL5.same (same_upd np)).snoc (by rw [e]; exact upd_same), LP, hend', fun x hx => (List.mem_append.mp hx).elim (h64 x) (fun z => by rw [List.mem_singleton.mp z, laneOf_let]; omega), by rw [List.length_append, List.length_singleton]; omega, RA, RB⟩
          · rw [if_neg (by omega)]
            refine ⟨_, rfl, cd, by omega, fun p np => ?_⟩
            rw [t1]
            have e : lnV (MN.laneOf spot s0 0) = [V.int ((0 : Nat) : Int), V.int ((s0 / 2 : Nat) : Int), V.int (spot : Nat)] := by
              unfold MN.laneOf lnV
              rw [if_neg he]
            refine notin_ln (x := MN.laneOf spot s0 0) (hL5.same (same_upd np)) (by rw [e]; exact upd_same) ⟨_, rfl, ?_⟩
            have hn' : ((n : Nat) : Int) + (if ((j : Nat) : Int) < (((w.map fun n => V.int (n : Nat)).length : Nat) : Int) - 1 then (1 : Int) else 0) = ((n : Nat) : Int) := by rw [List.length_map, if_neg (by omega)]; omega
            by_cases m : MN.laneOf spot s0 0 ∈ ls
            · rw [if_neg (by simp [m])]
              have ea : MN.addL ls (MN.laneOf spot s0 0) = ls := if_pos m
              rw [ea] at LP RA RB
              exact ⟨n, hn', ls, ts, l', 0, rfl, ⟨_, rfl⟩, ⟨_, rfl⟩, ⟨_, rfl⟩, ⟨_, rfl⟩, s4.trans (s45.trans (same_upd np)), same_upd np _ _ h5b, hL5.same (same_upd np), LP, hend', h64, by omega, RA, RB⟩
            · rw [if_pos (by simp [m])]
              have ea : MN.addL ls (MN.laneOf spot s0 0) = ls ++ [MN.laneOf spot s0 0] := if_neg m
              rw [ea] at LP RA RB
              exact ⟨.inl ⟨rfl, _, .inl (.inl (same_upd np _ _ hL5.hl))⟩, _, same_upd np _ _ hL5.hl, by rw [List.length_map, hL5.ln]; omega, n, hn', ls ++ [MN.laneOf spot s0 0], ts ++ [p], l', 0, rfl, ⟨_, rfl⟩, ⟨_, rfl⟩, ⟨_, rfl⟩, ⟨_, rfl⟩, same_over (s4.trans (s45.trans (same_upd np))) nL, by rw [upd_ne nbL]; exact same_upd np _ _ h5b, (hL5.same (same_upd np)).snoc (by rw [e]; exact upd_same), LP, hend', fun x hx => (List.mem_append.mp hx).elim (h64 x) (fun z => by rw [List.mem_singleton.mp z, laneOf_let]; omega), by rw [List.length_append, List.length_singleton]; omega, RA, RB⟩
      · rintro σ H4 ⟨n, ls, ts, l, spot, v6, v7, v8, v9, rfl, s4, h4b, hL4, hP, hend, h64, hll4, hR1, hR2⟩
        walk_at "rd"
        rw [List.length_map] at hP hend hll4
        rw [hend rfl] at hP
        refine ⟨n, rfl, ⟨_, rfl⟩, ⟨_, rfl⟩, ⟨_, rfl⟩, ⟨_, rfl⟩, ⟨_, rfl⟩, ⟨_, rfl⟩, ⟨_, rfl⟩, s4, ls, ⟨ts, hL4⟩, hP.n0, hP.bd, ⟨l, ?_⟩, h64, by omega, hR2⟩
        rw [tkW]
        exact hP.close hpl (List.take_length)
    · rintro σ H1 ⟨n, ls, ts, l, v3, v4, v5, v6, v7, v8, v9, rfl, s1, hL, hn, hb, hW, h6, hll, hR⟩
      walk_at "rd"
      rw [List.length_map, List.take_length] at hW hll
      exact ⟨by omega, fun p np => q _ p L ts ls n l (s1.trans (same_upd np)) (s1.free np) upd_same (hL.same (same_upd np)) hW h6 hll (by rw [List.length_map] at hR; exact hR)⟩
theorem cutV_to (xs : List V) : cutV xs none (some 2) = xs.take 2 := by
  unfold cutV
  rw [show (2 : Int) = ((2 : Nat) : Int) from rfl, HT.sIx_nat, HT.sIx_none, List.drop_zero, Nat.sub_zero]
  rcases Nat.lt_or_ge xs.length 2 with h | h
  · rw [Nat.min_eq_right (by omega), List.take_length, List.take_of_length_le (by omega)]
  · rw [Nat.min_eq_left h]
theorem tog_let {ls : List MN.Ln} {k g B : Nat} (h : ∀ x ∈ ls, x.2.1 < B) : ∀ x ∈ MN.together k g ls, x.2.1 < B := fun x hx => by
  obtain ⟨y, hy, rfl⟩ := List.mem_map.mp (MN.mem_uniq.mp hx)
  exact h y hy
theorem dp_lists {H : Hp} : ∀ xs : List Addr, (∀ t ∈ xs, ∃ ns, NumsAt H t ns) → ∃ ds, DpAll K H (xs.map V.ref) ds ∧ SeqAt.shaped (.list ds) = true ∧ PyData.depthAll ds ≤ 1 ∧ ds.length = xs.length
  | [], _ => ⟨[], .nil, rfl, by decide, rfl⟩
  | t :: xs, h => by
    obtain ⟨ns, hns⟩ := h t List.mem_cons_self
    obtain ⟨ds, a, b, c, d⟩ := dp_lists xs fun x hx => h x (List.mem_cons_of_mem _ hx)
    obtain ⟨h1, h2⟩ := ints_lay ns
    have hd : PyData.depthAll (PyData.list (ns.map fun n => PyData.int ((n : Nat) : Int)) :: ds) ≤ 1 := by
      rw [PyData.depthAll, PyData.depth, h2]
      omega
    refine ⟨.list (ns.map fun n => PyData.int ((n : Nat) : Int)) :: ds, .cons (.lst (SqL.of hns) (dp_ints ns)) a, ?_, hd, by rw [List.length_cons, List.length_cons, d]⟩
    unfold SeqAt.shaped at b ⊢
    rw [Bool.and_eq_true] at b ⊢
    rw [PyData.canLay0] at b ⊢
    refine ⟨?_, ?_⟩
    · rw [PyData.canLayAll0, PyData.canLay0, h1, b.1]
      rfl
    · rw [decide_eq_true_eq, PyData.depth]
      omega
def spFold : Sp := fun vs H Q _ => ∃ (a : Addr) (ws : List (List Nat)) (B : Nat), vs = [.ref a] ∧ WsAt H a ws ∧ (∀ l ∈ ws, Sg l ∧ l.length ≤ 1000) ∧ (∀ l ∈ ws, ∀ ch ∈ l, num ch < 2 * B) ∧ B ≤ 6 ∧ ws.length ≤ 50 ∧
  ∀ H' L ts ls l, Same H H' → LnsAt H' L ts ls → MN.Lw ls l (numW ws) (numW ws) → (∀ x ∈ ls, x.2.1 < B) → ls.length ≤ ws.flatten.length → (∀ p s, (MN.ld ls p s).length ≤ 1) → MN.Rk ls ws.length → Q (.ref L) H'
theorem ok_lfolded (S : Src K mg "_law_folded" s_law_folded) (T : Txt P w K mg base c cF cW cG) (C_law_rounds : OkD P w K mg base 3 "_law_rounds" ["_law_words_here"] spRounds) (C_law_clashes : OkD P w K mg base 2 "_law_clashes" ["_law_lanes"] spClash) (C_law_together : OkD P w K mg base 1 "_law_together" ["_law_lanes", "_law_kept", "_law_gone"] spTog) : OkD P w K mg base 4 "_law_folded" ["_law_words_here"] spFold := by
  refine okd S (fun f fd F => F.ok sc_law_folded (fun vs H Q E h => ?_) (fun cdv A outer s H vs Q E hr h => ?_)) (fun _ _ _ _ _ _ us hl => match us, hl with | [_], _ => rfl)
  · obtain ⟨_, _, _, rfl, _⟩ := h
    rfl
  · obtain ⟨a, ws, B, rfl, ha, hws, hB, hB6, hwl, q⟩ := h
    refine ⟨_, ((pss_cons (ps_set (i := 1) sc_law_folded.nd rfl (.inl rfl) (pe_ix ix_tup (pe_callO C_law_rounds (hr.mono (by decide)) (by rfl) (pa_cons (pv 0) pa_nil)) pe_int (fun _ _ => rfl)))
      (pss_cons (ps_set (i := 2) sc_law_folded.nd rfl (.inl rfl) (pe_callO C_law_clashes (hr.mono (by decide)) (by rfl) (pa_cons (pv 1) pa_nil)))
      (pss_cons (ps_while PassesOwn.never (pt_cmpR (op_neDK K rfl hr.units) (pv 2) (pe_lst pa_nil) (nomark _)) (pss_cons (ps_set (i := 1) sc_law_folded.nd rfl (.inl rfl) (pe_callO C_law_together (hr.mono (by decide)) (by rfl) (pa_cons (pv 1) (pa_cons (pe_callB (cr_minIK K rfl rfl) (by rfl) T.n_min (by decide +kernel) (pa_cons (pe_slice (sl_listK K rfl) (pe_ix ix_lM (pv 2) pe_int (fun _ _ => rfl)) po_none (po_some pe_int)) pa_nil)) (pa_cons (pe_callB (cr_maxK K rfl rfl) (by rfl) T.n_max (by decide +kernel) (pa_cons (pe_slice (sl_listK K rfl) (pe_ix ix_lM (pv 2) pe_int (fun _ _ => rfl)) po_none (po_some pe_int)) pa_nil)) pa_nil)))))
      (pss_one (ps_set (i := 2) sc_law_folded.nd rfl (.inl rfl) (pe_callO C_law_clashes (hr.mono (by decide)) (by rfl) (pa_cons (pv 1) pa_nil))))))
      (pss_one (ps_ret (pv 1))))))), ?_⟩
    walk_at "rd"
    have hsz := sizeLine_eq
    have hfl := flat_le ws fun l h => (hws l h).2
    refine ⟨a, ws, B, rfl, ha, hws, hB, hB6, hwl, fun H1 t L ts ls n l s1 nt ht hL hW h6 hll hR => ?_⟩
    refine ⟨t, rfl, _, SqT.of ht, .ref L, rfl, L, ts, ls, rfl, hL, fun x hx => by have := h6 x hx; omega, by omega, fun H2 qc xs s2 nq hq hx hn => ?_⟩
    refine ⟨fun m σ H' => ∃ (L : Addr) (ts : List Addr) (ls : List MN.Ln) (l : Nat → List Nat) (qc : Addr) (xs : List Addr), σ = [some (.ref a), some (.ref L), some (.ref qc)] ∧ Same H H' ∧ LnsAt H' L ts ls ∧ MN.Lw ls l (numW ws) (numW ws) ∧ (∀ x ∈ ls, x.2.1 < B) ∧ ls.length ≤ ws.flatten.length ∧ ls.length ≤ m ∧ H' qc = some (.lst (xs.map V.ref)) ∧ (∀ t ∈ xs, ∃ p s, NumsAt H' t (MN.ld ls p s) ∧ 1 < (MN.ld ls p s).length) ∧ (xs = [] → ∀ p s, (MN.ld ls p s).length ≤ 1) ∧ MN.Rk ls ws.length, ⟨_, L, ts, ls, l, qc, xs, rfl, s1.trans s2, hL.same s2, hW, h6, hll, Nat.le_refl _, hq, hx, hn, hR⟩, ?_⟩
    rintro m σ H3 ⟨L, ts, ls, l, qc, xs, rfl, s3, hL, hW, h6, hll, hm, hq, hx, hn, hR⟩
    walk_at "rd"
    refine ⟨by omega, fun e ne => ?_⟩
    obtain ⟨ds, d1, d2, d3, d4⟩ := dp_lists (K := K) (H := upd H3 e (.lst [])) xs fun t ht => by
      obtain ⟨p, s, h, _⟩ := hx t ht
      exact ⟨_, same_upd ne _ _ h⟩
    refine ⟨_, _, .lst (SqL.of (same_upd ne _ _ hq)) d1, .lst (SqL.of upd_same) .nil, d2, rfl, ?_⟩
    cases xs with
    | nil =>
      have : ds = [] := List.eq_nil_of_length_eq_zero d4
      subst this
      refine ⟨_, rfl, ?_⟩
      rw [if_neg (by decide)]
      exact q _ L ts ls l (s3.trans (same_upd ne)) (hL.same (same_upd ne)) hW h6 hll (hn rfl) hR
    | cons t0 xs =>
      obtain ⟨d, ds', rfl⟩ : ∃ d ds', ds = d :: ds' := by
        cases ds with
        | nil => simp at d4
        | cons d ds' => exact ⟨d, ds', rfl⟩
      obtain ⟨p, s, hN, h1⟩ := hx t0 List.mem_cons_self
      obtain ⟨x0, x1, r, hld⟩ : ∃ x0 x1 r, MN.ld ls p s = x0 :: x1 :: r := by
        match MN.ld ls p s, h1 with
        | x0 :: x1 :: r, _ => exact ⟨x0, x1, r, rfl⟩
        | [_], h => simp at h
        | [], h => simp at h
      have hnd := MN.ld_nodup hW.nd p s
      rw [hld] at hnd hN
      have hne : x0 ≠ x1 := fun z => by simp [z] at hnd
      have he0 : MN.Ed ls p s x0 := MN.mem_ld.mp (by rw [hld]; exact List.mem_cons_self)
      have he1 : MN.Ed ls p s x1 := MN.mem_ld.mp (by rw [hld]; exact List.mem_cons_of_mem _ List.mem_cons_self)
      refine ⟨_, rfl, ?_⟩
      rw [if_pos (by rfl)]
      refine ⟨_, fun _ _ h => h, ?_⟩
      have cu : cutV ((x0 :: x1 :: r).map fun n => V.int (n : Nat)) none (some 2) = [((x0 : Nat) : Int), ((x1 : Nat) : Int)].map V.int := by
        rw [cutV_to]
        rfl
      have sE := same_upd (o := HO.lst []) ne
      have hL4 := hL.same sE
      have hq4 := sE _ _ hq
      have hN4 : upd H3 e (.lst []) t0 = some (.lst ((x0 :: x1 :: r).map fun n => V.int (n : Nat))) := sE _ _ hN
      have s4 := s3.trans sE
      generalize upd H3 e (.lst []) = H4 at hL4 hq4 hN4 s4 ⊢
      refine ⟨_, hq4, _, atI_0, t0, rfl, _, SqL.of hN4, fun p1 np1 => ?_⟩
      rw [cu]
      have sP := same_upd (o := HO.lst ([((x0 : Nat) : Int), ((x1 : Nat) : Int)].map V.int)) np1
      have hp1 := @upd_same H4 p1 (HO.lst ([((x0 : Nat) : Int), ((x1 : Nat) : Int)].map V.int))
      generalize upd H4 p1 (HO.lst ([((x0 : Nat) : Int), ((x1 : Nat) : Int)].map V.int)) = H5 at sP hp1 ⊢
      refine ⟨_, SqL.of hp1, Nat.zero_lt_two, fun mi hmi hle => ?_⟩
      have hmi' : mi = ((min x0 x1 : Nat) : Int) := by
        have a := hle x0 (by simp)
        have b := hle x1 (by simp)
        simp only [List.mem_cons, List.not_mem_nil, or_false] at hmi
        omega
      subst hmi'
      refine ⟨_, sP _ _ hq4, _, atI_0, t0, rfl, _, SqL.of (sP _ _ hN4), fun p2 np2 => ?_⟩
      rw [cu]
      have sR := same_upd (o := HO.lst ([((x0 : Nat) : Int), ((x1 : Nat) : Int)].map V.int)) np2
      have hp2 := @upd_same H5 p2 (HO.lst ([((x0 : Nat) : Int), ((x1 : Nat) : Int)].map V.int))
      generalize upd H5 p2 (HO.lst ([((x0 : Nat) : Int), ((x1 : Nat) : Int)].map V.int)) = H6 at sR hp2 ⊢
      refine ⟨_, SqL.of hp2, Nat.zero_lt_two, fun ma hma hge => ?_⟩
      have hma' : ma = ((max x0 x1 : Nat) : Int) := by
        have a := hge x0 (by simp)
        have b := hge x1 (by simp)
        simp only [List.mem_cons, List.not_mem_nil, or_false] at hma
        omega
      subst hma'
      have lt : min x0 x1 < max x0 x1 := by omega
      have ha : MN.Ed ls p s (min x0 x1) := by
        rcases Nat.le_total x0 x1 with z | z
        · rwa [Nat.min_eq_left z]
        · rwa [Nat.min_eq_right z]
      have hb : MN.Ed ls p s (max x0 x1) := by
        rcases Nat.le_total x0 x1 with z | z
        · rwa [Nat.max_eq_right z]
        · rwa [Nat.max_eq_left z]
      have hlt := MN.together_len hW.nd ha hb (by omega)
      have hW2 := hW.fold ha hb lt
      have hR2 := hR.fold hW.nd ha hb lt
      generalize min x0 x1 = kp at *
      generalize max x0 x1 = gn at *
      refine ⟨L, ts, ls, kp, gn, rfl, hL4.same (sP.trans sR), by omega, fun H7 L2 us s7 nL2 hL7 => ?_⟩
      refine ⟨L2, us, _, rfl, hL7, fun x hx => by have := tog_let h6 x hx; omega, by omega, fun H8 qc2 xs2 s8 nq2 hq8 hx8 hn8 => ?_⟩
      exact ⟨(MN.together kp gn ls).length, by omega, L2, us, _, l, qc2, rfl, s4.trans (sP.trans (sR.trans (s7.trans s8))), hL7.same s8, hW2, tog_let h6, by omega, Nat.le_refl _, xs2, hq8, hx8, hn8, hR2⟩
end

end K29

namespace K29
open PySem PySem.Spec PyProof.Rows L2 G1 MW
abbrev s_law_rows : Stmt := topS 61
theorem sc_law_rows : FnScope ["_law_many", "_law_lanes", "_law_leading_here", "_law_numbers_here", "_law_order", "_law_at", "_law_sign", "_law_other", "_law_found", "_law_spot", "_law_told"] ["_law_many", "_law_lanes"] (defScope s_law_rows) := ⟨rfl, rfl, rfl, by decide +kernel, rfl, by decide +kernel, by decide +kernel⟩
abbrev s_law_picture : Stmt := topS 62
theorem sc_law_picture : FnScope ["_law_many", "_law_words_here"] ["_law_many", "_law_words_here"] (defScope s_law_picture) := ⟨rfl, rfl, rfl, by decide +kernel, rfl, by decide +kernel, by decide +kernel⟩
local macro_rules | `(tactic| walk_at "rd") => `(tactic| simp only [L2.iZip, G1.rGtD, L2.rMin, L2.tLockE, L2.iKeys, L2.iEnum, L2.ipI, L2.rIn, L2.tPairs, L2.rSetD, L2.tDNewK, G1.tCallK3, G1.tCallK4, G1.tFldA, G1.tCallM, G1.tMakeO, L2.sFld, L2.rExtend, L2.tDNotIn, L2.tDIn, L2.tDGet2, L2.tDisp, L2.rPopAt, L2.tLstRg, L2.tRg1, G1.tMakeO2, G1.rOwnI, G1.rCntN, L2.tPar3, L2.tSeq, L2.tAug, L2.tTup, G1.tCallK3b, G1.tMt, G1.tMinK, G1.rIsTu, L2.rIxT, G1.rTr, G1.rLtD, if_true, if_false, L2.rNotB, L2.rMax, L2.iRng2,L2.tSeq, G1.iEnumS, L2.tDGet, L2.gTup, L2.gCons, L2.gNil, L2.tPar, L2.rIxS, G1.tRepU, L2.rSlS, L2.iStr, L2.tNotV, G1.rIsV, G1.mk_int, G1.mk_bool, G1.mk_str, G1.mk_list, G1.tCallX, V.ty.injEq, L2.tChain, L2.rIsB, G1.tRevS, L2.tM0, L2.tM1, L2.tCallS, G1.tCallK2, G1.tMkR, L2.rAll, L2.rPop, L2.tBM0, L2.tRevL, L2.tAsg, L2.tOp, L2.rI, L2.rI0, L2.tVar, L2.tC, L2.tCB, L2.tCons, L2.tNil, L2.tRet, L2.gName, L2.start, L2.tIf, L2.tIfS, L2.tTest, L2.tNext, L2.rIxL, L2.tSl, L2.rSlL, L2.tNoPart, L2.tPart, L2.tLst, L2.tTup, L2.rSum, L2.tBits, L2.gSub, L2.rSetL, L2.rCat, L2.tDrop, L2.tBM, L2.tBM0, L2.rAppend, L2.tYes, L2.tB, L2.tAnd, L2.tOr, L2.tNot, L2.tAndV, L2.tOrV, G1.tCallO, G1.tXm, G1.tXn, G1.tXv, HO.lst.injEq, HO.tup.injEq, Nat.reduceAdd, Nat.zero_add, List.set_cons_zero, List.set_cons_succ, G1.tFor_eq, G1.tLc_eq, G1.rIxM, G1.rLenM, G1.rSlM, G1.atI_0, G1.atI_1, G1.atI_2, G1.ixN_0, G1.ixN_2, L2.upd_same, L2.upd_upd, and_assoc, L2.iRng1, L2.iList, L2.tUn, L2.rU, G1.rRepS, L2.wipe, List.foldl, L2.rEq, L2.rNe, List.map, List.replicate, List.length, List.append, List.set, List.getElem?_cons_zero, List.getElem?_cons_succ, List.cons_append, List.nil_append, Option.some.injEq, V.int.injEq, V.bl.injEq, V.ref.injEq, V.str.injEq, List.cons.injEq, reduceCtorEq, false_and, and_false, exists_false, or_false, false_or, exists_and_left, exists_and_right, exists_eq_left', exists_eq_left, true_and, and_true, Nat.sub_self, decide_eq_true_eq])
section
variable {P : Program} {w : World} {K : PySem.W.Frag} {mg : Str → Option Value} {base : Heap} {c : Nat → Addr} {cF cW cG : Addr}
def spots (ls : List MN.Ln) : List Nat := 0 :: ls.flatMap fun x => [x.1, x.2.2]
theorem spots_len (ls : List MN.Ln) : (spots ls).length = 1 + 2 * ls.length := by
  unfold spots
  rw [List.length_cons]
  induction ls with
  | nil => rfl
  | cons x ls ih =>
    rw [List.flatMap_cons, List.length_append, List.length_cons]
    show 2 + _ + 1 = _
    rw [List.length_cons]
    omega
theorem ed_spot {ls : List MN.Ln} {p s q : Nat} (h : MN.Ed ls p s q) : q ∈ spots ls := by
  refine List.mem_cons_of_mem _ (List.mem_flatMap.mpr ?_)
  rcases h with ⟨a, _, h⟩ | ⟨a, _, h⟩
  · exact ⟨_, h, by simp⟩
  · exact ⟨_, h, by simp⟩
theorem nd_sub : ∀ (o l : List Nat), o.Nodup → (∀ x ∈ o, x ∈ l) → o.length ≤ l.length
  | [], _, _, _ => Nat.zero_le _
  | x :: o, l, nd, h => by
    obtain ⟨h1, h2⟩ := List.nodup_cons.mp nd
    have hx := h x List.mem_cons_self
    have := nd_sub o (l.erase x) h2 fun y hy => (List.mem_erase_of_ne (fun z => h1 (by rw [← z]; exact hy))).mpr (h y (List.mem_cons_of_mem _ hy))
    rw [List.length_erase_of_mem hx] at this
    have := List.length_pos_of_mem hx
    rw [List.length_cons]
    omega
theorem dl_of {ls : List MN.Ln} (h1 : ∀ p s, (MN.ld ls p s).length ≤ 1) (p s : Nat) : (MN.ld ls p s = [] ∧ MN.dl ls p s = none) ∨ ∃ q, MN.ld ls p s = [q] ∧ MN.dl ls p s = some q := by
  have := h1 p s
  unfold MN.dl
  match MN.ld ls p s, this with
  | [], _ => exact .inl ⟨rfl, rfl⟩
  | [q], _ => exact .inr ⟨q, rfl, rfl⟩
  | _ :: _ :: _, h => simp at h
theorem ord_le {ls : List MN.Ln} (h1 : ∀ p s, (MN.ld ls p s).length ≤ 1) (size k : Nat) : (MN.ord (MN.dl ls) size 0 k).length ≤ 1 + 2 * ls.length := by
  rw [← spots_len]
  refine nd_sub _ _ (MN.ord_nodup _ _ _ _) (MN.ord_mem (S := fun x => x ∈ spots ls) List.mem_cons_self (fun p s q _ e => ed_spot ((MN.dl_ed h1).mp e)) k)
def spLRows : Sp := fun vs H Q _ => ∃ (m : Int) (L : Addr) (ts : List Addr) (ls : List MN.Ln), vs = [.int m, .ref L] ∧ 1 ≤ m ∧ m ≤ 6 ∧ LnsAt H L ts ls ∧ (∀ x ∈ ls, x.2.1 < 6) ∧ ls.length ≤ 50000 ∧ (∀ p s, (MN.ld ls p s).length ≤ 1) ∧
  ∀ H' q us rows, Same H H' → H q = none → (∀ t ∈ us, H t = none) → MN.Rows (MN.dl ls) (2 * m).toNat 0 rows → RowsL H' q us rows → Q (.ref q) H'
theorem ok_lrows (S : Src K mg "_law_rows" s_law_rows) (T : Txt P w K mg base c cF cW cG) (C_law_leading : OkD P w K mg base 1 "_law_leading" ["_law_lanes"] spLead) : OkD P w K mg base 2 "_law_rows" ["_law_many", "_law_lanes"] spLRows := by
  refine okd S (fun f fd F => F.ok sc_law_rows (fun vs H Q E h => ?_) (fun cdv A outer s H vs Q E hr h => ?_)) (fun _ _ _ _ _ _ us hl => match us, hl with | [_, _], _ => rfl)
  · obtain ⟨_, _, _, _, rfl, _⟩ := h
    rfl
  · obtain ⟨m, L, ts, ls, rfl, m1, m6, hL, h6, hll, h1, q⟩ := h
    refine ⟨_, ((pss_cons (ps_asg (pe_tup (pa_cons (pe_callO C_law_leading (hr.mono (by decide)) (by rfl) (pa_cons (pv 1) pa_nil)) (pa_cons (pe_disp (pps_cons pe_int pe_int pps_nil) rfl rfl (by simp) (by decide)) (pa_cons (pe_lst (pa_cons pe_int pa_nil)) (pa_cons pe_int pa_nil))))) (pg_tup (by rfl) (pgs_cons (pg_name (i := 2) sc_law_rows.nd rfl (.inr rfl)) (pgs_cons (pg_name (i := 3) sc_law_rows.nd rfl (.inr rfl)) (pgs_cons (pg_name (i := 4) sc_law_rows.nd rfl (.inl rfl)) (pgs_cons (pg_name (i := 5) sc_law_rows.nd rfl (.inl rfl)) pgs_nil))))))
      (pss_cons (ps_while PassesOwn.never (pt_cmpR op_lt (pv 5) (pe_callB call_lenM (by rfl) T.n_len PySem.boot_len (pa_cons (pv 4) pa_nil)) (nomark _)) (pss_cons (ps_for PassesOwn.never rfl (pi_range1 (by rfl) T.n_range (pa_cons (pe_op op_mulW pe_int (pv 0)) pa_nil)) (pg_name (i := 6) sc_law_rows.nd rfl (.inl rfl)) (pss_one (ps_for PassesOwn.never rfl (pi_list (pe_dget2 (hu_of hr) (pv 2) (pe_tup (pa_cons (pe_ix ix_lM (pv 4) (pv 5) (fun _ _ => rfl)) (pa_cons (pv 6) pa_nil))) (pe_lst pa_nil) ⟨rfl, rfl, rfl, rfl⟩)) (pg_name (i := 7) sc_law_rows.nd rfl (.inl rfl)) (pss_one (ps_if (pt_cmp (pc_dnotin (hu_of hr) (pv 7) (pv 3))) (pss_cons (ps_asg (pe_callB call_lenM (by rfl) T.n_len PySem.boot_len (pa_cons (pv 4) pa_nil)) (pg_sub (pv 3) (pv 7) (set_dict (hu_of hr))))
      (pss_one (ps_expr (pe_bm PySem.F.plainAttrs_list PySem.F.slot_list_append PySem.F.type_list_append mt_append (pv 4) (pa_cons (pv 7) pa_nil))))) pss_nil)))))
      (pss_one (ps_set (i := 5) sc_law_rows.nd rfl (.inl rfl) (pe_op op_add (pv 5) pe_int)))))
      (pss_cons (ps_set (i := 8) sc_law_rows.nd rfl (.inl rfl) (pe_lst pa_nil))
      (pss_cons (ps_for PassesOwn.never rfl (pi_list (pv 4)) (pg_name (i := 9) sc_law_rows.nd rfl (.inr rfl)) (pss_cons (ps_setLc (i := 10) (own := [("_law_sign", 6)]) (g := gName 6) (tt := tYes) (by rfl) sc_law_rows.nd rfl rfl (sw_true rfl rfl rfl (by decide +kernel)) (pi_range1 (by rfl) T.n_range (pa_cons (pe_op op_mulW pe_int (pv 0)) pa_nil)) (blkOk_by (own := [("_law_sign", 6)]) (N := ["_law_many", "_law_lanes", "_law_leading_here", "_law_numbers_here", "_law_order", "_law_at", "_law_sign", "_law_other", "_law_found", "_law_spot", "_law_told"]) (sc := defScope s_law_rows) (by decide +kernel)) (fun _ _ _ _ _ => pg_name (i := 6) sc_law_rows.nd rfl (Or.inl rfl)) (fun _ _ _ _ _ => pts_nil) (fun _ _ _ _ _ => (pe_ix ix_lM (pe_dget2 (hu_of hr) (pv 2) (pe_tup (pa_cons (pv 9) (pa_cons (pv 6) pa_nil))) (pe_lst (pa_cons pe_non pa_nil)) ⟨rfl, rfl, rfl, rfl⟩) pe_int (fun _ _ => rfl))))
      (pss_one (ps_expr (pe_bm PySem.F.plainAttrs_list PySem.F.slot_list_append PySem.F.type_list_append mt_append (pv 8) (pa_cons (pe_lc (own := [("_law_other", 7)]) (g := gName 7) (tt := tYes) (by rfl) sc_law_rows.nd (pi_list (pv 10)) (blkOk_by (own := [("_law_other", 7)]) (N := ["_law_many", "_law_lanes", "_law_leading_here", "_law_numbers_here", "_law_order", "_law_at", "_law_sign", "_law_other", "_law_found", "_law_spot", "_law_told"]) (sc := defScope s_law_rows) (by decide +kernel)) (fun _ _ _ _ _ => pg_name (i := 7) sc_law_rows.nd rfl (Or.inl rfl)) (fun _ _ _ _ _ => pts_nil) (fun _ _ _ _ _ => (pe_ifExp (pt_cmpR op_isN (pv 7) pe_non (nomark _)) pe_non (pe_dget (hu_of hr) (pv 3) (pv 7) (fun _ _ => rfl))))) pa_nil))))))
      (pss_one (ps_ret (pv 8)))))))), ?_⟩
    walk_at "rd"
    have hsz := sizeLine_eq
    refine ⟨L, ts, ls, rfl, hL, h6, by omega, fun H1 d kvL s1 nd hd hF hk => ?_⟩
    refine fun D nD => ⟨[(.inl 0, .int 0)], rfl, by decide, by omega, fun O nO => ⟨by omega, fun b nb => ⟨_, SqT.of upd_same, rfl, _, _, rfl, _, _, rfl, _, _, rfl, _, _, rfl, rfl, ?_⟩⟩⟩
    have eM : mergeK [] [(Sum.inl (0 : Int), V.int 0)] = [((.inl 0 : L2.Key), V.int 0)] := rfl
    rw [eM] at nO nb ⊢
    have nOD : O ≠ D := fun z => by rw [z, upd_same] at nO; cases nO
    have nOH : H1 O = none := by
      rw [upd_ne nOD] at nO
      exact nO
    have d0 : DnO [(.inl 0, V.int 0)] [0] := ⟨rfl, fun x => by
      by_cases e : x = 0
      · subst e
        rfl
      · rw [if_neg (by simpa using e)]
        exact valV_neg (fun z => e (by have := Sum.inl.inj z; omega))⟩
    have S0 : Same H1 (upd (upd (upd H1 D (.dK [(.inl 0, .int 0)])) O (.lst [.int 0])) b (.tup [.ref d, .ref D, .ref O, .int 0])) ∧ (upd (upd (upd H1 D (.dK [(.inl 0, .int 0)])) O (.lst [.int 0])) b (.tup [.ref d, .ref D, .ref O, .int 0])) D = some (.dK [(.inl 0, .int 0)]) ∧ (upd (upd (upd H1 D (.dK [(.inl 0, .int 0)])) O (.lst [.int 0])) b (.tup [.ref d, .ref D, .ref O, .int 0])) O = some (.lst [.int 0]) := by
      have nbO : b ≠ O := fun z => by rw [z, upd_same] at nb; cases nb
      have nbD : b ≠ D := fun z => by
        rw [z, upd_ne nOD.symm, upd_same] at nb
        cases nb
      refine ⟨?_, by rw [upd_ne nbD.symm, upd_ne nOD.symm, upd_same], by rw [upd_ne nbO.symm, upd_same]⟩
      have nb' : H1 b = none := by
        rw [upd_ne nbO, upd_ne nbD] at nb
        exact nb
      intro x o e
      rw [upd_ne (ne_none e nb'), upd_ne (ne_none e nOH), upd_ne (ne_none e nD)]
      exact e
    obtain ⟨sS, sD, sO⟩ := S0
    generalize upd (upd (upd H1 D (.dK [(.inl 0, .int 0)])) O (.lst [.int 0])) b (.tup [.ref d, .ref D, .ref O, .int 0]) = H0 at sS sD sO ⊢
    have hsz2 : 2 * m = (((2 * m).toNat : Nat) : Int) := by omega
    have hlen : ∀ k, (MN.ord (MN.dl ls) (2 * m).toNat 0 k).length ≤ 1 + 2 * ls.length := fun k => ord_le h1 _ k
    have cm : CMulW 2 m := cmul (by decide) (by omega)
    have s12 : (2 * m).toNat ≤ 12 := by omega
    generalize hsize : (2 * m).toNat = size at *
    refine ⟨fun mm σ H' => ∃ (k : Nat) (kvs : List (L2.Key × V)) (v6 v7 : Option V), σ = [some (.int m), some (.ref L), some (.ref d), some (.ref D), some (.ref O), some (.int (k : Nat)), v6, v7, none, none, none] ∧ Same H1 H' ∧ H' D = some (.dK kvs) ∧ DnO kvs (MN.ord (MN.dl ls) size 0 k) ∧ H' O = some (.lst ((MN.ord (MN.dl ls) size 0 k).map fun x => V.int (x : Nat))) ∧ k ≤ (MN.ord (MN.dl ls) size 0 k).length ∧ 1 + 2 * ls.length - k ≤ mm, ⟨_, 0, _, none, none, rfl, sS, sD, d0, sO, Nat.zero_le _, Nat.le_refl _⟩, ?_⟩
    rintro mm σ H2 ⟨k, kvs, v6, v7, rfl, s2, h2D, dn, h2O, hk', hm⟩
    walk_at "rd"
    refine ⟨_, h2O, ?_⟩
    rw [List.length_map]
    by_cases hkl : k < (MN.ord (MN.dl ls) size 0 k).length
    · rw [if_pos (by omega)]
      obtain ⟨pp, hpp⟩ : ∃ pp, (MN.ord (MN.dl ls) size 0 k)[k]? = some pp := ⟨_, List.getElem?_eq_getElem hkl⟩
      refine ⟨_, fun _ _ h => h, ?_⟩
      have ord1 : MN.ord (MN.dl ls) size 0 (k + 1) = MN.scan (MN.dl ls) size pp (MN.ord (MN.dl ls) size 0 k) := by
        rw [MN.ord, hpp]
      refine ⟨cm, by omega, by omega, ?_⟩
      rw [hsize]
      refine loop_range (lo := 0) (fun j σ H' => ∃ (kvs : List (L2.Key × V)) (v6 v7 : Option V), σ = [some (.int m), some (.ref L), some (.ref d), some (.ref D), some (.ref O), some (.int (k : Nat)), v6, v7, none, none, none] ∧ Same H1 H' ∧ H' D = some (.dK kvs) ∧ DnO kvs (((MN.ends (MN.dl ls) size pp).take j).foldl MN.put (MN.ord (MN.dl ls) size 0 k)) ∧ H' O = some (.lst ((((MN.ends (MN.dl ls) size pp).take j).foldl MN.put (MN.ord (MN.dl ls) size 0 k)).map fun x => V.int (x : Nat)))) ⟨kvs, v6, v7, rfl, s2, h2D, dn, h2O⟩ ?_ ?_
      · rintro j σ H3 hj ⟨kvs3, v6', v7', rfl, s3, h3D, dn3, h3O⟩
        have ht : (MN.ends (MN.dl ls) size pp)[j]? = some (MN.dl ls pp j) := by
          unfold MN.ends
          rw [List.getElem?_map, List.getElem?_range hj]
          rfl
        have tk : ((MN.ends (MN.dl ls) size pp).take (j + 1)).foldl MN.put (MN.ord (MN.dl ls) size 0 k) = MN.put (((MN.ends (MN.dl ls) size pp).take j).foldl MN.put (MN.ord (MN.dl ls) size 0 k)) (MN.dl ls pp j) := by
          rw [take_step ht, List.foldl_append]
          rfl
        rw [tk]
        have hol : (((MN.ends (MN.dl ls) size pp).take j).foldl MN.put (MN.ord (MN.dl ls) size 0 k)).length ≤ 1 + 2 * ls.length := by
          have e1 := hlen (k + 1)
          rw [ord1] at e1
          unfold MN.scan at e1
          rw [← List.take_append_drop j (MN.ends (MN.dl ls) size pp), List.foldl_append] at e1
          obtain ⟨r, hr⟩ := MN.puts_app ((MN.ends (MN.dl ls) size pp).drop j) (((MN.ends (MN.dl ls) size pp).take j).foldl MN.put (MN.ord (MN.dl ls) size 0 k))
          rw [hr, List.length_append] at e1
          omega
        have hojk : (((MN.ends (MN.dl ls) size pp).take j).foldl MN.put (MN.ord (MN.dl ls) size 0 k))[k]? = some pp := by
          obtain ⟨r, hr⟩ := MN.puts_app ((MN.ends (MN.dl ls) size pp).take j) (MN.ord (MN.dl ls) size 0 k)
          rw [hr, List.getElem?_append_left hkl]
          exact hpp
        generalize ((MN.ends (MN.dl ls) size pp).take j).foldl MN.put (MN.ord (MN.dl ls) size 0 k) = oj at dn3 h3O hol hojk ⊢
        walk_at "rd"
        rw [Int.zero_add]
        refine ⟨.inr ⟨kvL, .inl (s3 _ _ hd)⟩, _, h3O, _, atI_nat (by rw [List.getElem?_map, hojk]; rfl), by omega, fun kt nkt => ⟨by omega, fun e ne => ?_⟩⟩
        have sK := same_upd (o := HO.tup [V.int (pp : Nat), V.int (j : Nat)]) nkt
        have hkt := @upd_same H3 kt (HO.tup [V.int (pp : Nat), V.int (j : Nat)])
        have sE := same_upd (o := HO.lst []) ne
        have hne := @upd_same (upd H3 kt (HO.tup [V.int (pp : Nat), V.int (j : Nat)])) e (HO.lst [])
        have nO3 : e ≠ O := fun z => by rw [z, sK _ _ h3O] at ne; cases ne
        have nD3 : e ≠ D := fun z => by rw [z, sK _ _ h3D] at ne; cases ne
        have s34 := sK.trans sE
        replace hkt := sE _ _ hkt
        generalize upd (upd H3 kt (HO.tup [V.int (pp : Nat), V.int (j : Nat)])) e (HO.lst []) = H4 at hkt hne s34 ⊢
        clear sK sE
        refine ⟨_, DGet.t (k := ky pp j) (s34 _ _ (s3 _ _ hd)) hkt, ?_⟩
        obtain ⟨l1, xs, ho, hl1, nl1, hput⟩ : ∃ (l1 : Addr) (xs : List Nat), (valV kvL (ky pp j)).getD (V.ref e) = V.ref l1 ∧ H4 l1 = some (.lst (xs.map fun n => V.int (n : Nat))) ∧ (l1 ≠ O ∧ l1 ≠ D) ∧ ((xs = [] ∧ MN.dl ls pp j = none) ∨ ∃ x, xs = [x] ∧ MN.dl ls pp j = some x) := by
          rcases hF.val pp j with ⟨z1, z2⟩ | ⟨z0, t1, z2, z3⟩
          · refine ⟨e, [], by rw [z2]; rfl, hne, ⟨nO3, nD3⟩, .inl ⟨rfl, ?_⟩⟩
            rcases dl_of h1 pp j with ⟨_, h⟩ | ⟨x, h, _⟩
            · exact h
            · rw [z1] at h
              cases h
          · have z3' : H1 t1 = some (.lst ((MN.ld ls pp j).map fun n => V.int (n : Nat))) := z3
            refine ⟨t1, MN.ld ls pp j, by rw [z2]; rfl, s34 _ _ (s3 _ _ z3'), ⟨fun z => (by rw [z, nOH] at z3'; cases z3'), fun z => (by rw [z, nD] at z3'; cases z3')⟩, ?_⟩
            rcases dl_of h1 pp j with ⟨h, _⟩ | ⟨x, h, h'⟩
            · exact absurd h z0
            · exact .inr ⟨x, h, h'⟩
        refine ⟨l1, ho, ⟨_, SqL.of hl1⟩, ?_⟩
        have h4D := s34 _ _ h3D
        have h4O := s34 _ _ h3O
        have s4 := s3.trans s34
        refine loop_list (xs := xs.map fun n => V.int (n : Nat)) (fun i σ H' => ∃ (kvs : List (L2.Key × V)) (v7 : Option V), σ = [some (.int m), some (.ref L), some (.ref d), some (.ref D), some (.ref O), some (.int (k : Nat)), some (.int (j : Nat)), v7, none, none, none] ∧ Same H1 H' ∧ H' D = some (.dK kvs) ∧ DnO kvs ((xs.take i).foldl (fun o q => MN.put o (some q)) oj) ∧ H' O = some (.lst (((xs.take i).foldl (fun o q => MN.put o (some q)) oj).map fun x => V.int (x : Nat))) ∧ H' l1 = some (.lst (xs.map fun n => V.int (n : Nat))) ∧ (i = 0 → (xs.take i).foldl (fun o q => MN.put o (some q)) oj = oj)) ⟨kvs3, v7', rfl, s4, h4D, dn3, h4O, hl1, fun _ => rfl⟩ (fun i σ H' hi ⟨_, _, _, _, _, _, _, h, _⟩ => SqL.of h) ?_ ?_
        · rintro i x σ H5 hx ⟨kvs5, v7'', rfl, s5, h5D, dn5, h5O, h5l, hi0⟩
          rw [List.getElem?_map] at hx
          obtain ⟨x, hxs, rfl⟩ := Option.map_eq_some_iff.mp hx
          have hi : i = 0 := by
            have := (List.getElem?_eq_some_iff.mp hxs).1
            rcases hput with ⟨z, _⟩ | ⟨_, z, _⟩
            · rw [z] at this
              exact absurd this (Nat.not_lt_zero _)
            · rw [z, List.length_singleton] at this
              omega
          have e0 := hi0 hi
          have tk2 : (xs.take (i + 1)).foldl (fun o q => MN.put o (some q)) oj = MN.put oj (some x) := by
            rw [take_step hxs, List.foldl_append, e0]
            rfl
          rw [tk2]
          rw [e0] at dn5 h5O
          walk_at "rd"
          have gx := dn5.2 x
          refine ⟨_, .inl ⟨kvs5, .inl (x : Int), .inl h5D, rfl, rfl⟩, ?_⟩
          by_cases mx : x ∈ oj
          · rw [gx, if_pos mx]
            simp only [Option.isSome_some, Bool.not_true, MN.put, if_pos mx]
            rw [if_neg (by decide)]
            exact ⟨⟨_, rfl⟩, s5, kvs5, h5D, dn5, h5O, h5l, fun z => z.elim⟩
          · rw [gx, if_neg mx]
            simp only [Option.isSome_none, Bool.not_false, MN.put, if_neg mx]
            rw [if_pos trivial]
            have hO3 : upd H5 D (.dK (putK kvs5 (.inl (x : Int)) (.int (oj.length : Nat)))) O = some (.lst (oj.map fun x => V.int (x : Nat))) := by rw [upd_ne nOD]; exact h5O
            refine ⟨_, h5O, _, .inl ⟨kvs5, .inl (x : Int), h5D, rfl, by rw [dn5.1]; omega, rfl⟩, ?_⟩
            rw [List.length_map]
            refine ⟨.inl ⟨rfl, _, .inl (.inl hO3)⟩, _, hO3, by rw [List.length_map]; omega, ⟨_, rfl⟩, ?_, _, by rw [upd_ne nOD.symm, upd_same], dn5.add mx, by rw [List.map_append]; rfl, by rw [upd_ne nl1.1, upd_ne nl1.2]; exact h5l, fun z => z.elim⟩
            intro y o e
            rw [upd_ne (ne_none e nOH), upd_ne (ne_none e nD)]
            exact s5 y o e
        · rintro σ H5 ⟨kvs5, v7'', rfl, s5, h5D, dn5, h5O, h5l, hi0⟩
          walk_at "rd"
          have eP : (xs.take (xs.map fun n => V.int (n : Nat)).length).foldl (fun o q => MN.put o (some q)) oj = MN.put oj (MN.dl ls pp j) := by
            rw [List.length_map, List.take_length]
            rcases hput with ⟨z, z2⟩ | ⟨x, z, z2⟩
            · rw [z, z2]
              rfl
            · rw [z, z2]
              rfl
          rw [eP] at dn5 h5O
          exact ⟨⟨_, rfl⟩, ⟨_, rfl⟩, s5, kvs5, h5D, dn5, h5O⟩
      · rintro σ H3 ⟨kvs3, v6', v7', rfl, s3, h3D, dn3, h3O⟩
        walk_at "rd"
        have eT : ((MN.ends (MN.dl ls) size pp).take size).foldl MN.put (MN.ord (MN.dl ls) size 0 k) = MN.ord (MN.dl ls) size 0 (k + 1) := by
          rw [ord1, List.take_of_length_le (by unfold MN.ends; rw [List.length_map, List.length_range]; exact Nat.le_refl _)]
          rfl
        rw [eT] at dn3 h3O
        obtain ⟨r, hr⟩ := MN.ord_app (MN.dl ls) size 0 k
        exact ⟨mm - 1, by have := hlen k; omega, k + 1, by simp, ⟨_, rfl⟩, ⟨_, rfl⟩, s3, kvs3, h3D, dn3, h3O, by rw [hr, List.length_append]; omega, by omega⟩
    · rw [if_neg (by omega)]
      have hke : (MN.ord (MN.dl ls) size 0 k).length = k := by omega
      refine ⟨by omega, fun F nF => ⟨⟨_, SqL.of (same_upd nF _ _ h2O)⟩, ?_⟩⟩
      have hn' : k ≤ 1 + 2 * ls.length := by have := hlen k; omega
      refine loop_list (xs := (MN.ord (MN.dl ls) size 0 k).map fun x => V.int (x : Nat)) (fun i σ H' => ∃ (ts : List Addr) (v6 v7 v9 v10 : Option V), σ = [some (.int m), some (.ref L), some (.ref d), some (.ref D), some (.ref O), some (.int (k : Nat)), v6, v7, some (.ref F), v9, v10] ∧ Same H2 H' ∧ H' F = some (.lst (ts.map V.ref)) ∧ ts.length = i ∧ (∀ t ∈ ts, H2 t = none ∧ t ≠ F) ∧ ∀ (j : Nat) (t : Addr) (pp : Nat), ts[j]? = some t → (MN.ord (MN.dl ls) size 0 k)[j]? = some pp → H' t = some (.lst (((MN.ends (MN.dl ls) size pp).map fun t => t.map fun q => (MN.ord (MN.dl ls) size 0 k).idxOf q).map ov))) ⟨[], v6, v7, none, none, rfl, same_upd nF, upd_same, rfl, (fun _ z => nomatch z), fun j t pp e => by cases e⟩ (fun i σ H' hi ⟨_, _, _, _, _, _, s', _⟩ => SqL.of (s' _ _ h2O)) ?_ ?_
      · rintro i x σ H3 hx ⟨ts, v6', v7', v9, v10, rfl, s3, h3F, htl, htn, hts⟩
        rw [List.getElem?_map] at hx
        obtain ⟨pp, hpp, rfl⟩ := Option.map_eq_some_iff.mp hx
        walk_at "rd"
        refine ⟨cm, by omega, by omega, ?_⟩
        rw [hsize]
        have hendl : (MN.ends (MN.dl ls) size pp).length = size := by unfold MN.ends; rw [List.length_map, List.length_range]
        refine comp_range (lo := 0) (fun D3 j H' => Same H3 H' ∧ H' D3 = some (.lst (((MN.ends (MN.dl ls) size pp).take j).map ov))) (fun D3 nD3 => ⟨same_upd nD3, upd_same⟩) ?_ ?_
        · rintro D3 j H4 nD3 hj ⟨s4, h4D⟩
          have ht : (MN.ends (MN.dl ls) size pp)[j]? = some (MN.dl ls pp j) := by
            unfold MN.ends
            rw [List.getElem?_map, List.getElem?_range hj]
            rfl
          rw [take_step ht, List.map_append]
          walk_at "rd"
          rw [Int.zero_add]
          have h4d := s4 _ _ (s3 _ _ (s2 _ _ hd))
          refine ⟨.inr ⟨kvL, .inl h4d⟩, by omega, fun kt nkt => ⟨by omega, fun e ne => ?_⟩⟩
          have sK := same_upd (o := HO.tup [V.int (pp : Nat), V.int (j : Nat)]) nkt
          have hkt := @upd_same H4 kt (HO.tup [V.int (pp : Nat), V.int (j : Nat)])
          have sE := same_upd (o := HO.lst [V.non]) ne
          have hne := @upd_same (upd H4 kt (HO.tup [V.int (pp : Nat), V.int (j : Nat)])) e (HO.lst [V.non])
          have s45 := sK.trans sE
          replace hkt := sE _ _ hkt
          generalize upd (upd H4 kt (HO.tup [V.int (pp : Nat), V.int (j : Nat)])) e (HO.lst [V.non]) = H5 at hkt hne s45 ⊢
          clear sK sE
          refine ⟨_, DGet.t (k := ky pp j) (s45 _ _ h4d) hkt, ?_⟩
          obtain ⟨l1, xs, ho, hl1, h0⟩ : ∃ (l1 : Addr) (xs : List V), (valV kvL (ky pp j)).getD (V.ref e) = V.ref l1 ∧ H5 l1 = some (.lst xs) ∧ atI xs 0 = some (ov (MN.dl ls pp j)) := by
            rcases hF.val pp j with ⟨z1, z2⟩ | ⟨z0, t1, z2, z3⟩
            · refine ⟨e, [V.non], by rw [z2]; rfl, hne, ?_⟩
              rcases dl_of h1 pp j with ⟨_, h⟩ | ⟨x, h, _⟩
              · rw [h]
                exact atI_0
              · rw [z1] at h
                cases h
            · have z3' : H1 t1 = some (.lst ((MN.ld ls pp j).map fun n => V.int (n : Nat))) := z3
              refine ⟨t1, _, by rw [z2]; rfl, s45 _ _ (s4 _ _ (s3 _ _ (s2 _ _ z3'))), ?_⟩
              rcases dl_of h1 pp j with ⟨h, _⟩ | ⟨x, h, h'⟩
              · exact absurd h z0
              · rw [h, h']
                exact atI_0
          exact ⟨l1, ho, _, hl1, _, h0, _, s45 _ _ h4D, by rw [List.length_map, List.length_take]; omega, same_over (s4.trans s45) nD3, rfl⟩
        · rintro D3 H4 nD3 ⟨s4, h4D⟩
          rw [List.take_of_length_le (by omega)] at h4D
          walk_at "rd"
          have h4F := s4 _ _ h3F
          have h4d := s4 _ _ (s3 _ _ h2D)
          refine ⟨.inl ⟨rfl, _, .inl (.inl h4F)⟩, ⟨_, SqL.of h4D⟩, ?_⟩
          refine comp_list (xs := (MN.ends (MN.dl ls) size pp).map ov) (fun D4 j H' => Same H4 H' ∧ H' D4 = some (.lst ((((MN.ends (MN.dl ls) size pp).take j).map fun t => t.map fun q => (MN.ord (MN.dl ls) size 0 k).idxOf q).map ov))) (fun D4 nD4 => ⟨same_upd nD4, upd_same⟩) (fun D4 j H' nD4 hj ⟨s', _⟩ => SqL.of (s' _ _ h4D)) ?_ ?_
          · rintro D4 j x H5 nD4 hx ⟨s5, h5D⟩
            rw [List.getElem?_map] at hx
            obtain ⟨t, ht, rfl⟩ := Option.map_eq_some_iff.mp hx
            walk_at "rd"
            have hjl : ((((MN.ends (MN.dl ls) size pp).take j).map fun t => t.map fun q => (MN.ord (MN.dl ls) size 0 k).idxOf q).map ov).length < sizeLine := by
              rw [List.length_map, List.length_map, List.length_take]
              have := (List.getElem?_eq_some_iff.mp ht).1
              omega
            have fin : ∀ y, y = ov (t.map fun q => (MN.ord (MN.dl ls) size 0 k).idxOf q) → ((((MN.ends (MN.dl ls) size pp).take j).map fun t => t.map fun q => (MN.ord (MN.dl ls) size 0 k).idxOf q).map ov) ++ [y] = ((((MN.ends (MN.dl ls) size pp).take (j + 1)).map fun t => t.map fun q => (MN.ord (MN.dl ls) size 0 k).idxOf q).map ov) := fun y e => by
              rw [take_step ht, List.map_append, List.map_append, e]
              rfl
            cases t with
            | none =>
              rw [if_pos (by simp [ov])]
              exact ⟨_, h5D, hjl, same_over s5 nD4, fin _ rfl⟩
            | some z =>
              rw [if_neg (by simp [ov])]
              have hz : z ∈ MN.ord (MN.dl ls) size 0 k := by
                unfold MN.ends at ht
                rw [List.getElem?_map] at ht
                obtain ⟨sg', hsg, e⟩ := Option.map_eq_some_iff.mp ht
                exact MN.ord_closed hke hpp (List.mem_range.mp (List.mem_of_getElem? hsg)) e
              exact ⟨_, .inl ⟨kvs, .inl (z : Int), .inl (s5 _ _ h4d), rfl, (dn.put hz).symm⟩, _, h5D, hjl, same_over s5 nD4, fin _ rfl⟩
          · rintro D4 H5 nD4 ⟨s5, h5D⟩
            have h5F := s5 _ _ h4F
            have n4 : D4 ≠ F := fun z => by rw [z, h4F] at nD4; cases nD4
            rw [List.length_map, List.take_length] at h5D
            have s35 := s4.trans s5
            refine ⟨_, h5F, by rw [List.length_map, htl]; have := (List.getElem?_eq_some_iff.mp hpp).1; omega, ⟨_, rfl⟩, ⟨_, rfl⟩, ⟨_, rfl⟩, ⟨_, rfl⟩, same_over (s3.trans s35) nF, ts ++ [D4], by rw [List.map_append]; rfl, by rw [List.length_append, htl]; rfl, fun t ht => ?_, fun j t pp' e1 e2 => ?_⟩
            · rcases List.mem_append.mp ht with h | h
              · exact htn t h
              · rw [List.mem_singleton.mp h]
                exact ⟨(s3.trans s4).free nD4, n4⟩
            · rcases Nat.lt_or_ge j ts.length with z | z
              · rw [List.getElem?_append_left z] at e1
                have e4 := hts j t pp' e1 e2
                rw [upd_ne (htn t (List.mem_of_getElem? e1)).2]
                exact s35 _ _ e4
              · rw [List.getElem?_append_right z] at e1
                have hj0 : j - ts.length = 0 := by
                  have := (List.getElem?_eq_some_iff.mp e1).1
                  simp at this
                  omega
                rw [hj0] at e1
                cases e1
                rw [show j = i by omega, hpp] at e2
                cases e2
                rw [upd_ne n4]
                exact h5D
      · rintro σ H3 ⟨ts, v6', v7', v9, v10, rfl, s3, h3F, htl, htn, hts⟩
        walk_at "rd"
        rw [List.length_map, hke] at htl
        have s02 := s1.trans s2
        refine q H3 F ts (MN.rowsOf (MN.dl ls) size (MN.ord (MN.dl ls) size 0 k)) (s02.trans s3) (s02.free nF) (fun t ht => s02.free (htn t ht).1) ⟨k, hke, rfl⟩ ⟨h3F, ?_, fun i t row a b => ?_⟩
        · unfold MN.rowsOf
          rw [List.length_map, htl, hke]
        · unfold MN.rowsOf at b
          rw [List.getElem?_map] at b
          obtain ⟨pp, hpp, rfl⟩ := Option.map_eq_some_iff.mp b
          exact hts i t pp a hpp
def spLPict : Sp := fun vs H Q _ => ∃ (m : Int) (a : Addr) (ws : List (List Nat)), vs = [.int m, .ref a] ∧ 1 ≤ m ∧ m ≤ 6 ∧ WsAt H a ws ∧ (∀ l ∈ ws, Sm m l ∧ l.length ≤ 1000) ∧ ws.length ≤ 50 ∧
  ∀ H' q us rows, Same H H' → H q = none → (∀ t ∈ us, H t = none) → MN.Picture (numW ws) (2 * m).toNat rows → (rows.map fun r => (r.filter fun t => t.isSome).length).sum / 2 + 1 ≤ rows.length + ws.length → RowsL H' q us rows → Q (.ref q) H'
theorem ok_lpict (S : Src K mg "_law_picture" s_law_picture) (T : Txt P w K mg base c cF cW cG) (C_law_rows : OkD P w K mg base 2 "_law_rows" ["_law_many", "_law_lanes"] spLRows) (C_law_folded : OkD P w K mg base 4 "_law_folded" ["_law_words_here"] spFold) : OkD P w K mg base 5 "_law_picture" ["_law_many", "_law_words_here"] spLPict := by
  refine okd S (fun f fd F => F.ok sc_law_picture (fun vs H Q E h => ?_) (fun cdv A outer s H vs Q E hr h => ?_)) (fun _ _ _ _ _ _ us hl => match us, hl with | [_, _], _ => rfl)
  · obtain ⟨_, _, _, rfl, _⟩ := h
    rfl
  · obtain ⟨m, a, ws, rfl, m1, m6, ha, hws, hwl, q⟩ := h
    refine ⟨_, ((pss_one (ps_ret (pe_callO C_law_rows (hr.mono (by decide)) (by rfl) (pa_cons (pv 0) (pa_cons (pe_callO C_law_folded (hr.mono (by decide)) (by rfl) (pa_cons (pv 1) pa_nil)) pa_nil)))))), ?_⟩
    walk_at "rd"
    have hsz := sizeLine_eq
    have hfl := flat_le ws fun l h => (hws l h).2
    refine ⟨a, ws, m.toNat, rfl, ha, fun l hl => ⟨(hws l hl).1.sg, (hws l hl).2⟩, fun l hl ch hc => ?_, by omega, hwl, fun H1 L ts ls l s1 hL hW hB hll h1 hRk => ?_⟩
    · have := size_num m1 m6 (hws l hl).1 ch hc
      omega
    · refine ⟨m, L, ts, ls, rfl, m1, m6, hL, fun x hx => by have := hB x hx; omega, by omega, h1, fun H2 q2 us rows s2 nq hus hR hrl => ?_⟩
      have hbd : ∀ p s q, MN.dl ls p s = some q → s < (2 * m).toNat := fun p s q e => ?_
      · exact q H2 q2 us rows (s1.trans s2) (s1.free nq) (fun t ht => s1.free (hus t ht)) ⟨MN.dl ls, hW.pic h1, hR, hbd⟩ (hRk.rows (hW.pic h1) h1 hbd hR) hrl
      rcases (MN.dl_ed h1).mp e with ⟨b, rfl, hb⟩ | ⟨b, rfl, hb⟩
      · have := hB _ hb
        dsimp only at this
        omega
      · have := hB _ hb
        dsimp only at this
        omega
end

end K29

namespace K29
open PySem PySem.Spec PyProof.Rows L2 G1 MW

local macro_rules | `(tactic| walk_at "rd") => `(tactic| simp only [L2.iZip, G1.rGtD, L2.rMin, L2.tLockE, L2.iKeys, L2.iEnum, L2.ipI, L2.rIn, L2.tPairs, L2.rSetD, L2.tDNewK, G1.tCallK3, G1.tCallK4, G1.tFldA, G1.tCallM, G1.tMakeO, L2.sFld, L2.rExtend, L2.tDNotIn, L2.tDIn, L2.tDGet2, L2.tDisp, L2.rPopAt, L2.tLstRg, L2.tRg1, G1.tMakeO2, G1.rOwnI, G1.rCntN, L2.tPar3, L2.tSeq, L2.tAug, L2.tTup, G1.tCallK3b, G1.tMt, G1.tMinK, G1.rIsTu, L2.rIxT, G1.rTr, G1.rLtD, if_true, if_false, L2.rNotB, L2.rMax, L2.iRng2,L2.tSeq, G1.iEnumS, L2.tDGet, L2.gTup, L2.gCons, L2.gNil, L2.tPar, L2.rIxS, G1.tRepU, L2.rSlS, L2.iStr, L2.tNotV, G1.rIsV, G1.mk_int, G1.mk_bool, G1.mk_str, G1.mk_list, G1.tCallX, V.ty.injEq, L2.tChain, L2.rIsB, G1.tRevS, L2.tM0, L2.tM1, L2.tCallS, G1.tCallK2, G1.tMkR, L2.rAll, L2.rPop, L2.tBM0, L2.tRevL, L2.tAsg, L2.tOp, L2.rI, L2.rI0, L2.tVar, L2.tC, L2.tCB, L2.tCons, L2.tNil, L2.tRet, L2.gName, L2.start, L2.tIf, L2.tIfS, L2.tTest, L2.tNext, L2.rIxL, L2.tSl, L2.rSlL, L2.tNoPart, L2.tPart, L2.tLst, L2.tTup, L2.rSum, L2.tBits, L2.gSub, L2.rSetL, L2.rCat, L2.tDrop, L2.tBM, L2.tBM0, L2.rAppend, L2.tYes, L2.tB, L2.tAnd, L2.tOr, L2.tNot, L2.tAndV, L2.tOrV, G1.tCallO, G1.tXm, G1.tXn, G1.tXv, HO.lst.injEq, HO.tup.injEq, Nat.reduceAdd, Nat.zero_add, List.set_cons_zero, List.set_cons_succ, G1.tFor_eq, G1.tLc_eq, G1.rIxM, G1.rLenM, G1.rSlM, G1.atI_0, G1.atI_1, G1.atI_2, G1.ixN_0, G1.ixN_2, L2.upd_same, L2.upd_upd, and_assoc, L2.iRng1, L2.iList, L2.tUn, L2.rU, G1.rRepS, L2.wipe, List.foldl, L2.rEq, L2.rNe, List.map, List.replicate, List.length, List.append, List.set, List.getElem?_cons_zero, List.getElem?_cons_succ, List.cons_append, List.nil_append, Option.some.injEq, V.int.injEq, V.bl.injEq, V.ref.injEq, V.str.injEq, List.cons.injEq, reduceCtorEq, false_and, and_false, exists_false, or_false, false_or, exists_and_left, exists_and_right, exists_eq_left', exists_eq_left, true_and, and_true, Nat.sub_self, decide_eq_true_eq])
section
end

end K29

namespace K29
open PySem PySem.Spec PyProof.Rows L2 G1 MW
abbrev s_law_product : Stmt := topS 64
theorem sc_law_product : FnScope ["_law_generator_here", "_law_words_here", "_law_most", "_law_found", "_law_turn", "_law_word_here"] ["_law_generator_here", "_law_words_here", "_law_most"] (defScope s_law_product) := ⟨rfl, rfl, rfl, by decide +kernel, rfl, by decide +kernel, by decide +kernel⟩
local macro_rules | `(tactic| walk_at "rd") => `(tactic| simp only [L2.iZip, G1.rGtD, L2.rMin, L2.tLockE, L2.iKeys, L2.iEnum, L2.ipI, L2.rIn, L2.tPairs, L2.rSetD, L2.tDNewK, G1.tCallK3, G1.tCallK4, G1.tFldA, G1.tCallM, G1.tMakeO, L2.sFld, L2.rExtend, L2.tDNotIn, L2.tDIn, L2.tDGet2, L2.tDisp, L2.rPopAt, L2.tLstRg, L2.tRg1, G1.tMakeO2, G1.rOwnI, G1.rCntN, L2.tPar3, L2.tSeq, L2.tAug, L2.tTup, G1.tCallK3b, G1.tMt, G1.tMinK, G1.rIsTu, L2.rIxT, G1.rTr, G1.rLtD, if_true, if_false, L2.rNotB, L2.rMax, L2.iRng2,L2.tSeq, G1.iEnumS, L2.tDGet, L2.gTup, L2.gCons, L2.gNil, L2.tPar, L2.rIxS, G1.tRepU, L2.rSlS, L2.iStr, L2.tNotV, G1.rIsV, G1.mk_int, G1.mk_bool, G1.mk_str, G1.mk_list, G1.tCallX, V.ty.injEq, L2.tChain, L2.rIsB, G1.tRevS, L2.tM0, L2.tM1, L2.tCallS, G1.tCallK2, G1.tMkR, L2.rAll, L2.rPop, L2.tBM0, L2.tRevL, L2.tAsg, L2.tOp, L2.rI, L2.rI0, L2.tVar, L2.tC, L2.tCB, L2.tCons, L2.tNil, L2.tRet, L2.gName, L2.start, L2.tIf, L2.tIfS, L2.tTest, L2.tNext, L2.rIxL, L2.tSl, L2.rSlL, L2.tNoPart, L2.tPart, L2.tLst, L2.tTup, L2.rSum, L2.tBits, L2.gSub, L2.rSetL, L2.rCat, L2.tDrop, L2.tBM, L2.tBM0, L2.rAppend, L2.tYes, L2.tB, L2.tAnd, L2.tOr, L2.tNot, L2.tAndV, L2.tOrV, G1.tCallO, G1.tXm, G1.tXn, G1.tXv, HO.lst.injEq, HO.tup.injEq, Nat.reduceAdd, Nat.zero_add, List.set_cons_zero, List.set_cons_succ, G1.tFor_eq, G1.tLc_eq, G1.rIxM, G1.rLenM, G1.rSlM, G1.atI_0, G1.atI_1, G1.atI_2, G1.ixN_0, G1.ixN_2, L2.upd_same, L2.upd_upd, and_assoc, L2.iRng1, L2.iList, L2.tUn, L2.rU, G1.rRepS, L2.wipe, List.foldl, L2.rEq, L2.rNe, List.map, List.replicate, List.length, List.append, List.set, List.getElem?_cons_zero, List.getElem?_cons_succ, List.cons_append, List.nil_append, Option.some.injEq, V.int.injEq, V.bl.injEq, V.ref.injEq, V.str.injEq, List.cons.injEq, reduceCtorEq, false_and, and_false, exists_false, or_false, false_or, exists_and_left, exists_and_right, exists_eq_left', exists_eq_left, true_and, and_true, Nat.sub_self, decide_eq_true_eq])
section
variable {P : Program} {w : World} {K : PySem.W.Frag} {mg : Str → Option Value} {base : Heap} {c : Nat → Addr} {cF cW cG : Addr}
theorem sgs_inv : ∀ c ∈ sgs, inv c ∈ sgs := by decide
theorem step_num {st : List Nat} {a : Nat} (hs : Sg st) (ha : a ∈ sgs) : (step st a).map num = MN.step (st.map num) (num a) ∧ Sg (step st a) := by
  cases st with
  | nil => exact ⟨rfl, fun x hx => by rw [List.mem_singleton.mp hx]; exact ha⟩
  | cons t r =>
    have ht := hs t List.mem_cons_self
    show (if t = inv a then r else a :: t :: r).map num = (if num t = MN.inv (num a) then r.map num else num a :: num t :: r.map num) ∧ Sg (if t = inv a then r else a :: t :: r)
    by_cases e : t = inv a
    · rw [if_pos (c := t = inv a) e, if_pos (by rw [e, num_inv a ha])]
      exact ⟨rfl, fun x hx => hs x (List.mem_cons_of_mem _ hx)⟩
    · rw [if_neg (c := t = inv a) e, if_neg (fun z => e (num_inj _ ht _ (sgs_inv a ha) (by rw [z, num_inv a ha])))]
      exact ⟨rfl, fun x hx => (List.mem_cons.mp hx).elim (fun z => z ▸ ha) (hs x)⟩
theorem stk_num : ∀ (l st : List Nat), Sg l → Sg st → (stk st l).map num = MN.stk (st.map num) (l.map num)
  | [], _, _, _ => rfl
  | a :: l, st, hl, hs => by
    obtain ⟨e, h⟩ := step_num hs (hl a List.mem_cons_self)
    show (stk (step st a) l).map num = MN.stk (MN.step (st.map num) (num a)) (l.map num)
    rw [← e]
    exact stk_num l _ (fun x hx => hl x (List.mem_cons_of_mem _ hx)) h
theorem red_num {l : List Nat} (h : Sg l) : (red l).map num = MN.red (l.map num) := by
  unfold red MN.red
  rw [List.map_reverse, stk_num l [] h (fun _ z => nomatch z)]
  rfl
theorem opp_num {l : List Nat} (h : Sg l) : (opp l).map num = MN.opp (l.map num) := by
  unfold opp MN.opp
  rw [List.map_reverse, List.map_map, List.map_map]
  congr 1
  exact List.map_congr_left fun a ha => num_inv a (h a ha)
section
variable {ws : List (List Nat)} {size : Nat} {rows : List (List (Option Nat))}
theorem in_iff (hP : MN.Picture (numW ws) size rows) {l : List Nat} (h : Sg l) : MN.run (MN.rowsD rows) 0 ((red l).map num) = some 0 ↔ MN.Sub (numW ws) (l.map num) := by
  rw [hP.pic.mem (plain_num (fun x hx => h x (mem_red hx)) (red_plain l)), red_num h]
  exact MN.Sub.plain
end
theorem RowsL.but {H H' : Hp} {g q : Addr} {ts : List Addr} {rows : List (List (Option Nat))} (t : RowsL H q ts rows) (qg : q ≠ g) (tg : ∀ t ∈ ts, t ≠ g) (b : But g H H') : RowsL H' q ts rows := ⟨b _ _ qg t.hl, t.ln, fun i r e x y => b _ _ (tg r (List.mem_of_getElem? x)) (t.row i r e x y)⟩
/-- what stands while the law looks at a group -/
structure Kg (cG g a : Addr) (o dx R R2 : Addr) (ts us : List Addr) (m : Int) (ws : List (List Nat)) (rows : List (List (Option Nat))) (H : Hp) : Prop where
  hw : WsAt H a ws
  gr : Gr cG H o dx R ts m rows
  rl : RowsL H R2 us rows
  ag : a ≠ g
  og : o ≠ g
  rg : R ≠ g
  r2g : R2 ≠ g
  tg : ∀ t ∈ ts, t ≠ g
  ug : ∀ t ∈ us, t ≠ g
theorem Kg.but {g a o dx R R2 : Addr} {ts us : List Addr} {m : Int} {ws : List (List Nat)} {rows : List (List (Option Nat))} {H H' : Hp} (k : Kg cG g a o dx R R2 ts us m ws rows H) (b : But g H H') : Kg cG g a o dx R R2 ts us m ws rows H' :=
  ⟨b _ _ k.ag k.hw, ⟨b _ _ k.og k.gr.hp, k.gr.rl.but k.rg k.tg b⟩, k.rl.but k.r2g k.ug b, k.ag, k.og, k.rg, k.r2g, k.tg, k.ug⟩
theorem flat_k (k : Nat) : ∀ ws : List (List Nat), (∀ l ∈ ws, l.length ≤ k) → ws.flatten.length ≤ k * ws.length
  | [], _ => Nat.zero_le _
  | l :: ws, h => by
    have := flat_k k ws fun x hx => h x (List.mem_cons_of_mem _ hx)
    have := h l List.mem_cons_self
    rw [List.flatten_cons, List.length_append, List.length_cons, Nat.mul_succ]
    omega
theorem sg_in {m : Int} (h1 : 1 ≤ m) (h2 : m ≤ 6) : ∀ k : Nat, (k : Int) < 2 * m → sg k ∈ sgs.take (2 * m).toNat := fun k hk => by
  have key : ∀ n : Nat, n ≤ 12 → ∀ k : Nat, k < n → sg k ∈ sgs.take n := by decide +kernel
  exact key _ (by omega) k (by omega)
theorem shows_bl {H : Hp} (b : Bool) : Shows K H (.bl b) (.bool b) := ⟨.bl b, rfl, Nat.zero_le _, by cases b <;> decide +kernel, fun z => by cases b <;> cases z⟩
theorem sub_word {ws : List (List Nat)} {l : List Nat} (h : l ∈ ws) (hs : Sg l) : MN.Sub (numW ws) (l.map num) := by
  have := MN.Sub.gen (ws := numW ws) (List.mem_map.mpr ⟨l, h, rfl⟩)
  rw [red_num hs] at this
  exact MN.Sub.plain.mp this
theorem sub_red {ws : List (List Nat)} {l : List Nat} (hs : Sg l) : MN.Sub (numW ws) ((red l).map num) ↔ MN.Sub (numW ws) (l.map num) := by
  rw [red_num hs]
  exact MN.Sub.plain
def spLProd : Sp := fun vs H Q _ => ∃ (g a : Addr) (m k Z : Int) (ws : List (List Nat)), vs = [.ref g, .ref a, .int k] ∧ 1 ≤ m ∧ m ≤ 6 ∧ a ≠ g ∧ GenOk H g Z ∧ Z + 20000 ≤ 100000000 ∧ WsAt H a ws ∧ ws.length ≤ 1000 ∧ (∀ l ∈ ws, Sm m l ∧ l.length ≤ 30) ∧ 0 ≤ k ∧ k ≤ 10 ∧
  ∀ l H', Sm m l → red l = l → (l.length : Int) ≤ 30 * k → MN.Sub (numW ws) (l.map num) → But g H H' → GenOk H' g (Z + 20000) → Q (.str (W l)) H'
theorem ok_lprod (S : Src K mg "_law_product" s_law_product) (T : Txt P w K mg base c cF cW cG) (C_law_random : OkD P w K mg base 2 "_law_random" ["_law_generator_here", "_law_bound"] spRandom) (C_law_plain : OkD P w K mg base 2 "_law_plain" ["_law_word_here"] spPlain) (C_law_opposite : OkD P w K mg base 2 "_law_opposite" ["_law_word_here"] spOther) : OkD P w K mg base 3 "_law_product" ["_law_generator_here", "_law_words_here", "_law_most"] spLProd := by
  refine okd S (fun f fd F => F.ok sc_law_product (fun vs H Q E h => ?_) (fun cdv A outer s H vs Q E hr h => ?_)) (fun _ _ _ _ _ _ us hl => match us, hl with | [_, _, _], _ => rfl)
  · obtain ⟨_, _, _, _, _, _, rfl, _⟩ := h
    rfl
  · obtain ⟨g, a, m, k, Z, ws, rfl, m1, m2, ag, gk, hZ, ha, hwl, hws, k0, k1, q⟩ := h
    refine ⟨_, ((pss_cons (ps_set (i := 3) sc_law_product.nd rfl (.inl rfl) pe_str)
      (pss_cons (ps_for PassesOwn.never rfl (pi_range1 (by rfl) T.n_range (pa_cons (pe_op op_mulW (pe_callO C_law_random (hr.mono (by decide)) (by rfl) (pa_cons (pv 0) (pa_cons (pe_op op_add (pv 2) pe_int) pa_nil))) (pe_callTy call_int1 (by rfl) T.n_int PyProof.Rows.boot_int (pa_cons (pe_cmpR (op_neDK K rfl hr.units) (pv 1) (pe_lst pa_nil) (nomark _)) pa_nil))) pa_nil)) (pg_name (i := 4) sc_law_product.nd rfl (.inl rfl)) (pss_cons (ps_set (i := 5) sc_law_product.nd rfl (.inl rfl) (pe_ix ix_lM (pv 1) (pe_callO C_law_random (hr.mono (by decide)) (by rfl) (pa_cons (pv 0) (pa_cons (pe_callB call_lenM (by rfl) T.n_len PySem.boot_len (pa_cons (pv 1) pa_nil)) pa_nil))) (fun _ _ => rfl)))
      (pss_one (ps_set (i := 3) sc_law_product.nd rfl (.inl rfl) (pe_callO C_law_plain (hr.mono (by decide)) (by rfl) (pa_cons (pe_op op_add_str (pv 3) (pe_ifExp (pt_cmpR op_eq (pe_callO C_law_random (hr.mono (by decide)) (by rfl) (pa_cons (pv 0) (pa_cons pe_int pa_nil))) pe_int (nomark _)) (pv 5) (pe_callO C_law_opposite (hr.mono (by decide)) (by rfl) (pa_cons (pv 5) pa_nil)))) pa_nil))))))
      (pss_one (ps_ret (pv 3)))))), ?_⟩
    walk_at "rd"
    have hz := sizeLine_eq
    refine draw gk (by omega) (by omega) (by omega) fun d H1 d0 d1 bt1 gk1 => ?_
    have ha1 := bt1 _ _ ag ha
    have hws1 : ∀ l ∈ ws, Sg l := fun l hl => (hws l hl).1.sg
    refine ⟨by omega, fun p np => ne_nilW (same_upd np _ _ ha1) hws1 upd_same (.inr ⟨_, rfl, ?_⟩)⟩
    have gk2 := gk1.but (same_upd (o := HO.lst []) np)
    have bt2 : But g H (upd H1 p (.lst [])) := bt1.trans (.of (same_upd np))
    have ha2 : WsAt (upd H1 p (.lst [])) a ws := same_upd np _ _ ha1
    generalize upd H1 p (.lst []) = H2 at gk2 bt2 ha2 ⊢
    clear gk1 bt1 ha1 np gk
    obtain ⟨N, hN, hNw, hN60⟩ : ∃ N : Nat, d * (if (!decide (ws = [])) = true then 1 else 0) = (N : Int) ∧ (0 < N → ws ≠ []) ∧ (N : Int) ≤ d := by
      cases ws with
      | nil => exact ⟨0, by simp, fun z => absurd z (Nat.lt_irrefl _), by omega⟩
      | cons _ _ => exact ⟨d.toNat, by simp; omega, fun _ => by simp, by omega⟩
    refine ⟨d, rfl, cmul (by omega) (by split <;> decide), by rw [hN]; omega, by rw [hN]; omega, ?_⟩
    rw [hN, Int.toNat_natCast]
    refine loop_range (lo := 0) (fun j σ H' => ∃ (l : List Nat) (v4 v5 : Option V), σ = [some (.ref g), some (.ref a), some (.int k), some (.str (W l)), v4, v5] ∧ WsAt H' a ws ∧ But g H H' ∧ GenOk H' g (Z + 300 + 600 * j) ∧ Sm m l ∧ red l = l ∧ l.length ≤ 30 * j ∧ MN.Sub (numW ws) (l.map num)) ⟨[], none, none, rfl, ha2, bt2, gk2.le (by omega), (fun _ z => nomatch z), rfl, by decide, MN.Sub.nil⟩ ?_ ?_
    · rintro j σ H3 hj ⟨l, v4, v5, rfl, ha3, bt3, gk3, hl, hlr, hll, hls⟩
      walk_at "rd"
      refine ⟨_, ha3, ?_⟩
      rw [List.length_map]
      have hpos := List.length_pos_iff.mpr (hNw (by omega))
      refine draw gk3 (by omega) (by omega) (by omega) fun d2 H4 e0 e1 bt4 gk4 => ?_
      obtain ⟨n, rfl⟩ : ∃ n : Nat, d2 = (n : Int) := ⟨d2.toNat, by omega⟩
      have hn : n < ws.length := by omega
      have hwd := List.getElem?_eq_getElem hn
      obtain ⟨hs1, hs2⟩ := hws _ (List.getElem_mem hn)
      have hsub := sub_word (List.getElem_mem hn) hs1.sg
      have ha4 : WsAt H4 a ws := bt4 _ _ ag ha3
      generalize ws[n] = wd at hwd hs1 hs2 hsub
      refine ⟨_, _, rfl, ha4, _, atI_nat (by rw [List.getElem?_map, hwd]; rfl), ?_⟩
      have fin : ∀ (v : List Nat) (H5 : Hp), Sm m v → v.length ≤ 30 → MN.Sub (numW ws) (v.map num) → WsAt H5 a ws → But g H H5 → GenOk H5 g (Z + 300 + 600 * j + 600) → ∃ x, V.str (W v) = V.str x ∧ (W l).length + x.length ≤ sizeLine ∧ spPlain [V.str (W l ++ x)] H5 (fun x H' => ∃ l2, x = V.str (W l2) ∧ (∃ x, some (V.int (0 + (j : Int))) = x) ∧ (∃ x, some (V.str (W wd)) = x) ∧ WsAt H' a ws ∧ But g H H' ∧ GenOk H' g (Z + 300 + 600 * (j + 1 : Nat)) ∧ Sm m l2 ∧ red l2 = l2 ∧ l2.length ≤ 30 * (j + 1) ∧ MN.Sub (numW ws) (l2.map num)) (fun _ _ _ => False) := by
        intro v H5 hv hvl hvs ha5 bt5 gk5
        have hcat : Sm m (l ++ v) := fun ch hc => (List.mem_append.mp hc).elim (hl ch) (hv ch)
        have hlc : (l ++ v).length ≤ 30 * (j + 1) := by rw [List.length_append]; omega
        refine ⟨_, rfl, by rw [W_len, W_len]; omega, l ++ v, by rw [cat_W], hcat.sg, by omega, fun H6 s6 => ?_⟩
        refine ⟨red (l ++ v), rfl, ⟨_, rfl⟩, ⟨_, rfl⟩, s6 _ _ ha5, bt5.trans (.of s6), (gk5.but s6).le (by push_cast; omega), fun ch hc => hcat ch (mem_red hc), red_red (l ++ v), Nat.le_trans (len_red _) hlc, ?_⟩
        rw [sub_red hcat.sg, List.map_append]
        exact hls.append hvs
      refine draw gk4 (by omega) (by decide) (by decide) fun d3 H5 f0 f1 bt5 gk5 => ?_
      have ha5 : WsAt H5 a ws := bt5 _ _ ag ha4
      have bt5' := bt3.trans (bt4.trans bt5)
      refine ⟨rfl, ?_⟩
      by_cases h0 : d3 = 0
      · rw [if_pos (by rw [h0])]
        exact fin wd H5 hs1 hs2 hsub ha5 bt5' (gk5.le (by omega))
      · rw [if_neg (fun z => h0 (V.int.inj z))]
        refine ⟨wd, rfl, hs1.sg, by omega, fun H6 s6 => ?_⟩
        refine fin (opp wd) H6 (sm_opp m1 m2 hs1) (by rw [show (opp wd).length = wd.length by unfold opp; rw [List.length_reverse, List.length_map]]; exact hs2) ?_ (s6 _ _ ha5) (bt5'.trans (.of s6)) ((gk5.but s6).le (by omega))
        rw [opp_num hs1.sg]
        exact hsub.opp
    · rintro σ H3 ⟨l, v4, v5, rfl, ha3, bt3, gk3, hl, hlr, hll, hls⟩
      walk_at "rd"
      exact q l H3 hl hlr (by omega) hls bt3 (gk3.le (by omega))
end

end K29

namespace K29
open PySem PySem.Spec PyProof.Rows L2 G1 MW
abbrev s_finding_lanes : Stmt := topS 39
theorem sc_finding_lanes : FnScope ["rows", "found", "spot", "row", "sign", "target"] ["rows"] (defScope s_finding_lanes) := ⟨rfl, rfl, rfl, by decide +kernel, rfl, by decide +kernel, by decide +kernel⟩
abbrev s_first_words : Stmt := topS 40
theorem sc_first_words : FnScope ["rows", "words", "spot", "sign"] ["rows"] (defScope s_first_words) := ⟨rfl, rfl, rfl, by decide +kernel, rfl, by decide +kernel, by decide +kernel⟩
abbrev s_spot_and_rest : Stmt := topS 43
theorem sc_spot_and_rest : FnScope ["group", "word", "passed"] ["group", "word"] (defScope s_spot_and_rest) := ⟨rfl, rfl, rfl, by decide +kernel, rfl, by decide +kernel, by decide +kernel⟩
abbrev s_class_of : Stmt := topS 42
theorem sc_class_of : FnScope ["group", "word"] ["group", "word"] (defScope s_class_of) := ⟨rfl, rfl, rfl, by decide +kernel, rfl, by decide +kernel, by decide +kernel⟩
abbrev s_first_of_class : Stmt := topS 44
theorem sc_first_of_class : FnScope ["group", "word", "spot", "rest"] ["group", "word"] (defScope s_first_of_class) := ⟨rfl, rfl, rfl, by decide +kernel, rfl, by decide +kernel, by decide +kernel⟩
local macro_rules | `(tactic| walk_at "rd") => `(tactic| simp only [L2.iZip, G1.rGtD, L2.rMin, L2.tLockE, L2.iKeys, L2.iEnum, L2.ipI, L2.rIn, L2.tPairs, L2.rSetD, L2.tDNewK, G1.tCallK3, G1.tCallK4, G1.tFldA, G1.tCallM, G1.tMakeO, L2.sFld, L2.rExtend, L2.tDNotIn, L2.tDIn, L2.tDGet2, L2.tDisp, L2.rPopAt, L2.tLstRg, L2.tRg1, G1.tMakeO2, G1.rOwnI, G1.rCntN, L2.tPar3, L2.tSeq, L2.tAug, L2.tTup, G1.tCallK3b, G1.tMt, G1.tMinK, G1.rIsTu, L2.rIxT, G1.rTr, G1.rLtD, if_true, if_false, L2.rNotB, L2.rMax, L2.iRng2,L2.tSeq, G1.iEnumS, L2.tDGet, L2.gTup, L2.gCons, L2.gNil, L2.tPar, L2.rIxS, G1.tRepU, L2.rSlS, L2.iStr, L2.tNotV, G1.rIsV, G1.mk_int, G1.mk_bool, G1.mk_str, G1.mk_list, G1.tCallX, V.ty.injEq, L2.tChain, L2.rIsB, G1.tRevS, L2.tM0, L2.tM1, L2.tCallS, G1.tCallK2, G1.tMkR, L2.rAll, L2.rPop, L2.tBM0, L2.tRevL, L2.tAsg, L2.tOp, L2.rI, L2.rI0, L2.tVar, L2.tC, L2.tCB, L2.tCons, L2.tNil, L2.tRet, L2.gName, L2.start, L2.tIf, L2.tIfS, L2.tTest, L2.tNext, L2.rIxL, L2.tSl, L2.rSlL, L2.tNoPart, L2.tPart, L2.tLst, L2.tTup, L2.rSum, L2.tBits, L2.gSub, L2.rSetL, L2.rCat, L2.tDrop, L2.tBM, L2.tBM0, L2.rAppend, L2.tYes, L2.tB, L2.tAnd, L2.tOr, L2.tNot, L2.tAndV, L2.tOrV, G1.tCallO, G1.tXm, G1.tXn, G1.tXv, HO.lst.injEq, HO.tup.injEq, Nat.reduceAdd, Nat.zero_add, List.set_cons_zero, List.set_cons_succ, G1.tFor_eq, G1.tLc_eq, G1.rIxM, G1.rLenM, G1.rSlM, G1.atI_0, G1.atI_1, G1.atI_2, G1.ixN_0, G1.ixN_2, L2.upd_same, L2.upd_upd, and_assoc, L2.iRng1, L2.iList, L2.tUn, L2.rU, G1.rRepS, L2.wipe, List.foldl, L2.rEq, L2.rNe, List.map, List.replicate, List.length, List.append, List.set, List.getElem?_cons_zero, List.getElem?_cons_succ, List.cons_append, List.nil_append, Option.some.injEq, V.int.injEq, V.bl.injEq, V.ref.injEq, V.str.injEq, List.cons.injEq, reduceCtorEq, false_and, and_false, exists_false, or_false, false_or, exists_and_left, exists_and_right, exists_eq_left', exists_eq_left, true_and, and_true, Nat.sub_self, decide_eq_true_eq])
section
variable {P : Program} {w : World} {K : PySem.W.Frag} {mg : Str → Option Value} {base : Heap} {c : Nat → Addr} {cF cW cG : Addr}
def Bef (p s i j : Nat) : Prop := p < i ∨ p = i ∧ s < j
/-- an entry of the found lanes when all lanes before a place are done -/
def FoundE (H : Hp) (d : Nat → Nat → Option Nat) (q : Nat) (done : Nat → Nat → Prop) (v : V) : Prop := (v = .non ∧ ∀ p s, done p s → d p s ≠ some q) ∨ ∃ t p s, v = .ref t ∧ H t = some (.tup [.int (p : Nat), .int (s : Nat)]) ∧ MN.First d q p s
theorem FoundE.to {H H' : Hp} {d : Nat → Nat → Option Nat} {q : Nat} {done done' : Nat → Nat → Prop} {v : V} (h : FoundE H d q done v) (hH : ∀ t o, H t = some (.tup o) → H' t = some (.tup o)) (hd : ∀ p s, done' p s → d p s = some q → done p s) : FoundE H' d q done' v := by
  rcases h with ⟨rfl, h⟩ | ⟨t, p, s, rfl, h, f⟩
  · exact .inl ⟨rfl, fun p s k e => h p s (hd p s k e) e⟩
  · exact .inr ⟨t, p, s, rfl, hH _ _ h, f⟩
def spFind : Sp := fun vs H Q _ => ∃ (R : Addr) (ts : List Addr) (rows : List (List (Option Nat))) (size : Nat), vs = [.ref R] ∧ RowsL H R ts rows ∧ Shape size rows ∧ rows.length ≤ 1000 ∧ size ≤ 12 ∧ MN.Numb (MN.rowsD rows) rows.length ∧
  ∀ H' q t0 (us : List Addr), Same H H' → H q = none → H' q = some (.lst (.ref t0 :: us.map V.ref)) → us.length + 1 = rows.length → (∀ i u, us[i]? = some u → ∃ p s, H' u = some (.tup [.int (p : Nat), .int (s : Nat)]) ∧ MN.First (MN.rowsD rows) (i + 1) p s) → Q (.ref q) H'
theorem ok_find (S : Src K mg "finding_lanes" s_finding_lanes) (T : Txt P w K mg base c cF cW cG) : OkD P w K mg base 1 "finding_lanes" ["rows"] spFind := by
  refine okd S (fun f fd F => F.ok sc_finding_lanes (fun vs H Q E h => ?_) (fun cdv A outer s H vs Q E hr h => ?_)) (fun _ _ _ _ _ _ us hl => match us, hl with | [_], _ => rfl)
  · obtain ⟨_, _, _, _, rfl, _⟩ := h
    rfl
  · obtain ⟨R, ts, rows, size, rfl, hR, hS, hl, h12, hN, q⟩ := h
    refine ⟨_, ((pss_cons (ps_set (i := 1) sc_finding_lanes.nd rfl (.inl rfl) (pe_op op_cat (pe_lst (pa_cons (pe_tup (pa_cons pe_non (pa_cons pe_non pa_nil))) pa_nil)) (pe_op op_rep (pe_lst (pa_cons pe_non pa_nil)) (pe_op op_sub (pe_callB call_lenM (by rfl) T.n_len PySem.boot_len (pa_cons (pv 0) pa_nil)) pe_int))))
      (pss_cons (ps_for PassesOwn.never rfl (pi_enum (by rfl) T.n_enumerate (pa_cons (pv 0) pa_nil)) (pg_tup (by rfl) (pgs_cons (pg_name (i := 2) sc_finding_lanes.nd rfl (.inl rfl)) (pgs_cons (pg_name (i := 3) sc_finding_lanes.nd rfl (.inl rfl)) pgs_nil))) (pss_one (ps_for PassesOwn.never rfl (pi_enum (by rfl) T.n_enumerate (pa_cons (pv 3) pa_nil)) (pg_tup (by rfl) (pgs_cons (pg_name (i := 4) sc_finding_lanes.nd rfl (.inl rfl)) (pgs_cons (pg_name (i := 5) sc_finding_lanes.nd rfl (.inl rfl)) pgs_nil))) (pss_one (ps_if (PW.pt (pw_and (pt_cmpR op_notN (pv 5) pe_non (nomark _)) (pw_and1 (pt_cmpR op_isN (pe_ix ix_lM (pv 1) (pv 5) (fun _ _ => rfl)) pe_non (nomark _))))) (pss_one (ps_asg (pe_tup (pa_cons (pv 2) (pa_cons (pv 4) pa_nil))) (pg_sub (pv 1) (pv 5) set_list))) pss_nil)))))
      (pss_one (ps_ret (pv 1)))))), ?_⟩
    walk_at "rd"
    have hsz := sizeLine_eq
    have n1 : 0 < rows.length := hS.1
    refine ⟨by omega, fun t0 n0 => ⟨by omega, fun p1 n1' => ⟨by omega, fun p2 n2 => ?_⟩⟩⟩
    have sA : Same H (upd H t0 (.tup [.non, .non])) := same_upd n0
    have sB := sA.trans (same_upd (o := HO.lst [V.ref t0]) n1')
    have sC := sB.trans (same_upd (o := HO.lst [V.non]) n2)
    have hlt : (ts.map V.ref).length = rows.length := by rw [List.length_map, hR.ln]
    refine ⟨_, sC _ _ hR.hl, ?_⟩
    rw [hlt]
    refine ⟨p2, _, _, rfl, rfl, upd_same, by omega, by omega, by simp only [List.length_singleton]; omega, fun p3 n3 => ⟨_, rfl, [.ref t0], ?_, _, upd_same, ?_, fun F nF => ?_⟩⟩
    · have z1 : p1 ≠ p2 := ne_none (upd_same (H := upd H t0 (.tup [.non, .non]))) n2
      have z2 : p1 ≠ p3 := ne_none (show upd (upd (upd H t0 (.tup [.non, .non])) p1 (.lst [.ref t0])) p2 (.lst [.non]) p1 = some _ by rw [upd_ne z1, upd_same]) n3
      rw [upd_ne z2, upd_ne z1, upd_same]
    · simp only [List.length_singleton, List.length_flatten, List.map_replicate, List.sum_replicate_nat]
      omega
    · have hfl : (List.replicate ((rows.length : Int) - 1).toNat [V.non]).flatten = List.replicate (rows.length - 1) V.non := by
        rw [show ((rows.length : Int) - 1).toNat = rows.length - 1 by omega]
        generalize rows.length - 1 = k
        induction k with
        | zero => rfl
        | succ k ih => rw [List.replicate_succ, List.flatten_cons, ih]; rfl
      rw [hfl]
      have sD := sC.trans (same_upd (o := HO.lst (List.replicate ((rows.length : Int) - 1).toNat [V.non]).flatten) n3)
      rw [hfl] at sD nF
      have sE := sD.trans (same_upd (o := HO.lst ([.ref t0] ++ List.replicate (rows.length - 1) V.non)) nF)
      have nFH : H F = none := sD.free nF
      refine ⟨⟨_, SqL.of (sE _ _ hR.hl)⟩, ?_⟩
      refine loop_enum (xs := ts.map V.ref) (fun i σ H' => ∃ (vs : List V) (v2 v3 v4 v5 : Option V), σ = [some (.ref R), some (.ref F), v2, v3, v4, v5] ∧ Same H H' ∧ H' F = some (.lst (.ref t0 :: vs)) ∧ vs.length + 1 = rows.length ∧ ∀ k v, vs[k]? = some v → FoundE H' (MN.rowsD rows) (k + 1) (fun p _ => p < i) v) ⟨List.replicate (rows.length - 1) .non, none, none, none, none, rfl, sE, upd_same, by rw [List.length_replicate]; omega, fun k v e => ?_⟩ (fun i σ H' hi ⟨_, _, _, _, _, _, s', _⟩ => SqL.of (s' _ _ hR.hl)) ?_ ?_
      · refine .inl ⟨?_, fun p s h => absurd h (Nat.not_lt_zero p)⟩
        rw [List.getElem?_replicate] at e
        split at e
        · cases e; rfl
        · cases e
      · rintro i x T σ H1 hx ⟨vs, v2, v3, v4, v5, rfl, s1, h1F, hvl, hvs⟩ nT
        rw [List.getElem?_map] at hx
        obtain ⟨t, ht, rfl⟩ := Option.map_eq_some_iff.mp hx
        have hil := (List.getElem?_eq_some_iff.mp ht).1
        rw [hR.ln] at hil
        obtain ⟨row, hrow⟩ : ∃ r, rows[i]? = some r := ⟨_, List.getElem?_eq_getElem hil⟩
        obtain ⟨hrl, hrq⟩ := hS.2 _ (List.mem_of_getElem? hrow)
        have sT := s1.trans (same_upd (o := HO.tup [.int (i : Nat), .ref t]) nT)
        have hr1 := sT _ _ (hR.row i t _ ht hrow)
        have hdv : ∀ j y, row[j]? = some y → MN.rowsD rows i j = y := fun j y e => by
          unfold MN.rowsD
          rw [hrow]
          show (row[j]?).join = y
          rw [e]
          rfl
        walk_at "rd"
        have h1T := @upd_same H1 T (HO.tup [.int (i : Nat), .ref t])
        have s1T := same_upd (o := HO.tup [.int (i : Nat), .ref t]) nT
        generalize upd H1 T (HO.tup [.int (i : Nat), .ref t]) = H2 at *
        refine ⟨_, SqT.of h1T, rfl, _, _, rfl, _, _, rfl, rfl, _, rfl, ⟨_, SqL.of hr1⟩, ?_⟩
        refine loop_enum (xs := row.map ov) (fun j σ H' => ∃ (vs : List V) (v4 v5 : Option V), σ = [some (.ref R), some (.ref F), some (.int (i : Nat)), some (.ref t), v4, v5] ∧ Same H H' ∧ H' t = some (.lst (row.map ov)) ∧ H' F = some (.lst (.ref t0 :: vs)) ∧ vs.length + 1 = rows.length ∧ ∀ k v, vs[k]? = some v → FoundE H' (MN.rowsD rows) (k + 1) (fun p s => Bef p s i j) v) ⟨vs, v4, v5, rfl, sT, hr1, s1T _ _ h1F, hvl, fun k v e => (hvs k v e).to (fun _ _ z => s1T _ _ z) fun p s z _ => by unfold Bef at z; omega⟩ (fun i σ H' hi ⟨_, _, _, _, _, h, _⟩ => SqL.of h) ?_ ?_
        · rintro j x T2 σ H3 hx3 ⟨ws, v4, v5, rfl, s3, h3t, h3F, hwl, hws⟩ nT2
          rw [List.getElem?_map] at hx3
          obtain ⟨y, hy, rfl⟩ := Option.map_eq_some_iff.mp hx3
          have hd := hdv j y hy
          walk_at "rd"
          have h4T := @upd_same H3 T2 (HO.tup [.int (j : Nat), ov y])
          have s34 := same_upd (o := HO.tup [.int (j : Nat), ov y]) nT2
          generalize upd H3 T2 (HO.tup [.int (j : Nat), ov y]) = H4 at *
          have s4 := s3.trans s34
          have h4F := s34 _ _ h3F
          have h4t := s34 _ _ h3t
          refine ⟨_, SqT.of h4T, rfl, _, _, rfl, _, _, rfl, rfl, ?_⟩
          have skip : (∀ k v, ws[k]? = some v → MN.rowsD rows i j = some (k + 1) → v ≠ .non) → ∀ k v, ws[k]? = some v → FoundE H4 (MN.rowsD rows) (k + 1) (fun p s => Bef p s i (j + 1)) v := fun hn k v e => by
            rcases hws k v e with ⟨rfl, h⟩ | h
            · refine .inl ⟨rfl, fun p s z e2 => ?_⟩
              by_cases hb : Bef p s i j
              · exact h p s hb e2
              · have : p = i ∧ s = j := by unfold Bef at z hb; omega
                obtain ⟨rfl, rfl⟩ := this
                exact hn k _ e e2 rfl
            · exact FoundE.to (.inr h) (fun _ _ z => s34 _ _ z) (done := fun p s => Bef p s i (j + 1)) fun p s z _ => z
          cases y with
          | none =>
            rw [if_neg (by simp [show ov none = V.non from rfl])]
            exact ⟨⟨_, rfl⟩, ⟨_, rfl⟩, s4, h4t, ws, h4F, hwl, skip fun k v e z => by rw [hd] at z; cases z⟩
          | some tq =>
            rw [if_pos (by simp [show ov (some tq) = V.int (tq : Nat) from rfl])]
            have htq := hrq tq (List.mem_of_getElem? hy)
            obtain ⟨x, hx⟩ : ∃ x, (V.ref t0 :: ws)[tq]? = some x := ⟨_, List.getElem?_eq_getElem (by simp only [List.length_cons]; omega)⟩
            refine ⟨_, _, rfl, h4F, x, atI_nat hx, ?_⟩
            by_cases hn : x = .non
            · rw [if_pos hn]
              subst hn
              refine ⟨by omega, fun T3 nT3 => ?_⟩
              have tF : F ≠ T3 := ne_none h4F nT3
              have tt : t ≠ T3 := ne_none h4t nT3
              have tF2 : t ≠ F := fun z => by
                rw [z] at hr1
                have := s34 _ _ h3F
                have h2 : H F = some (.lst (row.map ov)) := z ▸ hR.row i t _ ht hrow
                rw [nFH] at h2
                cases h2
              cases tq with
              | zero => cases hx
              | succ tq =>
                rw [List.getElem?_cons_succ] at hx
                refine ⟨_, _, rfl, by rw [upd_ne tF]; exact h4F, tq + 1, ixN_nat (by simp only [List.length_cons]; omega), ⟨_, rfl⟩, ⟨_, rfl⟩, same_over (s4.trans (same_upd nT3)) nFH, by rw [upd_ne tF2, upd_ne tt]; exact h4t, _, List.set_cons_succ, by rw [List.length_set]; exact hwl, fun k v e => ?_⟩
                have keep : ∀ u o, H4 u = some (.tup o) → upd (upd H4 T3 (.tup [.int (i : Nat), .int (j : Nat)])) F (.lst ((V.ref t0 :: ws).set (tq + 1) (.ref T3))) u = some (.tup o) := fun u o e => by
                  have u1 : u ≠ F := fun z => by rw [z, h4F] at e; cases e
                  have u2 : u ≠ T3 := ne_none e nT3
                  rw [upd_ne u1, upd_ne u2]
                  exact e
                by_cases hk : k = tq
                · subst hk
                  rw [List.getElem?_set_self (by omega)] at e
                  cases e
                  refine .inr ⟨T3, i, j, rfl, by rw [upd_ne (Ne.symm tF), upd_same], hd, fun p s e2 => ?_⟩
                  rcases hws k _ hx with ⟨_, h⟩ | ⟨_, _, _, z, _⟩
                  · have := h p s
                    by_cases hb : Bef p s i j
                    · exact absurd e2 (h p s hb)
                    · unfold Bef at hb
                      omega
                  · cases z
                · rw [List.getElem?_set_ne (fun z => hk z.symm)] at e
                  rcases hws k v e with ⟨rfl, h⟩ | h
                  · refine .inl ⟨rfl, fun p s z e2 => ?_⟩
                    by_cases hb : Bef p s i j
                    · exact h p s hb e2
                    · have : p = i ∧ s = j := by unfold Bef at z hb; omega
                      obtain ⟨rfl, rfl⟩ := this
                      rw [hd] at e2
                      simp only [Option.some.injEq] at e2
                      omega
                  · exact FoundE.to (.inr h) (fun u o z => keep u o (s34 _ _ z)) (done := fun p s => Bef p s i (j + 1)) fun p s z _ => z
            · rw [if_neg hn]
              refine ⟨⟨_, rfl⟩, ⟨_, rfl⟩, s4, h4t, ws, h4F, hwl, skip fun k v e z => ?_⟩
              rw [hd] at z
              cases z
              rw [List.getElem?_cons_succ, e] at hx
              cases hx
              exact hn
        · rintro σ H3 ⟨ws, v4, v5, rfl, s3, h3t, h3F, hwl, hws⟩
          walk_at "rd"
          refine ⟨⟨_, rfl⟩, ⟨_, rfl⟩, ⟨_, rfl⟩, ⟨_, rfl⟩, s3, ws, h3F, hwl, fun k v e => (hws k v e).to (fun _ _ z => z) fun p s z e2 => ?_⟩
          rw [List.length_map, hrl]
          obtain ⟨r, e3, e4⟩ := MN.rowsD_ex.mp e2
          have := (List.getElem?_eq_some_iff.mp e4).1
          rw [(hS.2 _ (List.mem_of_getElem? e3)).1] at this
          unfold Bef
          omega
      · rintro σ H1 ⟨vs, v2, v3, v4, v5, rfl, s1, h1F, hvl, hvs⟩
        walk_at "rd"
        rw [hlt] at hvs
        have hall : ∀ k v, vs[k]? = some v → ∃ t p s, v = .ref t ∧ H1 t = some (.tup [.int (p : Nat), .int (s : Nat)]) ∧ MN.First (MN.rowsD rows) (k + 1) p s := fun k v e => by
          rcases hvs k v e with ⟨rfl, h⟩ | h
          · have hk := (List.getElem?_eq_some_iff.mp e).1
            obtain ⟨p, s, h1, h2⟩ := hN.lead (k + 1) (by omega) (by omega)
            exact absurd h2 (h p s (by omega))
          · exact h
        obtain ⟨us, rfl⟩ : ∃ us : List Addr, vs = us.map V.ref := by
          refine ⟨vs.map fun v => match v with | .ref t => t | _ => 0, ?_⟩
          rw [List.map_map]
          refine List.ext_getElem? fun k => ?_
          rw [List.getElem?_map]
          cases e : vs[k]? with
          | none => rfl
          | some v =>
            obtain ⟨t, _, _, rfl, _⟩ := hall k v e
            rfl
        refine q H1 F t0 us s1 nFH h1F (by rwa [List.length_map] at hvl) fun k u e => ?_
        obtain ⟨t, p, s, e1, e2, e3⟩ := hall k (.ref u) (by rw [List.getElem?_map, e]; rfl)
        cases e1
        exact ⟨p, s, e2, e3⟩
theorem cutV_one {xs : List V} (h : 1 ≤ xs.length) : cutV xs (some 1) none = xs.drop 1 := by
  unfold cutV
  have e1 : HT.sIx xs.length 0 (some (1 : Int)) = 1 := by
    unfold HT.sIx
    simp
    omega
  have e2 : HT.sIx xs.length xs.length none = xs.length := rfl
  rw [e1, e2, List.take_of_length_le (by rw [List.length_drop]; exact Nat.le_refl _)]
theorem sg_take : ∀ size, size ≤ 12 → ∀ s, s < size → sg s ∈ sgs.take size := by decide +kernel
theorem sg_at : ∀ s, s < 12 → sgs[s]? = some (sg s) := by decide +kernel
theorem rowsD_lt {size p s q : Nat} {rows : List (List (Option Nat))} (hS : Shape size rows) (h : MN.rowsD rows p s = some q) : p < rows.length ∧ s < size ∧ q < rows.length := by
  obtain ⟨r, e3, e4⟩ := MN.rowsD_ex.mp h
  have a := (List.getElem?_eq_some_iff.mp e3).1
  have b := (List.getElem?_eq_some_iff.mp e4).1
  have c := hS.2 _ (List.mem_of_getElem? e3)
  exact ⟨a, by omega, c.2 _ (List.mem_of_getElem? e4)⟩
/-- the words along first lanes -/
def FwL (d : Nat → Nat → Option Nat) (size : Nat) (ls : List (List Nat)) : Prop := ∀ q l, ls[q]? = some l → MN.Fw d q (l.map num) ∧ (∀ ch ∈ l, ch ∈ sgs.take size) ∧ l.length ≤ q
def spFWords : Sp := fun vs H Q _ => ∃ (R : Addr) (ts : List Addr) (rows : List (List (Option Nat))) (size : Nat), vs = [.ref R] ∧ RowsL H R ts rows ∧ Shape size rows ∧ rows.length ≤ 1000 ∧ size ≤ 12 ∧ MN.Numb (MN.rowsD rows) rows.length ∧
  ∀ H' q (ls : List (List Nat)), Same H H' → H q = none → H' q = some (.lst (ls.map fun l => V.str (W l))) → ls.length = rows.length → FwL (MN.rowsD rows) size ls → Q (.ref q) H'
theorem ok_fwords (S : Src K mg "first_words" s_first_words) (T : Txt P w K mg base c cF cW cG) (C_finding_lanes : OkD P w K mg base 1 "finding_lanes" ["rows"] spFind) : OkD P w K mg base 2 "first_words" ["rows"] spFWords := by
  refine okd S (fun f fd F => F.ok sc_first_words (fun vs H Q E h => ?_) (fun cdv A outer s H vs Q E hr h => ?_)) (fun _ _ _ _ _ _ us hl => match us, hl with | [_], _ => rfl)
  · obtain ⟨_, _, _, _, rfl, _⟩ := h
    rfl
  · obtain ⟨R, ts, rows, size, rfl, hR, hS, hl, h12, hN, q⟩ := h
    refine ⟨_, ((pss_cons (ps_set (i := 1) sc_first_words.nd rfl (.inl rfl) (pe_lst (pa_cons pe_str pa_nil)))
      (pss_cons (ps_for PassesOwn.never rfl (pi_list (pe_slice (sl_listK K rfl) (pe_callO C_finding_lanes (hr.mono (by decide)) (by rfl) (pa_cons (pv 0) pa_nil)) (po_some pe_int) po_none)) (pg_tup (by rfl) (pgs_cons (pg_name (i := 2) sc_first_words.nd rfl (.inl rfl)) (pgs_cons (pg_name (i := 3) sc_first_words.nd rfl (.inl rfl)) pgs_nil))) (pss_one (ps_expr (pe_bm PySem.F.plainAttrs_list PySem.F.slot_list_append PySem.F.type_list_append mt_append (pv 1) (pa_cons (pe_op op_add_str (pe_ix ix_lM (pv 1) (pv 2) (fun _ _ => rfl)) (pe_ix ix_str (pe_gc (by rfl) T.c_SIGNS) (pv 3) (fun _ _ => rfl))) pa_nil)))))
      (pss_one (ps_ret (pv 1)))))), ?_⟩
    walk_at "rd"
    have hsz := sizeLine_eq
    refine ⟨by omega, fun D nD => ?_⟩
    have sD := same_upd (o := HO.lst [V.str ⟨#[]⟩]) nD
    have hD := @upd_same H D (HO.lst [V.str ⟨#[]⟩])
    refine ⟨R, ts, rows, size, rfl, hR.same sD, hS, hl, h12, hN, fun H1 F t0 us s1 nF hF hul hus => ⟨F, rfl, _, SqL.of hF, fun p np => ?_⟩⟩
    rw [cutV_one (by simp), List.drop_succ_cons, List.drop_zero]
    have s1p := same_upd (o := HO.lst (us.map V.ref)) np
    have hp := @upd_same H1 p (HO.lst (us.map V.ref))
    generalize upd H1 p (HO.lst (us.map V.ref)) = H2 at *
    have h2D := s1p _ _ (s1 _ _ hD)
    have h2u : ∀ i u, us[i]? = some u → ∃ p s, H2 u = some (.tup [.int (p : Nat), .int (s : Nat)]) ∧ MN.First (MN.rowsD rows) (i + 1) p s := fun i u e => by
      obtain ⟨p, s, a, b⟩ := hus i u e
      exact ⟨p, s, s1p _ _ a, b⟩
    have pD : p ≠ D := fun z => by rw [z, s1 _ _ hD] at np; cases np
    have s2 := (sD.trans s1).trans s1p
    refine ⟨⟨_, SqL.of hp⟩, ?_⟩
    refine loop_list (xs := us.map V.ref) (fun i σ H' => ∃ (ls : List (List Nat)) (v2 v3 : Option V), σ = [some (.ref R), some (.ref D), v2, v3] ∧ But D H2 H' ∧ Same H H' ∧ H' D = some (.lst (ls.map fun l => V.str (W l))) ∧ ls.length = i + 1 ∧ FwL (MN.rowsD rows) size ls) ⟨[[]], none, none, rfl, .refl _, s2, h2D, rfl, fun q l e => ?_⟩ (fun i σ H' hi ⟨_, _, _, _, b, _⟩ => SqL.of (b _ _ pD hp)) ?_ ?_
    · cases q with
      | zero => cases e; exact ⟨.zero, (fun ch hc => nomatch hc), Nat.le_refl _⟩
      | succ q => cases e
    · rintro i x σ H3 hx ⟨ls, v2, v3, rfl, b3, s3, h3D, hll, hfw⟩
      rw [List.getElem?_map] at hx
      obtain ⟨u, hu, rfl⟩ := Option.map_eq_some_iff.mp hx
      have hil := (List.getElem?_eq_some_iff.mp hu).1
      obtain ⟨pp, s, hut, hF1⟩ := h2u i u hu
      have h3u := b3 _ _ (fun z => by rw [z, h2D] at hut; cases hut) hut
      obtain ⟨l1, l2, l3⟩ := rowsD_lt hS hF1.1
      obtain ⟨p0, s0, k1, k2⟩ := hN.lead (i + 1) (by omega) (by omega)
      have hle := hF1.2 _ _ k2
      obtain ⟨l, hl0⟩ : ∃ l, ls[pp]? = some l := ⟨_, List.getElem?_eq_getElem (by omega)⟩
      obtain ⟨f1, f2, f3⟩ := hfw _ _ hl0
      walk_at "rd"
      have hgl : l.length + 1 ≤ 1000 := by omega
      refine ⟨_, SqT.of h3u, rfl, _, _, rfl, _, _, rfl, rfl, .inl ⟨rfl, _, .inl (.inl h3D)⟩, _, _, rfl, h3D, _, atI_nat (by rw [List.getElem?_map, hl0]; rfl), _, rfl, by decide, sg s, atI_nat (sg_at s (by omega)), W l, rfl, ?_, _, h3D, by rw [List.length_map]; omega, ⟨_, rfl⟩, ⟨_, rfl⟩, b3.trans .set, same_over s3 nD, ls ++ [l ++ [sg s]], ?_, by rw [List.length_append, hll]; rfl, fun q' l' e => ?_⟩
      · rw [W_len]
        show l.length + 1 ≤ _
        omega
      · rw [List.map_append]
        show _ ++ [V.str (W l ++ W [sg s])] = _ ++ [V.str (W (l ++ [sg s]))]
        rw [cat_W]
      · rcases Nat.lt_or_ge q' ls.length with z | z
        · rw [List.getElem?_append_left z] at e
          exact hfw q' l' e
        · rw [List.getElem?_append_right z] at e
          obtain ⟨e1, e2⟩ := List.getElem?_eq_some_iff.mp e
          have hq : q' = i + 1 := by
            have : q' - ls.length < 1 := e1
            omega
          subst hq
          have : l' = l ++ [sg s] := by
            rw [← e2]
            simp [hll]
          subst this
          refine ⟨?_, fun ch hc => ?_, by rw [List.length_append, List.length_singleton]; omega⟩
          · rw [List.map_append, List.map_singleton, (num_sg s (by omega)).1]
            exact .next (by omega) (by omega) hF1 f1
          · rcases List.mem_append.mp hc with h | h
            · exact f2 _ h
            · rw [List.mem_singleton.mp h]
              exact sg_take size h12 s l2
    · rintro σ H3 ⟨ls, v2, v3, rfl, b3, s3, h3D, hll, hfw⟩
      walk_at "rd"
      rw [List.length_map] at hll
      exact q H3 D ls s3 nD h3D (by omega) hfw
theorem way_cls (δ : Nat → Nat → Option Nat) : ∀ (w : List Nat) (p : Nat), (wayL δ p w).getLast? = some (MN.cls δ p w).1 ∧ w.drop ((wayL δ p w).length - 1) = (MN.cls δ p w).2
  | [], p => ⟨rfl, rfl⟩
  | s :: w, p => by
    rw [wayL, MN.cls]
    cases h : δ p s with
    | none => exact ⟨rfl, rfl⟩
    | some q =>
      obtain ⟨a, b⟩ := way_cls δ w q
      have hne := wayL_ne δ q w
      refine ⟨?_, ?_⟩
      · show (p :: wayL δ q w).getLast? = _
        rw [List.getLast?_cons_of_ne_nil hne, a]
      · show (s :: w).drop ((p :: wayL δ q w).length - 1) = _
        rw [List.length_cons, Nat.add_sub_cancel]
        have : 0 < (wayL δ q w).length := List.length_pos_iff.mpr hne
        obtain ⟨k, hk⟩ : ∃ k, (wayL δ q w).length = k + 1 := ⟨_, (Nat.succ_pred_eq_of_pos this).symm⟩
        rw [hk, Nat.add_sub_cancel] at b
        rw [hk, List.drop_succ_cons, b]
/-- the class of a word: its spot and its rest -/
def spotN (rows : List (List (Option Nat))) (l : List Nat) : Nat := (MN.cls (MN.rowsD rows) 0 (l.map num)).1
def restL (rows : List (List (Option Nat))) (l : List Nat) : List Nat := l.drop ((wayL (MN.rowsD rows) 0 (l.map num)).length - 1)
theorem rest_num (rows : List (List (Option Nat))) (l : List Nat) : (restL rows l).map num = (MN.cls (MN.rowsD rows) 0 (l.map num)).2 := by
  unfold restL
  rw [List.map_drop, (way_cls _ _ _).2]
def clsV (rows : List (List (Option Nat))) (l : List Nat) : List V := [.int (spotN rows l : Nat), .str (W (restL rows l))]
theorem cutS_from {l : List Nat} {k : Nat} (h : k ≤ l.length) : cutS (W l) (some (k : Int)) none = W (l.drop k) := by
  rw [cut_W]
  congr 1
  have e1 : HT.sIx l.length 0 (some (k : Int)) = k := by
    unfold HT.sIx
    simp
    rw [if_neg (by omega)]
    omega
  have e2 : HT.sIx l.length l.length none = l.length := rfl
  rw [e1, e2, List.take_of_length_le (by rw [List.length_drop]; exact Nat.le_refl _)]
def spSRest (cG : Addr) : Sp := fun vs H Q _ => ∃ (g dx R : Addr) (ts : List Addr) (m : Int) (rows : List (List (Option Nat))) (l : List Nat), vs = [.ref g, .str (W l)] ∧ Gr cG H g dx R ts m rows ∧ 1 ≤ m ∧ m ≤ 6 ∧ Shape (2 * m).toNat rows ∧ Sm m l ∧ l.length ≤ 1000 ∧
  ∀ H' q, Same H H' → H q = none → H' q = some (.tup (clsV rows l)) → Q (.ref q) H'
theorem ok_srest (S : Src K mg "spot_and_rest" s_spot_and_rest) (T : Txt P w K mg base c cF cW cG) (C_spots_passed : OkD P w K mg base 1 "spots_passed" ["rows", "numbers"] (spPassed K)) (C_sign_numbers : OkD P w K mg base 1 "sign_numbers" ["word"] spSNums) : OkD P w K mg base 2 "spot_and_rest" ["group", "word"] (spSRest cG) := by
  refine okd S (fun f fd F => F.ok sc_spot_and_rest (fun vs H Q E h => ?_) (fun cdv A outer s H vs Q E hr h => ?_)) (fun _ _ _ _ _ _ us hl => match us, hl with | [_, _], _ => rfl)
  · obtain ⟨_, _, _, _, _, _, _, rfl, _⟩ := h
    rfl
  · obtain ⟨g, dx, R, ts, m, rows, l, rfl, hG, h1, h2, hS, hl, hll, q⟩ := h
    refine ⟨_, ((pss_cons (ps_set (i := 2) sc_spot_and_rest.nd rfl (.inl rfl) (pe_callO C_spots_passed (hr.mono (by decide)) (by rfl) (pa_cons (pe_fldA (pv 0)) (pa_cons (pe_callO C_sign_numbers (hr.mono (by decide)) (by rfl) (pa_cons (pv 1) pa_nil)) pa_nil))))
      (pss_one (ps_ret (pe_tup (pa_cons (pe_ix ix_lM (pv 2) (pe_un un_neg pe_int) (fun _ _ => rfl)) (pa_cons (pe_slice sl_str (pv 1) (po_some (pe_op op_sub (pe_callB call_lenM (by rfl) T.n_len PySem.boot_len (pa_cons (pv 2) pa_nil)) pe_int)) po_none) pa_nil))))))), ?_⟩
    walk_at "rd"
    have hsz := sizeLine_eq
    refine ⟨_, hG.fr T, l, rfl, hl.sg, by omega, fun b H1 s1 nb hb => ⟨R, ts, rows, _, b, _, rfl, (hG.same s1).rl, hS, hb, fun s hs => ?_, by rw [List.length_map]; omega, fun H2 p s2 np hp => ?_⟩⟩
    · obtain ⟨ch, hc, rfl⟩ := List.mem_map.mp hs
      exact size_num h1 h2 hl ch hc
    · have wl := wayL_len (MN.rowsD rows) (l.map num) 0
      have wp : 0 < (wayL (MN.rowsD rows) 0 (l.map num)).length := List.length_pos_iff.mpr (wayL_ne _ _ _)
      rw [List.length_map] at wl
      obtain ⟨ys, hys⟩ := List.getLast?_eq_some_iff.mp (way_cls (MN.rowsD rows) (l.map num) 0).1
      have hlast : atI ((wayL (MN.rowsD rows) 0 (l.map num)).map fun n => V.int (n : Nat)) (-1) = some (.int (spotN rows l : Nat)) := by
        rw [hys, List.map_append]
        exact atI_last _ _
      refine ⟨p, rfl, _, hp, _, hlast, p, rfl, _, hp, by rw [W_len]; omega, by omega, fun t nt => ?_⟩
      refine q _ t (s1.trans (s2.trans (same_upd nt))) (s1.free (s2.free nt)) ?_
      rw [upd_same, List.length_map, show (((wayL (MN.rowsD rows) 0 (l.map num)).length : Nat) : Int) - 1 = (((wayL (MN.rowsD rows) 0 (l.map num)).length - 1 : Nat) : Int) by omega, cutS_from (by omega)]
      rfl
theorem spot_lt {size : Nat} {rows : List (List (Option Nat))} (hS : Shape size rows) (l : List Nat) : spotN rows l < rows.length := by
  obtain ⟨x, _, h, _⟩ := MN.cls_split (δ := MN.rowsD rows) (l.map num) 0
  rcases List.eq_nil_or_concat x with rfl | ⟨y, s, rfl⟩
  · have : 0 = spotN rows l := Option.some.inj h
    rw [← this]
    exact hS.1
  · rw [List.concat_eq_append] at h
    obtain ⟨r, _, h2⟩ := (MN.run_append y).mp h
    exact (rowsD_lt hS (MN.run_one.mp h2)).2.2
def spClassOf (cG : Addr) : Sp := fun vs H Q E => ∃ (g dx R : Addr) (ts : List Addr) (m : Int) (rows : List (List (Option Nat))) (l : List Nat), vs = [.ref g, .str (W l)] ∧ Gr cG H g dx R ts m rows ∧ 1 ≤ m ∧ m ≤ 6 ∧ Shape (2 * m).toNat rows ∧ Sm m l ∧ l.length ≤ 1000 ∧
  ∀ H' q, Same H H' → H q = none → H' q = some (.tup (clsV rows (red l))) → Q (.ref q) H'
theorem ok_classOf (S : Src K mg "class_of" s_class_of) (T : Txt P w K mg base c cF cW cG) (C_check_group_word : OkX P w K mg base 4 "check_group_word" ["group", "word"] (spCheckGW cG)) (C_spot_and_rest : OkD P w K mg base 2 "spot_and_rest" ["group", "word"] (spSRest cG)) (C_reduced : OkD P w K mg base 1 "reduced" ["word"] spRed) : OkX2 P w K mg base 5 "class_of" "group" "word" (spClassOf cG) := by
  refine okx2 S (fun f fd F => F.okX sc_class_of (fun vs H Q E h => ?_) (fun cdv A outer s H vs Q E hr h => ?_)) (fun _ _ _ _ _ _ us hl => match us, hl with | [_, _], _ => rfl) (fun _ _ _ _ _ _ _ _ => rfl)
  · obtain ⟨_, _, _, _, _, _, _, rfl, _⟩ := h
    rfl
  · obtain ⟨g, dx, R, ts, m, rows, l, rfl, hG, h1, h2, hS, hl, hll, q⟩ := h
    refine ⟨_, ((pss_cons (ps_expr (pe_callX (takes_of rfl rfl rfl rfl) C_check_group_word (hr.mono (by decide)) (by rfl) (pa_cons (pv 0) (pa_cons (pv 1) pa_nil))))
      (pss_one (ps_ret (pe_callO C_spot_and_rest (hr.mono (by decide)) (by rfl) (pa_cons (pv 0) (pa_cons (pe_callO C_reduced (hr.mono (by decide)) (by rfl) (pa_cons (pv 1) pa_nil)) pa_nil))))))), ?_⟩
    walk_at "rd"
    have hlr := len_red l
    exact ⟨g, dx, R, ts, m, rows, l, rfl, hG, h1, h2, hl, hll, l, rfl, hl.sg, by omega, fun H1 s1 => ⟨g, dx, R, ts, m, rows, red l, rfl, hG.same s1, h1, h2, hS, fun ch hc => hl ch (mem_red hc), by omega, fun H2 p s2 np hp => q H2 p (s1.trans s2) (s1.free np) hp⟩⟩
/-- the first word of a class -/
def firstL (rows : List (List (Option Nat))) (l f : List Nat) : Prop := ∃ v, MN.Fw (MN.rowsD rows) (spotN rows l) (v.map num) ∧ f = v ++ restL rows l
def spFirst (cG : Addr) : Sp := fun vs H Q E => ∃ (g dx R : Addr) (ts : List Addr) (m : Int) (rows : List (List (Option Nat))) (l : List Nat), vs = [.ref g, .str (W l)] ∧ Gr cG H g dx R ts m rows ∧ 1 ≤ m ∧ m ≤ 6 ∧ Shape (2 * m).toNat rows ∧ MN.Numb (MN.rowsD rows) rows.length ∧ rows.length ≤ 1000 ∧ Sm m l ∧ l.length ≤ 1000 ∧
  ∀ H' f, Same H H' → firstL rows (red l) f → Sm m f → f.length ≤ rows.length + l.length → Q (.str (W f)) H'
theorem ok_first (S : Src K mg "first_of_class" s_first_of_class) (T : Txt P w K mg base c cF cW cG) (C_check_group_word : OkX P w K mg base 4 "check_group_word" ["group", "word"] (spCheckGW cG)) (C_spot_and_rest : OkD P w K mg base 2 "spot_and_rest" ["group", "word"] (spSRest cG)) (C_reduced : OkD P w K mg base 1 "reduced" ["word"] spRed) (C_first_words : OkD P w K mg base 2 "first_words" ["rows"] spFWords) : OkX2 P w K mg base 5 "first_of_class" "group" "word" (spFirst cG) := by
  refine okx2 S (fun f fd F => F.okX sc_first_of_class (fun vs H Q E h => ?_) (fun cdv A outer s H vs Q E hr h => ?_)) (fun _ _ _ _ _ _ us hl => match us, hl with | [_, _], _ => rfl) (fun _ _ _ _ _ _ _ _ => rfl)
  · obtain ⟨_, _, _, _, _, _, _, rfl, _⟩ := h
    rfl
  · obtain ⟨g, dx, R, ts, m, rows, l, rfl, hG, h1, h2, hS, hN, hrl, hl, hll, q⟩ := h
    refine ⟨_, ((pss_cons (ps_expr (pe_callX (takes_of rfl rfl rfl rfl) C_check_group_word (hr.mono (by decide)) (by rfl) (pa_cons (pv 0) (pa_cons (pv 1) pa_nil))))
      (pss_cons (ps_asg (pe_callO C_spot_and_rest (hr.mono (by decide)) (by rfl) (pa_cons (pv 0) (pa_cons (pe_callO C_reduced (hr.mono (by decide)) (by rfl) (pa_cons (pv 1) pa_nil)) pa_nil))) (pg_tup (by rfl) (pgs_cons (pg_name (i := 2) sc_first_of_class.nd rfl (.inl rfl)) (pgs_cons (pg_name (i := 3) sc_first_of_class.nd rfl (.inl rfl)) pgs_nil))))
      (pss_one (ps_ret (pe_op op_add_str (pe_ix ix_lM (pe_callO C_first_words (hr.mono (by decide)) (by rfl) (pa_cons (pe_fldA (pv 0)) pa_nil)) (pv 2) (fun _ _ => rfl)) (pv 3))))))), ?_⟩
    walk_at "rd"
    have hlr := len_red l
    have hsz := sizeLine_eq
    refine ⟨g, dx, R, ts, m, rows, l, rfl, hG, h1, h2, hl, hll, l, rfl, hl.sg, by omega, fun H1 s1 => ⟨g, dx, R, ts, m, rows, red l, rfl, hG.same s1, h1, h2, hS, fun ch hc => hl ch (mem_red hc), by omega, fun H2 p s2 np hp => ?_⟩⟩
    have s02 := s1.trans s2
    refine ⟨p, rfl, _, SqT.of hp, rfl, _, _, rfl, _, _, rfl, rfl, _, (hG.same s02).fr T, R, ts, rows, _, rfl, (hG.same s02).rl, hS, hrl, by omega, hN, fun H3 q3 ls s3 n3 h3 hls hfw => ?_⟩
    have hsp := spot_lt hS (red l)
    obtain ⟨v, hv⟩ : ∃ v, ls[spotN rows (red l)]? = some v := ⟨_, List.getElem?_eq_getElem (by omega)⟩
    obtain ⟨f1, f2, f3⟩ := hfw _ _ hv
    have hrs : (restL rows (red l)).length ≤ (red l).length := by unfold restL; rw [List.length_drop]; omega
    refine ⟨q3, rfl, _, _, rfl, h3, _, atI_nat (by rw [List.getElem?_map, hv]; rfl), W v, rfl, _, rfl, by rw [W_len, W_len]; omega, ?_⟩
    rw [cat_W]
    refine q H3 _ (s02.trans s3) ⟨v, f1, rfl⟩ (fun ch hc => ?_) (by rw [List.length_append]; omega)
    rcases List.mem_append.mp hc with h | h
    · exact f2 _ h
    · exact hl ch (mem_red (List.mem_of_mem_drop h))
end

end K29

namespace K29
open PySem PySem.Spec PyProof.Rows L2 G1 MW
abbrev s_law_key : Stmt := topS 65
theorem sc_law_key : FnScope ["_law_word_here"] ["_law_word_here"] (defScope s_law_key) := ⟨rfl, rfl, rfl, by decide +kernel, rfl, by decide +kernel, by decide +kernel⟩
abbrev s_law_class : Stmt := topS 66
theorem sc_law_class : FnScope ["_law_rows_here", "_law_word_here", "_law_passed", "_law_plain_here"] ["_law_rows_here", "_law_word_here"] (defScope s_law_class) := ⟨rfl, rfl, rfl, by decide +kernel, rfl, by decide +kernel, by decide +kernel⟩
abbrev s_law_short : Stmt := topS 67
theorem sc_law_short : FnScope ["_law_many", "_law_most", "_law_found", "_law_last", "_law_turn", "_law_longer", "_law_word_here", "_law_number"] ["_law_many", "_law_most"] (defScope s_law_short) := ⟨rfl, rfl, rfl, by decide +kernel, rfl, by decide +kernel, by decide +kernel⟩
local macro_rules | `(tactic| walk_at "rd") => `(tactic| simp only [L2.iZip, G1.rGtD, L2.rMin, L2.tLockE, L2.iKeys, L2.iEnum, L2.ipI, L2.rIn, L2.tPairs, L2.rSetD, L2.tDNewK, G1.tCallK3, G1.tCallK4, G1.tFldA, G1.tCallM, G1.tMakeO, L2.sFld, L2.rExtend, L2.tDNotIn, L2.tDIn, L2.tDGet2, L2.tDisp, L2.rPopAt, L2.tLstRg, L2.tRg1, G1.tMakeO2, G1.rOwnI, G1.rCntN, L2.tPar3, L2.tSeq, L2.tAug, L2.tTup, G1.tCallK3b, G1.tMt, G1.tMinK, G1.rIsTu, L2.rIxT, G1.rTr, G1.rLtD, if_true, if_false, L2.rNotB, L2.rMax, L2.iRng2,L2.tSeq, G1.iEnumS, L2.tDGet, L2.gTup, L2.gCons, L2.gNil, L2.tPar, L2.rIxS, G1.tRepU, L2.rSlS, L2.iStr, L2.tNotV, G1.rIsV, G1.mk_int, G1.mk_bool, G1.mk_str, G1.mk_list, G1.tCallX, V.ty.injEq, L2.tChain, L2.rIsB, G1.tRevS, L2.tM0, L2.tM1, L2.tCallS, G1.tCallK2, G1.tMkR, L2.rAll, L2.rPop, L2.tBM0, L2.tRevL, L2.tAsg, L2.tOp, L2.rI, L2.rI0, L2.tVar, L2.tC, L2.tCB, L2.tCons, L2.tNil, L2.tRet, L2.gName, L2.start, L2.tIf, L2.tIfS, L2.tTest, L2.tNext, L2.rIxL, L2.tSl, L2.rSlL, L2.tNoPart, L2.tPart, L2.tLst, L2.tTup, L2.rSum, L2.tBits, L2.gSub, L2.rSetL, L2.rCat, L2.tDrop, L2.tBM, L2.tBM0, L2.rAppend, L2.tYes, L2.tB, L2.tAnd, L2.tOr, L2.tNot, L2.tAndV, L2.tOrV, G1.tCallO, G1.tXm, G1.tXn, G1.tXv, HO.lst.injEq, HO.tup.injEq, Nat.reduceAdd, Nat.zero_add, List.set_cons_zero, List.set_cons_succ, G1.tFor_eq, G1.tLc_eq, G1.rIxM, G1.rLenM, G1.rSlM, G1.atI_0, G1.atI_1, G1.atI_2, G1.ixN_0, G1.ixN_2, L2.upd_same, L2.upd_upd, and_assoc, L2.iRng1, L2.iList, L2.tUn, L2.rU, G1.rRepS, L2.wipe, List.foldl, L2.rEq, L2.rNe, List.map, List.replicate, List.length, List.append, List.set, List.getElem?_cons_zero, List.getElem?_cons_succ, List.cons_append, List.nil_append, Option.some.injEq, V.int.injEq, V.bl.injEq, V.ref.injEq, V.str.injEq, List.cons.injEq, reduceCtorEq, false_and, and_false, exists_false, or_false, false_or, exists_and_left, exists_and_right, exists_eq_left', exists_eq_left, true_and, and_true, Nat.sub_self, decide_eq_true_eq])
section
variable {P : Program} {w : World} {K : PySem.W.Frag} {mg : Str → Option Value} {base : Heap} {c : Nat → Addr} {cF cW cG : Addr}
def spKey : Sp := fun vs H Q _ => ∃ l, vs = [.str (W l)] ∧ Sg l ∧ l.length ≤ 100000 ∧ ∀ H' t a, Same H H' → H t = none → H' t = some (.tup [.int (l.length : Nat), .ref a]) → NumsAt H' a (l.map num) → Q (.ref t) H'
theorem ok_key (S : Src K mg "_law_key" s_law_key) (T : Txt P w K mg base c cF cW cG) (C_law_numbers : OkD P w K mg base 1 "_law_numbers" ["_law_word_here"] spNumbers) : OkD P w K mg base 2 "_law_key" ["_law_word_here"] spKey := by
  refine okd S (fun f fd F => F.ok sc_law_key (fun vs H Q E h => ?_) (fun cdv A outer s H vs Q E hr h => ?_)) (fun _ _ _ _ _ _ us hl => match us, hl with | [_], _ => rfl)
  · obtain ⟨_, rfl, _⟩ := h
    rfl
  · obtain ⟨l, rfl, hl, hll, q⟩ := h
    refine ⟨_, ((pss_one (ps_ret (pe_tup (pa_cons (pe_callB call_len_str (by rfl) T.n_len PySem.boot_len (pa_cons (pv 0) pa_nil)) (pa_cons (pe_callO C_law_numbers (hr.mono (by decide)) (by rfl) (pa_cons (pv 0) pa_nil)) pa_nil)))))), ?_⟩
    walk_at "rd"
    have hsz := sizeLine_eq
    refine ⟨by rw [W_len]; omega, l, rfl, hl, by omega, fun a H1 s1 na ha => ⟨by omega, fun t nt => ?_⟩⟩
    refine q _ t a (s1.trans (same_upd nt)) (s1.free nt) (by rw [upd_same, W_len]) (same_upd nt _ _ ha)
def spLClass : Sp := fun vs H Q _ => ∃ (R : Addr) (ts : List Addr) (rows : List (List (Option Nat))) (size : Nat) (l : List Nat), vs = [.ref R, .str (W l)] ∧ RowsL H R ts rows ∧ Shape size rows ∧ Sg l ∧ (∀ ch ∈ l, num ch < size) ∧ l.length ≤ 100000 ∧
  ∀ H' q, Same H H' → H q = none → H' q = some (.tup (clsV rows (red l))) → Q (.ref q) H'
theorem ok_lclass (S : Src K mg "_law_class" s_law_class) (T : Txt P w K mg base c cF cW cG) (C_law_way : OkD P w K mg base 3 "_law_way" ["_law_rows_here", "_law_word_here"] (spLWay K)) (C_law_plain : OkD P w K mg base 2 "_law_plain" ["_law_word_here"] spPlain) : OkD P w K mg base 4 "_law_class" ["_law_rows_here", "_law_word_here"] spLClass := by
  refine okd S (fun f fd F => F.ok sc_law_class (fun vs H Q E h => ?_) (fun cdv A outer s H vs Q E hr h => ?_)) (fun _ _ _ _ _ _ us hl => match us, hl with | [_, _], _ => rfl)
  · obtain ⟨_, _, _, _, _, rfl, _⟩ := h
    rfl
  · obtain ⟨R, ts, rows, size, l, rfl, hR, hS, hl, hn, hll, q⟩ := h
    refine ⟨_, ((pss_cons (ps_par (i := 2) (j := 3) (by rfl) sc_law_class.nd rfl rfl (by decide) rfl rfl (pa_cons (pe_callO C_law_way (hr.mono (by decide)) (by rfl) (pa_cons (pv 0) (pa_cons (pv 1) pa_nil))) (pa_cons (pe_callO C_law_plain (hr.mono (by decide)) (by rfl) (pa_cons (pv 1) pa_nil)) pa_nil)) (by rfl))
      (pss_one (ps_ret (pe_tup (pa_cons (pe_ix ix_lM (pv 2) (pe_op op_sub (pe_callB call_lenM (by rfl) T.n_len PySem.boot_len (pa_cons (pv 2) pa_nil)) pe_int) (fun _ _ => rfl)) (pa_cons (pe_slice sl_str (pv 3) (po_some (pe_op op_sub (pe_callB call_lenM (by rfl) T.n_len PySem.boot_len (pa_cons (pv 2) pa_nil)) pe_int)) po_none) pa_nil))))))), ?_⟩
    walk_at "rd"
    have hsz := sizeLine_eq
    have hlr := len_red l
    have wl := wayL_len (MN.rowsD rows) ((red l).map num) 0
    have wp : 0 < (wayL (MN.rowsD rows) 0 ((red l).map num)).length := List.length_pos_iff.mpr (wayL_ne _ _ _)
    rw [List.length_map] at wl
    obtain ⟨ys, hys⟩ := List.getLast?_eq_some_iff.mp (way_cls (MN.rowsD rows) ((red l).map num) 0).1
    have hlast : atI ((wayL (MN.rowsD rows) 0 ((red l).map num)).map fun n => V.int (n : Nat)) ((((wayL (MN.rowsD rows) 0 ((red l).map num)).length - 1 : Nat) : Int)) = some (.int (spotN rows (red l) : Nat)) := by
      refine atI_nat ?_
      rw [hys, List.map_append, List.length_append, List.length_singleton, Nat.add_sub_cancel, List.getElem?_append_right (by simp)]
      simp
      rfl
    have he : (((wayL (MN.rowsD rows) 0 ((red l).map num)).length : Nat) : Int) - 1 = (((wayL (MN.rowsD rows) 0 ((red l).map num)).length - 1 : Nat) : Int) := by omega
    refine ⟨R, ts, rows, size, l, rfl, hR, hS, hl, hn, hll, fun H1 b s1 nb hb => ⟨l, rfl, hl, by omega, fun H2 s2 => ⟨b, rfl, _, s2 _ _ hb, b, rfl, _, s2 _ _ hb, .int (spotN rows (red l) : Nat), ?_, b, rfl, _, s2 _ _ hb, W (red l), rfl, by rw [W_len]; omega, by omega, fun t nt => ?_⟩⟩⟩
    · rw [List.length_map, he]
      exact hlast
    · refine q _ t (s1.trans (s2.trans (same_upd nt))) (s1.free (s2.free nt)) ?_
      rw [upd_same, List.length_map, he, cutS_from (by omega)]
      rfl
/-- short plain words -/
def Shorts (m : Int) (n : Nat) (ls : List (List Nat)) : Prop := ∀ l ∈ ls, Plain l ∧ Sm m l ∧ l.length ≤ n
def spShortL : Sp := fun vs H Q _ => ∃ (m : Int) (n : Nat), vs = [.int m, .int (n : Nat)] ∧ 1 ≤ m ∧ m ≤ 6 ∧ n ≤ 5 ∧
  ∀ H' q (ls : List (List Nat)), Same H H' → H q = none → H' q = some (.lst (ls.map fun l => V.str (W l))) → Shorts m n ls → ls.length ≤ 2000000 → Q (.ref q) H'
theorem ok_short (S : Src K mg "_law_short" s_law_short) (T : Txt P w K mg base c cF cW cG) (C_law_text : OkD P w K mg base 1 "_law_text" ["_law_numbers_here"] spText) (C_law_plain : OkD P w K mg base 2 "_law_plain" ["_law_word_here"] spPlain) : OkD P w K mg base 3 "_law_short" ["_law_many", "_law_most"] spShortL := by
  refine okd S (fun f fd F => F.ok sc_law_short (fun vs H Q E h => ?_) (fun cdv A outer s H vs Q E hr h => ?_)) (fun _ _ _ _ _ _ us hl => match us, hl with | [_, _], _ => rfl)
  · obtain ⟨_, _, rfl, _⟩ := h
    rfl
  · obtain ⟨m, n, rfl, h1, h2, hn, q⟩ := h
    refine ⟨_, ((pss_cons (ps_par (i := 2) (j := 3) (by rfl) sc_law_short.nd rfl rfl (by decide) rfl rfl (pa_cons (pe_lst (pa_cons pe_str pa_nil)) (pa_cons (pe_lst (pa_cons pe_str pa_nil)) pa_nil)) (by rfl))
      (pss_cons (ps_for PassesOwn.never rfl (pi_range1 (by rfl) T.n_range (pa_cons (pv 1) pa_nil)) (pg_name (i := 4) sc_law_short.nd rfl (.inl rfl)) (pss_cons (ps_set (i := 5) sc_law_short.nd rfl (.inl rfl) (pe_lst pa_nil))
      (pss_cons (ps_for PassesOwn.never rfl (pi_list (pv 3)) (pg_name (i := 6) sc_law_short.nd rfl (.inl rfl)) (pss_one (ps_for PassesOwn.never rfl (pi_range1 (by rfl) T.n_range (pa_cons (pe_op op_mulW pe_int (pv 0)) pa_nil)) (pg_name (i := 7) sc_law_short.nd rfl (.inl rfl)) (pss_one (ps_expr (pe_bm PySem.F.plainAttrs_list PySem.F.slot_list_append PySem.F.type_list_append mt_append (pv 5) (pa_cons (pe_op op_add_str (pv 6) (pe_callO C_law_text (hr.mono (by decide)) (by rfl) (pa_cons (pe_lst (pa_cons (pv 7) pa_nil)) pa_nil))) pa_nil)))))))
      (pss_cons (ps_setLc (i := 3) (own := [("_law_word_here", 6)]) (g := gName 6) (by rfl) sc_law_short.nd rfl rfl (sw_true rfl rfl rfl (by decide +kernel)) (pi_list (pv 5)) (blkOk_by (own := [("_law_word_here", 6)]) (N := ["_law_many", "_law_most", "_law_found", "_law_last", "_law_turn", "_law_longer", "_law_word_here", "_law_number"]) (sc := defScope s_law_short) (by decide +kernel)) (fun _ _ _ _ _ => pg_name (i := 6) sc_law_short.nd rfl (Or.inl rfl)) (fun _ _ _ _ _ => (pts_one (pt_cmpR op_eq (pe_callO C_law_plain (hr.mono (by decide)) (by rfl) (pa_cons (pv 6) pa_nil)) (pv 6) (nomark _)))) (fun _ _ _ _ _ => (pv 6)))
      (pss_one (ps_set (i := 2) sc_law_short.nd rfl (.inl rfl) (pe_op op_cat (pv 2) (pv 3))))))))
      (pss_one (ps_ret (pv 2)))))), ?_⟩
    walk_at "rd"
    have hsz := sizeLine_eq
    have p12 : ∀ i, i ≤ 5 → 12 ^ i ≤ 248832 := fun i hi => Nat.le_trans (Nat.pow_le_pow_right (by decide) hi) (by decide)
    refine ⟨by omega, fun F nF => ⟨by omega, fun L nL => ⟨by omega, by omega, ?_⟩⟩⟩
    rw [Int.toNat_natCast]
    have sF := same_upd (o := HO.lst [V.str ⟨#[]⟩]) nF
    have sL := same_upd (o := HO.lst [V.str ⟨#[]⟩]) nL
    refine loop_range (n := n) (fun i σ H' => ∃ (F L : Addr) (fs ls : List (List Nat)) (v4 v5 v6 v7 : Option V), σ = [some (.int m), some (.int (n : Nat)), some (.ref F), some (.ref L), v4, v5, v6, v7] ∧ Same H H' ∧ H F = none ∧ H' F = some (.lst (fs.map fun l => V.str (W l))) ∧ H' L = some (.lst (ls.map fun l => V.str (W l))) ∧ Shorts m i fs ∧ Shorts m i ls ∧ ls.length ≤ 12 ^ i ∧ fs.length ≤ (i + 1) * 12 ^ i) ⟨F, L, [[]], [[]], none, none, none, none, rfl, sF.trans sL, nF, sL _ _ upd_same, upd_same, ?_, ?_, by simp, by simp⟩ ?_ ?_
    · intro l hl
      rw [List.mem_singleton.mp hl]
      exact ⟨trivial, (fun c hc => nomatch hc), Nat.le_refl _⟩
    · intro l hl
      rw [List.mem_singleton.mp hl]
      exact ⟨trivial, (fun c hc => nomatch hc), Nat.le_refl _⟩
    · rintro i σ H1 hi ⟨F, L, fs, ls, v4, v5, v6, v7, rfl, s1, nFF, hF, hL, sfs, sls, bls, bfs⟩
      have hi5 := p12 i (by omega)
      walk_at "rd"
      refine ⟨by omega, fun D nD => ?_⟩
      have sD := same_upd (o := HO.lst []) nD
      have cm : CMulW 2 m := cmul (by decide) (by omega)
      refine ⟨⟨_, SqL.of (sD _ _ hL)⟩, ?_⟩
      refine loop_list (xs := ls.map fun l => V.str (W l)) (fun j σ H' => ∃ (ds : List (List Nat)) (v6 v7 : Option V), σ = [some (.int m), some (.int (n : Nat)), some (.ref F), some (.ref L), some (.int (0 + (i : Int))), some (.ref D), v6, v7] ∧ Same H1 H' ∧ H' D = some (.lst (ds.map fun l => V.str (W l))) ∧ (∀ l ∈ ds, Sm m l ∧ l.length ≤ i + 1) ∧ ds.length ≤ 12 * j) ⟨[], v6, v7, rfl, sD, upd_same, (fun l hl => nomatch hl), by simp⟩ (fun j σ H' hj ⟨_, _, _, _, s', _⟩ => SqL.of (s' _ _ hL)) ?_ ?_
      · rintro j x σ H2 hx ⟨ds, v6, v7, rfl, s2, h2D, hds, bds⟩
        rw [List.getElem?_map] at hx
        obtain ⟨l, hl, rfl⟩ := Option.map_eq_some_iff.mp hx
        have hjl := (List.getElem?_eq_some_iff.mp hl).1
        obtain ⟨pl, ml, ll⟩ := sls l (List.mem_of_getElem? hl)
        walk_at "rd"
        refine ⟨cm, by omega, by omega, ?_⟩
        refine loop_range (n := (2 * m).toNat) (fun k σ H' => ∃ (ds : List (List Nat)) (v7 : Option V), σ = [some (.int m), some (.int (n : Nat)), some (.ref F), some (.ref L), some (.int (0 + (i : Int))), some (.ref D), some (.str (W l)), v7] ∧ Same H1 H' ∧ H' D = some (.lst (ds.map fun l => V.str (W l))) ∧ (∀ l ∈ ds, Sm m l ∧ l.length ≤ i + 1) ∧ ds.length ≤ 12 * j + k) ⟨ds, v7, rfl, s2, h2D, hds, bds⟩ ?_ ?_
        · rintro k σ H3 hk ⟨ds, v7, rfl, s3, h3D, hds, bds⟩
          walk_at "rd"
          refine ⟨.inl ⟨rfl, _, .inl (.inl h3D)⟩, by omega, fun pp npp => ⟨pp, [k], rfl, ?_, ?_, by simp, fun H4 s4 => ⟨W [sg k], rfl, by rw [W_len, W_len, List.length_singleton]; omega, _, (same_upd npp).trans s4 _ _ h3D, by rw [List.length_map]; omega, ⟨_, rfl⟩, same_over (s3.trans ((same_upd npp).trans s4)) nD, ds ++ [l ++ [sg k]], ?_, fun z hz => ?_, by rw [List.length_append, List.length_singleton]; omega⟩⟩⟩
          · unfold NumsAt
            rw [upd_same, Int.zero_add]
            rfl
          · intro z hz
            rw [List.mem_singleton.mp hz]
            omega
          · rw [List.map_append, cat_W]
            rfl
          · rcases List.mem_append.mp hz with h | h
            · exact hds z h
            · rw [List.mem_singleton.mp h]
              refine ⟨fun ch hc => ?_, by rw [List.length_append, List.length_singleton]; omega⟩
              rcases List.mem_append.mp hc with h | h
              · exact ml ch h
              · rw [List.mem_singleton.mp h]
                exact sg_mem h2 hk
        · rintro σ H3 ⟨ds, v7, rfl, s3, h3D, hds, bds⟩
          walk_at "rd"
          exact ⟨⟨_, rfl⟩, ⟨_, rfl⟩, s3, ds, h3D, hds, by omega⟩
      · rintro σ H2 ⟨ds, v6, v7, rfl, s2, h2D, hds, bds⟩
        walk_at "rd"
        rw [List.length_map] at bds
        refine ⟨⟨_, SqL.of h2D⟩, ?_⟩
        refine comp_list (xs := ds.map fun l => V.str (W l)) (fun D2 k H' => Same H2 H' ∧ ∃ zs : List (List Nat), H' D2 = some (.lst (zs.map fun l => V.str (W l))) ∧ zs.length ≤ k ∧ Shorts m (i + 1) zs) (fun D nD => ⟨same_upd nD, [], upd_same, Nat.le_refl _, fun l hl => nomatch hl⟩) (fun D i H' nD hi ⟨s', _⟩ => SqL.of (s' _ _ h2D)) ?_ ?_
        · rintro D2 k x H3 nD2 hx ⟨s3, zs, h3, bz, hz⟩
          rw [List.getElem?_map] at hx
          obtain ⟨l, hl, rfl⟩ := Option.map_eq_some_iff.mp hx
          obtain ⟨ml, ll⟩ := hds l (List.mem_of_getElem? hl)
          have hkl := (List.getElem?_eq_some_iff.mp hl).1
          walk_at "rd"
          refine ⟨l, rfl, ml.sg, by omega, fun H4 s4 => ⟨rfl, ?_⟩⟩
          by_cases he : red l = l
          · rw [if_pos (by rw [he])]
            have hpl : Plain l := he ▸ red_plain l
            refine ⟨_, s4 _ _ h3, by rw [List.length_map]; omega, same_over (s3.trans s4) nD2, zs ++ [l], by rw [List.map_append]; rfl, by rw [List.length_append, List.length_singleton]; omega, fun z h => ?_⟩
            rcases List.mem_append.mp h with h | h
            · exact hz z h
            · rw [List.mem_singleton.mp h]
              exact ⟨hpl, ml, ll⟩
          · rw [if_neg (by simpa using fun z => he (W_inj z))]
            exact ⟨s3.trans s4, zs, s4 _ _ h3, by omega, hz⟩
        · rintro D2 H3 nD2 ⟨s3, zs, h3, bz, hz⟩
          walk_at "rd"
          rw [List.length_map] at bz
          have e12 : 12 ^ (i + 1) = 12 * 12 ^ i := by rw [Nat.pow_succ, Nat.mul_comm]
          have b1 : zs.length ≤ 12 * 12 ^ i := by omega
          have b2 : (i + 1) * 12 ^ i ≤ 5 * 248832 := Nat.mul_le_mul (by omega) hi5
          have s03 := s1.trans (s2.trans s3)
          refine ⟨_, s3 _ _ (s2 _ _ hF), _, h3, by rw [List.length_map, List.length_map]; omega, fun p np => ⟨⟨_, rfl⟩, ⟨_, rfl⟩, ⟨_, rfl⟩, ⟨_, rfl⟩, s03.trans (same_upd np), s03.free np, fs ++ zs, by rw [List.map_append], zs, by rw [upd_ne (ne_none h3 np)]; exact h3, fun l hl => ?_, hz, by omega, ?_⟩⟩
          · rcases List.mem_append.mp hl with h | h
            · obtain ⟨a, b, c⟩ := sfs l h
              exact ⟨a, b, by omega⟩
            · exact hz l h
          · rw [List.length_append, e12]
            have : (i + 1 + 1) * (12 * 12 ^ i) = (i + 1) * 12 ^ i + 12 * 12 ^ i + 11 * ((i + 1) * 12 ^ i) := by
              rw [Nat.add_mul (i + 1) 1, Nat.one_mul, ← Nat.mul_assoc, Nat.mul_comm (i + 1) 12, Nat.mul_assoc]
              omega
            omega
    · rintro σ H1 ⟨F, L, fs, ls, v4, v5, v6, v7, rfl, s1, nFF, hF, hL, sfs, sls, bls, bfs⟩
      walk_at "rd"
      have := p12 n (by omega)
      refine q H1 F fs s1 nFF hF sfs ?_
      have : (n + 1) * 12 ^ n ≤ 6 * 248832 := Nat.mul_le_mul (by omega) this
      omega
end

end K29

namespace K29
open PySem PySem.Spec PyProof.Rows L2 G1 MW
abbrev s_law_word_right : Stmt := topS 68
theorem sc_law_word_right : FnScope ["_law_group", "_law_rows_here", "_law_many", "_law_word_here", "_law_shorter", "_law_due", "_law_told", "_law_first", "_law_one"] ["_law_group", "_law_rows_here", "_law_many", "_law_word_here", "_law_shorter"] (defScope s_law_word_right) := ⟨rfl, rfl, rfl, by decide +kernel, rfl, by decide +kernel, by decide +kernel⟩
abbrev s_law_two_right : Stmt := topS 69
theorem sc_law_two_right : FnScope ["_law_group", "_law_one", "_law_other", "_law_same"] ["_law_group", "_law_one", "_law_other"] (defScope s_law_two_right) := ⟨rfl, rfl, rfl, by decide +kernel, rfl, by decide +kernel, by decide +kernel⟩
local macro_rules | `(tactic| walk_at "rd") => `(tactic| simp only [L2.iZip, G1.rGtD, L2.rMin, L2.tLockE, L2.iKeys, L2.iEnum, L2.ipI, L2.rIn, L2.tPairs, L2.rSetD, L2.tDNewK, G1.tCallK3, G1.tCallK4, G1.tFldA, G1.tCallM, G1.tMakeO, L2.sFld, L2.rExtend, L2.tDNotIn, L2.tDIn, L2.tDGet2, L2.tDisp, L2.rPopAt, L2.tLstRg, L2.tRg1, G1.tMakeO2, G1.rOwnI, G1.rCntN, L2.tPar3, L2.tSeq, L2.tAug, L2.tTup, G1.tCallK3b, G1.tMt, G1.tMinK, G1.rIsTu, L2.rIxT, G1.rTr, G1.rLtD, if_true, if_false, L2.rNotB, L2.rMax, L2.iRng2,L2.tSeq, G1.iEnumS, L2.tDGet, L2.gTup, L2.gCons, L2.gNil, L2.tPar, L2.rIxS, G1.tRepU, L2.rSlS, L2.iStr, L2.tNotV, G1.rIsV, G1.mk_int, G1.mk_bool, G1.mk_str, G1.mk_list, G1.tCallX, V.ty.injEq, L2.tChain, L2.rIsB, G1.tRevS, L2.tM0, L2.tM1, L2.tCallS, G1.tCallK2, G1.tMkR, L2.rAll, L2.rPop, L2.tBM0, L2.tRevL, L2.tAsg, L2.tOp, L2.rI, L2.rI0, L2.tVar, L2.tC, L2.tCB, L2.tCons, L2.tNil, L2.tRet, L2.gName, L2.start, L2.tIf, L2.tIfS, L2.tTest, L2.tNext, L2.rIxL, L2.tSl, L2.rSlL, L2.tNoPart, L2.tPart, L2.tLst, L2.tTup, L2.rSum, L2.tBits, L2.gSub, L2.rSetL, L2.rCat, L2.tDrop, L2.tBM, L2.tBM0, L2.rAppend, L2.tYes, L2.tB, L2.tAnd, L2.tOr, L2.tNot, L2.tAndV, L2.tOrV, G1.tCallO, G1.tXm, G1.tXn, G1.tXv, HO.lst.injEq, HO.tup.injEq, Nat.reduceAdd, Nat.zero_add, List.set_cons_zero, List.set_cons_succ, G1.tFor_eq, G1.tLc_eq, G1.rIxM, G1.rLenM, G1.rSlM, G1.atI_0, G1.atI_1, G1.atI_2, G1.ixN_0, G1.ixN_2, L2.upd_same, L2.upd_upd, and_assoc, L2.iRng1, L2.iList, L2.tUn, L2.rU, G1.rRepS, L2.wipe, List.foldl, L2.rEq, L2.rNe, List.map, List.replicate, List.length, List.append, List.set, List.getElem?_cons_zero, List.getElem?_cons_succ, List.cons_append, List.nil_append, Option.some.injEq, V.int.injEq, V.bl.injEq, V.ref.injEq, V.str.injEq, List.cons.injEq, reduceCtorEq, false_and, and_false, exists_false, or_false, false_or, exists_and_left, exists_and_right, exists_eq_left', exists_eq_left, true_and, and_true, Nat.sub_self, decide_eq_true_eq])
section
variable {P : Program} {w : World} {K : PySem.W.Frag} {mg : Str → Option Value} {base : Heap} {c : Nat → Addr} {cF cW cG : Addr}
theorem lex_ll : ∀ {u v : List Nat}, u.length = v.length → MN.LL u v → HT.lexLt (v.map fun (n : Nat) => (n : Int)) (u.map fun (n : Nat) => (n : Int)) = false
  | [], [], _, _ => rfl
  | [], _ :: _, e, _ => by cases e
  | _ :: _, [], e, _ => by cases e
  | a :: u, b :: v, e, h => by
    rw [List.map_cons, List.map_cons, HT.lexLt]
    rcases h with h | ⟨rfl, h⟩
    · rw [if_neg (by omega), decide_eq_false (by omega)]
    · rw [if_pos rfl]
      exact lex_ll (by simpa using e) h
def keyD (l : List Nat) : PyData := nlD (l.length : Nat) ((l.map num).map fun (n : Nat) => (n : Int))
theorem key_le {f u : List Nat} (h : MN.SL (f.map num) (u.map num)) : PySem.W.dataLt (keyD u) (keyD f) = false := by
  unfold keyD
  rw [lt_nl]
  rcases h with h | ⟨h, k⟩
  · rw [List.length_map, List.length_map] at h
    rw [decide_eq_false (by omega), decide_eq_false (by omega)]
    rfl
  · have h' := h
    rw [List.length_map, List.length_map] at h'
    rw [decide_eq_false (by omega), lex_ll h k, Bool.and_false]
    rfl
theorem dp_key {H : Hp} {t a : Addr} {l : List Nat} (ht : H t = some (.tup [.int (l.length : Nat), .ref a])) (ha : NumsAt H a (l.map num)) : Dp K H (.ref t) (keyD l) := by
  refine .tup (SqT.of ht) (.cons (.int _) (.cons (.lst (SqL.of ha) ?_) .nil))
  have := G1.dp_ints (K := K) (H := H) ((l.map num).map fun (n : Nat) => (n : Int))
  rw [List.map_map] at this
  exact this
/-- pairs of a number and a text -/
def clsD (rows : List (List (Option Nat))) (l : List Nat) : PyData := .tuple [.int (spotN rows l : Nat), .str (W (restL rows l))]
theorem dp_cls {H : Hp} {t : Addr} {rows : List (List (Option Nat))} {l : List Nat} (ht : H t = some (.tup (clsV rows l))) : Dp K H (.ref t) (clsD rows l) := .tup (SqT.of ht) (.cons (.int _) (.cons (.str _) .nil))
theorem exists_min (p : Nat → Prop) (h : ∃ n, p n) : ∃ n, p n ∧ ∀ m, p m → n ≤ m := by
  obtain ⟨n, hn⟩ := h
  induction n using Nat.strongRecOn with
  | ind n ih =>
    by_cases k : ∃ m, m < n ∧ p m
    · obtain ⟨m, h1, h2⟩ := k
      exact ih m h1 h2
    · exact ⟨n, hn, fun m hm => Nat.le_of_not_lt fun z => k ⟨m, z, hm⟩⟩
theorem fw_plain {d : Nat → Nat → Option Nat} (hI : MN.Inv d) {q : Nat} {w : List Nat} (h : MN.Fw d q w) : MN.Plain w := by
  induction h with
  | zero => trivial
  | @next q p s w z l f k ih =>
    cases k with
    | zero => trivial
    | @next _ p0 s0 w0 z0 l0 f0 k0 =>
      refine MN.plain_snoc1 ih fun e => ?_
      have h1 := hI _ _ _ f0.1
      rw [e, MN.inv_inv, f.1] at h1
      cases h1
      omega
/-- the same class -/
def SameC (rows : List (List (Option Nat))) (a b : List Nat) : Prop := spotN rows a = spotN rows b ∧ restL rows a = restL rows b
instance (rows : List (List (Option Nat))) (a b : List Nat) : Decidable (SameC rows a b) := by unfold SameC; exact inferInstance
theorem eqv_cls (rows : List (List (Option Nat))) (a b : List Nat) : PyData.eqv (clsD rows a) (clsD rows b) = decide (SameC rows a b) := by
  rw [Bool.eq_iff_iff, decide_eq_true_iff]
  unfold clsD
  simp only [PyData.eqv, PyData.eqvAll, Bool.and_true, Bool.and_eq_true, decide_eq_true_eq, beq_iff_eq]
  show _ ↔ spotN rows a = spotN rows b ∧ restL rows a = restL rows b
  constructor
  · rintro ⟨h, k⟩
    exact ⟨by omega, W_inj k⟩
  · rintro ⟨h, k⟩
    exact ⟨by omega, by rw [k]⟩
theorem cls_shaped {rows : List (List (Option Nat))} {a : List Nat} (h : Sg a) : SeqAt.shaped (clsD rows a) = true := by
  unfold SeqAt.shaped clsD
  simp [PyData.canLay0, PyData.canLayAll0, PyData.depth, PyData.depthAll]
  exact strOk_W fun c hc => h c (List.mem_of_mem_drop hc)
theorem eq_cls {H : Hp} {s t : Addr} {rows : List (List (Option Nat))} {a b : List Nat} {Q : VK} (ha : Sg a) (hb : Sg b) (h1 : H s = some (.tup (clsV rows a))) (h2 : H t = some (.tup (clsV rows b))) (q : Q (.bl (decide (SameC rows a b))) H) : rEqD K (.ref s) (.ref t) H Q :=
  ⟨_, _, dp_cls h1, dp_cls h2, cls_shaped ha, cls_shaped hb, by rw [eqv_cls]; exact q⟩
theorem ne_cls {H : Hp} {s t : Addr} {rows : List (List (Option Nat))} {a b : List Nat} {Q : VK} (ha : Sg a) (hb : Sg b) (h1 : H s = some (.tup (clsV rows a))) (h2 : H t = some (.tup (clsV rows b))) (q : Q (.bl (!decide (SameC rows a b))) H) : rNeD K (.ref s) (.ref t) H Q :=
  ⟨_, _, dp_cls h1, dp_cls h2, cls_shaped ha, cls_shaped hb, by rw [eqv_cls]; exact q⟩
theorem sameC_iff {rows : List (List (Option Nat))} {a b : List Nat} (ha : Sg a) (hb : Sg b) : SameC rows a b ↔ MN.cls (MN.rowsD rows) 0 (a.map num) = MN.cls (MN.rowsD rows) 0 (b.map num) := by
  unfold SameC
  rw [Prod.ext_iff, ← rest_num, ← rest_num]
  refine and_congr Iff.rfl ⟨fun h => by rw [h], fun h => ?_⟩
  have e := congrArg (fun z => z.map sg) h
  have s1 : Sg (restL rows a) := fun c hc => ha c (List.mem_of_mem_drop hc)
  have s2 : Sg (restL rows b) := fun c hc => hb c (List.mem_of_mem_drop hc)
  simp only [sg_nums _ s1, sg_nums _ s2] at e
  exact e
section
variable {ws : List (List Nat)} {size : Nat} {rows : List (List (Option Nat))} (hP : MN.Picture (numW ws) size rows)
include hP
theorem plain_numR {l : List Nat} (h : Sg l) : MN.Plain ((red l).map num) := by
  rw [red_num h]
  exact MN.red_plain _
/-- the same class, told by the group -/
theorem sameC_cos {a b : List Nat} (ha : Sg a) (hb : Sg b) : SameC rows (red a) (red b) ↔ MN.Cos (numW ws) (a.map num) (b.map num) := by
  rw [sameC_iff (Sg.red ha) (Sg.red hb), MN.cls_cos hP.pic (plain_numR hP ha) (plain_numR hP hb), red_num ha, red_num hb]
  have e1 : MN.Cos (numW ws) (MN.red (a.map num)) (a.map num) := MN.Cos.of_red (MN.red_red _)
  have e2 : MN.Cos (numW ws) (MN.red (b.map num)) (b.map num) := MN.Cos.of_red (MN.red_red _)
  exact ⟨fun h => e1.symm.trans (h.trans e2), fun h => e1.trans (h.trans e2.symm)⟩
theorem all_fw {p : Nat} (h : ∃ x, MN.run (MN.rowsD rows) 0 x = some p) : ∃ v, MN.Fw (MN.rowsD rows) p v := by
  have hS : Shape size rows := hP.shape
  have N := hP.numb
  have lt : ∀ p, (∃ x, MN.run (MN.rowsD rows) 0 x = some p) → p < rows.length := by
    rintro p ⟨x, h⟩
    rcases List.eq_nil_or_concat x with rfl | ⟨y, s, rfl⟩
    · cases h
      exact hS.1
    · rw [List.concat_eq_append] at h
      obtain ⟨r, _, h2⟩ := (MN.run_append y).mp h
      exact (rowsD_lt hS (MN.run_one.mp h2)).2.2
  have key : ∀ p, p < rows.length → ∃ v, MN.Fw (MN.rowsD rows) p v := by
    intro p
    induction p using Nat.strongRecOn with
    | ind p ih =>
      intro hp
      rcases Nat.eq_zero_or_pos p with rfl | h0
      · exact ⟨[], .zero⟩
      · obtain ⟨p0, s0, k1, k2⟩ := N.lead p h0 hp
        obtain ⟨p1, s1, hf⟩ : ∃ p1 s1, MN.First (MN.rowsD rows) p p1 s1 := by
          obtain ⟨p1, ⟨s, hs⟩, m1⟩ := exists_min (fun p1 => ∃ s, MN.rowsD rows p1 s = some p) ⟨p0, s0, k2⟩
          obtain ⟨s1, hs1, m2⟩ := exists_min (fun s => MN.rowsD rows p1 s = some p) ⟨s, hs⟩
          refine ⟨p1, s1, hs1, fun p' s' e => ?_⟩
          have h1 := m1 p' ⟨s', e⟩
          rcases Nat.lt_or_eq_of_le h1 with h | rfl
          · exact .inl h
          · exact .inr ⟨rfl, m2 s' e⟩
        obtain ⟨v, hv⟩ := ih p1 (by have := hf.2 _ _ k2; omega) (rowsD_lt hS hf.1).1
        exact ⟨_, .next h0 (by have := hf.2 _ _ k2; omega) hf hv⟩
  exact key p (lt p h)
/-- the first word of a class is plain, is of the class, and no word of the class goes before it -/
theorem first_facts {l f : List Nat} (hl : Sg l) (hf : Sg f) (h : firstL rows (red l) f) : red f = f ∧ SameC rows f (red l) ∧ ∀ u, Sg u → SameC rows (red u) (red l) → MN.SL (f.map num) ((red u).map num) := by
  obtain ⟨v, hv, rfl⟩ := h
  have hI := hP.pic.inv
  obtain ⟨x, e1, e2, e3⟩ := MN.cls_split (δ := MN.rowsD rows) ((red l).map num) 0
  have er := rest_num rows (red l)
  have hp : MN.Plain ((restL rows (red l)).map num) := by
    rw [er]
    exact MN.plain_tl (e1 ▸ plain_numR hP hl)
  have hvp : MN.Plain (v.map num) := fw_plain hI hv
  have hst : MN.Stuck (MN.rowsD rows) (spotN rows (red l)) ((restL rows (red l)).map num) := by
    rw [er]
    exact e3
  have hpl : MN.Plain ((v ++ restL rows (red l)).map num) := by
    rw [List.map_append]
    exact MN.plain_stuck hI hvp hp hv.run hst
  have hred : red (v ++ restL rows (red l)) = v ++ restL rows (red l) := by
    have := red_num hf
    rw [MN.red_of_plain hpl] at this
    have e := congrArg (fun z => z.map sg) this
    simp only [sg_nums _ hf, sg_nums _ (Sg.red hf)] at e
    exact e
  have hc : MN.cls (MN.rowsD rows) 0 ((v ++ restL rows (red l)).map num) = MN.cls (MN.rowsD rows) 0 ((red l).map num) := by
    rw [List.map_append, MN.cls_of _ _ hv.run hst, er]
    rfl
  refine ⟨hred, (sameC_iff hf (Sg.red hl)).mpr hc, fun u hu k => ?_⟩
  rw [sameC_iff (Sg.red hu) (Sg.red hl)] at k
  obtain ⟨y, k1, k2, _⟩ := MN.cls_split (δ := MN.rowsD rows) ((red u).map num) 0
  rw [k] at k1 k2
  rw [k1, List.map_append, er]
  exact MN.SL.app (MN.Fw.least hP.numb _ rfl k2 hv fun p h => all_fw hP h) _
end
theorem smo {m : Int} {l : List Nat} (h1 : 1 ≤ m) (h2 : m ≤ 6) (h : Sm m l) : ∀ c ∈ opp l, c ∈ sgs.take (2 * m).toNat := by
  intro c hc
  unfold opp at hc
  obtain ⟨a, ha, rfl⟩ := List.mem_map.mp (List.mem_reverse.mp hc)
  have key : ∀ ch ∈ sgs.take (2 * m).toNat, inv ch ∈ sgs.take (2 * m).toNat := by
    have : m = 1 ∨ m = 2 ∨ m = 3 ∨ m = 4 ∨ m = 5 ∨ m = 6 := by omega
    rcases this with rfl | rfl | rfl | rfl | rfl | rfl <;> decide +kernel
  exact key a (h a ha)
def spWR (cG : Addr) : Sp := fun vs H Q E => ∃ (g dx R R2 S : Addr) (ts us : List Addr) (m : Int) (ws : List (List Nat)) (rows : List (List (Option Nat))) (l : List Nat) (sh : List (List Nat)), vs = [.ref g, .ref R2, .int m, .str (W l), .ref S] ∧ Gr cG H g dx R ts m rows ∧ RowsL H R2 us rows ∧ 1 ≤ m ∧ m ≤ 6 ∧ MN.Picture (numW ws) (2 * m).toNat rows ∧ rows.length ≤ 300 ∧ Sm m l ∧ l.length ≤ 480 ∧ H S = some (.lst (sh.map fun l => V.str (W l))) ∧ Shorts m 5 sh ∧ sh.length ≤ 2000000 ∧ ∀ H', Same H H' → Q (.bl true) H'
theorem ok_wr (S : Src K mg "_law_word_right" s_law_word_right) (T : Txt P w K mg base c cF cW cG) (C_class_of : OkX2 P w K mg base 5 "class_of" "group" "word" (spClassOf cG)) (C_first_of_class : OkX2 P w K mg base 5 "first_of_class" "group" "word" (spFirst cG)) (C_belongs : OkX2 P w K mg base 5 "belongs" "group" "word" (spBelongs cG)) (C_law_class : OkD P w K mg base 4 "_law_class" ["_law_rows_here", "_law_word_here"] spLClass) (C_law_plain : OkD P w K mg base 2 "_law_plain" ["_law_word_here"] spPlain) (C_law_numbers : OkD P w K mg base 1 "_law_numbers" ["_law_word_here"] spNumbers) (C_law_opposite : OkD P w K mg base 2 "_law_opposite" ["_law_word_here"] spOther) (C_law_key : OkD P w K mg base 2 "_law_key" ["_law_word_here"] spKey) : OkD P w K mg base 7 "_law_word_right" ["_law_group", "_law_rows_here", "_law_many", "_law_word_here", "_law_shorter"] (spWR cG) := by
  refine okd S (fun f fd F => F.ok sc_law_word_right (fun vs H Q E h => ?_) (fun cdv A outer s H vs Q E hr h => ?_)) (fun _ _ _ _ _ _ us hl => match us, hl with | [_, _, _, _, _], _ => rfl)
  · obtain ⟨_, _, _, _, _, _, _, _, _, _, _, _, rfl, _⟩ := h
    rfl
  · obtain ⟨g, dx, R, R2, Sh, ts, us, m, ws, rows, l, sh, rfl, hG, hR2, h1, h2, hP, hrl, hl, hll, hSh, hsh, hshl, q⟩ := h
    refine ⟨_, ((pss_cons (ps_set (i := 5) sc_law_word_right.nd rfl (.inr rfl) (pe_callO C_law_class (hr.mono (by decide)) (by rfl) (pa_cons (pv 1) (pa_cons (pv 3) pa_nil))))
      (pss_cons (ps_set (i := 6) sc_law_word_right.nd rfl (.inl rfl) (pe_callC C_class_of.okX (hr.mono (by decide)) (by rfl) (pa_cons (pv 0) (pa_cons (pv 3) pa_nil))))
      (pss_cons (ps_if (PW.pt (pw_or (pt_cmpR (op_neDK K rfl hr.units) (pv 6) (pv 5) (nomark _)) (pw_or (pt_not (pt_val (pe_callB call_isTu (by rfl) T.n_isinstance (by decide +kernel) (pa_cons (pv 6) (pa_cons (pe_gty (n := "tuple") (by rfl) T.n_tuple (by decide +kernel)) pa_nil))))) (pw_or1 (pt_cmpR (op_neDK K rfl hr.units) (pe_callK2 C_class_of (hr.mono (by decide)) (by rfl) (pk_cons (pv 3) (pk_cons (pv 0) pk_nil))) (pv 5) (nomark _)))))) (pss_one (ps_ret pe_bl)) pss_nil)
      (pss_cons (ps_if (PW.pt (pw_and (pt_cmpR op_ne (pe_ix ix_tup (pv 5) pe_int (fun _ _ => rfl)) pe_str (nomark _)) (pw_and1 (pt_cmpR op_notN (pe_ix ix_lM (pe_ix ix_lM (pv 1) (pe_ix ix_tup (pv 5) pe_int (fun _ _ => rfl)) (fun _ _ => rfl)) (pe_ix ix_lM (pe_callO C_law_numbers (hr.mono (by decide)) (by rfl) (pa_cons (pe_ix ix_tup (pv 5) pe_int (fun _ _ => rfl)) pa_nil)) pe_int (fun _ _ => rfl)) (fun _ _ => rfl)) pe_non (nomark _))))) (pss_one (ps_ret pe_bl)) pss_nil)
      (pss_cons (ps_set (i := 7) sc_law_word_right.nd rfl (.inr rfl) (pe_callC C_first_of_class.okX (hr.mono (by decide)) (by rfl) (pa_cons (pv 0) (pa_cons (pv 3) pa_nil))))
      (pss_cons (ps_if (PW.pt (pw_or (pt_cmpR op_ne (pe_callK2 C_first_of_class (hr.mono (by decide)) (by rfl) (pk_cons (pv 3) (pk_cons (pv 0) pk_nil))) (pv 7) (nomark _)) (pw_or (pt_cmpR op_ne (pe_callO C_law_plain (hr.mono (by decide)) (by rfl) (pa_cons (pv 7) pa_nil)) (pv 7) (nomark _)) (pw_or1 (pt_cmpR (op_neDK K rfl hr.units) (pe_callO C_law_class (hr.mono (by decide)) (by rfl) (pa_cons (pv 1) (pa_cons (pv 7) pa_nil))) (pv 5) (nomark _)))))) (pss_one (ps_ret pe_bl)) pss_nil)
      (pss_cons (ps_if (PW.pt (pw_or (pt_cmpR op_notBl (pe_callC C_belongs.okX (hr.mono (by decide)) (by rfl) (pa_cons (pv 0) (pa_cons (pe_op op_add_str (pv 7) (pe_callO C_law_opposite (hr.mono (by decide)) (by rfl) (pa_cons (pv 3) pa_nil))) pa_nil))) pe_bl (nomark _)) (pw_or1 (pt_cmpR (op_gtD K rfl hr.units) (pe_callO C_law_key (hr.mono (by decide)) (by rfl) (pa_cons (pv 7) pa_nil)) (pe_callO C_law_key (hr.mono (by decide)) (by rfl) (pa_cons (pe_callO C_law_plain (hr.mono (by decide)) (by rfl) (pa_cons (pv 3) pa_nil)) pa_nil)) (nomark _))))) (pss_one (ps_ret pe_bl)) pss_nil)
      (pss_one (ps_ret (pe_cmpR (op_eqDK K rfl hr.units) (pe_lc (own := [("_law_one", 8)]) (g := gName 8) (by rfl) sc_law_word_right.nd (pi_list (pv 4)) (blkOk_by (own := [("_law_one", 8)]) (N := ["_law_group", "_law_rows_here", "_law_many", "_law_word_here", "_law_shorter", "_law_due", "_law_told", "_law_first", "_law_one"]) (sc := defScope s_law_word_right) (by decide +kernel)) (fun _ _ _ _ _ => pg_name (i := 8) sc_law_word_right.nd rfl (Or.inl rfl)) (fun _ _ _ _ _ => (pts_one (PW.pt (pw_and (pt_cmpR (op_ltD K rfl hr.units) (pe_callO C_law_key (hr.mono (by decide)) (by rfl) (pa_cons (pv 8) pa_nil)) (pe_callO C_law_key (hr.mono (by decide)) (by rfl) (pa_cons (pv 7) pa_nil)) (nomark _)) (pw_and1 (pt_cmpR (op_eqDK K rfl hr.units) (pe_callO C_law_class (hr.mono (by decide)) (by rfl) (pa_cons (pv 1) (pa_cons (pv 8) pa_nil))) (pv 5) (nomark _))))))) (fun _ _ _ _ _ => (pv 8))) (pe_lst pa_nil) (nomark _)))))))))))), ?_⟩
    walk_at "rd"
    have hsz := sizeLine_eq
    have hS : Shape (2 * m).toNat rows := hP.shape
    have hlr := len_red l
    have hln : ∀ ch ∈ l, num ch < (2 * m).toNat := size_num h1 h2 hl
    have hrg : Sg (red l) := hl.sg.red
    refine ⟨R2, us, rows, _, l, rfl, hR2, hS, hl.sg, hln, by omega, fun H1 d s1 nd hd => ⟨g, dx, R, ts, m, rows, l, rfl, hG.same s1, h1, h2, hS, hl, by omega, fun H2 t s2 nt ht => ne_cls hrg hrg ht (s2 _ _ hd) ⟨_, rfl, ?_⟩⟩⟩
    rw [show (!decide (SameC rows (red l) (red l))) = false by simp [SameC], if_neg (by decide)]
    refine ⟨_, .tup ht, ?_⟩
    rw [if_neg (by decide)]
    have s02 := s1.trans s2
    refine ⟨g, dx, R, ts, m, rows, l, rfl, hG.same s02, h1, h2, hS, hl, by omega, fun H3 t' s3 nt' ht' => ne_cls hrg hrg ht' (s3 _ _ (s2 _ _ hd)) ⟨_, rfl, ?_⟩⟩
    rw [show (!decide (SameC rows (red l) (red l))) = false by simp [SameC], if_neg (by decide)]
    have s03 := s02.trans s3
    have d3 := s3 _ _ (s2 _ _ hd)
    refine ⟨d, rfl, _, SqT.of d3, _, atI_1, rfl, ?_⟩
    by_cases hr0 : restL rows (red l) = []
    case' pos =>
      rw [if_neg (by rw [hr0]; simp; rfl)]
      have s9 := s03
      have d9 := d3
      clear s03 d3 ht'
      generalize H3 = H9 at s9 d9 ⊢
    case' neg =>
      rw [if_pos (by rw [Bool.not_eq_true', decide_eq_false_iff_not]; exact fun z => hr0 (W_inj (b := []) (V.str.inj z)))]
      have hsp := spot_lt hS (red l)
      obtain ⟨row, hrow⟩ : ∃ r, rows[spotN rows (red l)]? = some r := ⟨_, List.getElem?_eq_getElem hsp⟩
      obtain ⟨u, hu⟩ : ∃ u, us[spotN rows (red l)]? = some u := ⟨_, List.getElem?_eq_getElem (by rw [hR2.ln]; exact hsp)⟩
      obtain ⟨ch, tl, hct⟩ := List.exists_cons_of_ne_nil hr0
      have hch : ch ∈ red l := List.mem_of_mem_drop (show ch ∈ restL rows (red l) by rw [hct]; exact List.mem_cons_self)
      have hst : MN.rowsD rows (spotN rows (red l)) (num ch) = none := by
        obtain ⟨_, _, _, e3⟩ := MN.cls_split (δ := MN.rowsD rows) ((red l).map num) 0
        rw [← rest_num, hct] at e3
        exact e3 _ _ rfl
      have hcl : num ch < row.length := by
        rw [(hS.2 _ (List.mem_of_getElem? hrow)).1]
        exact hln ch (mem_red hch)
      have hnone : row[num ch]? = some none := by
        unfold MN.rowsD at hst
        rw [hrow] at hst
        have h0 : (row[num ch]?).join = none := hst
        rw [List.getElem?_eq_getElem hcl] at h0 ⊢
        rw [show row[num ch] = none from h0]
      refine ⟨d, rfl, _, SqT.of d3, _, atI_0, _, _, rfl, s03 _ _ hR2.hl, _, atI_nat (by rw [List.getElem?_map, hu]; rfl), d, rfl, _, SqT.of d3, _, atI_1, restL rows (red l), rfl, fun c hc => hrg c (List.mem_of_mem_drop hc), ?_, fun b H4 s4 nb hb => ⟨b, rfl, _, hb, V.int (num ch : Nat), ?_, u, rfl, _, _, rfl, s4 _ _ (s03 _ _ (hR2.row _ _ _ hu hrow)), .non, atI_nat (by rw [List.getElem?_map, hnone]; rfl), ?_⟩⟩
      · unfold restL
        rw [List.length_drop]
        omega
      · refine atI_nat (j := 0) ?_
        rw [hct]
        rfl
      rw [if_neg (by decide)]
      have s9 := s03.trans s4
      have d9 := s4 _ _ d3
      clear s03 d3 hb
      generalize H4 = H9 at s9 d9 ⊢
    all_goals
      refine ⟨g, dx, R, ts, m, rows, l, rfl, hG.same s9, h1, h2, hS, hP.numb, by omega, hl, by omega, fun H10 f s10 hf fm fl => ⟨g, dx, R, ts, m, rows, l, rfl, hG.same (s9.trans s10), h1, h2, hS, hP.numb, by omega, hl, by omega, fun H11 f2 s11 hf2 fm2 _ => ⟨rfl, ?_⟩⟩⟩
      have hff : f2 = f := by
        obtain ⟨v, hv, rfl⟩ := hf
        obtain ⟨v2, hv2, rfl⟩ := hf2
        have e := congrArg (fun z => z.map sg) (hv2.uniq hv)
        have g1 : Sg v := fun c hc => fm.sg c (List.mem_append_left _ hc)
        have g2 : Sg v2 := fun c hc => fm2.sg c (List.mem_append_left _ hc)
        simp only [sg_nums _ g1, sg_nums _ g2] at e
        rw [e]
      subst hff
      obtain ⟨e1, e2, e3⟩ := first_facts hP hl.sg fm.sg hf
      rw [if_neg (by simp)]
      have s11' := s9.trans (s10.trans s11)
      refine ⟨f2, rfl, fm.sg, by omega, fun H12 s12 => ⟨rfl, ?_⟩⟩
      rw [e1, if_neg (by simp)]
      have s12' := s11'.trans s12
      refine ⟨R2, us, rows, _, f2, rfl, hR2.same s12', hS, fm.sg, size_num h1 h2 fm, by omega, fun H13 t2 s13 nt2 ht2 => ne_cls fm.sg.red hrg ht2 (s13 _ _ (s12 _ _ ((s10.trans s11) _ _ d9))) ⟨_, rfl, ?_⟩⟩
      rw [e1, if_neg (by simp [e2])]
      have s13' := s12'.trans s13
      refine ⟨l, rfl, hl.sg, by omega, fun H14 s14 => ⟨W f2, rfl, W (opp l), rfl, ?_, ?_⟩⟩
      · rw [W_len, W_len, show (opp l).length = l.length by simp [opp]]
        omega
      rw [cat_W]
      have s14' := s13'.trans s14
      have hol : (opp l).length = l.length := by simp [opp]
      have hfl : f2.length ≤ (red l).length := by
        rcases e3 l hl.sg (by simp [SameC]) with z | ⟨z, _⟩ <;> (rw [List.length_map, List.length_map] at z; omega)
      refine ⟨g, dx, R, ts, m, rows, f2 ++ opp l, rfl, hG.same s14', h1, h2, hS, fun c hc => (List.mem_append.mp hc).elim (fm c) (smo h1 h2 hl c), by rw [List.length_append, hol]; omega, fun H15 s15 => ⟨_, rfl, ?_⟩⟩
      have hbel : MN.run (MN.rowsD rows) 0 ((red (f2 ++ opp l)).map num) = some 0 := by
        rw [in_iff hP (fm.sg.append hl.sg.opp), List.map_append, opp_num hl.sg]
        exact (sameC_cos hP fm.sg hl.sg).mp (by rw [e1]; exact e2)
      rw [if_neg (by simp [hbel])]
      refine ⟨f2, rfl, fm.sg, by omega, fun H16 k1 a1 s16 nk1 hk1 ha1 => ⟨l, rfl, hl.sg, by omega, fun H17 s17 => ⟨red l, rfl, hrg, by omega, fun H18 k2 a2 s18 nk2 hk2 ha2 => ⟨keyD f2, dp_key ((s17.trans s18) _ _ hk1) ((s17.trans s18) _ _ ha1), keyD (red l), dp_key hk2 ha2, alike_nl _ _ _ _, by simp [keyD, nlD], ?_, ?_⟩⟩⟩⟩
      · have := dep_nl (f2.length : Nat) ((f2.map num).map fun (n : Nat) => (n : Int))
        unfold keyD
        omega
      rw [key_le (e3 l hl.sg (by simp [SameC])), if_neg (by decide)]
      have s18' := s14'.trans (s15.trans (s16.trans (s17.trans s18)))
      refine ⟨⟨_, SqL.of (s18' _ _ hSh)⟩, ?_⟩
      refine comp_list (xs := sh.map fun l => V.str (W l)) (fun D i H' => Same H18 H' ∧ H' D = some (.lst [])) (fun D nD => ⟨same_upd nD, upd_same⟩) (fun D i H' nD hi ⟨s', _⟩ => SqL.of (s' _ _ (s18' _ _ hSh))) ?_ ?_
      · rintro D i x H19 nD hx ⟨s19, h19⟩
        rw [List.getElem?_map] at hx
        obtain ⟨z, hz, rfl⟩ := Option.map_eq_some_iff.mp hx
        obtain ⟨pz, mz, lz⟩ := hsh z (List.mem_of_getElem? hz)
        walk_at "rd"
        refine ⟨z, rfl, mz.sg, by omega, fun H20 k3 a3 s20 nk3 hk3 ha3 => ⟨f2, rfl, fm.sg, by omega, fun H21 k4 a4 s21 nk4 hk4 ha4 => ⟨keyD z, dp_key (s21 _ _ hk3) (s21 _ _ ha3), keyD f2, dp_key hk4 ha4, alike_nl _ _ _ _, by simp [keyD, nlD], ?_, ?_⟩⟩⟩
        · have := dep_nl (f2.length : Nat) ((f2.map num).map fun (n : Nat) => (n : Int))
          unfold keyD
          omega
        have s21' := s19.trans (s20.trans s21)
        by_cases hlt : PySem.W.dataLt (keyD z) (keyD f2) = true
        · rw [if_pos hlt]
          have sA := s18'.trans s21'
          refine ⟨R2, us, rows, _, z, rfl, hR2.same sA, hS, mz.sg, size_num h1 h2 mz, by omega, fun H22 t3 s22 nt3 ht3 => eq_cls mz.sg.red hrg ht3 ((s22 _ _ (s21' _ _ ((s14.trans (s15.trans (s16.trans (s17.trans s18)))) _ _ (s13 _ _ (s12 _ _ ((s10.trans s11) _ _ d9))))))) ⟨_, rfl, ?_⟩⟩
          rw [if_neg]
          · exact ⟨s21'.trans s22, s22 _ _ ((s20.trans s21) _ _ h19)⟩
          · rw [decide_eq_true_iff]
            intro hc
            have := key_le (e3 z mz.sg hc)
            rw [red_of_plain pz, hlt] at this
            cases this
        · rw [if_neg hlt]
          exact ⟨s21', (s20.trans s21) _ _ h19⟩
      · rintro D H19 nD ⟨s19, h19⟩
        refine ⟨Nat.zero_le _, fun pp npp => ⟨.list [], .list [], .lst (SqL.of (same_upd npp _ _ h19)) .nil, .lst (SqL.of upd_same) .nil, by rfl, by rfl, ?_⟩⟩
        rw [show PyData.eqv (.list []) (.list []) = true by simp [PyData.eqv, PyData.eqvAll]]
        exact q _ (s18'.trans (s19.trans (same_upd npp)))
end

end K29

namespace K29
open PySem PySem.Spec PyProof.Rows L2 G1 MW

local macro_rules | `(tactic| walk_at "rd") => `(tactic| simp only [L2.iZip, G1.rGtD, L2.rMin, L2.tLockE, L2.iKeys, L2.iEnum, L2.ipI, L2.rIn, L2.tPairs, L2.rSetD, L2.tDNewK, G1.tCallK3, G1.tCallK4, G1.tFldA, G1.tCallM, G1.tMakeO, L2.sFld, L2.rExtend, L2.tDNotIn, L2.tDIn, L2.tDGet2, L2.tDisp, L2.rPopAt, L2.tLstRg, L2.tRg1, G1.tMakeO2, G1.rOwnI, G1.rCntN, L2.tPar3, L2.tSeq, L2.tAug, L2.tTup, G1.tCallK3b, G1.tMt, G1.tMinK, G1.rIsTu, L2.rIxT, G1.rTr, G1.rLtD, if_true, if_false, L2.rNotB, L2.rMax, L2.iRng2,L2.tSeq, G1.iEnumS, L2.tDGet, L2.gTup, L2.gCons, L2.gNil, L2.tPar, L2.rIxS, G1.tRepU, L2.rSlS, L2.iStr, L2.tNotV, G1.rIsV, G1.mk_int, G1.mk_bool, G1.mk_str, G1.mk_list, G1.tCallX, V.ty.injEq, L2.tChain, L2.rIsB, G1.tRevS, L2.tM0, L2.tM1, L2.tCallS, G1.tCallK2, G1.tMkR, L2.rAll, L2.rPop, L2.tBM0, L2.tRevL, L2.tAsg, L2.tOp, L2.rI, L2.rI0, L2.tVar, L2.tC, L2.tCB, L2.tCons, L2.tNil, L2.tRet, L2.gName, L2.start, L2.tIf, L2.tIfS, L2.tTest, L2.tNext, L2.rIxL, L2.tSl, L2.rSlL, L2.tNoPart, L2.tPart, L2.tLst, L2.tTup, L2.rSum, L2.tBits, L2.gSub, L2.rSetL, L2.rCat, L2.tDrop, L2.tBM, L2.tBM0, L2.rAppend, L2.tYes, L2.tB, L2.tAnd, L2.tOr, L2.tNot, L2.tAndV, L2.tOrV, G1.tCallO, G1.tXm, G1.tXn, G1.tXv, HO.lst.injEq, HO.tup.injEq, Nat.reduceAdd, Nat.zero_add, List.set_cons_zero, List.set_cons_succ, G1.tFor_eq, G1.tLc_eq, G1.rIxM, G1.rLenM, G1.rSlM, G1.atI_0, G1.atI_1, G1.atI_2, G1.ixN_0, G1.ixN_2, L2.upd_same, L2.upd_upd, and_assoc, L2.iRng1, L2.iList, L2.tUn, L2.rU, G1.rRepS, L2.wipe, List.foldl, L2.rEq, L2.rNe, List.map, List.replicate, List.length, List.append, List.set, List.getElem?_cons_zero, List.getElem?_cons_succ, List.cons_append, List.nil_append, Option.some.injEq, V.int.injEq, V.bl.injEq, V.ref.injEq, V.str.injEq, List.cons.injEq, reduceCtorEq, false_and, and_false, exists_false, or_false, false_or, exists_and_left, exists_and_right, exists_eq_left', exists_eq_left, true_and, and_true, Nat.sub_self, decide_eq_true_eq])
section
variable {P : Program} {w : World} {K : PySem.W.Frag} {mg : Str → Option Value} {base : Heap} {c : Nat → Addr} {cF cW cG : Addr}
theorem first_eq {rows : List (List (Option Nat))} {x y f1 f2 : List Nat} (h1 : firstL rows x f1) (h2 : firstL rows y f2) (hs : SameC rows x y) (g1 : Sg f1) (g2 : Sg f2) : f1 = f2 := by
  obtain ⟨v, hv, rfl⟩ := h1
  obtain ⟨v2, hv2, rfl⟩ := h2
  obtain ⟨s1, s2⟩ := hs
  rw [s1] at hv
  have e := congrArg (fun z => z.map sg) (hv.uniq hv2)
  have k1 : Sg v := fun c hc => g1 c (List.mem_append_left _ hc)
  have k2 : Sg v2 := fun c hc => g2 c (List.mem_append_left _ hc)
  simp only [sg_nums _ k1, sg_nums _ k2] at e
  rw [e, s2]
def spTR (cG : Addr) : Sp := fun vs H Q E => ∃ (g dx R : Addr) (ts : List Addr) (m : Int) (ws : List (List Nat)) (rows : List (List (Option Nat))) (a b : List Nat), vs = [.ref g, .str (W a), .str (W b)] ∧ Gr cG H g dx R ts m rows ∧ 1 ≤ m ∧ m ≤ 6 ∧ MN.Picture (numW ws) (2 * m).toNat rows ∧ rows.length ≤ 300 ∧ Sm m a ∧ Sm m b ∧ a.length ≤ 480 ∧ b.length ≤ 480 ∧ ∀ H', Same H H' → Q (.bl true) H'
theorem ok_tr (S : Src K mg "_law_two_right" s_law_two_right) (T : Txt P w K mg base c cF cW cG) (C_class_of : OkX2 P w K mg base 5 "class_of" "group" "word" (spClassOf cG)) (C_first_of_class : OkX2 P w K mg base 5 "first_of_class" "group" "word" (spFirst cG)) (C_belongs : OkX2 P w K mg base 5 "belongs" "group" "word" (spBelongs cG)) (C_law_plain : OkD P w K mg base 2 "_law_plain" ["_law_word_here"] spPlain) (C_law_opposite : OkD P w K mg base 2 "_law_opposite" ["_law_word_here"] spOther) : OkD P w K mg base 7 "_law_two_right" ["_law_group", "_law_one", "_law_other"] (spTR cG) := by
  refine okd S (fun f fd F => F.ok sc_law_two_right (fun vs H Q E h => ?_) (fun cdv A outer s H vs Q E hr h => ?_)) (fun _ _ _ _ _ _ us hl => match us, hl with | [_, _, _], _ => rfl)
  · obtain ⟨_, _, _, _, _, _, _, _, _, rfl, _⟩ := h
    rfl
  · obtain ⟨g, dx, R, ts, m, ws, rows, a, b, rfl, hG, h1, h2, hP, hrl, ha, hb, hla, hlb, q⟩ := h
    refine ⟨_, ((pss_cons (ps_set (i := 3) sc_law_two_right.nd rfl (.inl rfl) (pe_cmpR (op_eqDK K rfl hr.units) (pe_callC C_class_of.okX (hr.mono (by decide)) (by rfl) (pa_cons (pv 0) (pa_cons (pv 1) pa_nil))) (pe_callC C_class_of.okX (hr.mono (by decide)) (by rfl) (pa_cons (pv 0) (pa_cons (pv 2) pa_nil))) (nomark _)))
      (pss_cons (ps_if (PW.pt (pw_or (pt_cmpR op_ne (pv 3) (pe_callC C_belongs.okX (hr.mono (by decide)) (by rfl) (pa_cons (pv 0) (pa_cons (pe_op op_add_str (pv 1) (pe_callO C_law_opposite (hr.mono (by decide)) (by rfl) (pa_cons (pv 2) pa_nil))) pa_nil))) (nomark _)) (pw_or1 (pt_cmpR op_ne (pv 3) (pe_cmpR op_eq (pe_callC C_first_of_class.okX (hr.mono (by decide)) (by rfl) (pa_cons (pv 0) (pa_cons (pv 1) pa_nil))) (pe_callC C_first_of_class.okX (hr.mono (by decide)) (by rfl) (pa_cons (pv 0) (pa_cons (pv 2) pa_nil))) (nomark _)) (nomark _))))) (pss_one (ps_ret pe_bl)) pss_nil)
      (pss_one (ps_ret (pe_cmpR (op_eqDK K rfl hr.units) (pe_callC C_class_of.okX (hr.mono (by decide)) (by rfl) (pa_cons (pv 0) (pa_cons (pe_callO C_law_plain (hr.mono (by decide)) (by rfl) (pa_cons (pv 1) pa_nil)) pa_nil))) (pe_callC C_class_of.okX (hr.mono (by decide)) (by rfl) (pa_cons (pv 0) (pa_cons (pv 1) pa_nil))) (nomark _))))))), ?_⟩
    walk_at "rd"
    have hsz := sizeLine_eq
    have hS : Shape (2 * m).toNat rows := hP.shape
    have hra := len_red a
    have hrb := len_red b
    refine ⟨g, dx, R, ts, m, rows, a, rfl, hG, h1, h2, hS, ha, by omega, fun H1 t1 s1 n1 ht1 => ⟨g, dx, R, ts, m, rows, b, rfl, hG.same s1, h1, h2, hS, hb, by omega, fun H2 t2 s2 n2 ht2 => eq_cls ha.sg.red hb.sg.red (s2 _ _ ht1) ht2 ?_⟩⟩
    have s02 := s1.trans s2
    refine ⟨b, rfl, hb.sg, by omega, fun H3 s3 => ⟨W (opp b), rfl, ?_, ?_⟩⟩
    · rw [W_len, W_len, show (opp b).length = b.length by simp [opp]]
      omega
    rw [cat_W]
    have s03 := s02.trans s3
    have hol : (opp b).length = b.length := by simp [opp]
    refine ⟨g, dx, R, ts, m, rows, a ++ opp b, rfl, hG.same s03, h1, h2, hS, fun c hc => (List.mem_append.mp hc).elim (ha c) (smo h1 h2 hb c), by rw [List.length_append, hol]; omega, fun H4 s4 => ?_⟩
    have hbel : MN.run (MN.rowsD rows) 0 ((red (a ++ opp b)).map num) = some 0 ↔ SameC rows (red a) (red b) := by
      rw [in_iff hP (ha.sg.append hb.sg.opp), List.map_append, opp_num hb.sg]
      exact (sameC_cos hP ha.sg hb.sg).symm
    rw [show decide (MN.run (MN.rowsD rows) 0 ((red (a ++ opp b)).map num) = some 0) = decide (SameC rows (red a) (red b)) from decide_eq_decide.mpr hbel]
    refine ⟨rfl, ?_⟩
    rw [if_neg (by simp)]
    have s04 := s03.trans s4
    refine ⟨g, dx, R, ts, m, rows, a, rfl, hG.same s04, h1, h2, hS, hP.numb, by omega, ha, by omega, fun H5 f1 s5 hf1 fm1 _ => ⟨g, dx, R, ts, m, rows, b, rfl, hG.same (s04.trans s5), h1, h2, hS, hP.numb, by omega, hb, by omega, fun H6 f2 s6 hf2 fm2 _ => ⟨rfl, rfl, ?_⟩⟩⟩
    have hff : decide (V.str (W f1) = V.str (W f2)) = decide (SameC rows (red a) (red b)) := by
      refine decide_eq_decide.mpr ⟨fun z => ?_, fun z => ?_⟩
      · have e : f1 = f2 := W_inj (V.str.inj z)
        subst e
        obtain ⟨_, a2, _⟩ := first_facts hP ha.sg fm1.sg hf1
        obtain ⟨_, b2, _⟩ := first_facts hP hb.sg fm2.sg hf2
        exact ⟨a2.1.symm.trans b2.1, a2.2.symm.trans b2.2⟩
      · rw [first_eq hf1 hf2 z fm1.sg fm2.sg]
    rw [hff, if_neg (by simp)]
    have s06 := s04.trans (s5.trans s6)
    refine ⟨a, rfl, ha.sg, by omega, fun H7 s7 => ⟨g, dx, R, ts, m, rows, red a, rfl, hG.same (s06.trans s7), h1, h2, hS, fun c hc => ha c (mem_red hc), by omega, fun H8 t8 s8 n8 ht8 => ⟨g, dx, R, ts, m, rows, a, rfl, hG.same (s06.trans (s7.trans s8)), h1, h2, hS, ha, by omega, fun H9 t9 s9 n9 ht9 => eq_cls ha.sg.red.red ha.sg.red (s9 _ _ ht8) ht9 ?_⟩⟩⟩
    rw [red_red, show decide (SameC rows (red a) (red a)) = true by simp [SameC]]
    exact q _ (s06.trans (s7.trans (s8.trans s9)))
end

end K29

namespace K29
open PySem PySem.Spec PyProof.Rows L2 G1 MW
abbrev s_law_right : Stmt := topS 70
theorem sc_law_right : FnScope ["_law_generator_here", "_law_many", "_law_words_here", "_law_given", "_law_group", "_law_rows_here", "_law_shorter", "_law_asked", "_law_turn", "_law_word_here", "_law_one", "_law_other"] ["_law_generator_here"] (defScope s_law_right) := ⟨rfl, rfl, rfl, by decide +kernel, rfl, by decide +kernel, by decide +kernel⟩
local macro_rules | `(tactic| walk_at "rd") => `(tactic| simp only [L2.iZip, G1.rGtD, L2.rMin, L2.tLockE, L2.iKeys, L2.iEnum, L2.ipI, L2.rIn, L2.tPairs, L2.rSetD, L2.tDNewK, G1.tCallK3, G1.tCallK4, G1.tFldA, G1.tCallM, G1.tMakeO, L2.sFld, L2.rExtend, L2.tDNotIn, L2.tDIn, L2.tDGet2, L2.tDisp, L2.rPopAt, L2.tLstRg, L2.tRg1, G1.tMakeO2, G1.rOwnI, G1.rCntN, L2.tPar3, L2.tSeq, L2.tAug, L2.tTup, G1.tCallK3b, G1.tMt, G1.tMinK, G1.rIsTu, L2.rIxT, G1.rTr, G1.rLtD, if_true, if_false, L2.rNotB, L2.rMax, L2.iRng2,L2.tSeq, G1.iEnumS, L2.tDGet, L2.gTup, L2.gCons, L2.gNil, L2.tPar, L2.rIxS, G1.tRepU, L2.rSlS, L2.iStr, L2.tNotV, G1.rIsV, G1.mk_int, G1.mk_bool, G1.mk_str, G1.mk_list, G1.tCallX, V.ty.injEq, L2.tChain, L2.rIsB, G1.tRevS, L2.tM0, L2.tM1, L2.tCallS, G1.tCallK2, G1.tMkR, L2.rAll, L2.rPop, L2.tBM0, L2.tRevL, L2.tAsg, L2.tOp, L2.rI, L2.rI0, L2.tVar, L2.tC, L2.tCB, L2.tCons, L2.tNil, L2.tRet, L2.gName, L2.start, L2.tIf, L2.tIfS, L2.tTest, L2.tNext, L2.rIxL, L2.tSl, L2.rSlL, L2.tNoPart, L2.tPart, L2.tLst, L2.tTup, L2.rSum, L2.tBits, L2.gSub, L2.rSetL, L2.rCat, L2.tDrop, L2.tBM, L2.tBM0, L2.rAppend, L2.tYes, L2.tB, L2.tAnd, L2.tOr, L2.tNot, L2.tAndV, L2.tOrV, G1.tCallO, G1.tXm, G1.tXn, G1.tXv, HO.lst.injEq, HO.tup.injEq, Nat.reduceAdd, Nat.zero_add, List.set_cons_zero, List.set_cons_succ, G1.tFor_eq, G1.tLc_eq, G1.rIxM, G1.rLenM, G1.rSlM, G1.atI_0, G1.atI_1, G1.atI_2, G1.ixN_0, G1.ixN_2, L2.upd_same, L2.upd_upd, and_assoc, L2.iRng1, L2.iList, L2.tUn, L2.rU, G1.rRepS, L2.wipe, List.foldl, L2.rEq, L2.rNe, List.map, List.replicate, List.length, List.append, List.set, List.getElem?_cons_zero, List.getElem?_cons_succ, List.cons_append, List.nil_append, Option.some.injEq, V.int.injEq, V.bl.injEq, V.ref.injEq, V.str.injEq, List.cons.injEq, reduceCtorEq, false_and, and_false, exists_false, or_false, false_or, exists_and_left, exists_and_right, exists_eq_left', exists_eq_left, true_and, and_true, Nat.sub_self, decide_eq_true_eq])
section
variable {P : Program} {w : World} {K : PySem.W.Frag} {mg : Str → Option Value} {base : Heap} {c : Nat → Addr} {cF cW cG : Addr}
structure Kf (D a o R R2 : Addr) (ts us : List Addr) : Prop where
  a : a ≠ D
  o : o ≠ D
  r : R ≠ D
  r2 : R2 ≠ D
  t : ∀ t ∈ ts, t ≠ D
  u : ∀ t ∈ us, t ≠ D
theorem RowsL.upd {H : Hp} {q D : Addr} {x : HO} {ts : List Addr} {rows : List (List (Option Nat))} (t : RowsL H q ts rows) (h : q ≠ D) (h2 : ∀ t ∈ ts, t ≠ D) : RowsL (upd H D x) q ts rows :=
  ⟨by rw [upd_ne h]; exact t.hl, t.ln, fun i r e a b => by rw [upd_ne (h2 r (List.mem_of_getElem? a))]; exact t.row i r e a b⟩
theorem Kg.upd {g a o dx R R2 D : Addr} {x : HO} {ts us : List Addr} {m : Int} {ws : List (List Nat)} {rows : List (List (Option Nat))} {H : Hp} (k : Kg cG g a o dx R R2 ts us m ws rows H) (f : Kf D a o R R2 ts us) : Kg cG g a o dx R R2 ts us m ws rows (upd H D x) :=
  ⟨by unfold WsAt; rw [upd_ne f.a]; exact k.hw, ⟨by rw [upd_ne f.o]; exact k.gr.hp, k.gr.rl.upd f.r f.t⟩, k.rl.upd f.r2 f.u, k.ag, k.og, k.rg, k.r2g, k.tg, k.ug⟩
theorem RowsL.ne {H : Hp} {q D : Addr} {ts : List Addr} {rows : List (List (Option Nat))} (t : RowsL H q ts rows) (n : H D = none) : q ≠ D ∧ ∀ t ∈ ts, t ≠ D := by
  refine ⟨ne_none t.hl n, fun u hu => ?_⟩
  obtain ⟨i, hi⟩ := List.mem_iff_getElem?.mp hu
  have hil := (List.getElem?_eq_some_iff.mp hi).1
  rw [t.ln] at hil
  exact ne_none (t.row i u _ hi (List.getElem?_eq_getElem hil)) n
theorem Kg.free {g a o dx R R2 D : Addr} {ts us : List Addr} {m : Int} {ws : List (List Nat)} {rows : List (List (Option Nat))} {H : Hp} (k : Kg cG g a o dx R R2 ts us m ws rows H) (n : H D = none) : Kf D a o R R2 ts us :=
  ⟨ne_none k.hw n, ne_none k.gr.hp n, (k.gr.rl.ne n).1, (k.rl.ne n).1, (k.gr.rl.ne n).2, (k.rl.ne n).2⟩
theorem But.upd {g D : Addr} {H H' : Hp} {x : HO} (b : But g H H') (n : H D = none) : But g H (upd H' D x) := fun y o nb e => by
  rw [upd_ne (ne_none e n)]
  exact b y o nb e
def spRight : Sp := fun vs H Q _ => ∃ (g : Addr) (Z : Int), vs = [.ref g] ∧ GenOk H g Z ∧ Z + 10000000 ≤ 100000000 ∧ ∀ H', But g H H' → Q (.bl true) H'
theorem ok_right (S : Src K mg "_law_right" s_law_right) (T : Txt P w K mg base c cF cW cG) (C_law_random : OkD P w K mg base 2 "_law_random" ["_law_generator_here", "_law_bound"] spRandom) (C_law_words : OkD P w K mg base 4 "_law_words" ["_law_generator_here", "_law_many", "_law_size", "_law_most"] spWords) (C_law_word : OkD P w K mg base 3 "_law_word" ["_law_generator_here", "_law_many", "_law_most"] (spWord K)) (C_law_product : OkD P w K mg base 3 "_law_product" ["_law_generator_here", "_law_words_here", "_law_most"] spLProd) (C_Group_init : OkI2 (L2.CX P w) P w K mg base cG 9 "self" "many" "words" (spGInit cG)) (C_law_picture : OkD P w K mg base 5 "_law_picture" ["_law_many", "_law_words_here"] spLPict) (C_law_short : OkD P w K mg base 3 "_law_short" ["_law_many", "_law_most"] spShortL) (C_law_word_right : OkD P w K mg base 7 "_law_word_right" ["_law_group", "_law_rows_here", "_law_many", "_law_word_here", "_law_shorter"] (spWR cG)) (C_law_two_right : OkD P w K mg base 7 "_law_two_right" ["_law_group", "_law_one", "_law_other"] (spTR cG)) : OkD P w K mg base 14 "_law_right" ["_law_generator_here"] spRight := by
  refine okd S (fun f fd F => F.ok sc_law_right (fun vs H Q E h => ?_) (fun cdv A outer s H vs Q E hr h => ?_)) (fun _ _ _ _ _ _ us hl => match us, hl with | [_], _ => rfl)
  · obtain ⟨_, _, rfl, _⟩ := h
    rfl
  · obtain ⟨g, Z, rfl, gk, hZ, q⟩ := h
    refine ⟨_, ((pss_cons (ps_set (i := 1) sc_law_right.nd rfl (.inl rfl) (pe_op op_add pe_int (pe_callO C_law_random (hr.mono (by decide)) (by rfl) (pa_cons (pv 0) (pa_cons (pe_ix ix_lM (pe_lst (pa_cons pe_int (pa_cons pe_int (pa_cons pe_int pa_nil)))) (pe_callO C_law_random (hr.mono (by decide)) (by rfl) (pa_cons (pv 0) (pa_cons pe_int pa_nil))) (fun _ _ => rfl)) pa_nil)))))
      (pss_cons (ps_set (i := 2) sc_law_right.nd rfl (.inl rfl) (pe_callO C_law_words (hr.mono (by decide)) (by rfl) (pa_cons (pv 0) (pa_cons (pv 1) (pa_cons pe_int (pa_cons pe_int pa_nil))))))
      (pss_cons (ps_set (i := 3) sc_law_right.nd rfl (.inl rfl) (pe_callTy (call_list_ofK K rfl) (by rfl) T.n_list (by decide +kernel) (pa_cons (pv 2) pa_nil)))
      (pss_cons (ps_par3 (i := 4) (j := 5) (l := 6) (by rfl) sc_law_right.nd rfl rfl rfl (by decide) (by decide) (by decide) rfl rfl rfl (pa_cons (pe_mkO passC T.o_Group C_Group_init.okI (hr.mono (by decide)) (by rfl) (pa_cons (pv 1) (pa_cons (pv 3) pa_nil))) (pa_cons (pe_callO C_law_picture (hr.mono (by decide)) (by rfl) (pa_cons (pv 1) (pa_cons (pv 2) pa_nil))) (pa_cons (pe_callO C_law_short (hr.mono (by decide)) (by rfl) (pa_cons (pv 1) (pa_cons (pe_ix ix_lM (pe_lst (pa_cons pe_int (pa_cons pe_int (pa_cons pe_int (pa_cons pe_int (pa_cons pe_int (pa_cons pe_int pa_nil))))))) (pe_op op_sub (pv 1) pe_int) (fun _ _ => rfl)) pa_nil))) pa_nil))) (by rfl))
      (pss_cons (ps_expr (pe_bm PySem.F.plainAttrs_list PySem.F.slot_list_append PySem.F.type_list_append mt_append (pv 3) (pa_cons pe_str pa_nil)))
      (pss_cons (ps_set (i := 7) sc_law_right.nd rfl (.inl rfl) (pe_lst (pa_cons pe_str pa_nil)))
      (pss_cons (ps_for PassesOwn.never rfl (pi_range1 (by rfl) T.n_range (pa_cons pe_int pa_nil)) (pg_name (i := 8) sc_law_right.nd rfl (.inl rfl)) (pss_cons (ps_set (i := 9) sc_law_right.nd rfl (.inl rfl) (pe_callO C_law_word (hr.mono (by decide)) (by rfl) (pa_cons (pv 0) (pa_cons (pv 1) (pa_cons pe_int pa_nil)))))
      (pss_cons (ps_if (pt_cmpR op_eq (pe_callO C_law_random (hr.mono (by decide)) (by rfl) (pa_cons (pv 0) (pa_cons pe_int pa_nil))) pe_int (nomark _)) (pss_one (ps_set (i := 9) sc_law_right.nd rfl (.inl rfl) (pe_op op_add_str (pe_callO C_law_product (hr.mono (by decide)) (by rfl) (pa_cons (pv 0) (pa_cons (pv 2) (pa_cons pe_int pa_nil)))) (pe_ix ix_lM (pv 7) (pe_op op_sub (pe_callB call_lenM (by rfl) T.n_len PySem.boot_len (pa_cons (pv 7) pa_nil)) pe_int) (fun _ _ => rfl))))) pss_nil)
      (pss_one (ps_expr (pe_bm PySem.F.plainAttrs_list PySem.F.slot_list_append PySem.F.type_list_append mt_append (pv 7) (pa_cons (pv 9) pa_nil)))))))
      (pss_cons (ps_for PassesOwn.never rfl (pi_list (pv 7)) (pg_name (i := 9) sc_law_right.nd rfl (.inl rfl)) (pss_one (ps_if (pt_not (pt_val (pe_callO C_law_word_right (hr.mono (by decide)) (by rfl) (pa_cons (pv 4) (pa_cons (pv 5) (pa_cons (pv 1) (pa_cons (pv 9) (pa_cons (pv 6) pa_nil)))))))) (pss_one (ps_ret pe_bl)) pss_nil)))
      (pss_cons (ps_for PassesOwn.never rfl (pi_zip (by rfl) T.n_zip (pa_cons (pv 7) (pa_cons (pe_slice (sl_listK K rfl) (pv 7) (po_some pe_int) po_none) pa_nil))) (pg_tup (by rfl) (pgs_cons (pg_name (i := 10) sc_law_right.nd rfl (.inl rfl)) (pgs_cons (pg_name (i := 11) sc_law_right.nd rfl (.inl rfl)) pgs_nil))) (pss_one (ps_if (pt_not (pt_val (pe_callO C_law_two_right (hr.mono (by decide)) (by rfl) (pa_cons (pv 4) (pa_cons (pv 10) (pa_cons (pv 11) pa_nil)))))) (pss_one (ps_ret pe_bl)) pss_nil)))
      (pss_one (ps_ret pe_bl)))))))))))), ?_⟩
    walk_at "rd"
    have hz := sizeLine_eq
    refine ⟨by omega, fun p1 np1 => ?_⟩
    have gk0 := gk.but (same_upd (o := HO.lst [V.int 3, V.int 3, V.int 6]) np1)
    have bt0 : But g H (upd H p1 (.lst [V.int 3, V.int 3, V.int 6])) := .of (same_upd np1)
    have hp1 := @upd_same H p1 (HO.lst [V.int 3, V.int 3, V.int 6])
    have p1g : p1 ≠ g := GenOk.ne gk np1
    generalize upd H p1 (.lst [V.int 3, V.int 3, V.int 6]) = H0 at gk0 bt0 hp1 ⊢
    refine draw gk0 (by omega) (by decide) (by decide) fun x H1 x0 x3 bt1 gk1 => ?_
    obtain ⟨bb, hbb, b1, b2⟩ : ∃ bb : Int, atI [V.int 3, V.int 3, V.int 6] x = some (V.int bb) ∧ 1 ≤ bb ∧ bb ≤ 6 := by
      have : x = 0 ∨ x = 1 ∨ x = 2 := by omega
      rcases this with rfl | rfl | rfl
      · exact ⟨3, rfl, by decide, by decide⟩
      · exact ⟨3, rfl, by decide, by decide⟩
      · exact ⟨6, rfl, by decide, by decide⟩
    refine ⟨_, x, rfl, bt1 _ _ p1g hp1, _, hbb, ?_⟩
    refine draw gk1 (by omega) (by omega) (by omega) fun y H2 y0 y3 bt2 gk2 => ?_
    have m1 : 1 ≤ 1 + y := by omega
    have m2 : 1 + y ≤ 6 := by omega
    refine ⟨y, rfl, ?_⟩
    generalize 1 + y = m at *
    refine ⟨g, m, 4, 6, _, rfl, m1, m2, by decide, by decide, by decide, by decide, gk2, by omega, fun a ws H3 na ha hwl hws bt3 gk3 htot => ?_⟩
    have ag : a ≠ g := GenOk.ne gk2 na
    have hw1 : ∀ l ∈ ws, Sm m l ∧ l.length ≤ 30 := fun l hl => ⟨(hws l hl).1, by have := (hws l hl).2; omega⟩
    have hsh : Short m ws := ⟨by omega, fun l hl => ⟨(hw1 l hl).1, by have := (hw1 l hl).2; omega⟩⟩
    have bt03 := bt0.trans (bt1.trans (bt2.trans bt3))
    refine ⟨a, rfl, _, .inl (SqL.of ha), fun D nD => ?_⟩
    have sD := same_upd (o := HO.lst (ws.map fun l => V.str (W l))) nD
    have hD : WsAt (upd H3 D (.lst (ws.map fun l => V.str (W l)))) D ws := upd_same
    have Dg : D ≠ g := GenOk.ne gk3 nD
    have gk4 := gk3.but sD
    have nDH : H D = none := bt03.free nD Dg
    have aD : a ≠ D := ne_none ha nD
    generalize upd H3 D (.lst (ws.map fun l => V.str (W l))) = H4 at sD hD gk4 ⊢
    intro o1 dx1 no1 ndx1 ne1
    have sA : Same H4 (upd (upd H4 dx1 (.own o1)) o1 (.ins cG dx1 [])) := fun b u e => by
      rw [upd_ne (ne_none e no1), upd_ne (ne_none e ndx1)]
      exact e
    have gkA := gk4.but sA
    refine ⟨o1, dx1, m, D, ws, rfl, upd_same, m1, m2, sA _ _ hD, hsh, fun rows _ h => by omega, fun H5 R ts rows hP hrl hG nR nts ot => ⟨rfl, ?_⟩⟩
    have s45 : Same H4 H5 := fun b u e => ot b u (by simpa using ne_none e no1) (sA b u e)
    have gk5 := gk4.but s45
    refine ⟨m, a, ws, rfl, m1, m2, s45 _ _ (sD _ _ ha), fun l hl => ⟨(hw1 l hl).1, by have := (hw1 l hl).2; omega⟩, by omega, fun H6 R2 us rows2 s6 nR2 nus hP2 hrk hrl2 => ?_⟩
    have hrr : rows2 = rows := hP2.eq hP fun _ => Iff.rfl
    subst hrr
    have s46 := s45.trans s6
    have kg6 : Kg cG g a o1 dx1 R R2 ts us m ws rows2 H6 := ⟨s46 _ _ (sD _ _ ha), hG.same s6, hrl2, ag, GenOk.ne gk4 no1, GenOk.ne gkA nR, GenOk.ne gk5 nR2, fun t ht => GenOk.ne gkA (nts t ht), fun t ht => GenOk.ne gk5 (nus t ht)⟩
    have kf : Kf D a o1 R R2 ts us := ⟨aD, (ne_none hD no1).symm, (ne_none (sA _ _ hD) nR).symm, (ne_none (s45 _ _ hD) nR2).symm, fun t ht => (ne_none (sA _ _ hD) (nts t ht)).symm, fun t ht => (ne_none (s45 _ _ hD) (nus t ht)).symm⟩
    have gk6 := gk5.but s6
    have bt6 : But g H H6 := bt03.trans (.of (sD.trans s46))
    have hD6 := s46 _ _ hD
    clear gk gk0 gk1 gk2 gk3 gk4 gk5 gkA bt0 bt1 bt2 bt3 bt03 sD sA s45 s6 s46 hG hrl2 no1 ndx1 ne1 nR nts ot nR2 nus hD ha na nD hP hbb hp1
    refine ⟨by omega, fun pt npt => ?_⟩
    have sT := same_upd (o := HO.lst [V.int 5, V.int 4, V.int 3, V.int 2, V.int 2, V.int 2]) npt
    obtain ⟨n, hn, n5⟩ : ∃ n : Nat, atI [V.int 5, V.int 4, V.int 3, V.int 2, V.int 2, V.int 2] (m - 1) = some (V.int (n : Nat)) ∧ n ≤ 5 := by
      have : m = 1 ∨ m = 2 ∨ m = 3 ∨ m = 4 ∨ m = 5 ∨ m = 6 := by omega
      rcases this with rfl | rfl | rfl | rfl | rfl | rfl
      · exact ⟨5, rfl, by decide⟩
      · exact ⟨4, rfl, by decide⟩
      · exact ⟨3, rfl, by decide⟩
      · exact ⟨2, rfl, by decide⟩
      · exact ⟨2, rfl, by decide⟩
      · exact ⟨2, rfl, by decide⟩
    refine ⟨_, hn, m, n, rfl, m1, m2, n5, fun H7 S sh s7 nS hS7 hshs hshl => ?_⟩
    have s67 := sT.trans s7
    have SD : S ≠ D := fun z => by rw [z, sT _ _ hD6] at nS; cases nS
    have Sg' : S ≠ g := GenOk.ne (gk6.but sT) nS
    have hsh5 : Shorts m 5 sh := fun l hl => by
      obtain ⟨a, b, c⟩ := hshs l hl
      exact ⟨a, b, by omega⟩
    have hD7 := s67 _ _ hD6
    have kg7 := kg6.but (.of s67)
    have gk7 := gk6.but s67
    have bt7 : But g H H7 := bt6.trans (.of s67)
    refine ⟨.inl ⟨rfl, _, .inl (.inl hD7)⟩, _, hD7, by rw [List.length_map]; omega, by omega, fun A nA => ⟨by decide, by decide, ?_⟩⟩
    have kg8 := kg7.upd (x := HO.lst (ws.map (fun l => V.str (W l)) ++ [V.str ⟨#[97]⟩])) kf
    have gk8 := gk7.set (o := HO.lst (ws.map (fun l => V.str (W l)) ++ [V.str ⟨#[97]⟩])) Dg
    have bt8 := But.upd (x := HO.lst (ws.map (fun l => V.str (W l)) ++ [V.str ⟨#[97]⟩])) bt7 nDH
    have hS8 : upd H7 D (.lst (ws.map (fun l => V.str (W l)) ++ [V.str ⟨#[97]⟩])) S = some (.lst (sh.map fun l => V.str (W l))) := by rw [upd_ne SD]; exact hS7
    replace nA : upd H7 D (.lst (ws.map (fun l => V.str (W l)) ++ [V.str ⟨#[97]⟩])) A = none := nA
    change LoopW _ _ _ _ _ (upd (upd H7 D (.lst (ws.map (fun l => V.str (W l)) ++ [V.str ⟨#[97]⟩]))) A _)
    generalize upd H7 D (.lst (ws.map (fun l => V.str (W l)) ++ [V.str ⟨#[97]⟩])) = H8 at kg8 gk8 bt8 hS8 nA ⊢
    have sB := same_upd (o := HO.lst [V.str ⟨#[]⟩]) nA
    have Ag : A ≠ g := GenOk.ne gk8 nA
    have AS : S ≠ A := ne_none hS8 nA
    have nAH : H A = none := bt8.free nA Ag
    refine loop_range (n := 8) (fun j σ H' => ∃ (ask : List (List Nat)) (v8 v9 : Option V), σ = [some (.ref g), some (.int m), some (.ref a), some (.ref D), some (.ref o1), some (.ref R2), some (.ref S), some (.ref A), v8, v9, none, none] ∧ Kg cG g a o1 dx1 R R2 ts us m ws rows2 H' ∧ But g H H' ∧ GenOk H' g (Z + 200000 + 100000 * j) ∧ H' S = some (.lst (sh.map fun l => V.str (W l))) ∧ H' A = some (.lst (ask.map fun l => V.str (W l))) ∧ ask.length = j + 1 ∧ ∀ l ∈ ask, Sm m l ∧ l.length ≤ 60 * j) ⟨[[]], none, none, rfl, kg8.but (.of sB), bt8.trans (.of sB), (gk8.but sB).le (by omega), sB _ _ hS8, upd_same, rfl, fun l hl => ?_⟩ ?_ ?_
    · rw [List.mem_singleton.mp hl]
      exact ⟨(fun c hc => nomatch hc), Nat.zero_le _⟩
    · rintro j σ H9 hj ⟨ask, v8, v9, rfl, kg9, bt9, gk9, hS9, hA9, hal, hask⟩
      walk_at "rd"
      refine ⟨g, m, 9, _, rfl, m1, m2, by decide, by decide, gk9, by omega, fun l H10 hl hll bt10 gk10 => ?_⟩
      have kg10 := kg9.but bt10
      refine draw gk10 (by omega) (by decide) (by decide) fun r H11 r0 r1 bt11 gk11 => ⟨rfl, ?_⟩
      have kg11 := kg10.but bt11
      have hA11 := bt11 _ _ Ag (bt10 _ _ Ag hA9)
      have hS11 := bt11 _ _ Sg' (bt10 _ _ Sg' hS9)
      have bt911 := bt9.trans (bt10.trans bt11)
      have kfA := kg8.free nA
      by_cases h0 : r = 0
      · rw [if_pos (by rw [h0])]
        refine ⟨g, a, m, 2, _, ws, rfl, m1, m2, ag, gk11, by omega, kg11.hw, by omega, fun l hl => hw1 l hl, by decide, by decide, fun v H12 hv hvr hvl hvs bt12 gk12 => ?_⟩
        have hA12 := bt12 _ _ Ag hA11
        obtain ⟨lz, hlz⟩ : ∃ l, ask[ask.length - 1]? = some l := ⟨_, List.getElem?_eq_getElem (by omega)⟩
        obtain ⟨z1, z2⟩ := hask lz (List.mem_of_getElem? hlz)
        refine ⟨_, hA12, _, hA12, V.str (W lz), ?_, W v, rfl, W lz, rfl, by rw [W_len, W_len]; omega, .inl ⟨rfl, _, .inl (.inl hA12)⟩, _, hA12, by rw [List.length_map]; omega, ⟨_, rfl⟩, ⟨_, rfl⟩, (kg11.but bt12).upd kfA, But.upd (bt911.trans bt12) nAH, (gk12.set Ag).le (by push_cast; omega), by rw [upd_ne AS]; exact bt12 _ _ Sg' hS11, ask ++ [v ++ lz], by rw [List.map_append, cat_W]; rfl, by rw [List.length_append, hal]; rfl, fun z hz => ?_⟩
        · rw [List.length_map, show ((ask.length : Nat) : Int) - 1 = ((ask.length - 1 : Nat) : Int) by omega]
          exact atI_nat (by rw [List.getElem?_map, hlz]; rfl)
        · rcases List.mem_append.mp hz with h | h
          · obtain ⟨a, b⟩ := hask z h
            exact ⟨a, by omega⟩
          · rw [List.mem_singleton.mp h]
            exact ⟨fun c hc => (List.mem_append.mp hc).elim (hv c) (z1 c), by rw [List.length_append]; omega⟩
      · rw [if_neg (fun z => h0 (V.int.inj z))]
        refine ⟨.inl ⟨rfl, _, .inl (.inl hA11)⟩, _, hA11, by rw [List.length_map]; omega, ⟨_, rfl⟩, ⟨_, rfl⟩, kg11.upd kfA, But.upd bt911 nAH, (gk11.set Ag).le (by push_cast; omega), by rw [upd_ne AS]; exact hS11, ask ++ [l], by rw [List.map_append]; rfl, by rw [List.length_append, hal]; rfl, fun z hz => ?_⟩
        rcases List.mem_append.mp hz with h | h
        · obtain ⟨a, b⟩ := hask z h
          exact ⟨a, by omega⟩
        · rw [List.mem_singleton.mp h]
          exact ⟨hl, by omega⟩
    · rintro σ H9 ⟨ask, v8, v9, rfl, kg9, bt9, gk9, hS9, hA9, hal, hask⟩
      walk_at "rd"
      refine ⟨⟨_, SqL.of hA9⟩, ?_⟩
      refine loop_list (xs := ask.map fun l => V.str (W l)) (fun j σ H' => ∃ (v8 v9 : Option V), σ = [some (.ref g), some (.int m), some (.ref a), some (.ref D), some (.ref o1), some (.ref R2), some (.ref S), some (.ref A), v8, v9, none, none] ∧ Same H9 H') ⟨_, _, rfl, .refl _⟩ (fun j σ H' hj ⟨_, _, _, s⟩ => SqL.of (s _ _ hA9)) ?_ ?_
      · rintro j x σ H10 hx ⟨v8, v9, rfl, s10⟩
        rw [List.getElem?_map] at hx
        obtain ⟨l, hl, rfl⟩ := Option.map_eq_some_iff.mp hx
        obtain ⟨z1, z2⟩ := hask l (List.mem_of_getElem? hl)
        walk_at "rd"
        refine ⟨o1, dx1, R, R2, S, ts, us, m, ws, rows2, l, sh, rfl, kg9.gr.same s10, kg9.rl.same s10, m1, m2, hP2, by omega, z1, by omega, s10 _ _ hS9, hsh5, hshl, fun H11 s11 => ⟨true, rfl, ?_⟩⟩
        rw [if_neg (by decide)]
        exact ⟨⟨_, rfl⟩, ⟨_, rfl⟩, s10.trans s11⟩
      · rintro σ H10 ⟨v8, v9, rfl, s10⟩
        walk_at "rd"
        refine ⟨_, SqL.of (s10 _ _ hA9), fun p np => ?_⟩
        rw [cutV_one (by rw [List.length_map]; omega), ← List.map_drop]
        have sP := same_upd (o := HO.lst ((ask.drop 1).map fun l => V.str (W l))) np
        have hp := @upd_same H10 p (HO.lst ((ask.drop 1).map fun l => V.str (W l)))
        generalize upd H10 p (.lst ((ask.drop 1).map fun l => V.str (W l))) = H11 at sP hp ⊢
        have s11 := s10.trans sP
        refine ⟨⟨_, SqL.of (s11 _ _ hA9)⟩, ⟨_, SqL.of hp⟩, ?_⟩
        refine loop_zip (xs := ask.map fun l => V.str (W l)) (ys := (ask.drop 1).map fun l => V.str (W l)) rfl (fun j σ H' => ∃ (v8 v9 v10 v11 : Option V), σ = [some (.ref g), some (.int m), some (.ref a), some (.ref D), some (.ref o1), some (.ref R2), some (.ref S), some (.ref A), v8, v9, v10, v11] ∧ Same H11 H') ⟨_, _, _, _, rfl, .refl _⟩ (fun j σ H' hj ⟨_, _, _, _, _, s⟩ => ⟨SqL.of (s _ _ (s11 _ _ hA9)), SqL.of (s _ _ hp)⟩) ?_ ?_
        · rintro j x y TT σ H12 hx hy ⟨v8, v9, v10, v11, rfl, s12⟩ nTT
          rw [List.getElem?_map] at hx hy
          obtain ⟨l, hl, rfl⟩ := Option.map_eq_some_iff.mp hx
          obtain ⟨l2, hl2, rfl⟩ := Option.map_eq_some_iff.mp hy
          obtain ⟨z1, z2⟩ := hask l (List.mem_of_getElem? hl)
          obtain ⟨y1, y2⟩ := hask l2 (List.mem_of_mem_drop (List.mem_of_getElem? hl2))
          have hTT := @upd_same H12 TT (HO.tup [V.str (W l), V.str (W l2)])
          have sTT := same_upd (o := HO.tup [V.str (W l), V.str (W l2)]) nTT
          generalize upd H12 TT (.tup [V.str (W l), V.str (W l2)]) = H13 at hTT sTT ⊢
          walk_at "rd"
          refine ⟨_, SqT.of hTT, rfl, _, _, rfl, _, _, rfl, rfl, ?_⟩
          have s13 := s11.trans (s12.trans sTT)
          refine ⟨o1, dx1, R, ts, m, ws, rows2, l, l2, rfl, kg9.gr.same s13, m1, m2, hP2, by omega, z1, y1, by omega, by omega, fun H14 s14 => ⟨true, rfl, ?_⟩⟩
          rw [if_neg (by decide)]
          exact ⟨⟨_, rfl⟩, ⟨_, rfl⟩, ⟨_, rfl⟩, ⟨_, rfl⟩, s12.trans (sTT.trans s14)⟩
        · rintro σ H12 ⟨v8, v9, v10, v11, rfl, s12⟩
          walk_at "rd"
          exact q _ (bt9.trans (.of (s11.trans s12)))
end

end K29

namespace K29
open PySem PySem.Spec PyProof.Rows L2 G1 MW
abbrev s_law : Stmt := topS 71
theorem sc_law : FnScope ["_law_script", "_law_index", "_law_great", "_law_half", "_law_ring", "_law_told"] ["_law_script"] (defScope s_law) := ⟨rfl, rfl, rfl, by decide +kernel, rfl, by decide +kernel, by decide +kernel⟩
local macro_rules | `(tactic| walk_at "rd") => `(tactic| simp only [L2.iZip, G1.rGtD, L2.rMin, L2.tLockE, L2.iKeys, L2.iEnum, L2.ipI, L2.rIn, L2.tPairs, L2.rSetD, L2.tDNewK, G1.tCallK3, G1.tCallK4, G1.tFldA, G1.tCallM, G1.tMakeO, L2.sFld, L2.rExtend, L2.tDNotIn, L2.tDIn, L2.tDGet2, L2.tDisp, L2.rPopAt, L2.tLstRg, L2.tRg1, G1.tMakeO2, G1.rOwnI, G1.rCntN, L2.tPar3, L2.tSeq, L2.tAug, L2.tTup, G1.tCallK3b, G1.tMt, G1.tMinK, G1.rIsTu, L2.rIxT, G1.rTr, G1.rLtD, if_true, if_false, L2.rNotB, L2.rMax, L2.iRng2,L2.tSeq, G1.iEnumS, L2.tDGet, L2.gTup, L2.gCons, L2.gNil, L2.tPar, L2.rIxS, G1.tRepU, L2.rSlS, L2.iStr, L2.tNotV, G1.rIsV, G1.mk_int, G1.mk_bool, G1.mk_str, G1.mk_list, G1.tCallX, V.ty.injEq, L2.tChain, L2.rIsB, G1.tRevS, L2.tM0, L2.tM1, L2.tCallS, G1.tCallK2, G1.tMkR, L2.rAll, L2.rPop, L2.tBM0, L2.tRevL, L2.tAsg, L2.tOp, L2.rI, L2.rI0, L2.tVar, L2.tC, L2.tCB, L2.tCons, L2.tNil, L2.tRet, L2.gName, L2.start, L2.tIf, L2.tIfS, L2.tTest, L2.tNext, L2.rIxL, L2.tSl, L2.rSlL, L2.tNoPart, L2.tPart, L2.tLst, L2.tTup, L2.rSum, L2.tBits, L2.gSub, L2.rSetL, L2.rCat, L2.tDrop, L2.tBM, L2.tBM0, L2.rAppend, L2.tYes, L2.tB, L2.tAnd, L2.tOr, L2.tNot, L2.tAndV, L2.tOrV, G1.tCallO, G1.tXm, G1.tXn, G1.tXv, HO.lst.injEq, HO.tup.injEq, Nat.reduceAdd, Nat.zero_add, List.set_cons_zero, List.set_cons_succ, G1.tFor_eq, G1.tLc_eq, G1.rIxM, G1.rLenM, G1.rSlM, G1.atI_0, G1.atI_1, G1.atI_2, G1.ixN_0, G1.ixN_2, L2.upd_same, L2.upd_upd, and_assoc, L2.iRng1, L2.iList, L2.tUn, L2.rU, G1.rRepS, L2.wipe, List.foldl, L2.rEq, L2.rNe, List.map, List.replicate, List.length, List.append, List.set, List.getElem?_cons_zero, List.getElem?_cons_succ, List.cons_append, List.nil_append, Option.some.injEq, V.int.injEq, V.bl.injEq, V.ref.injEq, V.str.injEq, List.cons.injEq, reduceCtorEq, false_and, and_false, exists_false, or_false, false_or, exists_and_left, exists_and_right, exists_eq_left', exists_eq_left, true_and, and_true, Nat.sub_self, decide_eq_true_eq])
section
variable {P : Program} {w : World} {K : PySem.W.Frag} {mg : Str → Option Value} {base : Heap} {c : Nat → Addr} {cF cW cG : Addr}
theorem SqL.sameH {H H' : Hp} (s : Same H H') {a : Addr} {xs : List V} (h : SqL K H a xs) : SqL K H' a xs := by
  rcases h with (h | ⟨o, h⟩) | h
  · exact .inl (.inl (s _ _ h))
  · exact .inl (.inr ⟨o, s _ _ h⟩)
  · exact .inr h
theorem But.same {g : Addr} {H1 H2 H' : Hp} (t : Same H1 H2) (n : H1 g = none) (b : But g H2 H') : Same H1 H' := fun x o e => b x o (ne_none e n) (t x o e)
def spLaw (K : PySem.W.Frag) : Sp := fun vs H Q _ => ∃ (a : Addr) (ns : List Int), vs = [.ref a] ∧ SqL K H a (ns.map V.int) ∧ ns.length ≤ 63 ∧ ∀ H', Q (.bl true) H'
instance (l : List Nat) : Decidable (Sg l) := by unfold Sg; exact inferInstance
instance (m : Int) (l : List Nat) : Decidable (Sm m l) := by unfold Sm; exact inferInstance
instance (m : Int) (ls : List (List Nat)) : Decidable (Short m ls) := by unfold Short; exact inferInstance
theorem mk_grp {H : Hp} {p : Addr} {m : Int} {ws : List (List Nat)} {Q : Addr → Hp → Prop} (m1 : 1 ≤ m) (m2 : m ≤ 6) (hp : WsAt H p ws) (hsh : Short m ws) (hlim : ∀ rows, MN.Picture (numW ws) (2 * m).toNat rows → rows.length ≤ 1 + ws.flatten.length → rows.length ≤ 300)
    (k : ∀ o dx R ts rows H', MN.Picture (numW ws) (2 * m).toNat rows → rows.length ≤ 300 → Gr cG H' o dx R ts m rows → Same H H' → Q o H') : ∀ x dx, H x = none → H dx = none → dx ≠ x → spGInit cG [.ref x, .int m, .ref p] (upd (upd H dx (.own x)) x (.ins cG dx [])) (fun v H2 => v = .non ∧ Q x H2) (fun _ _ _ => False) := by
  intro x dx nx ndx ne
  have sA : Same H (upd (upd H dx (.own x)) x (.ins cG dx [])) := fun b u e => by
    rw [upd_ne (ne_none e nx), upd_ne (ne_none e ndx)]
    exact e
  exact ⟨x, dx, m, p, ws, rfl, upd_same, m1, m2, sA _ _ hp, hsh, hlim, fun H' R ts rows hP hl hG _ _ ot => ⟨rfl, k x dx R ts rows H' hP hl hG fun b u e => ot b u (by simpa using ne_none e nx) (sA b u e)⟩⟩
theorem mulOk_W {l : List Nat} {n : Nat} (h : l.length * n ≤ 100000) (hn : n ≤ 100000) : MulOk (W l) (n : Int) := by
  unfold MulOk
  refine ⟨by rw [Bool.or_eq_false_iff, decide_eq_false_iff_not, decide_eq_false_iff_not]; omega, fun h1 h2 => ?_, fun h1 h2 => ?_⟩
  · rw [W_len]
    have h3 : ((2 ^ 63 - 1) / (n : Int)) * n ≤ 2 ^ 63 - 1 := Int.ediv_mul_le _ (by omega)
    have hl : l.length ≤ 100000 := by
      have : l.length * 1 ≤ l.length * n := Nat.mul_le_mul_left _ (by omega)
      omega
    have : (100000 : Int) ≤ (2 ^ 63 - 1) / (n : Int) := by
      apply Int.le_ediv_of_mul_le (by omega)
      have : (100000 : Int) * n ≤ 100000 * 100000 := Int.mul_le_mul_of_nonneg_left (by omega) (by decide)
      omega
    omega
  · rw [W_len, Int.toNat_natCast]
    unfold PySem.Builtin.Str.tooLong
    rw [decide_eq_false_iff_not]
    have := sizeLine_eq
    omega
theorem reach_lt {ws : List (List Nat)} {size : Nat} {rows : List (List (Option Nat))} (hP : MN.Picture (numW ws) size rows) : ∀ p, p < rows.length → ∃ u, MN.run (MN.rowsD rows) 0 u = some p := by
  intro p
  induction p using Nat.strongRecOn with
  | ind p ih =>
    intro hp
    rcases Nat.eq_zero_or_pos p with rfl | h0
    · exact ⟨[], rfl⟩
    · obtain ⟨p0, s0, k1, k2⟩ := hP.numb.lead p h0 hp
      obtain ⟨u, hu⟩ := ih p0 k1 (by omega)
      exact ⟨u ++ [s0], (MN.run_append u).mpr ⟨p0, hu, MN.run_one.mpr k2⟩⟩
theorem num_eq {f e : List Nat} (hf : Sg f) (he : Sg e) (h : f.map num = e.map num) : f = e := by
  have := congrArg (fun z => z.map sg) h
  simp only [sg_nums _ hf, sg_nums _ he] at this
  exact this
def wG : List (List Nat) := [List.replicate 200 97, List.replicate 101 98]
def wH : List (List Nat) := [[97, 97], [98], [97, 98, 65]]
theorem numG : numW wG = [MN.pA 200, MN.pB 101] := by decide +kernel
theorem memG : ∀ w, w ∈ numW wG ↔ w = MN.pA 200 ∨ w = MN.pB 101 := fun w => by rw [numG]; simp
theorem exG : ∀ w ∈ numW wG, (200 : Int) ∣ MN.exL w := by
  intro w hw
  rcases (memG w).mp hw with rfl | rfl
  · exact ⟨1, by decide +kernel⟩
  · exact ⟨0, by decide +kernel⟩
theorem exH : ∀ w ∈ numW wH, (2 : Int) ∣ MN.exL w := by
  intro w hw
  have : w = [0, 0] ∨ w = [2] ∨ w = [0, 2, 1] := by
    have e : numW wH = [[0, 0], [2], [0, 2, 1]] := by decide +kernel
    rw [e] at hw
    simpa using hw
  rcases this with rfl | rfl | rfl
  · exact ⟨1, by decide⟩
  · exact ⟨0, by decide⟩
  · exact ⟨0, by decide⟩
theorem lenG' {rows : List (List (Option Nat))} (hP : MN.Picture (numW wG) 4 rows) : rows.length ≤ 300 := MN.lenG memG hP (reach_lt hP)
theorem one_of {ws : List (List Nat)} {size : Nat} {rows : List (List (Option Nat))} {k : Int} {l : List Nat} (hP : MN.Picture (numW ws) size rows) (hk : ∀ w ∈ numW ws, k ∣ MN.exL w) (h1 : ¬ k ∣ 1) (hl : 0 :: l ∈ numW ws) : MN.rowsD rows 0 0 = some 1 := by
  obtain ⟨q, e, _⟩ := MN.run_cons.mp (hP.pic.loop _ hl)
  have : q ≠ 0 := fun z => by
    rw [z] at e
    have := MN.Sub.ex hk (hP.pic.sub (MN.run_one.mpr e))
    exact h1 this
  rw [e, MN.Numb.one hP.numb e this]
theorem cls_a {rows : List (List (Option Nat))} (h : MN.rowsD rows 0 0 = some 1) : spotN rows [97] = 1 ∧ restL rows [97] = [] := by
  have e : MN.cls (MN.rowsD rows) 0 ([97].map num) = (1, []) := by
    show MN.cls (MN.rowsD rows) 0 [0] = _
    rw [MN.cls, h]
    rfl
  refine ⟨?_, ?_⟩
  · unfold spotN
    rw [e]
  · have := rest_num rows [97]
    rw [e] at this
    exact List.map_eq_nil_iff.mp this
theorem clsV_of {rows : List (List (Option Nat))} {a b : List Nat} (h : SameC rows a b) : clsV rows a = clsV rows b := by
  unfold clsV
  rw [h.1, h.2]
theorem firstG {rows : List (List (Option Nat))} (hP : MN.Picture (numW wG) 4 rows) {f : List Nat} (hf : Sg f) (h : firstL rows (red (List.replicate 150 97)) f) : f = List.replicate 50 65 := by
  have s1 : Sg (List.replicate 150 97) := by decide +kernel
  have s2 : Sg (List.replicate 50 65) := by decide +kernel
  obtain ⟨e1, e2, e3⟩ := first_facts hP s1 hf h
  have g : MN.Sub (numW wG) (MN.pA 200) := .gen ((memG _).mpr (.inl rfl))
  have c1 : SameC rows (red (List.replicate 50 65)) (red (List.replicate 150 97)) := (sameC_cos hP s2 s1).mpr (by
    have := g.opp
    have e : MN.opp (MN.pA 200) = (List.replicate 50 65).map num ++ MN.opp ((List.replicate 150 97).map num) := by decide +kernel
    rw [e] at this
    exact this)
  have k1 := e3 _ s2 c1
  have r50 : red (List.replicate 50 65) = List.replicate 50 65 := by decide +kernel
  rw [r50] at k1
  have hl : f.length ≤ 50 := by
    rcases k1 with z | ⟨z, _⟩ <;> simp at z <;> omega
  have c2 : MN.Cos (numW wG) (f.map num) ((List.replicate 150 97).map num) := (sameC_cos hP hf s1).mp (by rw [e1]; exact e2)
  obtain ⟨j, hj⟩ := MN.Sub.ex exG c2
  rw [MN.exL_app, show MN.exL (MN.opp ((List.replicate 150 97).map num)) = -150 by decide +kernel] at hj
  have hb := MN.exL_bound (f.map num)
  rw [List.length_map] at hb
  have hx : MN.exL (f.map num) = -50 := by omega
  have h50 : f.length = 50 := by omega
  have := MN.exL_all (f.map num) (by rw [hx, List.length_map, h50]; rfl)
  rw [List.length_map, h50] at this
  exact num_eq hf s2 (by rw [this]; decide +kernel)
theorem classG {rows : List (List (Option Nat))} (hP : MN.Picture (numW wG) 4 rows) : clsV rows (red (List.replicate 101 98 ++ [97])) = [.int 1, .str (W [])] := by
  have s1 : Sg (List.replicate 101 98 ++ [97]) := by decide +kernel
  have s2 : Sg [97] := by decide
  have g : MN.Sub (numW wG) (MN.pB 101) := .gen ((memG _).mpr (.inr rfl))
  have c1 : SameC rows (red (List.replicate 101 98 ++ [97])) (red [97]) := (sameC_cos hP s1 s2).mpr (by
    have c : MN.Cos (numW wG) (MN.pB 101) [] := by
      show MN.Sub _ (MN.pB 101 ++ [])
      rw [List.append_nil]
      exact g
    have := c.app [0]
    have e : MN.pB 101 ++ [0] = (List.replicate 101 98 ++ [97]).map num := by decide +kernel
    rw [e] at this
    exact this)
  rw [clsV_of c1, show red [97] = [97] by decide]
  obtain ⟨a, b⟩ := cls_a (one_of hP exG (by decide) (l := List.replicate 199 0) ((memG _).mpr (.inl rfl)))
  unfold clsV
  rw [a, b]
  rfl
theorem sameH {rows : List (List (Option Nat))} (hP : MN.Picture (numW wH) 4 rows) : SameC rows (red [97, 98]) (red [97]) := (sameC_cos hP (by decide) (by decide)).mpr (.gen (by decide +kernel))
theorem oneH {rows : List (List (Option Nat))} (hP : MN.Picture (numW wH) 4 rows) : MN.rowsD rows 0 0 = some 1 := one_of hP exH (by decide) (l := [0]) (by decide +kernel)
theorem classH {rows : List (List (Option Nat))} (hP : MN.Picture (numW wH) 4 rows) : clsV rows (red [97, 98]) = [.int 1, .str (W [])] := by
  rw [clsV_of (sameH hP), show red [97] = [97] by decide]
  obtain ⟨a, b⟩ := cls_a (oneH hP)
  unfold clsV
  rw [a, b]
  rfl
theorem firstH {rows : List (List (Option Nat))} (hP : MN.Picture (numW wH) 4 rows) {f : List Nat} (hf : Sg f) (h : firstL rows (red [97, 98]) f) : f = [97] := by
  have h1 := oneH hP
  obtain ⟨a, b⟩ := cls_a h1
  have c := sameH hP
  rw [show red [97] = [97] by decide] at c
  obtain ⟨v, hv, rfl⟩ := h
  rw [c.1, a] at hv
  rw [c.2, b, List.append_nil]
  have fw : MN.Fw (MN.rowsD rows) 1 ([] ++ [0]) := .next (by decide) (by decide) ⟨h1, fun p' s' _ => by omega⟩ .zero
  exact num_eq (fun x hx => hf x (List.mem_append_left _ hx)) (by decide) (hv.uniq fw)
def prD (n : Nat) (r : List Nat) : PyData := .tuple [.int (n : Nat), .str (W r)]
theorem dp_pr {H : Hp} {a : Addr} {n : Nat} {r : List Nat} (h : H a = some (.tup [.int (n : Nat), .str (W r)])) : Dp K H (.ref a) (prD n r) := .tup (SqT.of h) (.cons (.int _) (.cons (.str _) .nil))
theorem pr_shaped {n : Nat} {r : List Nat} (h : Sg r) : SeqAt.shaped (prD n r) = true := by
  unfold SeqAt.shaped prD
  simp [PyData.canLay0, PyData.canLayAll0, PyData.depth, PyData.depthAll]
  exact strOk_W h
theorem ne_pr {H : Hp} {a b : Addr} {n : Nat} {r : List Nat} {Q : VK} (hr : Sg r) (h1 : H a = some (.tup [.int (n : Nat), .str (W r)])) (h2 : H b = some (.tup [.int (n : Nat), .str (W r)])) (q : Q (.bl false) H) : rNeD K (.ref a) (.ref b) H Q := by
  refine ⟨_, _, dp_pr h1, dp_pr h2, pr_shaped hr, pr_shaped hr, ?_⟩
  rw [SeqAt.eqv_refl _ (SeqAt.canLay_of_shaped (pr_shaped hr))]
  exact q
def toldD : PyData := .list [prD 1 [], prD 1 [97, 98], prD 0 [98], prD 0 [], prD 0 []]
theorem told_shaped : SeqAt.shaped toldD = true := by decide +kernel
def wR : List (List Nat) := [[97, 98]]
theorem rowsRR {rows : List (List (Option Nat))} (hP : MN.Picture (numW wR) 4 rows) : rows = [[some 1, none, none, some 1], [none, some 0, some 0, none]] := by
  have e : numW wR = [[0, 2]] := by decide +kernel
  rw [e] at hP
  exact MN.rowsR (fun w hw => by simpa using hw) (.gen (by simp)) hP
theorem rowsEE {rows : List (List (Option Nat))} (hP : MN.Picture (numW []) 2 rows) : rows = [[none, none]] := MN.rowsE2 (fun w hw => by cases hw) hP
theorem firstR {f : List Nat} (hf : Sg f) (h : firstL [[some 1, none, none, some 1], [none, some 0, some 0, none]] (red [66, 97, 98]) f) : f = [97, 97, 98] := by
  obtain ⟨v, hv, rfl⟩ := h
  rw [show spotN [[some 1, none, none, some 1], [none, some 0, some 0, none]] (red [66, 97, 98]) = 1 by decide +kernel] at hv
  rw [show restL [[some 1, none, none, some 1], [none, some 0, some 0, none]] (red [66, 97, 98]) = [97, 98] by decide +kernel]
  have fw : MN.Fw (MN.rowsD [[some 1, none, none, some 1], [none, some 0, some 0, none]]) 1 ([] ++ [0]) := .next (by decide) (by decide) ⟨by decide +kernel, fun p' s' _ => by omega⟩ .zero
  rw [num_eq (f := v) (e := [97]) (fun x hx => hf x (List.mem_append_left _ hx)) (by decide) (hv.uniq fw)]
  rfl
theorem firstE {f : List Nat} (hf : Sg f) (h : firstL [[none, none]] (red [97, 97, 65]) f) : f = [97] := by
  obtain ⟨v, hv, rfl⟩ := h
  rw [show spotN [[none, none]] (red [97, 97, 65]) = 0 by decide +kernel] at hv
  rw [show restL [[none, none]] (red [97, 97, 65]) = [97] by decide +kernel]
  have e : v = [] := List.map_eq_nil_iff.mp (hv.uniq .zero)
  rw [e]
  rfl
theorem ok_law {f : Addr} {fd : FuncData} (F : Fun K "law" "law" s_law f fd) (T : Txt P w K mg base c cF cW cG) (C_law_generator : OkD P w K mg base 2 "_law_generator" ["_law_script", "_law_index"] (spGen K)) (C_law_right : OkD P w K mg base 14 "_law_right" ["_law_generator_here"] spRight) (C_class_of : OkX2 P w K mg base 5 "class_of" "group" "word" (spClassOf cG)) (C_first_of_class : OkX2 P w K mg base 5 "first_of_class" "group" "word" (spFirst cG)) (C_Group_init : OkI2 (L2.CX P w) P w K mg base cG 9 "self" "many" "words" (spGInit cG)) :
    FnG P w K mg base CX0 15 f fd ["_law_script"] (spLaw K) := by
  refine fng_ofn F sc_law (fun vs H Q E h => ?_) (fun cdv A outer s H vs Q E hg hr h => ?_)
  · obtain ⟨_, _, rfl, _⟩ := h
    rfl
  · obtain ⟨a, ns, rfl, hS, hl, q⟩ := h
    refine ⟨_, ((pss_cons (ps_for PassesOwn.never rfl (pi_range1 (by rfl) T.n_range (pa_cons pe_int pa_nil)) (pg_name (i := 1) sc_law.nd rfl (.inl rfl)) (pss_one (ps_if (pt_not (pt_val (pe_callO C_law_right (hr.mono (by decide)) (by rfl) (pa_cons (pe_callO C_law_generator (hr.mono (by decide)) (by rfl) (pa_cons (pv 0) (pa_cons (pv 1) pa_nil))) pa_nil)))) (pss_one (ps_ret pe_bl)) pss_nil)))
      (pss_cons (ps_set (i := 2) sc_law.nd rfl (.inl rfl) (pe_mkO passC T.o_Group C_Group_init.okI (hr.mono (by decide)) (by rfl) (pa_cons pe_int (pa_cons (pe_lst (pa_cons (pe_op op_repS pe_str pe_int) (pa_cons (pe_op op_repS pe_str pe_int) pa_nil))) pa_nil))))
      (pss_cons (ps_if (PW.pt (pw_or (pt_cmpR op_ne (pe_callC C_first_of_class.okX (hr.mono (by decide)) (by rfl) (pa_cons (pv 2) (pa_cons (pe_op op_repS pe_str pe_int) pa_nil))) (pe_op op_repS pe_str pe_int) (nomark _)) (pw_or1 (pt_cmpR (op_neDK K rfl hr.units) (pe_callC C_class_of.okX (hr.mono (by decide)) (by rfl) (pa_cons (pv 2) (pa_cons (pe_op op_add_str (pe_op op_repS pe_str pe_int) pe_str) pa_nil))) (pe_tup (pa_cons pe_int (pa_cons pe_str pa_nil))) (nomark _))))) (pss_one (ps_ret pe_bl)) pss_nil)
      (pss_cons (ps_par (i := 3) (j := 4) (by rfl) sc_law.nd rfl rfl (by decide) rfl rfl (pa_cons (pe_mkO passC T.o_Group C_Group_init.okI (hr.mono (by decide)) (by rfl) (pa_cons pe_int (pa_cons (pe_lst (pa_cons pe_str (pa_cons pe_str (pa_cons pe_str pa_nil)))) pa_nil))) (pa_cons (pe_mkO passC T.o_Group C_Group_init.okI (hr.mono (by decide)) (by rfl) (pa_cons pe_int (pa_cons (pe_lst (pa_cons pe_str pa_nil)) pa_nil))) pa_nil)) (by rfl))
      (pss_cons (ps_set (i := 5) sc_law.nd rfl (.inl rfl) (pe_lst (pa_cons (pe_callC C_class_of.okX (hr.mono (by decide)) (by rfl) (pa_cons (pv 3) (pa_cons pe_str pa_nil))) (pa_cons (pe_callC C_class_of.okX (hr.mono (by decide)) (by rfl) (pa_cons (pv 4) (pa_cons pe_str pa_nil))) (pa_cons (pe_callC C_class_of.okX (hr.mono (by decide)) (by rfl) (pa_cons (pv 4) (pa_cons pe_str pa_nil))) (pa_cons (pe_callC C_class_of.okX (hr.mono (by decide)) (by rfl) (pa_cons (pv 3) (pa_cons pe_str pa_nil))) (pa_cons (pe_callC C_class_of.okX (hr.mono (by decide)) (by rfl) (pa_cons (pv 4) (pa_cons pe_str pa_nil))) pa_nil)))))))
      (pss_cons (ps_if (pt_cmpR (op_neDK K rfl hr.units) (pv 5) (pe_lst (pa_cons (pe_tup (pa_cons pe_int (pa_cons pe_str pa_nil))) (pa_cons (pe_tup (pa_cons pe_int (pa_cons pe_str pa_nil))) (pa_cons (pe_tup (pa_cons pe_int (pa_cons pe_str pa_nil))) (pa_cons (pe_tup (pa_cons pe_int (pa_cons pe_str pa_nil))) (pa_cons (pe_tup (pa_cons pe_int (pa_cons pe_str pa_nil))) pa_nil)))))) (nomark _)) (pss_one (ps_ret pe_bl)) pss_nil)
      (pss_one (ps_ret (pe_cmpR (op_eqDK K rfl hr.units) (pe_lst (pa_cons (pe_callC C_first_of_class.okX (hr.mono (by decide)) (by rfl) (pa_cons (pv 3) (pa_cons pe_str pa_nil))) (pa_cons (pe_callC C_first_of_class.okX (hr.mono (by decide)) (by rfl) (pa_cons (pv 4) (pa_cons pe_str pa_nil))) (pa_cons (pe_callC C_first_of_class.okX (hr.mono (by decide)) (by rfl) (pa_cons (pe_mkO passC T.o_Group C_Group_init.okI (hr.mono (by decide)) (by rfl) (pa_cons pe_int (pa_cons (pe_lst pa_nil) pa_nil))) (pa_cons pe_str pa_nil))) pa_nil)))) (pe_lst (pa_cons pe_str (pa_cons pe_str (pa_cons pe_str pa_nil)))) (nomark _))))))))))), ?_⟩
    walk_at "rd"
    have hz := sizeLine_eq
    refine ⟨by decide, by decide, ?_⟩
    refine loop_range (n := 3) (fun i σ H' => ∃ v1, σ = [some (V.ref a), v1, none, none, none, none] ∧ Same H H') ⟨none, rfl, .refl H⟩ ?_ ?_
    · rintro i σ H1 hi ⟨v1, rfl, s1⟩
      walk_at "rd"
      refine ⟨a, ns, 0 + (i : Int), rfl, SqL.sameH s1 hS, hl, by omega, by omega, fun g H2 gx gy t2 ng hgA x0 x1 y0 y1 => ?_⟩
      have gk0 : GenOk H2 g 3000 := ⟨gx, gy, _, hgA, x0, x1, y0, y1, by omega, by omega⟩
      refine ⟨g, 3000, rfl, gk0, by decide, fun H3 bt => ⟨true, rfl, ?_⟩⟩
      rw [if_neg (by decide)]
      exact ⟨⟨_, rfl⟩, s1.trans (But.same t2 ng bt)⟩
    · rintro σ H1 ⟨v1, rfl, s1⟩
      walk_at "rd"
      have eA : Txt.mul (PySem.Str.ofString "a") 200 = W (List.replicate 200 97) := by decide +kernel
      have eB : Txt.mul (PySem.Str.ofString "b") 101 = W (List.replicate 101 98) := by decide +kernel
      have eC : Txt.mul (PySem.Str.ofString "a") 150 = W (List.replicate 150 97) := by decide +kernel
      have eD : Txt.mul (PySem.Str.ofString "A") 50 = W (List.replicate 50 65) := by decide +kernel
      have eE : W (List.replicate 101 98) ++ PySem.Str.ofString "a" = W (List.replicate 101 98 ++ [97]) := by decide +kernel
      simp only [eA, eB, eC, eD, eE]
      have mA : ∀ (l : List Nat) (n : Nat), l.length * n ≤ 100000 → n ≤ 100000 → MulOk (W l) (n : Int) := fun l n h1 h2 => mulOk_W h1 h2
      refine ⟨mA [97] 200 (by decide) (by decide), mA [98] 101 (by decide) (by decide), by decide, fun p np => ?_⟩
      have hp : WsAt (upd H1 p (.lst [V.str (W (List.replicate 200 97)), V.str (W (List.replicate 101 98))])) p wG := upd_same
      generalize upd H1 p (.lst [V.str (W (List.replicate 200 97)), V.str (W (List.replicate 101 98))]) = H2 at hp ⊢
      refine mk_grp (by decide) (by decide) hp (by decide +kernel) (fun rows hP _ => lenG' hP) fun g1 dx1 R1 ts1 rows1 H3 hP1 _ hG1 s3 => ?_
      have hS1 : Shape 4 rows1 := hP1.shape
      refine ⟨mA [97] 150 (by decide) (by decide), g1, dx1, R1, ts1, 2, rows1, List.replicate 150 97, rfl, hG1, by decide, by decide, hS1, hP1.numb, by have := lenG' hP1; omega, by decide +kernel, by decide +kernel, fun H4 f s4 hf fm _ => ⟨mA [65] 50 (by decide) (by decide), rfl, ?_⟩⟩
      rw [firstG hP1 fm.sg hf, if_neg (by simp)]
      refine ⟨mA [98] 101 (by decide) (by decide), by decide +kernel, g1, dx1, R1, ts1, 2, rows1, List.replicate 101 98 ++ [97], rfl, hG1.same s4, by decide, by decide, hS1, by decide +kernel, by decide +kernel, fun H5 t5 s5 n5 ht5 => ⟨by decide, fun p6 np6 => ?_⟩⟩
      rw [classG hP1] at ht5
      have n6 := np6
      refine ne_pr (n := 1) (r := []) (by decide) (same_upd np6 _ _ ht5) upd_same ⟨_, rfl, ?_⟩
      rw [if_neg (by decide)]
      generalize upd H5 p6 _ = H6
      refine ⟨by decide, fun p7 np7 => ?_⟩
      refine mk_grp (by decide) (by decide) (ws := wH) (show WsAt _ p7 wH from upd_same) (by decide +kernel) (fun rows _ h => Nat.le_trans h (by decide +kernel)) fun g2 dx2 R2 ts2 rows2 H7 hP2 hl2 hG2 s7 => ?_
      refine ⟨by decide, fun p8 np8 => ?_⟩
      have sp8 := same_upd (o := HO.lst [V.str (W [97, 98])]) np8
      refine mk_grp (by decide) (by decide) (ws := wR) (show WsAt _ p8 wR from upd_same) (by decide +kernel) (fun rows _ h => Nat.le_trans h (by decide +kernel)) fun g3 dx3 R3 ts3 rows3 H8 hP3 _ hG3 s8 => ?_
      have hS2 : Shape 4 rows2 := hP2.shape
      have hS3 : Shape 4 rows3 := hP3.shape
      have hN3 := hP3.numb
      have hr3 := rowsRR hP3
      subst hr3
      have hG2' := hG2.same (sp8.trans s8)
      have l2 : rows2.length ≤ 1000 := by omega
      refine ⟨g2, dx2, R2, ts2, 2, rows2, [97, 98], rfl, hG2', by decide, by decide, hS2, by decide, by decide, fun H9 t9 s9 n9 ht9 => ⟨g3, dx3, R3, ts3, 2, _, [97, 97, 98], rfl, hG3.same s9, by decide, by decide, hS3, by decide, by decide, fun H10 t10 s10 n10 ht10 => ⟨g3, dx3, R3, ts3, 2, _, [97, 98, 98], rfl, hG3.same (s9.trans s10), by decide, by decide, hS3, by decide, by decide, fun H11 t11 s11 n11 ht11 => ⟨g2, dx2, R2, ts2, 2, rows2, [], rfl, hG2'.same (s9.trans (s10.trans s11)), by decide, by decide, hS2, by decide, by decide, fun H12 t12 s12 n12 ht12 => ⟨g3, dx3, R3, ts3, 2, _, [97, 65], rfl, hG3.same (s9.trans (s10.trans (s11.trans s12))), by decide, by decide, hS3, by decide, by decide, fun H13 t13 s13 n13 ht13 => ?_⟩⟩⟩⟩⟩
      rw [classH hP2] at ht9
      have e10 : clsV [[some 1, none, none, some 1], [none, some 0, some 0, none]] (red [97, 97, 98]) = [.int (1 : Nat), .str (W [97, 98])] := by decide +kernel
      have e11 : clsV [[some 1, none, none, some 1], [none, some 0, some 0, none]] (red [97, 98, 98]) = [.int (0 : Nat), .str (W [98])] := by decide +kernel
      have e12 : clsV rows2 (red []) = [.int (0 : Nat), .str (W [])] := rfl
      have e13 : clsV [[some 1, none, none, some 1], [none, some 0, some 0, none]] (red [97, 65]) = [.int (0 : Nat), .str (W [])] := by decide +kernel
      rw [e10] at ht10
      rw [e11] at ht11
      rw [e12] at ht12
      rw [e13] at ht13
      refine ⟨by decide, fun q0 nq0 => ⟨by decide, fun q1 nq1 => ⟨by decide, fun q2 nq2 => ⟨by decide, fun q3 nq3 => ⟨by decide, fun q4 nq4 => ⟨by decide, fun q5 nq5 => ⟨by decide, fun q6 nq6 => ?_⟩⟩⟩⟩⟩⟩⟩
      have z0 := same_upd (o := HO.lst [V.ref t9, V.ref t10, V.ref t11, V.ref t12, V.ref t13]) nq0
      have w0 := @upd_same H13 q0 (HO.lst [V.ref t9, V.ref t10, V.ref t11, V.ref t12, V.ref t13])
      generalize upd H13 q0 (HO.lst [V.ref t9, V.ref t10, V.ref t11, V.ref t12, V.ref t13]) = G0 at *
      have z1 := same_upd (o := HO.tup [V.int 1, V.str (PySem.Str.ofString "")]) nq1
      have w1 := @upd_same G0 q1 (HO.tup [V.int 1, V.str (PySem.Str.ofString "")])
      generalize upd G0 q1 (HO.tup [V.int 1, V.str (PySem.Str.ofString "")]) = G1' at *
      have z2 := same_upd (o := HO.tup [V.int 1, V.str (PySem.Str.ofString "ab")]) nq2
      have w2 := @upd_same G1' q2 (HO.tup [V.int 1, V.str (PySem.Str.ofString "ab")])
      generalize upd G1' q2 (HO.tup [V.int 1, V.str (PySem.Str.ofString "ab")]) = G2' at *
      have z3 := same_upd (o := HO.tup [V.int 0, V.str (PySem.Str.ofString "b")]) nq3
      have w3 := @upd_same G2' q3 (HO.tup [V.int 0, V.str (PySem.Str.ofString "b")])
      generalize upd G2' q3 (HO.tup [V.int 0, V.str (PySem.Str.ofString "b")]) = G3' at *
      have z4 := same_upd (o := HO.tup [V.int 0, V.str (PySem.Str.ofString "")]) nq4
      have w4 := @upd_same G3' q4 (HO.tup [V.int 0, V.str (PySem.Str.ofString "")])
      generalize upd G3' q4 (HO.tup [V.int 0, V.str (PySem.Str.ofString "")]) = G4' at *
      have z5 := same_upd (o := HO.tup [V.int 0, V.str (PySem.Str.ofString "")]) nq5
      have w5 := @upd_same G4' q5 (HO.tup [V.int 0, V.str (PySem.Str.ofString "")])
      generalize upd G4' q5 (HO.tup [V.int 0, V.str (PySem.Str.ofString "")]) = G5' at *
      have z6 := same_upd (o := HO.lst [V.ref q1, V.ref q2, V.ref q3, V.ref q4, V.ref q5]) nq6
      have w6 := @upd_same G5' q6 (HO.lst [V.ref q1, V.ref q2, V.ref q3, V.ref q4, V.ref q5])
      generalize upd G5' q6 (HO.lst [V.ref q1, V.ref q2, V.ref q3, V.ref q4, V.ref q5]) = G6' at *
      have y5 := z5.trans z6
      have y4 := z4.trans y5
      have y3 := z3.trans y4
      have y2 := z2.trans y3
      have y1 := z1.trans y2
      have y0 := z0.trans y1
      have sA : Same H9 G6' := s10.trans (s11.trans (s12.trans (s13.trans y0)))
      have d1 : Dp K G6' (.ref q0) toldD := .lst (SqL.of (y1 _ _ w0)) (.cons (dp_pr (n := 1) (r := []) (sA _ _ ht9)) (.cons (dp_pr (n := 1) (r := [97, 98]) ((s11.trans (s12.trans (s13.trans y0))) _ _ ht10)) (.cons (dp_pr (n := 0) (r := [98]) ((s12.trans (s13.trans y0)) _ _ ht11)) (.cons (dp_pr (n := 0) (r := []) ((s13.trans y0) _ _ ht12)) (.cons (dp_pr (n := 0) (r := []) (y0 _ _ ht13)) .nil)))))
      have d2 : Dp K G6' (.ref q6) toldD := .lst (SqL.of w6) (.cons (dp_pr (n := 1) (r := []) (y2 _ _ w1)) (.cons (dp_pr (n := 1) (r := [97, 98]) (y3 _ _ w2)) (.cons (dp_pr (n := 0) (r := [98]) (y4 _ _ w3)) (.cons (dp_pr (n := 0) (r := []) (y5 _ _ w4)) (.cons (dp_pr (n := 0) (r := []) (z6 _ _ w5)) .nil)))))
      refine ⟨_, _, d1, d2, told_shaped, told_shaped, ?_⟩
      rw [SeqAt.eqv_refl _ (SeqAt.canLay_of_shaped told_shaped)]
      refine ⟨_, rfl, ?_⟩
      rw [if_neg (by decide)]
      refine ⟨g2, dx2, R2, ts2, 2, rows2, [97, 98], rfl, hG2'.same (s9.trans sA), by decide, by decide, hS2, hP2.numb, l2, by decide, by decide, fun J1 f1 u1 hf1 fm1 _ => ⟨g3, dx3, R3, ts3, 2, _, [66, 97, 98], rfl, hG3.same (s9.trans (sA.trans u1)), by decide, by decide, hS3, hN3, by decide, by decide, by decide, fun J2 f2 u2 hf2 fm2 _ => ⟨Nat.zero_le _, fun p9 np9 => ?_⟩⟩⟩
      rw [firstH hP2 fm1.sg hf1, firstR fm2.sg hf2]
      refine mk_grp (by decide) (by decide) (ws := []) (show WsAt _ p9 [] from upd_same) (by decide) (fun rows _ h => Nat.le_trans h (by decide)) fun g4 dx4 R4 ts4 rows4 J3 hP4 _ hG4 u4 => ?_
      have hS4 : Shape 2 rows4 := hP4.shape
      have hN4 := hP4.numb
      have hr4 := rowsEE hP4
      subst hr4
      refine ⟨g4, dx4, R4, ts4, 1, _, [97, 97, 65], rfl, hG4, by decide, by decide, hS4, hN4, by decide, by decide, by decide, fun J4 f4 u5 hf4 fm4 _ => ?_⟩
      have e4 := firstE fm4.sg hf4
      subst e4
      refine ⟨by decide, fun r1 nr1 => ⟨by decide, fun r2 nr2 => ?_⟩⟩
      have hsh := strs_shaped [[97], [97, 97, 98], [97]] (by decide)
      refine ⟨_, _, .lst (SqL.of (same_upd nr2 _ _ upd_same)) (dp_strs [[97], [97, 97, 98], [97]]), .lst (SqL.of upd_same) (dp_strs [[97], [97, 97, 98], [97]]), hsh, hsh, ?_⟩
      rw [SeqAt.eqv_refl _ (SeqAt.canLay_of_shaped hsh)]
      exact q _
end

end K29

namespace K29
open PySem PySem.Spec PyProof.Rows L2 G1 MW
/-- what the top says of an exception class -/
structure XF (K : PySem.W.Frag) (x : Str) (C : Addr) : Prop where
  a0 : PySem.W.nsIn K mainGlobals x = some (some (.ref C))
  sa : PySem.W.findIn K (.ref C) "__setattr__" = some (some (.builtin "object.__setattr__"))
  eC : PySem.W.subIn K (.ref C) (.type "BaseException") = some true
  tC : PySem.W.typeIn K (.ref C) = some (.type "type")
  kC : PySem.W.keepIn K (.ref C) = true
  ga : PySem.W.findIn K (.ref C) "__getattribute__" = some (some (.builtin "BaseException.__getattribute__"))
  gg : PySem.W.findIn K (.ref C) "__getattr__" = some none
  cc : PySem.W.findIn K (.ref C) "__class__" = some (some (.builtin "object.__class__"))
  cm : PySem.W.mroIn K C (.type "object") = some true
  hd : PySem.W.hasDictIn K C = true
  nv : PySem.W.findIn K (.ref C) "value" = some none
theorem XF.xc {K : PySem.W.Frag} {x : Str} {C : Addr} (F : XF K x C) (cn : PySem.W.specialIn K (.builtin "object.__class__") "__get__" = some (some (.builtin "getset_descriptor.__get__"))) (ct : PySem.W.takesIn K (.builtin "object.__class__") = some true)
    {nm q : Str} {N : Addr} {bs bm : List Value} {sn : List Str} {sub : List Value} {ab : Bool} {col : Option Bool} {dd : Option Addr} {m0 m1 m2 m3 m5 : Option Value}
    (xL : K.lookup C = some (excClassObj nm q C N bs bm true sn sub ab col dd m0 m1 m2 m3 m5 "ValueError.__new__")) (hbm : PySem.HandSPX.refsVE bm = true) : XC K C :=
  ⟨⟨⟨nm, q, N, bs, bm, sn, sub, ab, col, dd, m0, m1, m2, m3, m5, xL, hbm⟩, F.sa, F.eC, F.tC, F.kC⟩, F.ga, F.gg, F.cc, cn, ct, F.cm, F.hd, F.nv⟩
theorem xok_mk {P : Program} {w : World} {K : PySem.W.Frag} {h : Heap} {mg : Str → Option Value} {base : Heap} {x qual : Str} {C fI T : Addr} {p1 p2 p3 q1 q2 q3 q4 : Pos} (X : K.In h) (G : h.Ns mainGlobals mg) (F : XF K x C) (T0 : XC K C)
    {oc doc pm cdv ct kV : Value} {od an : Option Addr} {osl : Array (Option Value)} {o : Obj} {n : Nat}
    (iC : PySem.W.findIn K (.ref C) "__init__" = some (some (.ref fI))) (tI : PySem.W.typeIn K (.ref fI) = some (.type "function"))
    (l : K.lookup fI = some ⟨oc, od, .func (PySem.W.fnOf "__init__" qual (xA p1 p2 p3) (xB q1 q2 q3 q4) xS (.ref T) kV doc pm an cdv ct), osl⟩) (c : PySem.W.codeIn K cdv qual = true) (kp : PySem.W.keepIn K (.ref fI) = true)
    (lT : K.lookup T = some o) (oT : o.data = .seq #[.none] n) : XOk P w K mg base x C :=
  x_ok T0 (PySem.W.mg_of X G F.a0) iC tI ⟨⟨oc, od, .ref T, kV, doc, pm, an, cdv, ct, osl, rfl, l, c, .inr ⟨by simp, T, o, [.none], n, rfl, lT, oT, .cons rfl .nil⟩, .inl rfl⟩, kp⟩
theorem xnk_mk {K : PySem.W.Frag} {h : Heap} {mg : Str → Option Value} {x : Str} {C : Addr} (X : K.In h) (G : h.Ns mainGlobals mg) (F : XF K x C) (T0 : XC K C) (i : PySem.W.findIn K (.ref C) "__init__" = some (some (.builtin "ValueError.__init__"))) : XNk K mg x C := ⟨T0, PySem.W.mg_of X G F.a0, i⟩

theorem all_mk {l : PySem.W.OpenLaw} {w : World} {K : PySem.W.Frag} {h : Heap} {mg : Str → Option Value} {fa : Addr} (X : K.In h) (G : h.Ns mainGlobals mg) (hfa : mg "law" = some (.ref fa)) {c0 c1 c2 c3 c4 cW cG : Addr}
    (g_Weave : PySem.W.nsIn K mainGlobals "Weave" = some (some (.ref cW)))
    (l_Weave : Cls K cW)
    (g_Group : PySem.W.nsIn K mainGlobals "Group" = some (some (.ref cG)))
    (l_Group : Cls K cG)
    (f_Weave_size : PySem.W.findIn K (.ref cW) "size" = some none)
    (f_Weave_lanes : PySem.W.findIn K (.ref cW) "lanes" = some none)
    (f_Weave_merged : PySem.W.findIn K (.ref cW) "merged" = some none)
    (f_Group_letter_count : PySem.W.findIn K (.ref cG) "letter_count" = some none)
    (f_Group_lane_rows : PySem.W.findIn K (.ref cG) "lane_rows" = some none)
    (q_cl_Group : PySem.W.findIn K (.ref cG) "__class__" = some (some (.builtin "object.__class__")))
    (q_mro_Group : PySem.W.mroIn K cG (.type "object") = some true)
    (q_cl_get : PySem.W.specialIn K (.builtin "object.__class__") "__get__" = some (some (.builtin "getset_descriptor.__get__")))
    (q_cl_takes : PySem.W.takesIn K (.builtin "object.__class__") = some true)
    (q_ty_Group : PySem.W.typeIn K (.ref cG) = some (.type "type"))
    (S_is_whole : Src K mg "is_whole" s_is_whole)
    (S_is_spelled : Src K mg "is_spelled" s_is_spelled)
    (S_reduced : Src K mg "reduced" s_reduced)
    (S_check_many : Src K mg "check_many" s_check_many)
    (S_check_word : Src K mg "check_word" s_check_word)
    (S_is_word_list : Src K mg "is_word_list" s_is_word_list)
    (S_is_short_list : Src K mg "is_short_list" s_is_short_list)
    (S_check_short_list : Src K mg "check_short_list" s_check_short_list)
    (S_sign_numbers : Src K mg "sign_numbers" s_sign_numbers)
    (S_Weave_lay : SrcM K cW "lay" "Weave.lay" s_Weave_lay)
    (S_Weave_init : SrcI K cW "Weave.__init__" s_Weave_init)
    (S_Weave_new_spot : SrcM K cW "new_spot" "Weave.new_spot" s_Weave_new_spot)
    (S_Weave_living : SrcM K cW "living" "Weave.living" s_Weave_living)
    (S_Weave_link : SrcM K cW "link" "Weave.link" s_Weave_link)
    (S_Weave_read_on : SrcM K cW "read_on" "Weave.read_on" s_Weave_read_on)
    (S_Weave_read_back : SrcM K cW "read_back" "Weave.read_back" s_Weave_read_back)
    (S_Weave_merge : SrcM K cW "merge" "Weave.merge" s_Weave_merge)
    (S_Weave_unite : SrcM K cW "unite" "Weave.unite" s_Weave_unite)
    (S_Weave_put_path : SrcM K cW "put_path" "Weave.put_path" s_Weave_put_path)
    (S_Weave_put_loop : SrcM K cW "put_loop" "Weave.put_loop" s_Weave_put_loop)
    (S_numbered_rows : Src K mg "numbered_rows" s_numbered_rows)
    (S_folded_rows : Src K mg "folded_rows" s_folded_rows)
    (S_picture_rows : Src K mg "picture_rows" s_picture_rows)
    (S_Group_init : SrcI K cG "Group.__init__" s_Group_init)
    (S_spots_passed : Src K mg "spots_passed" s_spots_passed)
    (S_reads_back : Src K mg "reads_back" s_reads_back)
    (S_copied_rows : Src K mg "copied_rows" s_copied_rows)
    (S_check_group : Src K mg "check_group" s_check_group)
    (S_check_group_word : Src K mg "check_group_word" s_check_group_word)
    (S_belongs : Src K mg "belongs" s_belongs)
    (S_Group_picture : SrcM K cG "picture" "Group.picture" s_Group_picture)
    (S_law_hash : Src K mg "_law_hash" s_law_hash)
    (S_law_cell : Src K mg "_law_cell" s_law_cell)
    (S_law_generator : Src K mg "_law_generator" s_law_generator)
    (S_law_random : Src K mg "_law_random" s_law_random)
    (S_law_text : Src K mg "_law_text" s_law_text)
    (S_law_word : Src K mg "_law_word" s_law_word)
    (S_law_numbers : Src K mg "_law_numbers" s_law_numbers)
    (S_law_plain : Src K mg "_law_plain" s_law_plain)
    (S_law_opposite : Src K mg "_law_opposite" s_law_opposite)
    (S_law_words : Src K mg "_law_words" s_law_words)
    (S_law_way : Src K mg "_law_way" s_law_way)
    (S_law_together : Src K mg "_law_together" s_law_together)
    (S_law_leading : Src K mg "_law_leading" s_law_leading)
    (S_law_clashes : Src K mg "_law_clashes" s_law_clashes)
    (S_law_rounds : Src K mg "_law_rounds" s_law_rounds)
    (S_law_folded : Src K mg "_law_folded" s_law_folded)
    (S_law_rows : Src K mg "_law_rows" s_law_rows)
    (S_law_picture : Src K mg "_law_picture" s_law_picture)
    (S_law_product : Src K mg "_law_product" s_law_product)
    (S_finding_lanes : Src K mg "finding_lanes" s_finding_lanes)
    (S_first_words : Src K mg "first_words" s_first_words)
    (S_spot_and_rest : Src K mg "spot_and_rest" s_spot_and_rest)
    (S_class_of : Src K mg "class_of" s_class_of)
    (S_first_of_class : Src K mg "first_of_class" s_first_of_class)
    (S_law_key : Src K mg "_law_key" s_law_key)
    (S_law_class : Src K mg "_law_class" s_law_class)
    (S_law_short : Src K mg "_law_short" s_law_short)
    (S_law_word_right : Src K mg "_law_word_right" s_law_word_right)
    (S_law_two_right : Src K mg "_law_two_right" s_law_two_right)
    (S_law_right : Src K mg "_law_right" s_law_right)
    (S_law : Src K mg "law" s_law)
    (x0 : ∀ base, XOk l.prog w K mg base "InvalidNumber" c0)
    (x1 : ∀ base, XOk l.prog w K mg base "InvalidWord" c1)
    (x2 : ∀ base, XOk l.prog w K mg base "InvalidList" c2)
    (x3 : ∀ base, XOk l.prog w K mg base "InvalidGroup" c3)
    (x4 : ∀ base, XOk l.prog w K mg base "TooMany" c4)
    (z_int : PySem.W.nsIn K mainGlobals "int" = some none)
    (z_len : PySem.W.nsIn K mainGlobals "len" = some none)
    (z_sum : PySem.W.nsIn K mainGlobals "sum" = some none)
    (z_max : PySem.W.nsIn K mainGlobals "max" = some none)
    (z_range : PySem.W.nsIn K mainGlobals "range" = some none)
    (z_isinstance : PySem.W.nsIn K mainGlobals "isinstance" = some none)
    (z_list : PySem.W.nsIn K mainGlobals "list" = some none)
    (z_bool : PySem.W.nsIn K mainGlobals "bool" = some none)
    (z_str : PySem.W.nsIn K mainGlobals "str" = some none)
    (z_all : PySem.W.nsIn K mainGlobals "all" = some none)
    (z_dict : PySem.W.nsIn K mainGlobals "dict" = some none)
    (z_enumerate : PySem.W.nsIn K mainGlobals "enumerate" = some none)
    (z_abs : PySem.W.nsIn K mainGlobals "abs" = some none)
    (z_min : PySem.W.nsIn K mainGlobals "min" = some none)
    (z_tuple : PySem.W.nsIn K mainGlobals "tuple" = some none)
    (z_repr : PySem.W.nsIn K mainGlobals "repr" = some none)
    (z_any : PySem.W.nsIn K mainGlobals "any" = some none)
    (z_zip : PySem.W.nsIn K mainGlobals "zip" = some none)
    {t_SIGNS : Tok} (a_SIGNS : PySem.W.nsIn K mainGlobals "SIGNS" = some (some (.str (PySem.Str.ofString "aAbBcCdDeEfF") t_SIGNS)))
    {t_MOST_SIGNS : Tok} (a_MOST_SIGNS : PySem.W.nsIn K mainGlobals "MOST_SIGNS" = some (some (.int 1000 t_MOST_SIGNS)))
    {t_MOST_LETTERS : Tok} (a_MOST_LETTERS : PySem.W.nsIn K mainGlobals "MOST_LETTERS" = some (some (.int 6 t_MOST_LETTERS)))
    {t_MOST_WORDS : Tok} (a_MOST_WORDS : PySem.W.nsIn K mainGlobals "MOST_WORDS" = some (some (.int 12 t_MOST_WORDS)))
    {t_MOST_WORD_SIGNS : Tok} (a_MOST_WORD_SIGNS : PySem.W.nsIn K mainGlobals "MOST_WORD_SIGNS" = some (some (.int 200 t_MOST_WORD_SIGNS)))
    {t_MOST_SPOTS : Tok} (a_MOST_SPOTS : PySem.W.nsIn K mainGlobals "MOST_SPOTS" = some (some (.int 300 t_MOST_SPOTS)))
    : ∃ fd : FuncData, (∀ (s : Shared) (v : Value), BindsTo s fd ⟨[v], []⟩ [("_law_script", v)]) ∧ ∀ base : Heap, K.In base → base.Ns mainGlobals mg → FnG l.prog w K mg base CX0 15 fa fd ["_law_script"] (spLaw K) := by
  have T : ∀ base, Txt l.prog w K mg base (fun i => ([c0, c1, c2, c3, c4] : List Addr).getD i 0) c0 cW cG := fun base => {
    n_int := PySem.W.mg_none_of X G z_int
    n_len := PySem.W.mg_none_of X G z_len
    n_sum := PySem.W.mg_none_of X G z_sum
    n_max := PySem.W.mg_none_of X G z_max
    n_range := PySem.W.mg_none_of X G z_range
    n_isinstance := PySem.W.mg_none_of X G z_isinstance
    n_list := PySem.W.mg_none_of X G z_list
    n_bool := PySem.W.mg_none_of X G z_bool
    n_str := PySem.W.mg_none_of X G z_str
    n_all := PySem.W.mg_none_of X G z_all
    n_dict := PySem.W.mg_none_of X G z_dict
    n_enumerate := PySem.W.mg_none_of X G z_enumerate
    n_abs := PySem.W.mg_none_of X G z_abs
    n_min := PySem.W.mg_none_of X G z_min
    n_tuple := PySem.W.mg_none_of X G z_tuple
    n_repr := PySem.W.mg_none_of X G z_repr
    n_any := PySem.W.mg_none_of X G z_any
    n_zip := PySem.W.mg_none_of X G z_zip
    c_SIGNS := ⟨_, PySem.W.mg_of X G a_SIGNS, t_SIGNS, by rw [show SG = (PySem.Str.ofString "aAbBcCdDeEfF") from by decide +kernel]⟩
    c_MOST_SIGNS := ⟨_, PySem.W.mg_of X G a_MOST_SIGNS, t_MOST_SIGNS, by rfl⟩
    c_MOST_LETTERS := ⟨_, PySem.W.mg_of X G a_MOST_LETTERS, t_MOST_LETTERS, by rfl⟩
    c_MOST_WORDS := ⟨_, PySem.W.mg_of X G a_MOST_WORDS, t_MOST_WORDS, by rfl⟩
    c_MOST_WORD_SIGNS := ⟨_, PySem.W.mg_of X G a_MOST_WORD_SIGNS, t_MOST_WORD_SIGNS, by rfl⟩
    c_MOST_SPOTS := ⟨_, PySem.W.mg_of X G a_MOST_SPOTS, t_MOST_SPOTS, by rfl⟩
    o_Weave := ⟨l_Weave, PySem.W.mg_of X G g_Weave⟩
    o_Group := ⟨l_Group, PySem.W.mg_of X G g_Group⟩
    na_Weave := fun f hf => by
      simp only [List.mem_cons, List.not_mem_nil, or_false] at hf
      rcases hf with rfl | rfl | rfl
      · exact f_Weave_size
      · exact f_Weave_lanes
      · exact f_Weave_merged
    na_Group := fun f hf => by
      simp only [List.mem_cons, List.not_mem_nil, or_false] at hf
      rcases hf with rfl | rfl
      · exact f_Group_letter_count
      · exact f_Group_lane_rows
    cl_Group := q_cl_Group
    mro_Group := q_mro_Group
    cl_get := q_cl_get
    cl_takes := q_cl_takes
    ty_Group := q_ty_Group
    x := fun i hi => by
      match i, hi with
      | 0, _ => exact x0 base
      | 1, _ => exact x1 base
      | 2, _ => exact x2 base
      | 3, _ => exact x3 base
      | 4, _ => exact x4 base
      | n + 5, hn => exact absurd hn (by omega) }
  obtain ⟨f, fd, F, g⟩ := S_law
  have e := hfa.symm.trans g
  cases e
  refine ⟨fd, ?_, fun base _ _ => ?_⟩
  · obtain ⟨oc, od, kV, doc, pm, an, cdv, ct, osl, rfl, _⟩ := F.ex
    exact fun s v => .of_eq rfl
  · have T := T base
    have i0 := ok_is_whole (P := l.prog) (w := w) (base := base) S_is_whole T
    have i1 := ok_is_spelled (P := l.prog) (w := w) (base := base) S_is_spelled T
    have i2 := ok_reduced (P := l.prog) (w := w) (base := base) S_reduced T
    have i3 := ok_check_many (P := l.prog) (w := w) (base := base) S_check_many T i0
    have i4 := ok_check_word (P := l.prog) (w := w) (base := base) S_check_word T i1
    have i5 := ok_is_word_list (P := l.prog) (w := w) (base := base) S_is_word_list T i1
    have i6 := ok_is_short_list (P := l.prog) (w := w) (base := base) S_is_short_list T i5
    have i7 := ok_check_short_list (P := l.prog) (w := w) (base := base) S_check_short_list T i6
    have i8 := ok_sign_numbers (P := l.prog) (w := w) (base := base) S_sign_numbers T
    have i9 := ok_wlay (P := l.prog) (w := w) (base := base) S_Weave_lay T
    have i10 := ok_winit (P := l.prog) (w := w) (base := base) S_Weave_init T
    have i11 := ok_wnew (P := l.prog) (w := w) (base := base) S_Weave_new_spot T
    have i12 := ok_wliving (P := l.prog) (w := w) (base := base) S_Weave_living T
    have i13 := ok_wlink (P := l.prog) (w := w) (base := base) S_Weave_link T i9
    have i14 := ok_wread (P := l.prog) (w := w) (base := base) S_Weave_read_on T
    have i15 := ok_wback (P := l.prog) (w := w) (base := base) S_Weave_read_back T
    have i16 := ok_wmerge (P := l.prog) (w := w) (base := base) S_Weave_merge T i13
    have i17 := ok_wunite (P := l.prog) (w := w) (base := base) S_Weave_unite T i12 i16
    have i18 := ok_wpath (P := l.prog) (w := w) (base := base) S_Weave_put_path T i11 i9 i14 i15 i17
    have i19 := ok_wloop (P := l.prog) (w := w) (base := base) S_Weave_put_loop T i18
    have i20 := ok_numbered (P := l.prog) (w := w) (base := base) S_numbered_rows T
    have i21 := ok_folded (P := l.prog) (w := w) (base := base) S_folded_rows T i10 i19 i20
    have i22 := ok_picture_rows (P := l.prog) (w := w) (base := base) S_picture_rows T i21 i8 i2
    have i23 := ok_ginit (P := l.prog) (w := w) (base := base) S_Group_init T i3 i7 i22
    have i24 := ok_passed (P := l.prog) (w := w) (base := base) S_spots_passed T
    have i25 := ok_reads_back (P := l.prog) (w := w) (base := base) S_reads_back T i24 i8
    have i26 := ok_copied (P := l.prog) (w := w) (base := base) S_copied_rows T
    have i27 := ok_check_group (P := l.prog) (w := w) (base := base) S_check_group T
    have i28 := ok_check_gw (P := l.prog) (w := w) (base := base) S_check_group_word T i27 i4
    have i29 := ok_belongs (P := l.prog) (w := w) (base := base) S_belongs T i28 i25 i2
    have i30 := ok_gpicture (P := l.prog) (w := w) (base := base) S_Group_picture T i26
    have i31 := ok_hash (P := l.prog) (w := w) (base := base) S_law_hash T
    have i32 := ok_cell (P := l.prog) (w := w) (base := base) S_law_cell T
    have i33 := ok_gen (P := l.prog) (w := w) (base := base) S_law_generator T i32
    have i34 := ok_random (P := l.prog) (w := w) (base := base) S_law_random T i31
    have i35 := ok_text (P := l.prog) (w := w) (base := base) S_law_text T
    have i36 := ok_word (P := l.prog) (w := w) (base := base) S_law_word T i34 i35
    have i37 := ok_numbers (P := l.prog) (w := w) (base := base) S_law_numbers T
    have i38 := ok_plain (P := l.prog) (w := w) (base := base) S_law_plain T i37 i35
    have i39 := ok_other (P := l.prog) (w := w) (base := base) S_law_opposite T i37 i35
    have i40 := ok_words (P := l.prog) (w := w) (base := base) S_law_words T i34 i36 i38 i39
    have i41 := ok_lway (P := l.prog) (w := w) (base := base) S_law_way T i38 i37
    have i42 := ok_together (P := l.prog) (w := w) (base := base) S_law_together T
    have i43 := ok_leading (P := l.prog) (w := w) (base := base) S_law_leading T
    have i44 := ok_clashes (P := l.prog) (w := w) (base := base) S_law_clashes T i43
    have i45 := ok_rounds (P := l.prog) (w := w) (base := base) S_law_rounds T i38 i37
    have i46 := ok_lfolded (P := l.prog) (w := w) (base := base) S_law_folded T i45 i44 i42
    have i47 := ok_lrows (P := l.prog) (w := w) (base := base) S_law_rows T i43
    have i48 := ok_lpict (P := l.prog) (w := w) (base := base) S_law_picture T i47 i46
    have i49 := ok_lprod (P := l.prog) (w := w) (base := base) S_law_product T i34 i38 i39
    have i50 := ok_find (P := l.prog) (w := w) (base := base) S_finding_lanes T
    have i51 := ok_fwords (P := l.prog) (w := w) (base := base) S_first_words T i50
    have i52 := ok_srest (P := l.prog) (w := w) (base := base) S_spot_and_rest T i24 i8
    have i53 := ok_classOf (P := l.prog) (w := w) (base := base) S_class_of T i28 i52 i2
    have i54 := ok_first (P := l.prog) (w := w) (base := base) S_first_of_class T i28 i52 i2 i51
    have i55 := ok_key (P := l.prog) (w := w) (base := base) S_law_key T i37
    have i56 := ok_lclass (P := l.prog) (w := w) (base := base) S_law_class T i41 i38
    have i57 := ok_short (P := l.prog) (w := w) (base := base) S_law_short T i35 i38
    have i58 := ok_wr (P := l.prog) (w := w) (base := base) S_law_word_right T i53 i54 i29 i56 i38 i37 i39 i55
    have i59 := ok_tr (P := l.prog) (w := w) (base := base) S_law_two_right T i53 i54 i29 i38 i39
    have i60 := ok_right (P := l.prog) (w := w) (base := base) S_law_right T i34 i40 i36 i49 i23 i48 i57 i58 i59
    exact ok_law F T i33 i60 i53 i54 i23
end K29
open PySem PySem.W PyProof.Rows
set_option maxHeartbeats 0 in
theorem PySem.Challenge.cw_signlanes_k29_classes_of_words_holds : PySem.Challenge.rw_signlanes_k29_classes_of_words.Holds := by
  w_on; o_law; k_head; (case hw => w_witness2)
  k_fill
  refine G1.walk_ofG (l := PySem.Challenge.rw_signlanes_k29_classes_of_words) (n := 63) (k := 15) (x := "_law_script") (sp := fun w => K29.spLaw _) rfl (by decide) rfl ⟨rfl, by decide, by decide⟩ (fun w h Y => PySem.W.kIn_of Y) ?F (fun _ _ a ns hl hS => ⟨a, ns, rfl, hS, hl, fun _ => rfl⟩)
  case F =>
    intro w mg fa h KX G hmg
    refine' K29.all_mk KX G hmg ?g_Weave ?l_Weave ?g_Group ?l_Group ?f_Weave_size ?f_Weave_lanes ?f_Weave_merged ?f_Group_letter_count ?f_Group_lane_rows ?q_cl_Group ?q_mro_Group ?q_cl_get ?q_cl_takes ?q_ty_Group ?S_is_whole ?S_is_spelled ?S_reduced ?S_check_many ?S_check_word ?S_is_word_list ?S_is_short_list ?S_check_short_list ?S_sign_numbers ?S_Weave_lay ?S_Weave_init ?S_Weave_new_spot ?S_Weave_living ?S_Weave_link ?S_Weave_read_on ?S_Weave_read_back ?S_Weave_merge ?S_Weave_unite ?S_Weave_put_path ?S_Weave_put_loop ?S_numbered_rows ?S_folded_rows ?S_picture_rows ?S_Group_init ?S_spots_passed ?S_reads_back ?S_copied_rows ?S_check_group ?S_check_group_word ?S_belongs ?S_Group_picture ?S_law_hash ?S_law_cell ?S_law_generator ?S_law_random ?S_law_text ?S_law_word ?S_law_numbers ?S_law_plain ?S_law_opposite ?S_law_words ?S_law_way ?S_law_together ?S_law_leading ?S_law_clashes ?S_law_rounds ?S_law_folded ?S_law_rows ?S_law_picture ?S_law_product ?S_finding_lanes ?S_first_words ?S_spot_and_rest ?S_class_of ?S_first_of_class ?S_law_key ?S_law_class ?S_law_short ?S_law_word_right ?S_law_two_right ?S_law_right ?S_law ?x0 ?x1 ?x2 ?x3 ?x4 ?z_int ?z_len ?z_sum ?z_max ?z_range ?z_isinstance ?z_list ?z_bool ?z_str ?z_all ?z_dict ?z_enumerate ?z_abs ?z_min ?z_tuple ?z_repr ?z_any ?z_zip ?a_SIGNS ?a_MOST_SIGNS ?a_MOST_LETTERS ?a_MOST_WORDS ?a_MOST_WORD_SIGNS ?a_MOST_SPOTS
    (case g_Weave => k_is)
    (case g_Group => k_is)
    (case l_Weave => (constructor <;> k_is))
    (case l_Group => (constructor <;> k_is))
    (case f_Weave_size => k_is)
    (case f_Weave_lanes => k_is)
    (case f_Weave_merged => k_is)
    (case f_Group_letter_count => k_is)
    (case f_Group_lane_rows => k_is)
    (case q_cl_Group => k_is)
    (case q_mro_Group => k_is)
    (case q_cl_get => k_is)
    (case q_cl_takes => k_is)
    (case q_ty_Group => k_is)
    (case S_is_whole => (refine' G1.src_mk KX G ?a ?l ?c ?k; (case a => k_is); (case l => k_is); (case c => k_is); (case k => k_is)))
    (case S_is_spelled => (refine' G1.src_mk KX G ?a ?l ?c ?k; (case a => k_is); (case l => k_is); (case c => k_is); (case k => k_is)))
    (case S_reduced => (refine' G1.src_mk KX G ?a ?l ?c ?k; (case a => k_is); (case l => k_is); (case c => k_is); (case k => k_is)))
    (case S_check_many => (refine' G1.src_mk KX G ?a ?l ?c ?k; (case a => k_is); (case l => k_is); (case c => k_is); (case k => k_is)))
    (case S_check_word => (refine' G1.src_mk KX G ?a ?l ?c ?k; (case a => k_is); (case l => k_is); (case c => k_is); (case k => k_is)))
    (case S_is_word_list => (refine' G1.src_mk KX G ?a ?l ?c ?k; (case a => k_is); (case l => k_is); (case c => k_is); (case k => k_is)))
    (case S_is_short_list => (refine' G1.src_mk KX G ?a ?l ?c ?k; (case a => k_is); (case l => k_is); (case c => k_is); (case k => k_is)))
    (case S_check_short_list => (refine' G1.src_mk KX G ?a ?l ?c ?k; (case a => k_is); (case l => k_is); (case c => k_is); (case k => k_is)))
    (case S_sign_numbers => (refine' G1.src_mk KX G ?a ?l ?c ?k; (case a => k_is); (case l => k_is); (case c => k_is); (case k => k_is)))
    (case S_Weave_lay => (refine' G1.srcM_mk ?a ?i ?l ?c ?k; (case a => k_is); (case i => k_is); (case l => k_is); (case c => k_is); (case k => k_is)))
    (case S_Weave_init => (refine' G1.srcI_mk ?a ?i ?l ?c ?k ?mk ?kc; (case a => k_is); (case i => k_is); (case l => k_is); (case c => k_is); (case k => k_is); (case mk => k_is); (case kc => k_is)))
    (case S_Weave_new_spot => (refine' G1.srcM_mk ?a ?i ?l ?c ?k; (case a => k_is); (case i => k_is); (case l => k_is); (case c => k_is); (case k => k_is)))
    (case S_Weave_living => (refine' G1.srcM_mk ?a ?i ?l ?c ?k; (case a => k_is); (case i => k_is); (case l => k_is); (case c => k_is); (case k => k_is)))
    (case S_Weave_link => (refine' G1.srcM_mk ?a ?i ?l ?c ?k; (case a => k_is); (case i => k_is); (case l => k_is); (case c => k_is); (case k => k_is)))
    (case S_Weave_read_on => (refine' G1.srcM_mk ?a ?i ?l ?c ?k; (case a => k_is); (case i => k_is); (case l => k_is); (case c => k_is); (case k => k_is)))
    (case S_Weave_read_back => (refine' G1.srcM_mk ?a ?i ?l ?c ?k; (case a => k_is); (case i => k_is); (case l => k_is); (case c => k_is); (case k => k_is)))
    (case S_Weave_merge => (refine' G1.srcM_mk ?a ?i ?l ?c ?k; (case a => k_is); (case i => k_is); (case l => k_is); (case c => k_is); (case k => k_is)))
    (case S_Weave_unite => (refine' G1.srcM_mk ?a ?i ?l ?c ?k; (case a => k_is); (case i => k_is); (case l => k_is); (case c => k_is); (case k => k_is)))
    (case S_Weave_put_path => (refine' G1.srcM_mk ?a ?i ?l ?c ?k; (case a => k_is); (case i => k_is); (case l => k_is); (case c => k_is); (case k => k_is)))
    (case S_Weave_put_loop => (refine' G1.srcM_mk ?a ?i ?l ?c ?k; (case a => k_is); (case i => k_is); (case l => k_is); (case c => k_is); (case k => k_is)))
    (case S_numbered_rows => (refine' G1.src_mk KX G ?a ?l ?c ?k; (case a => k_is); (case l => k_is); (case c => k_is); (case k => k_is)))
    (case S_folded_rows => (refine' G1.src_mk KX G ?a ?l ?c ?k; (case a => k_is); (case l => k_is); (case c => k_is); (case k => k_is)))
    (case S_picture_rows => (refine' G1.src_mk KX G ?a ?l ?c ?k; (case a => k_is); (case l => k_is); (case c => k_is); (case k => k_is)))
    (case S_Group_init => (refine' G1.srcI_mk ?a ?i ?l ?c ?k ?mk ?kc; (case a => k_is); (case i => k_is); (case l => k_is); (case c => k_is); (case k => k_is); (case mk => k_is); (case kc => k_is)))
    (case S_spots_passed => (refine' G1.src_mk KX G ?a ?l ?c ?k; (case a => k_is); (case l => k_is); (case c => k_is); (case k => k_is)))
    (case S_reads_back => (refine' G1.src_mk KX G ?a ?l ?c ?k; (case a => k_is); (case l => k_is); (case c => k_is); (case k => k_is)))
    (case S_copied_rows => (refine' G1.src_mk KX G ?a ?l ?c ?k; (case a => k_is); (case l => k_is); (case c => k_is); (case k => k_is)))
    (case S_check_group => (refine' G1.src_mk KX G ?a ?l ?c ?k; (case a => k_is); (case l => k_is); (case c => k_is); (case k => k_is)))
    (case S_check_group_word => (refine' G1.src_mk KX G ?a ?l ?c ?k; (case a => k_is); (case l => k_is); (case c => k_is); (case k => k_is)))
    (case S_belongs => (refine' G1.src_mk KX G ?a ?l ?c ?k; (case a => k_is); (case l => k_is); (case c => k_is); (case k => k_is)))
    (case S_Group_picture => (refine' G1.srcM_mk ?a ?i ?l ?c ?k; (case a => k_is); (case i => k_is); (case l => k_is); (case c => k_is); (case k => k_is)))
    (case S_law_hash => (refine' G1.src_mk KX G ?a ?l ?c ?k; (case a => k_is); (case l => k_is); (case c => k_is); (case k => k_is)))
    (case S_law_cell => (refine' G1.src_mk KX G ?a ?l ?c ?k; (case a => k_is); (case l => k_is); (case c => k_is); (case k => k_is)))
    (case S_law_generator => (refine' G1.src_mk KX G ?a ?l ?c ?k; (case a => k_is); (case l => k_is); (case c => k_is); (case k => k_is)))
    (case S_law_random => (refine' G1.src_mk KX G ?a ?l ?c ?k; (case a => k_is); (case l => k_is); (case c => k_is); (case k => k_is)))
    (case S_law_text => (refine' G1.src_mk KX G ?a ?l ?c ?k; (case a => k_is); (case l => k_is); (case c => k_is); (case k => k_is)))
    (case S_law_word => (refine' G1.src_mk KX G ?a ?l ?c ?k; (case a => k_is); (case l => k_is); (case c => k_is); (case k => k_is)))
    (case S_law_numbers => (refine' G1.src_mk KX G ?a ?l ?c ?k; (case a => k_is); (case l => k_is); (case c => k_is); (case k => k_is)))
    (case S_law_plain => (refine' G1.src_mk KX G ?a ?l ?c ?k; (case a => k_is); (case l => k_is); (case c => k_is); (case k => k_is)))
    (case S_law_opposite => (refine' G1.src_mk KX G ?a ?l ?c ?k; (case a => k_is); (case l => k_is); (case c => k_is); (case k => k_is)))
    (case S_law_words => (refine' G1.src_mk KX G ?a ?l ?c ?k; (case a => k_is); (case l => k_is); (case c => k_is); (case k => k_is)))
    (case S_law_way => (refine' G1.src_mk KX G ?a ?l ?c ?k; (case a => k_is); (case l => k_is); (case c => k_is); (case k => k_is)))
    (case S_law_together => (refine' G1.src_mk KX G ?a ?l ?c ?k; (case a => k_is); (case l => k_is); (case c => k_is); (case k => k_is)))
    (case S_law_leading => (refine' G1.src_mk KX G ?a ?l ?c ?k; (case a => k_is); (case l => k_is); (case c => k_is); (case k => k_is)))
    (case S_law_clashes => (refine' G1.src_mk KX G ?a ?l ?c ?k; (case a => k_is); (case l => k_is); (case c => k_is); (case k => k_is)))
    (case S_law_rounds => (refine' G1.src_mk KX G ?a ?l ?c ?k; (case a => k_is); (case l => k_is); (case c => k_is); (case k => k_is)))
    (case S_law_folded => (refine' G1.src_mk KX G ?a ?l ?c ?k; (case a => k_is); (case l => k_is); (case c => k_is); (case k => k_is)))
    (case S_law_rows => (refine' G1.src_mk KX G ?a ?l ?c ?k; (case a => k_is); (case l => k_is); (case c => k_is); (case k => k_is)))
    (case S_law_picture => (refine' G1.src_mk KX G ?a ?l ?c ?k; (case a => k_is); (case l => k_is); (case c => k_is); (case k => k_is)))
    (case S_law_product => (refine' G1.src_mk KX G ?a ?l ?c ?k; (case a => k_is); (case l => k_is); (case c => k_is); (case k => k_is)))
    (case S_finding_lanes => (refine' G1.src_mk KX G ?a ?l ?c ?k; (case a => k_is); (case l => k_is); (case c => k_is); (case k => k_is)))
    (case S_first_words => (refine' G1.src_mk KX G ?a ?l ?c ?k; (case a => k_is); (case l => k_is); (case c => k_is); (case k => k_is)))
    (case S_spot_and_rest => (refine' G1.src_mk KX G ?a ?l ?c ?k; (case a => k_is); (case l => k_is); (case c => k_is); (case k => k_is)))
    (case S_class_of => (refine' G1.src_mk KX G ?a ?l ?c ?k; (case a => k_is); (case l => k_is); (case c => k_is); (case k => k_is)))
    (case S_first_of_class => (refine' G1.src_mk KX G ?a ?l ?c ?k; (case a => k_is); (case l => k_is); (case c => k_is); (case k => k_is)))
    (case S_law_key => (refine' G1.src_mk KX G ?a ?l ?c ?k; (case a => k_is); (case l => k_is); (case c => k_is); (case k => k_is)))
    (case S_law_class => (refine' G1.src_mk KX G ?a ?l ?c ?k; (case a => k_is); (case l => k_is); (case c => k_is); (case k => k_is)))
    (case S_law_short => (refine' G1.src_mk KX G ?a ?l ?c ?k; (case a => k_is); (case l => k_is); (case c => k_is); (case k => k_is)))
    (case S_law_word_right => (refine' G1.src_mk KX G ?a ?l ?c ?k; (case a => k_is); (case l => k_is); (case c => k_is); (case k => k_is)))
    (case S_law_two_right => (refine' G1.src_mk KX G ?a ?l ?c ?k; (case a => k_is); (case l => k_is); (case c => k_is); (case k => k_is)))
    (case S_law_right => (refine' G1.src_mk KX G ?a ?l ?c ?k; (case a => k_is); (case l => k_is); (case c => k_is); (case k => k_is)))
    (case S_law => (refine' G1.src_mk KX G ?a ?l ?c ?k; (case a => k_is); (case l => k_is); (case c => k_is); (case k => k_is)))
    (case x0 => (intro base; refine' K29.xok_mk (qual := "InvalidNumber.__init__") (p1 := ⟨9, 17, 9, 21⟩) (p2 := ⟨9, 23, 9, 28⟩) (p3 := ⟨9, 29, 9, 33⟩) (q1 := ⟨10, 8, 10, 12⟩) (q2 := ⟨10, 8, 10, 18⟩) (q3 := ⟨10, 21, 10, 26⟩) (q4 := ⟨10, 8, 10, 26⟩) KX G ?F (K29.XF.xc ?F ?cn ?ct ?xL ?bm) ?iC ?tI ?l ?c ?kp ?lT ?oT; (case F => (constructor <;> k_is)); (case cn => k_is); (case ct => k_is); (case xL => k_is); (case bm => decide +kernel); (case iC => k_is); (case tI => k_is); (case l => k_is); (case c => k_is); (case kp => k_is); (case lT => k_is); (case oT => rfl)))
    (case x1 => (intro base; refine' K29.xok_mk (qual := "InvalidWord.__init__") (p1 := ⟨13, 17, 13, 21⟩) (p2 := ⟨13, 23, 13, 28⟩) (p3 := ⟨13, 29, 13, 33⟩) (q1 := ⟨14, 8, 14, 12⟩) (q2 := ⟨14, 8, 14, 18⟩) (q3 := ⟨14, 21, 14, 26⟩) (q4 := ⟨14, 8, 14, 26⟩) KX G ?F (K29.XF.xc ?F ?cn ?ct ?xL ?bm) ?iC ?tI ?l ?c ?kp ?lT ?oT; (case F => (constructor <;> k_is)); (case cn => k_is); (case ct => k_is); (case xL => k_is); (case bm => decide +kernel); (case iC => k_is); (case tI => k_is); (case l => k_is); (case c => k_is); (case kp => k_is); (case lT => k_is); (case oT => rfl)))
    (case x2 => (intro base; refine' K29.xok_mk (qual := "InvalidList.__init__") (p1 := ⟨17, 17, 17, 21⟩) (p2 := ⟨17, 23, 17, 28⟩) (p3 := ⟨17, 29, 17, 33⟩) (q1 := ⟨18, 8, 18, 12⟩) (q2 := ⟨18, 8, 18, 18⟩) (q3 := ⟨18, 21, 18, 26⟩) (q4 := ⟨18, 8, 18, 26⟩) KX G ?F (K29.XF.xc ?F ?cn ?ct ?xL ?bm) ?iC ?tI ?l ?c ?kp ?lT ?oT; (case F => (constructor <;> k_is)); (case cn => k_is); (case ct => k_is); (case xL => k_is); (case bm => decide +kernel); (case iC => k_is); (case tI => k_is); (case l => k_is); (case c => k_is); (case kp => k_is); (case lT => k_is); (case oT => rfl)))
    (case x3 => (intro base; refine' K29.xok_mk (qual := "InvalidGroup.__init__") (p1 := ⟨21, 17, 21, 21⟩) (p2 := ⟨21, 23, 21, 28⟩) (p3 := ⟨21, 29, 21, 33⟩) (q1 := ⟨22, 8, 22, 12⟩) (q2 := ⟨22, 8, 22, 18⟩) (q3 := ⟨22, 21, 22, 26⟩) (q4 := ⟨22, 8, 22, 26⟩) KX G ?F (K29.XF.xc ?F ?cn ?ct ?xL ?bm) ?iC ?tI ?l ?c ?kp ?lT ?oT; (case F => (constructor <;> k_is)); (case cn => k_is); (case ct => k_is); (case xL => k_is); (case bm => decide +kernel); (case iC => k_is); (case tI => k_is); (case l => k_is); (case c => k_is); (case kp => k_is); (case lT => k_is); (case oT => rfl)))
    (case x4 => (intro base; refine' K29.xok_mk (qual := "TooMany.__init__") (p1 := ⟨25, 17, 25, 21⟩) (p2 := ⟨25, 23, 25, 28⟩) (p3 := ⟨25, 29, 25, 33⟩) (q1 := ⟨26, 8, 26, 12⟩) (q2 := ⟨26, 8, 26, 18⟩) (q3 := ⟨26, 21, 26, 26⟩) (q4 := ⟨26, 8, 26, 26⟩) KX G ?F (K29.XF.xc ?F ?cn ?ct ?xL ?bm) ?iC ?tI ?l ?c ?kp ?lT ?oT; (case F => (constructor <;> k_is)); (case cn => k_is); (case ct => k_is); (case xL => k_is); (case bm => decide +kernel); (case iC => k_is); (case tI => k_is); (case l => k_is); (case c => k_is); (case kp => k_is); (case lT => k_is); (case oT => rfl)))
    (case z_int => k_is)
    (case z_len => k_is)
    (case z_sum => k_is)
    (case z_max => k_is)
    (case z_range => k_is)
    (case z_isinstance => k_is)
    (case z_list => k_is)
    (case z_bool => k_is)
    (case z_str => k_is)
    (case z_all => k_is)
    (case z_dict => k_is)
    (case z_enumerate => k_is)
    (case z_abs => k_is)
    (case z_min => k_is)
    (case z_tuple => k_is)
    (case z_repr => k_is)
    (case z_any => k_is)
    (case z_zip => k_is)
    (case a_SIGNS => k_is)
    (case a_MOST_SIGNS => k_is)
    (case a_MOST_LETTERS => k_is)
    (case a_MOST_WORDS => k_is)
    (case a_MOST_WORD_SIGNS => k_is)
    (case a_MOST_SPOTS => k_is)
