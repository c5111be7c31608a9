import PyProof.Rows.All
import Wide.All
import OpenK.AllK
import Wide.FinOn
import HandS.ForMost
import HandS.ExcInit
import HandS.Wide
import HandS.WideBits
import HandS.Defaults
import HandS.MakeKw
import HandS.IsInst
import KE.KExcMake
import KE.KExcIs
import HandS.Exc
import HandS.ExcOwn
import HandS.Flow
import HandS.Style
import HandS.StrMore
import HandS.Replace
import HandS.ReplaceList
import HandS.WordsExc
import KE.GoesNew
import HandS.Iter
import KE.LtData
import KE.DataMinKey
import HandS.SortKw
import HandS.DictTup
import HandS.Conv
import PySem.Challenge.RW_signlanes_k16_papers_and_what_they_say
set_option Elab.async false
set_option linter.all false
set_option maxRecDepth 100000
set_option maxHeartbeats 4000000

namespace G1
open PySem PySem.W PySem.Calls PyProof.Rows PySem.HandSPX
section
variable {M : Model} {A : Around} {E : Value → Shared → Prop} {h : Heap} {g : Array GenState} {d : Drawn} {t : Nat} {os : OsState}
variable {nm q : Str} {C N : Addr} {bs bm bmB : List Value} {hdct : Bool} {sn : List Str} {sub : List Value} {ab : Bool} {col : Option Bool} {dd : Option Addr} {k0 k1 k2 k3 k5 : Option Value} {B newId initId : String}
/-- the check ahead of the new object, keywords too -/
theorem check_newK (F : ExcBaseFacts B newId initId bmB) (hT : ∀ X : String, bm.contains (.type X) = bmB.contains (.type X)) {rest : List Value} {kw : List (Str × Value)} {Q : Unit → Shared → Prop}
    (hC : h.get? C = some (excClassObj nm q C N bs bm hdct sn sub ab col dd k0 k1 k2 k3 k5 newId)) (hq : Q () ⟨h, g, d, t, os⟩) : wpAny M A (checkBuiltinCall newId ⟨.ref C :: rest, kw⟩) Q E ⟨h, g, d, t, os⟩ := by
  have hcont : (Value.ref C :: bm).contains (.type B) = true := by rw [List.contains_cons, hT, F.hasB, Bool.or_true]
  have hstar := F.noStar
  simp only [checkBuiltinCall, F.newKind, F.newSplit, F.newRow]
  repeat (first | refine wpAny_loadPart_at hC ?_ | (refine wpAny_isSubtype_exc hC ?_; rw [hcont]) | refine wpAny_staticBase_exc hC ?_ | refine wpAny_madeBy_exc hC ?_ | simp only [bne_self_eq_false, Bool.false_eq_true, if_false] | wp_step)
  exact hq
end
section
variable {prog : Program} {w : World} {A : Around} {E : Value → Shared → Prop} {R : Result → Shared → Prop} {h : Heap} {g : Array GenState} {d : Drawn} {t : Nat} {os : OsState}
variable {nm q : Str} {C N : Addr} {bs bm bmB : List Value} {hdct : Bool} {sn : List Str} {sub : List Value} {ab : Bool} {col : Option Bool} {dd : Option Addr} {k0 k1 k2 k3 k5 : Option Value} {B newId initId : String}
theorem newK (F : ExcBaseFacts B newId initId bmB) (hT : ∀ X : String, bm.contains (.type X) = bmB.contains (.type X)) {rest : List Value} {kw : List (Str × Value)}
    (hC : h.get? C = some (excClassObj nm q C N bs bm hdct sn sub ab col dd k0 k1 k2 k3 k5 newId))
    (hq : R (.ok (.ret (.ref (h.objs.size + 1)))) ⟨(h.push { cls := .type "tuple", data := .seq rest.toArray }).push
      { cls := .ref C, data := .fields #[.ref h.objs.size, .none, .none, .none, .bool false, .none] }, g, d, t, os⟩) (hrest : rest.length ≤ sizeLine) :
    codeAny (model prog w) A (.builtin newId ⟨.ref C :: rest, kw⟩) R ⟨h, g, d, t, os⟩ := by
  have hends := F.ends
  have hcB : (Value.ref C :: bm).contains (.type B) = true := by rw [List.contains_cons, hT, F.hasB, Bool.or_true]
  have hcA : (Value.ref C :: bm).contains (.type "AttributeError") = false := by rw [List.contains_cons, hT, F.noAttr]; rfl
  have hcN : (Value.ref C :: bm).contains (.type "NameError") = false := by rw [List.contains_cons, hT, F.noName]; rfl
  refine codeAny_builtinAt F.entry ?_
  unfold Builtin.«BaseException.__new__»
  refine PySem.wpAt_bind ?_
  show PySem.wpAt _ _ _ (stack >>= _) _ _ _
  refine PySem.wpAt_bind (PySem.wpAt_stack fun p below => PySem.wpAt_of_wpAny ?_)
  wp_walk
  refine PySem.wpAt_of_wpAny ?_
  rw [F.owner]
  repeat (first | with_reducible refine wpAny_madeHere_exc F.canon hC ?_ | with_reducible refine wpAny_loadPart_at hC ?_ | (with_reducible refine wpAny_isSubtype_exc hC ?_; first | rw [hcB] | rw [hcA] | rw [hcN]) | wp_step)
  show R _ _
  rw [Heap.size_push]
  exact hq
theorem type_callK (F : ExcBaseFacts B newId initId bmB) (hT : ∀ X : String, bm.contains (.type X) = bmB.contains (.type X)) {rest : List Value} {kw : List (Str × Value)} {fI : Addr} {Q : Fin → Shared → Prop}
    (hC : h.get? C = some (excClassObj nm q C N bs bm hdct sn sub ab col dd k0 k1 k2 k3 k5 newId))
    (hi : W.Looks (model prog w) h (typeLookup (.ref C) "__init__") (some (.ref fI))) (hb : ∀ self, W.Looks (model prog w) h (bindSpecial (.ref fI) self) (.ref fI, [self])) (hrest : rest.length ≤ sizeLine)
    (hq : codeAny (model prog w) A (.call (.ref fI) ⟨.ref (h.objs.size + 1) :: rest, kw⟩)
      (fun r s' => match r with | .ok (.ret v) => v = .none ∧ Q (.done (.ret (.ref (h.objs.size + 1)))) s' | .ok _ => False | .error e => E e s')
      ⟨(h.push (W.kdv_tup rest)).push (excO C h.objs.size), g, d, t, os⟩) :
    wpAny (model prog w) A (Builtin.«type.__call__» ⟨.ref C :: rest, kw⟩) Q E ⟨h, g, d, t, os⟩ := by
  repeat (first | with_reducible refine wpAny_loadPart_at hC ?_ | with_reducible refine wpAny_madeBy_exc hC ?_ | wp_step)
  refine codeAny_call_builtin_code (Code.quiet_builtin _ F.quiet) (check_newK F hT hC ?_)
  refine newK F hT hC ?_ hrest
  show wpAny _ _ _ _ _ _
  have k : ∀ b o, h.get? b = some o → ((h.push (W.kdv_tup rest)).push (excO C h.objs.size)).get? b = some o := fun b o e => Heap.get?_push_of_some _ (Heap.get?_push_of_some _ e)
  have hC₁ := k _ _ hC
  have hget : ((h.push (W.kdv_tup rest)).push (excO C h.objs.size)).get? (h.objs.size + 1) = some (excO C h.objs.size) := by heap_get
  have hcC : (Value.ref C :: bm).contains (.ref C) = true := by simp
  have i1 := hi.keeps k
  have b1 := (hb (.ref (h.objs.size + 1))).keeps k
  unfold isInstance
  repeat (first | with_reducible refine wpAny_loadPart_at hget ?_ | (with_reducible refine wpAny_isSubtype_exc hC₁ ?_; rw [hcC]) | wp_step)
  show wpAny _ _ (typeLookup (.ref C) _) _ _ _
  refine i1.at ?_
  refine wpAny_holding (wpAny_bind (b1.at ?_))
  refine wpAny_bind (wpAny_call (codeAny_mono hq fun r s' z => ?_))
  rcases r with e | (v | _ | _ | _) <;> first | exact z | exact z.elim | skip
  obtain ⟨rfl, z⟩ := z
  first
    | exact wpAny_pure (wpAny_pure z)
    | (wp_walk; exact z)
theorem callK (F : ExcBaseFacts B newId initId bmB) (hT : ∀ X : String, bm.contains (.type X) = bmB.contains (.type X)) {rest : List Value} {kw : List (Str × Value)} {fI : Addr}
    (hC : h.get? C = some (excClassObj nm q C N bs bm hdct sn sub ab col dd k0 k1 k2 k3 k5 newId))
    (hi : W.Looks (model prog w) h (typeLookup (.ref C) "__init__") (some (.ref fI))) (hb : ∀ self, W.Looks (model prog w) h (bindSpecial (.ref fI) self) (.ref fI, [self])) (hrest : rest.length ≤ sizeLine)
    (hq : codeAny (model prog w) (A.under (.builtin "type.__call__" ⟨.ref C :: rest, kw⟩)) (.call (.ref fI) ⟨.ref (h.objs.size + 1) :: rest, kw⟩) (W.InitBack (h.objs.size + 1) R)
      ⟨(h.push (W.kdv_tup rest)).push (excO C h.objs.size), g, d, t, os⟩) :
    codeAny (model prog w) A (.call (.ref C) ⟨rest, kw⟩) R ⟨h, g, d, t, os⟩ := by
  have f1 := tc_lookup
  have f2 := tc_bind (.ref C)
  have hTy : (⟨h, g, d, t, os⟩ : Shared).TypeIs (.ref C) "type" := ⟨_, hC, rfl⟩
  refine codeAny_of_tree ?_
  show wpAny _ _ (callAny (.ref C) _) _ _ _
  repeat (any_goals (first | assumption | with_reducible refine wpAny_loadPart_at hC ?_ | wp_step))
  refine ⟨rfl, ?_⟩
  refine codeAny_call_builtin_at (Code.quiet_builtin _ (by decide +kernel)) entry_typeCall (wpAny_check_type_call_sub hC (type_callK F hT hC hi hb hrest ?_))
  refine codeAny_mono hq fun r s' z => ?_
  rcases r with e | (v | _ | _ | _) <;> exact z
end
end G1

namespace G1
open PySem PySem.Spec PyProof.Rows L2
section
variable {X : Cx}
/-- ** within 2 ^ 27 bits -/
def CPowW (i j : Int) : Prop := 0 ≤ j ∧ (Builtin.Int.intBits i : Int) * j ≤ 2 ^ 27
theorem op_powW : OpR X (binaryOp .Pow) (rI CPowW fun i j => .int (i ^ j.toNat)) := opI fun _ _ _ _ _ _ _ hc q => pow_int hc.1 hc.2 q
end
/-- an exception class as the top has left it -/
structure XC (K : PySem.W.Frag) (C : Addr) : Prop where
  ox : OexC K C
  ga : PySem.W.findIn K (.ref C) "__getattribute__" = some (some (.builtin "BaseException.__getattribute__"))
  gg : PySem.W.findIn K (.ref C) "__getattr__" = some none
  cc : PySem.W.findIn K (.ref C) "__class__" = some (some (.builtin "object.__class__"))
  cn : PySem.W.specialIn K (.builtin "object.__class__") "__get__" = some (some (.builtin "getset_descriptor.__get__"))
  ct : PySem.W.takesIn K (.builtin "object.__class__") = some true
  cm : PySem.W.mroIn K C (.type "object") = some true
  hd : PySem.W.hasDictIn K C = true
  nv : PySem.W.findIn K (.ref C) "value" = some none
theorem XC.isC {K : PySem.W.Frag} {C : Addr} (T : XC K C) : (PySem.W.clsIn K C).isSome = true := by
  have h := T.hd
  unfold PySem.W.hasDictIn at h
  cases e : PySem.W.clsIn K C with
  | none => rw [e] at h; cases h
  | some _ => rfl
/-- an exception with its one field -/
def XAt (H : Hp) (a C : Addr) (v : V) : Prop := ∃ d, H a = some (exo a C (some d)) ∧ H d = some (exd d [(("value" : Str), v)])
/-- an exception, whatever it holds -/
def XAny (H : Hp) (a C : Addr) : Prop := ∃ od, H a = some (exo a C od) ∧ ∀ d, od = some d → ∃ fs, H d = some (exd d fs)
theorem XAt.any {H : Hp} {a C : Addr} {v : V} (h : XAt H a C v) : XAny H a C := by
  obtain ⟨d, h1, h2⟩ := h
  exact ⟨some d, h1, fun d' e => by cases e; exact ⟨_, h2⟩⟩
theorem XAny.inst {P : Program} {w : World} {H : Hp} {h : Heap} {a C : Addr} (hok : HOk P w H h) (x : XAny H a C) : ∃ ox od, PySem.W.InstAt h a ox C od := by
  obtain ⟨od, h1, h2⟩ := x
  obtain ⟨t1, e1⟩ := exo_at hok h1
  cases od with
  | none => exact ⟨_, none, ⟨e1, rfl, rfl, trivial⟩⟩
  | some d =>
    obtain ⟨fs, h3⟩ := h2 d rfl
    obtain ⟨mA, ⟨o, es, ep, ho, _⟩, _⟩ := exd_at hok h3
    exact ⟨_, some o, ⟨e1, rfl, rfl, ho⟩⟩
/-- isinstance(e, c), e an exception -/
def rIsX (K : PySem.W.Frag) : List V → Hp → VK → Prop := fun xs H Q => ∃ (a C : Addr) (c : V) (u : Value) (b : Bool), xs = [.ref a, c] ∧ XAny H a C ∧ XC K C ∧ ClsV c u ∧ PySem.W.kitOne K (.ref C) u = some b ∧ Q (.bl b) H
section
variable {X : Cx}
theorem call_isX : CallR X (.builtin "isinstance") (rIsX X.K) := by
  intro pins s σ H xs us Q I r h
  obtain ⟨a, C, c, u, b, rfl, hx, T, k, e, q⟩ := h
  obtain ⟨u1, u2, rfl, r1, r2⟩ := vals2 r
  have e2 := k.eq r2
  subst e2
  cases (show u1 = Value.ref a from r1)
  obtain ⟨ox, od, J⟩ := hx.inst I.hok
  exact PySem.W.kia_one (PySem.W.kitx_exc T.isC T.ga T.gg T.ox.exC T.cc T.cn T.ct T.cm) I.kIn J e (fun z => nomatch z) fun tk => ⟨.bl b, H, I.tok tk, rfl, q⟩
/-- either: a value of a built-in kind, or an exception -/
def rIsA (K : PySem.W.Frag) : List V → Hp → VK → Prop := fun xs H Q => rIsX K xs H Q ∨ rIsi K xs H Q
theorem call_isA : CallR X (.builtin "isinstance") (rIsA X.K) := by
  intro pins s σ H xs us Q I r h
  rcases h with h | h
  · exact call_isX pins s σ H xs us Q I r h
  · exact call_isi pins s σ H xs us Q I r h
/-- e.value -/
def tXv (K : PySem.W.Frag) (ta : TE) : TE := fun σ H Q => ta σ H fun x H1 => ∃ a C v, x = .ref a ∧ XAt H1 a C v ∧ XC K C ∧ Q v H1
theorem pe_xv {e : Expr} {ta : TE} {pos : Pos} (he : PE X e ta) (hb : attributeBase e "value" X.env (eval e X.env) = eval e X.env := by rfl) : PE X (.Attribute e "value" pos) (tXv X.K ta) := by
  refine ⟨fun pins s σ H Q I h => ?_⟩
  refine attr_of hb (thn (he.run pins s σ H _ I h) fun u s1 ⟨x, H1, I1, rx, a, C, v, ex, ⟨d, h1, h2⟩, T, q⟩ => ?_)
  subst ex
  obtain rfl : u = Value.ref a := rx
  obtain ⟨t1, e1⟩ := exo_at I1.hok h1
  obtain ⟨mA, hns, hr⟩ := exd_at I1.hok h2
  obtain ⟨od, ho, hl⟩ := lookIn_ns hns
  have l : List.lookup ("value" : Str) [(("value" : Str), v)] = some v := by simp [List.lookup]
  obtain ⟨u, hu, ru⟩ := RelO.some_of (v := v) (o := mA "value") (by rw [← l]; exact hr "value")
  have J : PySem.W.InstAt s1.heap a _ C (some od) := ⟨e1, rfl, rfl, ho⟩
  exact HandSPX.exc_get I1.kIn J T.ga T.gg T.ox.exC (PySem.W.findObj_own T.hd T.nv rfl (by rw [hl, hu])) (handed_of ru) ⟨v, H1, I1.tok _, ru, q⟩
end
/-- C(..) as a value: a new exception, then its __init__ -/
def tMkX (C : Addr) (sp : Sp) (dvs : List V) (t : TA) : TE := fun σ H Q => t σ H fun vs H1 => vs.length ≤ 1000 ∧ ∀ a, H1 a = none → sp (.ref a :: (vs ++ dvs)) (upd H1 a (exo a C none)) (fun v H2 => v = .non ∧ Q (.ref a) H2) (fun _ _ _ => False)
def tMkXK (C : Addr) (sp : Sp) (gV : List V → List V → List V) (tk : TA) : TE := fun σ H Q => tk σ H fun zs H1 => zs.length = 1 ∧ ∀ a, H1 a = none → sp (gV [.ref a] zs) (upd H1 a (exo a C none)) (fun v H2 => v = .non ∧ Q (.ref a) H2) (fun _ _ _ => False)
section
variable {X : Cx} {CX : CXT} {k : Nat} {fI C : Addr} {fd : FuncData} {ps : List Str} {sp : Sp} {dvs : List V} {ds : List Value} {x : Str} {p pos : Pos} {e : Expr} {es : List Expr} {t : TA}
theorem run_mkx {pins : List (Addr × Obj)} {σ : L2.St} {H : Hp} {s : Shared} {Q : VK} {us : List Value} {vs : List V} (T : OexC X.K C) (iC : PySem.W.findIn X.K (.ref C) "__init__" = some (some (.ref fI))) (tI : PySem.W.typeIn X.K (.ref fI) = some (.type "function"))
    (F1 : FnOk X.prog X.w X.K X.mg X.base CX k fI fd ps sp) (hr : Room (k + 1) X.A) (hb : Binds X.K fd ps ds) (hd : Vals dvs ds) (hx : Passes CX X (fun _ _ _ => False)) (I : Inv X pins σ H s) (r : Vals vs us) (hz : vs.length ≤ 1000)
    (h : ∀ a, H a = none → sp (.ref a :: (vs ++ dvs)) (upd H a (exo a C none)) (fun v H2 => v = .non ∧ Q (.ref a) H2) (fun _ _ _ => False)) :
    wpAny (model X.prog X.w) X.A (call (.ref C) us) (EP X pins σ Q) X.xe s := by
  obtain ⟨nm, q, N, bs, bm, sn, sub, ab, col, dd, k0, k1, k2, k3, k5, hC, hbm⟩ := T.cls
  obtain ⟨hp, g, dr, tk, os⟩ := s
  have hsz : hp.objs.size ≤ hp.objs.size + 1 := Nat.le_succ _
  have hn : H (hp.objs.size + 1) = none := I.hok.fresh hsz
  have hq := h (hp.objs.size + 1) hn
  have kk : ∀ b o, hp.get? b = some o → ((hp.push (PySem.W.kdv_tup us)).push (PySem.HandSPX.excO C hp.objs.size)).get? b = some o := fun b o e => Heap.get?_push_of_some _ (Heap.get?_push_of_some _ e)
  have hget : ((hp.push (PySem.W.kdv_tup us)).push (PySem.HandSPX.excO C hp.objs.size)).get? (hp.objs.size + 1) = some (PySem.HandSPX.excO C hp.objs.size) := by heap_get
  have I2 : Inv X pins σ (upd H (hp.objs.size + 1) (exo (hp.objs.size + 1) C none)) ⟨(hp.push (PySem.W.kdv_tup us)).push (PySem.HandSPX.excO C hp.objs.size), g, dr, tk, os⟩ :=
    I.laid (t' := tk) (a := hp.objs.size + 1) (o := exo (hp.objs.size + 1) C none) (h' := (hp.push (PySem.W.kdv_tup us)).push (PySem.HandSPX.excO C hp.objs.size)) kk hsz (exo_ok hget)
  have r2 : Vals (V.ref (hp.objs.size + 1) :: (vs ++ dvs)) (Value.ref (hp.objs.size + 1) :: (us ++ ds)) := .cons rfl (r.append hd)
  have hl : (Value.ref (hp.objs.size + 1) :: us ++ ds).length = ps.length := by
    have e := r2.length
    rw [F1.len _ _ _ _ hq] at e
    exact e.symm
  have hus : us.length ≤ sizeLine := by
    rw [← Paired.length r, sizeLine_eq]
    omega
  refine wpAny_call (PySem.HandSPX.call_own F.excBase_ValueError (fun Y => PySem.HandSPX.refsVE_contains Y bm hbm) (I.kIn _ _ hC) (PySem.W.looks_findIn I.kIn iC) (fun self => PySem.W.bind_fn I.kIn self tI) hus
    (codeAny_mono (F1.run _ X.stack _ _ ⟨Value.ref (hp.objs.size + 1) :: us, []⟩ (Value.ref (hp.objs.size + 1) :: (us ++ ds)) _ _ (fun _ _ _ => False) (hr.make C us []) (I2.env0.make C us []) (hb _ (Value.ref (hp.objs.size + 1) :: us) I2.kIn hl) r2 hq) fun r s' hq' => ?_))
  cases r with
  | error er => exact hx pins σ _ _ er s' I2 hq'
  | ok fl =>
    cases fl with
    | ret u =>
      obtain ⟨v, H', I3, rv, ev, q3⟩ := I2.after hq'
      subst ev
      exact ⟨rv, ⟨V.ref (hp.objs.size + 1), H', I3, rfl, q3⟩⟩
    | next => exact False.elim hq'
    | brk => exact False.elim hq'
    | cont => exact False.elim hq'
theorem pe_mkx (T : OexC X.K C) (iC : PySem.W.findIn X.K (.ref C) "__init__" = some (some (.ref fI))) (tI : PySem.W.typeIn X.K (.ref fI) = some (.type "function"))
    (F1 : FnOk X.prog X.w X.K X.mg X.base CX k fI fd ps sp) (hr : Room (k + 1) X.A) (hb : Binds X.K fd ps ds) (hd : Vals dvs ds) (hx : Passes CX X (fun _ _ _ => False)) (hg : Gl X x) (hm : X.mg x = some (.ref C)) (ha : PA X (e :: es) t)
    (hdb : (x == ("__debug__" : Str)) = false := by decide) (he : starEach (e :: es) X.env = (false, eval e X.env) :: starEach es X.env := by rfl) (hpl : (backTo pos (starEach es X.env)).any (·.1) = false := by rfl) :
    PE X (.Call (.Name x p) (e :: es) [] pos) (tMkX C sp dvs t) := by
  refine ⟨fun pins s σ H Q I h => ?_⟩
  refine wpAny_Call_Name_kw (ld_glob I hg hm ?_ hdb)
  refine PySem.W.callWith_K (h₀ := X.base) I.ok.mod.kin T.kC (thn (ha.run pos pins s σ H _ I h) fun us s1 ⟨vs, H1, I1, r, hz, q⟩ => ⟨I1.kIn, ?_⟩) he hpl
  exact run_mkx T iC tI F1 hr hb hd hx I1 r hz q
theorem pe_mkx0 (T : OexC X.K C) (iC : PySem.W.findIn X.K (.ref C) "__init__" = some (some (.ref fI))) (tI : PySem.W.typeIn X.K (.ref fI) = some (.type "function"))
    (F1 : FnOk X.prog X.w X.K X.mg X.base CX k fI fd ps sp) (hr : Room (k + 1) X.A) (hb : Binds X.K fd ps ds) (hd : Vals dvs ds) (hx : Passes CX X (fun _ _ _ => False)) (hg : Gl X x) (hm : X.mg x = some (.ref C))
    (hdb : (x == ("__debug__" : Str)) = false := by decide) : PE X (.Call (.Name x p) [] [] pos) (tMkX C sp dvs tNil) := by
  refine ⟨fun pins s σ H Q I h => ?_⟩
  refine wpAny_Call_Name_kw (ld_glob I hg hm ?_ hdb)
  exact PySem.W.callWith_K0 I.kIn T.kC (run_mkx (us := []) T iC tI F1 hr hb hd hx I .nil (Nat.zero_le _) h.2)
end
section
variable {X : Cx} {CX : CXT} {k : Nat} {fI C : Addr} {fd : FuncData} {ps ks : List Str} {sp : Sp} {x : Str} {p pos : Pos} {kws : List Keyword} {tk : TA} {g : List Value → List Value → List Value} {gV : List V → List V → List V}
theorem run_mkxK {pins : List (Addr × Obj)} {σ : L2.St} {H2 : Hp} {s2 : Shared} {Q : VK} {ws : List Value} {zs : List V} (T : OexC X.K C) (iC : PySem.W.findIn X.K (.ref C) "__init__" = some (some (.ref fI))) (tI : PySem.W.typeIn X.K (.ref fI) = some (.type "function"))
    (F1 : FnOk X.prog X.w X.K X.mg X.base CX k fI fd ps sp) (hr : Room (k + 1) X.A) (hb : KBn X.K fd ps 1 ks g gV) (hx : Passes CX X (fun _ _ _ => False)) (I2' : Inv X pins σ H2 s2) (rz : Vals zs ws) (l2 : zs.length = 1) (hk1 : ks.length = 1)
    (q2 : ∀ a, H2 a = none → sp (gV [.ref a] zs) (upd H2 a (exo a C none)) (fun v H3 => v = .non ∧ Q (.ref a) H3) (fun _ _ _ => False)) :
    wpAny (model X.prog X.w) X.A (call (.ref C) [] (ks.zip ws)) (EP X pins σ Q) X.xe s2 := by
  obtain ⟨nm, q, N, bs, bm, sn, sub, ab, col, dd, k0, k1, k2, k3, k5, hC, hbm⟩ := T.cls
  obtain ⟨hp, g', dr, tk, os⟩ := s2
  have hsz : hp.objs.size ≤ hp.objs.size + 1 := Nat.le_succ _
  have hn : H2 (hp.objs.size + 1) = none := I2'.hok.fresh hsz
  have hq := q2 (hp.objs.size + 1) hn
  have kk : ∀ b o, hp.get? b = some o → ((hp.push (PySem.W.kdv_tup [])).push (PySem.HandSPX.excO C hp.objs.size)).get? b = some o := fun b o e => Heap.get?_push_of_some _ (Heap.get?_push_of_some _ e)
  have hget : ((hp.push (PySem.W.kdv_tup [])).push (PySem.HandSPX.excO C hp.objs.size)).get? (hp.objs.size + 1) = some (PySem.HandSPX.excO C hp.objs.size) := by heap_get
  have I2 : Inv X pins σ (upd H2 (hp.objs.size + 1) (exo (hp.objs.size + 1) C none)) ⟨(hp.push (PySem.W.kdv_tup [])).push (PySem.HandSPX.excO C hp.objs.size), g', dr, tk, os⟩ :=
    I2'.laid (t' := tk) (a := hp.objs.size + 1) (o := exo (hp.objs.size + 1) C none) (h' := (hp.push (PySem.W.kdv_tup [])).push (PySem.HandSPX.excO C hp.objs.size)) kk hsz (exo_ok hget)
  have r1 : Vals [V.ref (hp.objs.size + 1)] [Value.ref (hp.objs.size + 1)] := .cons rfl .nil
  have r2 := hb.rel r1 rz
  refine wpAny_call (callK F.excBase_ValueError (fun Y => PySem.HandSPX.refsVE_contains Y bm hbm) (I2'.kIn _ _ hC) (PySem.W.looks_findIn I2'.kIn iC) (fun self => PySem.W.bind_fn I2'.kIn self tI) (Nat.zero_le _)
    (codeAny_mono (F1.run _ X.stack _ _ ⟨[Value.ref (hp.objs.size + 1)], ks.zip ws⟩ (g [Value.ref (hp.objs.size + 1)] ws) _ _ (fun _ _ _ => False) (hr.make C [] (ks.zip ws)) (I2.env0.make C [] (ks.zip ws)) (hb.to _ [Value.ref (hp.objs.size + 1)] ws I2.kIn rfl (rz.length.symm.trans (l2.trans hk1.symm))) r2 hq) fun r s' hq' => ?_))
  cases r with
  | error er => exact hx pins σ _ _ er s' I2 hq'
  | ok fl =>
    cases fl with
    | ret u =>
      obtain ⟨v, H', I3, rv, ev, q3⟩ := I2.after hq'
      subst ev
      exact ⟨rv, ⟨V.ref (hp.objs.size + 1), H', I3, rfl, q3⟩⟩
    | next => exact False.elim hq'
    | brk => exact False.elim hq'
    | cont => exact False.elim hq'
theorem pe_mkxK (T : OexC X.K C) (iC : PySem.W.findIn X.K (.ref C) "__init__" = some (some (.ref fI))) (tI : PySem.W.typeIn X.K (.ref fI) = some (.type "function"))
    (F1 : FnOk X.prog X.w X.K X.mg X.base CX k fI fd ps sp) (hr : Room (k + 1) X.A) (hb : KBn X.K fd ps 1 ks g gV) (hx : Passes CX X (fun _ _ _ => False)) (hg : Gl X x) (hm : X.mg x = some (.ref C)) (hkw : PK X kws tk) (hk1 : ks.length = 1)
    (hall : (backToKw pos (keywordEach kws X.env)).all (·.1.isSome) = true := by rfl) (hks : (backToKw pos (keywordEach kws X.env)).filterMap (·.1) = ks := by rfl) (hdb : (x == ("__debug__" : Str)) = false := by decide)
    (hpl : ((backTo pos (starEach [] X.env)).any (·.1) || (backToKw pos (keywordEach kws X.env)).any (·.1.isNone)) = false := by rfl) :
    PE X (.Call (.Name x p) [] kws pos) (tMkXK C sp gV tk) := by
  refine ⟨fun pins s σ H Q I h => ?_⟩
  refine wpAny_Call_Name_kw (ld_glob I hg hm ?_ hdb)
  refine PySem.W.callWith_KW0 (h₀ := X.base) I.ok.mod.kin T.kC hall ?_ hpl
  refine thn (hkw.run pos pins s σ H _ I h) fun ws s2 ⟨zs, H2, I2', rz, l2, q2⟩ => ⟨I2'.kIn, ?_⟩
  rw [hks]
  exact run_mkxK T iC tI F1 hr hb hx I2' rz l2 hk1 q2
end
/-- C() of a class without an own __init__ -/
def tMkN (C : Addr) : TE := fun _ H Q => ∀ a, H a = none → Q (.ref a) (upd H a (exo a C none))
section
variable {X : Cx} {C : Addr} {x : Str} {p pos : Pos}
theorem pe_mkn (T : OexC X.K C) (iC : PySem.W.findIn X.K (.ref C) "__init__" = some (some (.builtin "ValueError.__init__"))) (hg : Gl X x) (hm : X.mg x = some (.ref C))
    (hdb : (x == ("__debug__" : Str)) = false := by decide) : PE X (.Call (.Name x p) [] [] pos) (tMkN C) := by
  refine ⟨fun pins s σ H Q I h => ?_⟩
  refine wpAny_Call_Name_kw (ld_glob I hg hm ?_ hdb)
  refine PySem.W.callWith_K0 I.kIn T.kC ?_
  obtain ⟨nm, q, N, bs, bm, sn, sub, ab, col, dd, k0, k1, k2, k3, k5, hC, hbm⟩ := T.cls
  obtain ⟨hp, g, dr, tk, os⟩ := s
  refine PySem.W.call_B F.excBase_ValueError (fun Y => PySem.HandSPX.refsVE_contains Y bm hbm) (I.kIn _ _ hC) (PySem.W.looks_findIn I.kIn iC) (Nat.zero_le _) fun h' k e1 e2 => ?_
  have hsz : hp.objs.size ≤ hp.objs.size + 1 := Nat.le_succ _
  have hn : H (hp.objs.size + 1) = none := I.hok.fresh hsz
  exact ⟨.ref (hp.objs.size + 1), _, I.laid (t' := tk) (a := hp.objs.size + 1) (o := exo (hp.objs.size + 1) C none) (h' := h') k hsz (exo_ok e1), rfl, h _ hn⟩
end
end G1

namespace G1
open PySem PySem.Spec PyProof.Rows L2
/-- a def under its name keeps a promise -/
def OkD (P : Program) (w : World) (K : PySem.W.Frag) (mg : Str → Option Value) (base : Heap) (k : Nat) (x : Str) (ps : List Str) (sp : Sp) : Prop :=
  ∃ f fd, FnOk P w K mg base CX0 k f fd ps sp ∧ mg x = some (.ref f) ∧ PySem.W.keepIn K (.ref f) = true ∧ L2.Binds K fd ps []
/-- a def as the top has left it -/
def Src (K : PySem.W.Frag) (mg : Str → Option Value) (x : Str) (st : Stmt) : Prop := ∃ f fd, Fun K x x st f fd ∧ mg x = some (.ref f)
theorem src_mk {K : PySem.W.Frag} {h : Heap} {mg : Str → Option Value} {x : Str} {st : Stmt} {f : Addr} {oc : Value} {od an : Option Addr} {osl : Array (Option Value)} {kV doc pm cdv ct : Value} (X : K.In h) (G : h.Ns mainGlobals mg)
    (a : PySem.W.nsIn K mainGlobals x = some (some (.ref f))) (l : K.lookup f = some ⟨oc, od, .func (PySem.W.fnOf x x (defArgs st) (defBody st) (defScope st) .none kV doc pm an cdv ct), osl⟩)
    (c : PySem.W.codeIn K cdv x = true) (k : PySem.W.keepIn K (.ref f) = true) : Src K mg x st := ⟨f, _, fun_mk l c k, PySem.W.mg_of X G a⟩
section
variable {P : Program} {w : World} {K : PySem.W.Frag} {mg : Str → Option Value} {base : Heap} {x : Str} {st : Stmt} {N ps : List Str} {k : Nat} {sp : Sp}
theorem okd (S : Src K mg x st) (F : ∀ f fd, Fun K x x st f fd → FnOk P w K mg base CX0 k f fd ps sp)
    (h : ∀ (kV doc pm : Value) (an : Option Addr) (cdv ct : Value) (us : List Value), us.length = ps.length → bindArgs (PySem.W.fnOf x x (defArgs st) (defBody st) (defScope st) .none kV doc pm an cdv ct) ⟨us, []⟩ = pure (ps.zip us)) : OkD P w K mg base k x ps sp := by
  obtain ⟨f, fd, F1, g⟩ := S
  exact ⟨f, fd, F f fd F1, g, F1.kp, F1.binds h⟩
end
section
variable {X : Cx} {k j : Nat} {x : Str} {ps : List Str} {sp : Sp} {p pos : Pos} {e : Expr} {es : List Expr} {t : TA}
/-- a call of such a def -/
def tCallO (sp : Sp) (t : TA) : TE := fun σ H Q => t σ H fun vs H1 => sp vs H1 Q (fun _ _ _ => False)
theorem pe_callO (C : OkD X.prog X.w X.K X.mg X.base k x ps sp) (hr : Room k X.A) (hg : Gl X x) (ha : PA X (e :: es) t)
    (hdb : (x == ("__debug__" : Str)) = false := by decide) (he : starEach (e :: es) X.env = (false, eval e X.env) :: starEach es X.env := by rfl) (hpl : (backTo pos (starEach es X.env)).any (·.1) = false := by rfl) :
    PE X (.Call (.Name x p) (e :: es) [] pos) (tCallO sp t) := by
  obtain ⟨f, fd, F, hm, hk, hb⟩ := C
  have z := pe_call (dvs := []) (E := fun _ _ _ => False) (p := p) F hr hg hm hk hb .nil pass0 ha hdb he hpl
  refine ⟨fun pins s σ H Q I h => z.run pins s σ H Q I ?_⟩
  have e : (fun (vs : List V) H1 => sp (vs ++ []) H1 Q (fun _ _ _ => False)) = fun vs H1 => sp vs H1 Q (fun _ _ _ => False) := by
    funext vs H1
    rw [List.append_nil]
  show t σ H (fun vs H1 => sp (vs ++ []) H1 Q (fun _ _ _ => False))
  rw [e]
  exact h
theorem pe_callO0 (C : OkD X.prog X.w X.K X.mg X.base k x ps sp) (hr : Room k X.A) (hg : Gl X x) (hdb : (x == ("__debug__" : Str)) = false := by decide) :
    PE X (.Call (.Name x p) [] [] pos) (tCallO sp tNil) := by
  obtain ⟨f, fd, F, hm, hk, hb⟩ := C
  exact pe_call0 (dvs := []) (E := fun _ _ _ => False) (p := p) F hr hg hm hk hb .nil pass0 hdb
end
/-- a class of exceptions with the one field, by its name -/
structure XOk (P : Program) (w : World) (K : PySem.W.Frag) (mg : Str → Option Value) (base : Heap) (x : Str) (C : Addr) : Prop where
  xc : XC K C
  g : mg x = some (.ref C)
  ini : ∃ fI fd, PySem.W.findIn K (.ref C) "__init__" = some (some (.ref fI)) ∧ PySem.W.typeIn K (.ref fI) = some (.type "function") ∧
    FnOk P w K mg base CX0 1 fI fd ["self", "value"] (fun vs H Q _ => ∃ (a : Addr) (v : V), vs = [.ref a, v] ∧ H a = some (exo a C none) ∧ ∀ dx, H dx = none → dx ≠ a → Q .non (upd (upd H dx (exd dx [(("value" : Str), v)])) a (exo a C (some dx)))) ∧
    L2.Binds K fd ["self", "value"] [] ∧ (∃ ds, Vals [V.non] ds ∧ L2.Binds K fd ["self", "value"] ds) ∧ KBn K fd ["self", "value"] 1 ["value"] (fun us ws => us ++ ws) (fun vs zs => vs ++ zs)
/-- a class of exceptions without an own __init__ -/
structure XNk (K : PySem.W.Frag) (mg : Str → Option Value) (x : Str) (C : Addr) : Prop where
  xc : XC K C
  g : mg x = some (.ref C)
  i : PySem.W.findIn K (.ref C) "__init__" = some (some (.builtin "ValueError.__init__"))
theorem ne_none {H : Hp} {a b : Addr} {o : HO} (h : H b = some o) (n : H a = none) : b ≠ a := fun e => by
  rw [e, n] at h
  cases h
theorem same_upd {H : Hp} {p : Addr} {o : HO} (h : H p = none) : Same H (upd H p o) := fun b x e => by
  rw [upd_ne (ne_none e h)]
  exact e
/-- what is told of a new exception -/
def tXmk (C : Addr) (v : V) (H : Hp) (Q : VK) : Prop := ∀ a H', Same H H' → H a = none → XAt H' a C v → Q (.ref a) H'
section
variable {X : Cx} {x : Str} {C : Addr} {p pos : Pos} {e : Expr} {te : TE}
theorem xmk_of {H : Hp} {Q : VK} {v : V} (h : tXmk C v H Q) {a dx : Addr} (na : H a = none) (nd : (upd H a (exo a C none)) dx = none) (ne : dx ≠ a) :
    Q (.ref a) (upd (upd (upd H a (exo a C none)) dx (exd dx [(("value" : Str), v)])) a (exo a C (some dx))) := by
  have nd' : H dx = none := by rw [upd_ne ne] at nd; exact nd
  refine h a _ (fun b o q => ?_) na ⟨dx, upd_same, ?_⟩
  · rw [upd_ne (ne_none q na), upd_ne (ne_none q nd'), upd_ne (ne_none q na)]
    exact q
  · rw [upd_ne ne, upd_same]
/-- C(e), C(), C(value=e) -/
def tXm (C : Addr) (ta : TA) : TE := fun σ H Q => ta σ H fun vs H1 => ∃ v, vs = [v] ∧ tXmk C v H1 Q
theorem pe_xmk (T : XOk X.prog X.w X.K X.mg X.base x C) (hr : Room 2 X.A) (hg : Gl X x) {ta : TA} (ha : PA X [e] ta) (hdb : (x == ("__debug__" : Str)) = false := by decide)
    (hs : starEach (e :: []) X.env = (false, eval e X.env) :: starEach [] X.env := by rfl) (hpl : (backTo pos (starEach [] X.env)).any (·.1) = false := by rfl) :
    PE X (.Call (.Name x p) [e] [] pos) (tXm C ta) := by
  obtain ⟨fI, fd, iC, tI, F, b0, _, _⟩ := T.ini
  refine ⟨fun pins s σ H Q I h => ?_⟩
  refine wpAny_Call_Name_kw (ld_glob I hg T.g ?_ hdb)
  refine PySem.W.callWith_K (h₀ := X.base) I.ok.mod.kin T.xc.ox.kC (thn (ha.run pos pins s σ H _ I h) fun us s1 ⟨vs, H1, I1, r, v, ev, q⟩ => ⟨I1.kIn, ?_⟩) hs hpl
  subst ev
  refine run_mkx (dvs := []) T.xc.ox iC tI F hr b0 .nil pass0 I1 r (by show 1 ≤ 1000; decide) fun a na => ?_
  exact ⟨a, v, rfl, upd_same, fun dx nd ne => ⟨rfl, xmk_of q na nd ne⟩⟩
theorem pe_xmk0 (T : XOk X.prog X.w X.K X.mg X.base x C) (hr : Room 2 X.A) (hg : Gl X x) (hdb : (x == ("__debug__" : Str)) = false := by decide) :
    PE X (.Call (.Name x p) [] [] pos) (fun σ H Q => tXmk C .non H Q) := by
  obtain ⟨fI, fd, iC, tI, F, _, ⟨ds, rd, b1⟩, _⟩ := T.ini
  refine ⟨fun pins s σ H Q I h => ?_⟩
  refine wpAny_Call_Name_kw (ld_glob I hg T.g ?_ hdb)
  refine PySem.W.callWith_K0 I.kIn T.xc.ox.kC (run_mkx (us := []) (vs := []) T.xc.ox iC tI F hr b1 rd pass0 I .nil (Nat.zero_le _) fun a na => ?_)
  exact ⟨a, .non, rfl, upd_same, fun dx nd ne => ⟨rfl, xmk_of h na nd ne⟩⟩
theorem pe_xmkK (T : XOk X.prog X.w X.K X.mg X.base x C) (hr : Room 2 X.A) (hg : Gl X x) {kws : List Keyword} {tk : TA} (hkw : PK X kws tk)
    (hall : (backToKw pos (keywordEach kws X.env)).all (·.1.isSome) = true := by rfl) (hks : (backToKw pos (keywordEach kws X.env)).filterMap (·.1) = (["value"] : List Str) := by rfl) (hdb : (x == ("__debug__" : Str)) = false := by decide)
    (hpl : ((backTo pos (starEach [] X.env)).any (·.1) || (backToKw pos (keywordEach kws X.env)).any (·.1.isNone)) = false := by rfl) :
    PE X (.Call (.Name x p) [] kws pos) (tXm C tk) := by
  obtain ⟨fI, fd, iC, tI, F, _, _, b2⟩ := T.ini
  have z := pe_mkxK (p := p) T.xc.ox iC tI F hr b2 pass0 hg T.g hkw rfl hall hks hdb hpl
  refine ⟨fun pins s σ H Q I h => ?_⟩
  refine wpAny_Call_Name_kw (ld_glob I hg T.g ?_ hdb)
  refine PySem.W.callWith_KW0 (h₀ := X.base) I.ok.mod.kin T.xc.ox.kC hall ?_ hpl
  refine thn (hkw.run pos pins s σ H _ I h) fun ws s2 ⟨zs, H2, I2, rz, v, ev, q2⟩ => ⟨I2.kIn, ?_⟩
  subst ev
  rw [hks]
  exact run_mkxK T.xc.ox iC tI F hr b2 pass0 I2 rz rfl rfl fun a na => ⟨a, v, rfl, upd_same, fun dx nd ne => ⟨rfl, xmk_of q2 na nd ne⟩⟩
/-- C() without an own __init__ -/
def tXn (C : Addr) : TE := fun _ H Q => ∀ a H', Same H H' → H a = none → XAny H' a C → Q (.ref a) H'
theorem pe_xmn (T : XNk X.K X.mg x C) (hg : Gl X x) (hdb : (x == ("__debug__" : Str)) = false := by decide) : PE X (.Call (.Name x p) [] [] pos) (tXn C) := by
  have z := pe_mkn (X := X) (p := p) (pos := pos) T.xc.ox T.i hg T.g hdb
  refine ⟨fun pins s σ H Q I h => z.run pins s σ H Q I fun a na => ?_⟩
  exact h a _ (same_upd na) na ⟨none, upd_same, fun d e => nomatch e⟩
end
end G1

namespace G1
open PySem PySem.Spec PyProof.Rows L2
/-! loops by names, so that a reading can be unfolded down to them -/
def LoopW (J : It) (g : TG) (tb : TS) (D : Ends) (σ : L2.St) (H1 : Hp) : Prop := ∃ W : Nat → Nat → L2.St → Hp → Prop, (∃ m, W 0 m σ H1) ∧ ∀ i m σ H, W i m σ H →
  (J.stop i H ∧ D.nx σ H) ∨ (J.go i H ∧ ∃ N : L2.St → Hp → Prop, (∀ σ' H', N σ' H' → ∃ m', m' < m ∧ W (i + 1) m' σ' H') ∧ ∀ x H', J.yld i H x H' → g x σ H' fun σ2 H2 => tb { D with nx := N, ct := N, bk := D.nx } σ2 H2)
theorem tFor_eq (wi : TI) (g : TG) (tb : TS) (D : Ends) (σ : L2.St) (H : Hp) : tFor wi g tb D σ H = wi σ H fun J H1 => LoopW J g tb D σ H1 := rfl
def CompW (J : It) (g : TG) (tt : TT) (te : TE) (vs : List Nat) (σ : L2.St) (H1 : Hp) (Q : VK) : Prop := ∀ D, H1 D = none → ∃ W : Nat → Nat → Hp → Prop, (∃ m, W 0 m (upd H1 D (.lst []))) ∧ ∀ i m H, W i m H →
  (J.stop i H ∧ Q (.ref D) H) ∨ (J.go i H ∧ ∃ Nx : Hp → Prop, (∀ H', Nx H' → ∃ m', m' < m ∧ W (i + 1) m' H') ∧ ∀ x H', J.yld i H x H' → g x (wipe σ vs) H' fun σ2 H2 => wipe σ2 vs = wipe σ vs ∧ tt σ2 H2 fun b H3 =>
    if b = true then te σ2 H3 fun y H4 => ∃ acc, H4 D = some (.lst acc) ∧ acc.length < sizeLine ∧ Nx (upd H4 D (.lst (acc ++ [y]))) else Nx H3)
theorem tLc_eq (wi : TI) (g : TG) (tt : TT) (te : TE) (vs : List Nat) (σ : L2.St) (H : Hp) (Q : VK) : tLc wi g tt te vs σ H Q = wi σ H fun J H1 => CompW J g tt te vs σ H1 Q := rfl
theorem loop_range {lo : Int} {n : Nat} {g : TG} {tb : TS} {D : Ends} {σ : L2.St} {H : Hp} (Pv : Nat → L2.St → Hp → Prop) (h0 : Pv 0 σ H)
    (hs : ∀ i σ H, i < n → Pv i σ H → g (.int (lo + i)) σ H fun σ2 H2 => tb { D with nx := Pv (i + 1), ct := Pv (i + 1), bk := D.nx } σ2 H2) (hd : ∀ σ H, Pv n σ H → D.nx σ H) : LoopW (Itr lo n) g tb D σ H := for_range Pv h0 hs hd
theorem loop_list {K : PySem.W.Frag} {a : Addr} {xs : List V} {g : TG} {tb : TS} {D : Ends} {σ : L2.St} {H : Hp} (Pv : Nat → L2.St → Hp → Prop) (h0 : Pv 0 σ H) (hl : ∀ i σ H, i ≤ xs.length → Pv i σ H → SqL K H a xs)
    (hs : ∀ i x σ H, xs[i]? = some x → Pv i σ H → g x σ H fun σ2 H2 => tb { D with nx := Pv (i + 1), ct := Pv (i + 1), bk := D.nx } σ2 H2) (hd : ∀ σ H, Pv xs.length σ H → D.nx σ H) : LoopW (Itl K a) g tb D σ H := for_list Pv h0 hl hs hd
theorem comp_range {lo : Int} {n : Nat} {g : TG} {tt : TT} {te : TE} {vs : List Nat} {σ : L2.St} {H1 : Hp} {Q : VK} (Pv : Addr → Nat → Hp → Prop) (h0 : ∀ D, H1 D = none → Pv D 0 (upd H1 D (.lst [])))
    (hs : ∀ D i H, H1 D = none → i < n → Pv D i H → g (.int (lo + i)) (wipe σ vs) H fun σ2 H2 => wipe σ2 vs = wipe σ vs ∧ tt σ2 H2 fun b H3 =>
      if b = true then te σ2 H3 fun y H4 => ∃ acc, H4 D = some (.lst acc) ∧ acc.length < sizeLine ∧ Pv D (i + 1) (upd H4 D (.lst (acc ++ [y]))) else Pv D (i + 1) H3) (hd : ∀ D H, H1 D = none → Pv D n H → Q (.ref D) H) : CompW (Itr lo n) g tt te vs σ H1 Q :=
  fun D hD => lc_range (Pv D) (h0 D hD) (fun i H => hs D i H hD) fun H => hd D H hD
theorem comp_list {K : PySem.W.Frag} {a : Addr} {xs : List V} {g : TG} {tt : TT} {te : TE} {vs : List Nat} {σ : L2.St} {H1 : Hp} {Q : VK} (Pv : Addr → Nat → Hp → Prop) (h0 : ∀ D, H1 D = none → Pv D 0 (upd H1 D (.lst []))) (hl : ∀ D i H, H1 D = none → i ≤ xs.length → Pv D i H → SqL K H a xs)
    (hs : ∀ D i x H, H1 D = none → xs[i]? = some x → Pv D i H → g x (wipe σ vs) H fun σ2 H2 => wipe σ2 vs = wipe σ vs ∧ tt σ2 H2 fun b H3 =>
      if b = true then te σ2 H3 fun y H4 => ∃ acc, H4 D = some (.lst acc) ∧ acc.length < sizeLine ∧ Pv D (i + 1) (upd H4 D (.lst (acc ++ [y]))) else Pv D (i + 1) H3) (hd : ∀ D H, H1 D = none → Pv D xs.length H → Q (.ref D) H) : CompW (Itl K a) g tt te vs σ H1 Q :=
  fun D hD => lc_list (Pv D) (h0 D hD) (fun i H => hl D i H hD) (fun i x H => hs D i x H hD) fun H => hd D H hD
/-! the same readings over what is tracked alone: the heap tells the list -/
def rIxM : R2 := fun x y H Q => ∃ p xs i v, x = .ref p ∧ y = .int i ∧ H p = some (.lst xs) ∧ atI xs i = some v ∧ Q v H
def rLenM : List V → Hp → VK → Prop := fun vs H Q => ∃ p xs, vs = [.ref p] ∧ H p = some (.lst xs) ∧ Q (.int (xs.length : Nat)) H
def rSlM : V → Option Int → Option Int → Hp → VK → Prop := fun x lo hi H Q => ∃ a xs, x = .ref a ∧ H a = some (.lst xs) ∧ ∀ p, H p = none → Q (.ref p) (upd H p (.lst (cutV xs lo hi)))
section
variable {X : Cx}
theorem ix_lM : IxR X rIxM := fun a b pins s σ H x y v u Q I rx ry q hs => ix_list a b pins s σ H x y v u Q I rx ry (by
  obtain ⟨p, xs, i, w, e1, e2, h, e3, q⟩ := q
  exact ⟨p, xs, i, w, e1, e2, .inl (.inl h), e3, q⟩) hs
theorem call_lenM : CallR X (.builtin "len") rLenM := fun pins s σ H xs us Q I r h => call_len_seq pins s σ H xs us Q I r (by
  obtain ⟨p, xs, e, h, q⟩ := h
  exact ⟨p, xs, e, .inl (.inl (.inl h)), q⟩)
theorem atI_0 {α : Type} {a : α} {l : List α} : atI (a :: l) 0 = some a := atI_nat (j := 0) rfl
theorem atI_1 {α : Type} {a b : α} {l : List α} : atI (a :: b :: l) 1 = some b := atI_nat (j := 1) rfl
theorem atI_2 {α : Type} {a b c : α} {l : List α} : atI (a :: b :: c :: l) 2 = some c := atI_nat (j := 2) rfl
theorem ixN_0 : ixN 3 0 = some 0 := by decide
theorem ixN_2 : ixN 3 2 = some 2 := by decide
end
theorem upd_id {H : Hp} {a : Addr} {o : HO} (h : H a = some o) : upd H a o = H := by
  funext b
  by_cases e : b = a
  · rw [e, upd_same, h]
  · rw [upd_ne e]
end G1
namespace G1
open PySem PySem.Spec PyProof.Rows L2
section
variable {X : Cx}
theorem pe_gref {x : Str} {a : Addr} {pos : Pos} (hg : Gl X x) (hm : X.mg x = some (.ref a)) (hd : (x == ("__debug__" : Str)) = false := by decide) : PE X (.Name x pos) (tC (.ref a)) := pe_glob hg hm rfl hd
theorem pe_gty {x : Str} {n : String} {pos : Pos} (hg : Gl X x) (hm : X.mg x = none) (hv : bootBuiltins x = some (.type n)) (hn : x ≠ "__name__" := by decide) (hd : (x == ("__debug__" : Str)) = false := by decide) : PE X (.Name x pos) (tC (.ty n)) := pe_bltn hg hm hv rfl hn hd
end
theorem XAt.same {H H' : Hp} {a C : Addr} {v : V} (h : XAt H a C v) (s : Same H H') : XAt H' a C v := by
  obtain ⟨d, h1, h2⟩ := h
  exact ⟨d, s _ _ h1, s _ _ h2⟩
theorem XAny.same {H H' : Hp} {a C : Addr} (h : XAny H a C) (s : Same H H') : XAny H' a C := by
  obtain ⟨od, h1, h2⟩ := h
  exact ⟨od, s _ _ h1, fun d e => by obtain ⟨fs, h3⟩ := h2 d e; exact ⟨fs, s _ _ h3⟩⟩
theorem same_over {H H1 : Hp} {D : Addr} {o : HO} (s : Same H H1) (n : H D = none) : Same H (upd H1 D o) := fun b x e => by
  rw [upd_ne (ne_none e n)]
  exact s b x e
/-- a comprehension over a tracked list that stands: the kept items by a test and a map of values -/
theorem take_step {α : Type} {xs : List α} {i : Nat} {x : α} (h : xs[i]? = some x) : xs.take (i + 1) = xs.take i ++ [x] := by
  rw [List.take_add_one, h]
  rfl
end G1
namespace G1
open PySem PySem.Spec PyProof.Rows L2
def rRepS : R2 := fun x y H Q => ∃ z n, x = .str z ∧ y = .int n ∧ MulOk z n ∧ Q (.str (Txt.mul z n)) H
section
variable {X : Cx}
theorem op_repS : OpR X (binaryOp .Mult) rRepS := by
  intro pins s σ H x y v u Q I rx ry h
  obtain ⟨z, n, rfl, rfl, hz, q⟩ := h
  obtain ⟨t, rfl⟩ := rx
  obtain ⟨t', rfl⟩ := ry
  exact SB.mul hz fun t' k => ⟨.str _, H, I.tok _, ⟨_, rfl⟩, q⟩
end
end G1
namespace G1
open PySem PySem.Spec PyProof.Rows L2
section
variable {X : Cx}
theorem op_eqDK (K : PySem.W.Frag) (hK : X.K = K) (hu : X.A.units + 64 < cLine) : OpR X (compareOp .Eq) (rEqD K) := hK ▸ op_eqD hu
theorem op_neDK (K : PySem.W.Frag) (hK : X.K = K) (hu : X.A.units + 64 < cLine) : OpR X (compareOp .NotEq) (rNeD K) := hK ▸ op_neD hu
theorem call_isAK (K : PySem.W.Frag) (hK : X.K = K) : CallR X (.builtin "isinstance") (rIsA K) := hK ▸ call_isA
theorem pe_xvK (K : PySem.W.Frag) {e : Expr} {ta : TE} {pos : Pos} (hK : X.K = K) (he : PE X e ta) (hb : attributeBase e "value" X.env (eval e X.env) = eval e X.env) : PE X (.Attribute e "value" pos) (tXv K ta) := hK ▸ pe_xv he hb
end
end G1
namespace G1
open PySem PySem.Spec PyProof.Rows L2
theorem XAt.upd {H : Hp} {a C l : Addr} {v : V} {xs : List V} {o : HO} (h : XAt H a C v) (hl : H l = some (.lst xs)) : XAt (upd H l o) a C v := by
  obtain ⟨d, h1, h2⟩ := h
  have n1 : a ≠ l := fun e => by
    rw [e, hl] at h1
    have z := Option.some.inj h1
    have z' : HO.lst xs = HO.ext _ := z
    cases z'
  have n2 : d ≠ l := fun e => by
    rw [e, hl] at h2
    have z := Option.some.inj h2
    have z' : HO.lst xs = HO.ext _ := z
    cases z'
  exact ⟨d, by rw [upd_ne n1]; exact h1, by rw [upd_ne n2]; exact h2⟩
theorem range_step {α : Type} (f : Nat → α) (j : Nat) : (List.range (j + 1)).map f = (List.range j).map f ++ [f j] := by
  rw [List.range_succ, List.map_append]
  rfl
end G1

namespace G1
open PySem PySem.Spec PyProof.Rows L2
def xA (p1 p2 p3 : Pos) : Arguments := { posonlyargs := [], args := [{ arg := "self", annotation := none, pos := p1 }, { arg := "value", annotation := none, pos := p2 }], vararg := none, kwonlyargs := [], kw_defaults := [], kwarg := none, defaults := [.Constant .none 0 p3] }
def xB (q1 q2 q3 q4 : Pos) : List Stmt := [.Assign [.Attribute (.Name "self" q1) "value" q2] (.Name "value" q3) q4]
def xS : Scope := { kind := .function, names := [(PySem.Str.ofString "self", .local), (PySem.Str.ofString "value", .local)], isGenerator := false, isCoroutine := false, more := [] }
theorem x_scope : FnScope ["self", "value"] ["self", "value"] xS := ⟨rfl, rfl, rfl, by decide +kernel, rfl, by decide +kernel, by decide +kernel⟩
theorem x_ok {P : Program} {w : World} {K : PySem.W.Frag} {mg : Str → Option Value} {base : Heap} {x qual : Str} {C fI : Addr} {fd : FuncData} {p1 p2 p3 q1 q2 q3 q4 : Pos} (T : XC K C) (g : mg x = some (.ref C))
    (iC : PySem.W.findIn K (.ref C) "__init__" = some (some (.ref fI))) (tI : PySem.W.typeIn K (.ref fI) = some (.type "function"))
    (D : FunD K "__init__" qual (xA p1 p2 p3) (xB q1 q2 q3 q4) xS [.non] [] fI fd) : XOk P w K mg base x C := by
  refine ⟨T, g, fI, fd, iC, tI, ?_, ?_, ?_, ?_⟩
  · refine D.ok (CX := CX0) x_scope (fun vs H Q E h => ?_) (fun cdv A outer s H vs Q E hr h => ?_)
    · obtain ⟨_, _, rfl, _⟩ := h
      rfl
    · obtain ⟨a, v, rfl, ha, q⟩ := h
      refine ⟨_, pss_one (ps_ost (pv 0) (pv 1)), ?_⟩
      exact ⟨_, rfl, _, rfl, a, C, rfl, T.ox, T.nv, .inl ⟨ha, fun dx n1 n2 => q dx n1 n2⟩⟩
  · obtain ⟨ds, r, b⟩ := D.binds1 (ps := ["self", "value"]) 2 1 (by simp) rfl (fun T kV doc pm an cdv ct us its h1 h2 => match us, its, h1, h2 with | [_, _], [_], _, _ => ⟨_, rfl, rfl⟩)
    cases r
    exact b
  · exact D.binds1 (ps := ["self", "value"]) 1 0 (by simp) rfl (fun T kV doc pm an cdv ct us its h1 h2 => match us, its, h1, h2 with | [_], [_], _, _ => ⟨_, rfl, rfl⟩)
  · obtain ⟨its, b⟩ := D.kbindsD (ps := ["self", "value"]) 1 ["value"] (fun us _ ws => us ++ ws) (by simp) (fun r1 _ r3 => r1.append r3) (fun T kV doc pm an cdv ct us its ws h1 h2 h3 => match us, its, ws, h1, h2, h3 with | [_], [_], [_], _, _, _ => ⟨_, rfl, rfl⟩)
    exact b
end G1

namespace G1
open PySem PySem.Spec PyProof.Rows L2
/-! a caught exception kept as a value -/
/-- at a: an exception of the class at C whose own dict stands at d -/
def exq (a C d : Addr) : HO := .ext fun h => ∃ oe vs, h.get? a = some oe ∧ oe.cls = Value.ref C ∧ oe.dict = some d ∧ oe.data = Data.fields vs
theorem exq_ok {P : Program} {w : World} {H : Hp} {h : Heap} {a C d : Addr} {oe : Obj} {vs : Array Value} (e : h.get? a = some oe) (c : oe.cls = .ref C) (k : oe.dict = some d) (f : oe.data = .fields vs) : ObjOk P w H h a (exq a C d) :=
  ⟨⟨oe, vs, e, c, k, f⟩, ⟨oe, e⟩, fun _ _ ⟨o1, v1, e1, r⟩ k1 => ⟨o1, v1, k1 _ e1, r⟩⟩
theorem exq_at {P : Program} {w : World} {H : Hp} {h : Heap} {a C d : Addr} (hok : HOk P w H h) (e : H a = some (exq a C d)) : ∃ oe vs, h.get? a = some oe ∧ oe.cls = .ref C ∧ oe.dict = some d ∧ oe.data = .fields vs := by
  have x : ObjOk P w H h a (.ext fun h => ∃ oe vs, h.get? a = some oe ∧ oe.cls = Value.ref C ∧ oe.dict = some d ∧ oe.data = Data.fields vs) := hok a _ e
  exact x.1
section
variable {X : Cx} {pins : List (Addr × Obj)} {σ : L2.St} {H : Hp} {s : Shared}
/-- an object of ours that nothing tells of is told of -/
theorem track {a : Addr} {o : HO} (I : Inv X pins σ H s) (n0 : X.s_0.heap.get? a = none) (na : H a = none) (nL : a ≠ X.env.locals) (nC : ∀ x c, X.env.cells.lookup x = some c → c ≠ a) (np : ∀ p ∈ X.pn ++ pins, p.1 ≠ a)
    (ob : ObjOk X.prog X.w (upd H a o) s.heap a o) : Inv X pins σ (upd H a o) s where
  ok := I.ok
  os := I.os
  bare := I.bare
  base := {
    keep := I.base.keep
    slot := I.base.slot
    free := fun b u e n x => by
      have q : b ≠ a := fun z => by rw [z, n0] at e; cases e
      rw [upd_ne q]; exact I.base.free b u e n x
    there := I.base.there
    tups := fun b xs e => by rw [upd_ne (ne_none (I.base.tups b xs e) na)]; exact I.base.tups b xs e
    frzs := fun b u v e => by rw [upd_ne (ne_none (I.base.frzs b u v e) na)]; exact I.base.frzs b u v e
    tbls := fun b ps e => by
      obtain ⟨m, q⟩ := I.base.tbls b ps e
      exact ⟨m, by rw [upd_ne (ne_none q na)]; exact q⟩ }
  loc := I.loc
  cell := I.cell
  free := by rw [upd_ne (Ne.symm nL)]; exact I.free
  freeC := fun x c e => by rw [upd_ne (nC x c e)]; exact I.freeC x c e
  pin := fun p hp => by
    obtain ⟨h1, h2, h3⟩ := I.pin p hp
    exact ⟨h1, by rw [upd_ne (np p hp)]; exact h2, h3⟩
  hok := fun b u e => by
    by_cases q : b = a
    · subst q; rw [upd_same] at e; cases e; exact ob
    · rw [upd_ne q] at e
      exact (I.hok b u e).stay (fun _ _ _ z => z) (fun c z => by rw [upd_ne (ne_none z na)]; exact z) (fun c xs z => by rw [upd_ne (ne_none z na)]; exact z)
  len := I.len
end
/-- the wish of «except x as n: y = n»: the exception is kept -/
def wKeep (K : PySem.W.Frag) (c : Value) (i j : Nat) (D : Ends) : WX := fun cls d σ H =>
  PySem.W.exmOne K cls c = some true ∧ ∃ C dd, cls = .ref C ∧ d = some dd ∧ ∀ a, H a = none → D.nx ((((σ.set i (some (.ref a))).set j (some (.ref a)))).set i none) (upd H a (exq a C dd))
section
variable {X : Cx} {x n y : Str} {c : Value} {i j : Nat} {body : List Stmt} {np pos pos' ep yp ap : Pos} {tb : WX → TS}
theorem ps_try_keep (hs : X.stack = X.env :: X.outer) (hf : X.env.frame = some X.env.locals) (hex : X.ex = []) (hN : X.N.Nodup) (hi : X.N[i]? = some n) (hln : X.env.kindOf n = some .local) (hj : X.N[j]? = some y) (hly : Loc X.env.scope y) (hc : Names X x c)
    (hb : ∀ (W : WX) (pn : List (Addr × Obj)) (xe : Value → Shared → Prop), Takes (X.tr pn xe) W → PassesOwn (model X.prog X.w) X.A X.env xe → PSs (X.tr pn xe) body (tb W))
    (hsu : ∀ (a : Addr) (oe : Obj) (cls : Value) (d : Option Addr) (pn : List (Addr × Obj)), Zc cls d oe → (∃ vs, oe.data = .fields vs) → PSs (X.suite a ((a, oe) :: pn)) [.Assign [.Name y yp] (.Name n ep) ap] (tAsg (tVar i) (gName j))) :
    PS X (.Try body [.ExceptHandler (some (.Name x np)) (some n) [.Assign [.Name y yp] (.Name n ep) ap] pos'] [] [] pos) (fun D σ H => tb (wKeep X.K c i j D) D σ H) := by
  constructor
  intro pins s σ H D I h
  have ok := I.ok
  have hfr : X.A.frames = some (X.env :: X.outer) := ok.frames.trans (congrArg some hs)
  apply wpAny_Try_except
  apply wpAny_mono ((hb (wKeep X.K c i j D) (X.pn ++ pins) (fun e s₁ => wpAny (model X.prog X.w) X.A (noteFrame e X.env) (fun _ s₂ => wpAny (model X.prog X.w) X.A (setFlight e none) (fun _ s₃ =>
    wpAny (model X.prog X.w) X.A (handleBy e X.env [.ExceptHandler (some (.Name x np)) (some n) [.Assign [.Name y yp] (.Name n ep) ap] pos']) (SP X pins D) X.xe s₃) X.xe s₂) X.xe s₁) ?_ PassesOwn.looking).run [] s σ H D (I.toTry _) h) ?_ (fun _ _ z => z)
  · rintro u s' ⟨a, B, sI, pins', σ', H', cls, d, rfl, J', nb, up, sky, na, os, ag, hb1, C, dd, rfl, rfl, hyes⟩
    have J : Inv X pins σ' H' sI := J'.ofTry ok
    have sky' : Sky B (X.env :: X.outer) a (Zc (.ref C) (some dd)) X.env.locals s'.heap := hs ▸ sky
    apply Sky.land Zc.steady hfr hf sky'
    intro h3 fl3 up3
    have J3 : Inv X pins σ' H' { s' with heap := h3 } := J.landed nb fl3.1 (up.trans up3) os ag
    obtain ⟨oe3, vs3, he3, hz3, hd3⟩ := fl3.there
    have nfr : a ∉ frs (X.env :: X.outer) := fun hm => by
      obtain ⟨_, o', e', hnf⟩ := fl3.2.2.1.mem hm
      rw [he3] at e'; cases e'; exact hnf _ hd3
    have nL : a ≠ X.env.locals := fun z => nfr (List.mem_filterMap.mpr ⟨X.env, List.mem_cons_self, hf.trans (congrArg some z.symm)⟩)
    have nF : a ∉ X.fs := fun hm => by
      obtain ⟨e, he, q⟩ := List.mem_filterMap.mp hm
      exact nfr (List.mem_filterMap.mpr ⟨e, List.mem_cons_of_mem _ he, q⟩)
    have naI : sI.heap.get? a = none := by
      cases q : sI.heap.get? a with
      | none => rfl
      | some o => exact absurd (fl3.2.1 ▸ nb a o q (hs ▸ nfr)) (by intro z; cases z)
    have n0 : X.s_0.heap.get? a = none := by
      cases q : X.s_0.heap.get? a with
      | none => rfl
      | some o =>
        obtain ⟨o', q'⟩ := J.base.there a o q (by rw [hex]; exact fun z => nomatch z)
        rw [naI] at q'; cases q'
    have nC : ∀ x c, X.env.cells.lookup x = some c → c ≠ a := fun x c e z => by
      obtain ⟨v, o, ho, _⟩ := J.cell x c e
      rw [z, naI] at ho; cases ho
    have np' : ∀ p ∈ X.pn ++ pins, p.1 ≠ a := fun p hp z => by
      have q := (J.pin p hp).1
      rw [z, naI] at q; cases q
    have S3 := J3.suite he3 hd3 na nL nF
    apply wpAny_handleBy_cons (codeAny_handlers_test ?_) (by intro q; cases q)
    have LT : PySem.W.Looks (model X.prog X.w) h3 (typeOf (.ref a)) (.ref C) := fun A Q E s k q => wpAny_typeOf_ref (k _ _ he3) (by rw [hz3.1]; exact q)
    have LM := PySem.W.exm_one (M := model X.prog X.w) (J3.kIn) LT hb1
    have test : ∀ {Q : Value → Shared → Prop} {E : Value → Shared → Prop}, Q c { s' with heap := h3 } → wpAny (model X.prog X.w) (X.A.mark (some (.ref a))) (eval (.Name x np) X.env) Q E { s' with heap := h3 } := fun {Q E} q => by
      rcases hc with ⟨hg, hdbg, hm | ⟨hm, hv, hnn⟩⟩
      · exact ld_glob (X := X.suite a ((a, oe3) :: (X.pn ++ pins))) S3 hg hm q hdbg
      · exact ld_blt (X := X.suite a ((a, oe3) :: (X.pn ++ pins))) S3 hg hm hv q hnn hdbg
    apply test
    apply LM.here
    apply codeAny_handlers_suite_as
    apply HandSPX.lands_againZ fl3
    intro h4 fl4 up4
    have J4 : Inv X pins σ' H' { s' with heap := h4 } := J.landed nb fl4.1 ((up.trans up3).trans up4) os ag
    obtain ⟨oe4, vs4, he4, hz4, hd4⟩ := fl4.there
    have S4 := J4.suite he4 hd4 na nL nF
    apply store_ok (X := X.suite a ((a, oe4) :: (X.pn ++ pins))) (v := .ref a) S4 hN hi (.inl hln) rfl ?_ (.inr hln)
    intro s5 S5
    have hσ : i < σ'.length := by rw [S4.len]; exact (List.getElem?_eq_some_iff.mp hi).1
    apply wpAny_mono ((hsu a oe4 (.ref C) (some dd) (X.pn ++ pins) hz4 ⟨_, hd4⟩).run [] s5 _ H' { nx := fun σ6 H6 => σ6 = (σ'.set i (some (.ref a))).set j (some (.ref a)) ∧ H6 = H', rt := fun _ _ => False } S5 ⟨.ref a, by rw [List.getElem?_set_self hσ], rfl, rfl⟩) ?_ (fun _ _ z => False.elim z)
    intro f s6 hsp
    cases f with
    | next =>
      obtain ⟨σ6, H6, S6, rfl, rfl⟩ := hsp
      have pa := (S6.pin (a, oe4) (List.mem_append_left _ List.mem_cons_self)).1
      have J6 := track (o := exq a C dd) (S6.unsuite ok) n0 na nL nC np' (exq_ok pa hz4.1 hz4.2 hd4)
      exact gone_ok J6 hN hi hln fun s7 J7 => ⟨_, _, J7, hyes a na⟩
    | brk =>
      obtain ⟨_, _, _, z⟩ := hsp
      exact z.elim
    | cont =>
      obtain ⟨_, _, _, z⟩ := hsp
      exact z.elim
    | ret u =>
      obtain ⟨_, _, _, _, _, z⟩ := hsp
      exact z.elim
  · intro f s1 hsp
    cases f with
    | next => exact wpAny_execs_nil (let ⟨a1, a2, a3, a4⟩ := hsp; ⟨a1, a2, a3.ofTry ok, a4⟩)
    | brk => exact (let ⟨a1, a2, a3, a4⟩ := hsp; ⟨a1, a2, a3.ofTry ok, a4⟩)
    | cont => exact (let ⟨a1, a2, a3, a4⟩ := hsp; ⟨a1, a2, a3.ofTry ok, a4⟩)
    | ret u => exact (let ⟨a1, a2, a3, a4, a5, a6⟩ := hsp; ⟨a1, a2, a3, a4.ofTry ok, a5, a6⟩)
end
end G1

namespace G1
open PySem PySem.Spec PyProof.Rows L2
section
variable {X : Cx} {es : List Expr} {ta : TA} {e : Expr} {te : TE}
/-- a reading may be asked more -/
theorem pa_up (ha : PA X es ta) : PA X es (fun σ H Q => ∃ Q0, ta σ H Q0 ∧ ∀ vs H1, Q0 vs H1 → Q vs H1) :=
  ⟨fun pos pins s σ H Q I ⟨Q0, h, k⟩ => thn (ha.run pos pins s σ H Q0 I h) fun us s1 ⟨vs, H1, I1, r, q⟩ => ⟨vs, H1, I1, r, k vs H1 q⟩⟩
theorem pe_up (ha : PE X e te) : PE X e (fun σ H Q => ∃ Q0, te σ H Q0 ∧ ∀ v H1, Q0 v H1 → Q v H1) :=
  ⟨fun pins s σ H Q I ⟨Q0, h, k⟩ => thn (ha.run pins s σ H Q0 I h) fun u s1 ⟨v, H1, I1, r, q⟩ => ⟨v, H1, I1, r, k v H1 q⟩⟩
end
/-- what is told of a raised exception: its class, its own dict with the field -/
def Raised (C : Addr) (v : V) (H : Hp) (E : XK) : Prop := ∀ d H', Same H H' → H d = none → H' d = some (.xd [(("value" : Str), v)]) → E (.ref C) (some d) H'
section
variable {X : Cx} {x : Str} {C : Addr} {p pos : Pos} {e : Expr} {ta : TA}
def tMkR (C : Addr) (ta : TA) : L2.St → Hp → XK → Prop := fun σ H Q => ta σ H fun vs H1 => ∃ v, vs = [v] ∧ Raised C v H1 Q
theorem pmk_x (T : XOk X.prog X.w X.K X.mg X.base x C) (hr : Room 2 X.A) (hg : Gl X x) (ha : PA X [e] ta) (hdb : (x == ("__debug__" : Str)) = false := by decide)
    (hs : starEach (e :: []) X.env = (false, eval e X.env) :: starEach [] X.env := by rfl) (hpl : (backTo pos (starEach [] X.env)).any (·.1) = false := by rfl) : PMk X (.Call (.Name x p) [e] [] pos) (tMkR C ta) := by
  obtain ⟨fI, fd, iC, tI, F, b0, _, _⟩ := T.ini
  have z := pmk_oex (dvs := []) (p := p) T.xc.ox iC tI F hr b0 .nil pass0 hg T.g (pa_up ha) hdb hs hpl
  intro pins s σ H Q I h
  refine z pins s σ H Q I ⟨_, h, ?_⟩
  rintro vs H1 ⟨v, rfl, r⟩
  refine ⟨by show 1 ≤ 1000; decide, fun a na => ⟨a, v, rfl, upd_same, fun dx nd ne => ⟨rfl, dx, [(("value" : Str), v)], upd_same, ?_, ?_, ?_⟩⟩⟩
  · rw [upd_ne ne, upd_same]
  · rw [upd_ne ne] at nd
    exact nd
  · rw [upd_ne ne] at nd
    refine r dx _ (fun b o q => ?_) nd upd_same
    have n1 : b ≠ dx := ne_none q nd
    have n2 : b ≠ a := ne_none q na
    rw [upd_ne n1, del_ne n2, upd_ne n2, upd_ne n1, upd_ne n2]
    exact q
/-- raise C(e) in a def that may raise -/
theorem ps_raiseX {W : WX} {pos2 : Pos} (hc : X.calm = true) (tk : Takes X W) (T : XOk X.prog X.w X.K X.mg X.base x C) (hr : Room 2 X.A) (hg : Gl X x) (ha : PA X [e] ta) (hdb : (x == ("__debug__" : Str)) = false := by decide)
    (hs : starEach (e :: []) X.env = (false, eval e X.env) :: starEach [] X.env := by rfl) (hpl : (backTo pos (starEach [] X.env)).any (·.1) = false := by rfl) :
    PS X (.Raise (some (.Call (.Name x p) [e] [] pos)) none pos2) (fun _ σ H => tMkR C ta σ H fun cls d H' => W cls d σ H') := ps_raise hc tk (pmk_x T hr hg ha hdb hs hpl)
end
/-- a def that may raise, under its name -/
def OkX (P : Program) (w : World) (K : PySem.W.Frag) (mg : Str → Option Value) (base : Heap) (k : Nat) (x : Str) (ps : List Str) (sp : Sp) : Prop :=
  ∃ f fd, FnOk P w K mg base (L2.CX P w) k f fd ps sp ∧ mg x = some (.ref f) ∧ PySem.W.keepIn K (.ref f) = true ∧ L2.Binds K fd ps []
section
variable {P : Program} {w : World} {K : PySem.W.Frag} {mg : Str → Option Value} {base : Heap} {x : Str} {st : Stmt} {N ps : List Str} {k : Nat} {sp : Sp}
theorem okx (S : Src K mg x st) (F : ∀ f fd, Fun K x x st f fd → FnOk P w K mg base (L2.CX P w) k f fd ps sp)
    (h : ∀ (kV doc pm : Value) (an : Option Addr) (cdv ct : Value) (us : List Value), us.length = ps.length → bindArgs (PySem.W.fnOf x x (defArgs st) (defBody st) (defScope st) .none kV doc pm an cdv ct) ⟨us, []⟩ = pure (ps.zip us)) : OkX P w K mg base k x ps sp := by
  obtain ⟨f, fd, F1, g⟩ := S
  exact ⟨f, fd, F f fd F1, g, F1.kp, F1.binds h⟩
end
section
variable {X : Cx} {k j : Nat} {x : Str} {ps : List Str} {sp : Sp} {p pos : Pos} {e : Expr} {es : List Expr} {t : TA} {W : WX}
/-- a call of a def that may raise: W is what is wanted of its exception -/
def tCallX (sp : Sp) (W : WX) (t : TA) : TE := fun σ H Q => t σ H fun vs H1 => sp vs H1 Q (fun cls d H' => W cls d σ H')
theorem pe_callX (tk : Takes X W) (C : OkX X.prog X.w X.K X.mg X.base k x ps sp) (hr : Room k X.A) (hg : Gl X x) (ha : PA X (e :: es) t)
    (hdb : (x == ("__debug__" : Str)) = false := by decide) (he : starEach (e :: es) X.env = (false, eval e X.env) :: starEach es X.env := by rfl) (hpl : (backTo pos (starEach es X.env)).any (·.1) = false := by rfl) :
    PE X (.Call (.Name x p) (e :: es) [] pos) (tCallX sp W t) := by
  obtain ⟨f, fd, F, hm, hk, hb⟩ := C
  exact pe_callS F hr hg hm hk hb (E := WE W) (fun σ => passAt tk σ) ha hdb he hpl
end
end G1

namespace G1
open PySem PySem.Spec PyProof.Rows L2
/-! a def's promise where no repr runs around it -/
structure FnG (P : Program) (w : World) (K : PySem.W.Frag) (mg : Str → Option Value) (base : Heap) (CX : CXT) (k : Nat) (f : Addr) (fd : FuncData) (ps : List Str) (sp : Sp) : Prop where
  len : ∀ vs H Q E, sp vs H Q E → vs.length = ps.length
  run : ∀ (A : Around) (outer : List Env) (s : Shared) (H : Hp) (args : Args) (us : List Value) (vs : List V) (Q : VK) (E : XK), A.guards = some [] → Room k A → Env0 P w K mg base A outer s H → BindsTo s fd args (ps.zip us) → Vals vs us → sp vs H Q E →
    codeAny (model P w) A (.call (.ref f) args) (CR CX outer P w H s Q E) s
theorem fng_of {CX : CXT} {P : Program} {w : World} {K : PySem.W.Frag} {mg : Str → Option Value} {base : Heap} {k : Nat} {f : Addr} {x qual : Str} {st : Stmt} {fd : FuncData} {N ps : List Str} {sp : Sp} (F : Fun K x qual st f fd) (S : FnScope N ps (defScope st))
    (len : ∀ vs H Q E, sp vs H Q E → vs.length = ps.length)
    (hbody : ∀ (cdv : Value) (A : Around) (outer : List Env) (s : Shared) (H : Hp) (vs : List V) (Q : VK) (E : XK), A.guards = some [] → Room k (A.deeper (envOfC qual (defScope st) s.heap.objs.size f cdv)) → sp vs H Q E →
      ∃ t, PSs (cxOf CX P w K mg base N qual (defScope st) f cdv A outer s H E) (defBody st) t ∧ t { nx := fun _ H' => Q .non H', rt := Q } (start N vs) H) : FnG P w K mg base CX (k + 1) f fd ps sp where
  len := len
  run := by
    intro A outer s H args us vs Q E hg hr e0 hb r hsp
    obtain ⟨oc, od, kV, doc, pm, an, cdv, ct, osl, rfl, lk, hcd⟩ := F.ex
    have KX : K.In s.heap := e0.mod.kin.keeps fun b o e => (e0.bs b o e).1
    apply codeAny_call_function hr.depth (KX _ _ lk) rfl S.co S.gen rfl (PySem.W.codeRec_of KX hcd) (hb _ _ _ _ ?_)
    apply wpAny_newFunctionEnv_cells S.kind
    · rintro ⟨n, v⟩ hy
      rcases S.par n (List.of_mem_zip hy).1 with q | q
      · exact Or.inl q
      · exact Or.inr ⟨q, PySem.W.cellsFrom_some _ _ _ (Or.inl q)⟩
    rintro env rfl s1 x
    constructor
    · exact (e0.mod.nolimit.keeps fun b o e => (e0.bs b o e).1).keeps x.toInCall.keep
    apply codeAny_func
    obtain ⟨t, ht, hq⟩ := hbody cdv A outer s H vs Q E hg (hr.deeper _) hsp
    apply wpAny_mono (ht.run [] s1 (start N vs) H _ (inv_start S hr.hd e0 (len _ _ _ _ hsp) r x) hq) ?_ (fun _ _ z => z)
    rintro (_ | _ | _ | u) s' hs
    · exact let ⟨_, H', J, q⟩ := hs; ⟨V.non, H', J.os, J.bare, J.base, J.hok, rfl, q⟩
    · exact let ⟨_, _, _, q⟩ := hs; q.elim
    · exact let ⟨_, _, _, q⟩ := hs; q.elim
    · exact let ⟨v, _, H', J, rv, q⟩ := hs; ⟨v, H', J.os, J.bare, J.base, J.hok, rv, q⟩
end G1
namespace G1
open PySem PySem.Spec PyProof.Rows L2
def OkG (P : Program) (w : World) (K : PySem.W.Frag) (mg : Str → Option Value) (base : Heap) (k : Nat) (x : Str) (ps : List Str) (sp : Sp) : Prop :=
  ∃ f fd, FnG P w K mg base CX0 k f fd ps sp ∧ mg x = some (.ref f) ∧ PySem.W.keepIn K (.ref f) = true ∧ L2.Binds K fd ps []
theorem okg {P : Program} {w : World} {K : PySem.W.Frag} {mg : Str → Option Value} {base : Heap} {x : Str} {st : Stmt} {ps : List Str} {k : Nat} {sp : Sp} (S : Src K mg x st) (F : ∀ f fd, Fun K x x st f fd → FnG P w K mg base CX0 k f fd ps sp)
    (h : ∀ (kV doc pm : Value) (an : Option Addr) (cdv ct : Value) (us : List Value), us.length = ps.length → bindArgs (PySem.W.fnOf x x (defArgs st) (defBody st) (defScope st) .none kV doc pm an cdv ct) ⟨us, []⟩ = pure (ps.zip us)) : OkG P w K mg base k x ps sp :=
  let ⟨f, fd, F1, g⟩ := S
  ⟨f, fd, F f fd F1, g, F1.kp, F1.binds h⟩
section
variable {X : Cx} {k : Nat} {x : Str} {ps : List Str} {sp : Sp} {p pos : Pos} {e : Expr} {es : List Expr} {t : TA}
theorem pe_callG (hgd : X.A.guards = some []) (C : OkG X.prog X.w X.K X.mg X.base k x ps sp) (hr : Room k X.A) (hg : Gl X x) (ha : PA X (e :: es) t)
    (hdb : (x == ("__debug__" : Str)) = false := by decide) (he : starEach (e :: es) X.env = (false, eval e X.env) :: starEach es X.env := by rfl) (hpl : (backTo pos (starEach es X.env)).any (·.1) = false := by rfl) :
    PE X (.Call (.Name x p) (e :: es) [] pos) (tCallO sp t) := by
  obtain ⟨f, fd, F, hm, hk, hb⟩ := C
  constructor
  intro pins s σ H Q I h
  apply wpAny_Call_Name_kw (ld_glob I hg hm ?_ hdb)
  apply PySem.W.callWith_K (h₀ := X.base) I.ok.mod.kin hk (thn (ha.run pos pins s σ H _ I h) ?_) he hpl
  rintro us s1 ⟨vs, H1, I1, r, q⟩
  refine ⟨I1.kIn, ?_⟩
  have hl : us.length = ps.length := by rw [← r.length]; exact F.len _ _ _ _ q
  have b := hb s1 us I1.kIn (by rw [List.append_nil]; exact hl)
  rw [List.append_nil] at b
  apply wpAny_call (codeAny_mono (F.run X.A X.stack s1 H1 ⟨us, []⟩ us vs Q _ hgd hr I1.env0 b r q) ?_)
  rintro (er | (_ | _ | _ | u)) s' z
  · exact pass0 pins σ H1 s1 er s' I1 z
  · exact z.elim
  · exact z.elim
  · exact z.elim
  · exact I1.after z
end
/-! repr of data -/
mutual
/-- a value that stands for data: what is tracked alone, empty dicts too -/
inductive De (K : PySem.W.Frag) (H : Hp) : V → PyData → Prop
  | non : De K H .non .none
  | bl (b : Bool) : De K H (.bl b) (.bool b)
  | int (i : Int) : De K H (.int i) (.int i)
  | str (x : Str) : De K H (.str x) (.str x)
  | lst {a : Addr} {xs : List V} {ds : List PyData} : H a = some (.lst xs) → DeAll K H xs ds → De K H (.ref a) (.list ds)
  | tup {a : Addr} {xs : List V} {ds : List PyData} : H a = some (.tup xs) → DeAll K H xs ds → De K H (.ref a) (.tuple ds)
  | dic {a : Addr} : H a = some (.dK []) → De K H (.ref a) (.dict [])
inductive DeAll (K : PySem.W.Frag) (H : Hp) : List V → List PyData → Prop
  | nil : DeAll K H [] []
  | cons {v : V} {vs : List V} {d : PyData} {ds : List PyData} : De K H v d → DeAll K H vs ds → DeAll K H (v :: vs) (d :: ds)
end
section
variable {X : Cx} {pins : List (Addr × Obj)} {σ : L2.St} {H : Hp} {s : Shared}
mutual
theorem De.reads (I : Inv X pins σ H s) : ∀ (d : PyData) (v : V) (u : Value), De X.K H v d → RelV v u → ∃ as, Reads s.heap u d as ∧ ∀ a ∈ as, H a ≠ none
  | .none, _, _, h, r => by
    cases h
    cases r
    exact ⟨_, Reads.none, fun _ z => nomatch z⟩
  | .bool b, _, _, h, r => by
    cases h
    cases r
    exact ⟨_, Reads.bool b, fun _ z => nomatch z⟩
  | .int i, _, _, h, r => by
    cases h
    obtain ⟨t, rfl⟩ := r
    exact ⟨_, Reads.int i t, fun _ z => nomatch z⟩
  | .str x, _, _, h, r => by
    cases h
    obtain ⟨t, rfl⟩ := r
    exact ⟨_, Reads.str x t, fun _ z => nomatch z⟩
  | .list ds, _, _, h, r => by
    cases h with
    | lst hs ha =>
      cases r
      obtain ⟨its, rv, ⟨o, n, ho, hc, _, hd⟩, _⟩ := I.list (SqL.of hs)
      obtain ⟨as, hr, hn⟩ := De.readsAll I ds _ its ha rv
      refine ⟨_, Reads.list ho hc hd hr, fun b hb => ?_⟩
      rcases List.mem_cons.mp hb with rfl | hb
      · rw [hs]
        exact fun z => nomatch z
      · exact hn b hb
  | .tuple ds, _, _, h, r => by
    cases h with
    | tup hs ha =>
      cases r
      obtain ⟨its, rv, ⟨o, ho, hc, n, hd⟩, _⟩ := I.tuple (SqT.of hs)
      obtain ⟨as, hr, hn⟩ := De.readsAll I ds _ its ha rv
      exact ⟨_, Reads.tuple ho hc hd hr, hn⟩
  | .dict kvs, _, _, h, r => by
    cases h with
    | @dic a hs =>
      cases r
      obtain ⟨_, _, vs, hkv, o, es, ep, ho, hx, hd, _, hp, _⟩ := dk_of I.hok hs
      cases hkv
      have he : es.toList = [] := by
        cases e : es.toList with
        | nil => rfl
        | cons x y => rw [e] at hp; cases hp
      refine ⟨_, Reads.dict ho hx.1 hd (by rw [he]; exact ReadsAll.nil) (by rw [he]; exact ReadsAll.nil), fun b hb => ?_⟩
      have : b = a := by simpa using hb
      rw [this, hs]
      exact fun z => nomatch z
theorem De.readsAll (I : Inv X pins σ H s) : ∀ (ds : List PyData) (vs : List V) (us : List Value), DeAll X.K H vs ds → Vals vs us → ∃ as, ReadsAll s.heap us ds as ∧ ∀ a ∈ as, H a ≠ none
  | [], _, _, h, r => by
    cases h
    cases r
    exact ⟨_, ReadsAll.nil, fun _ z => nomatch z⟩
  | d :: ds, _, _, h, r => by
    cases h with
    | cons h1 h2 =>
      cases r with
      | cons r1 r2 =>
        obtain ⟨as, q1, n1⟩ := De.reads I d _ _ h1 r1
        obtain ⟨bs, q2, n2⟩ := De.readsAll I ds _ _ h2 r2
        exact ⟨_, ReadsAll.cons q1 q2, fun b hb => (List.mem_append.mp hb).elim (n1 b) (n2 b)⟩
end
end
/-- what is asked of a value that repr shows -/
def Shows (K : PySem.W.Frag) (H : Hp) (v : V) (d : PyData) : Prop := De K H v d ∧ d.showable = true ∧ d.depth ≤ 60 ∧ d.shown.length ≤ sizeLine ∧ (d.hasDict = true → d = .dict [])
def rRepr (K : PySem.W.Frag) : List V → Hp → VK → Prop := fun vs H Q => ∃ v d, vs = [v] ∧ Shows K H v d ∧ Q (.str d.shown) H
theorem call_repr {X : Cx} (K : PySem.W.Frag) (hK : X.K = K) (hgd : X.A.guards = some []) (hu : X.A.units + 64 < cLine) : CallR X (.builtin "repr") (rRepr K) := by
  subst hK
  intro pins s σ H xs us Q I r h
  obtain ⟨v, d, rfl, ⟨hd, h1, h2, h3, h4⟩, q⟩ := h
  obtain ⟨u, rfl, rv⟩ := vals1 r
  obtain ⟨as, rd, hn⟩ := De.reads I d v u hd rv
  have hsm : d.hasDict = true → sysModules ∉ as := fun hh => by
    have e := h4 hh
    subst e
    cases hd with
    | @dic a hs =>
      cases rv
      obtain ⟨_, hne, _⟩ := dk_of I.hok hs
      cases rd with
      | @dict _ _ _ _ _ as1 bs1 g1 g2 g3 g4 g5 =>
        have key : ∀ (vs : List Value) (as : List Addr), ReadsAll s.heap vs [] as → as = [] := by
          intro vs as h
          cases h
          rfl
        have n1 := key _ _ g4
        have n2 := key _ _ g5
        subst n1
        subst n2
        intro z
        have : sysModules = a := by simpa using z
        rw [this] at hne
        simp at hne
  by_cases hr : ∃ a, u = .ref a
  · obtain ⟨a, rfl⟩ := hr
    exact repr_of_reads' rd h1 hsm hgd (by omega) (fun _ _ e => e) (fun h' u tk k => ⟨.str _, H, I.kept k, ⟨_, rfl⟩, q⟩) h3
  · cases rd with
    | none => exact PySem.P.repr_of_none ⟨.str _, H, I.tok _, ⟨_, rfl⟩, q⟩
    | bool b => (cases b <;> exact PySem.P.repr_of_bool ⟨.str _, H, I.tok _, ⟨_, rfl⟩, q⟩)
    | int i t => exact PySem.P.repr_of_int (by simpa [PyData.showable] using h1) ⟨.str _, H, I.tok _, ⟨_, rfl⟩, q⟩
    | str x t => exact PySem.P.repr_of_str ⟨.str _, H, I.tok _, ⟨_, rfl⟩, q⟩ h3
    | list _ _ _ _ => exact absurd ⟨_, rfl⟩ hr
    | tuple _ _ _ _ => exact absurd ⟨_, rfl⟩ hr
    | dict _ _ _ _ _ => exact absurd ⟨_, rfl⟩ hr
end G1

namespace G1
open PySem PySem.Spec PyProof.Rows L2
/-- the law's call from the abstract heap H in which nothing but the script at a may be tracked -/
theorem callG_from {P : Program} {w : World} {K : PySem.W.Frag} {mg mb : Str → Option Value} {k : Nat} {fa a : Addr} {fd : FuncData} {x : Str} {sp : Sp} {s₁ : Shared} {o₁ : Obj} {H : Hp}
    (KX : K.In s₁.heap) (hns : s₁.heap.Ns mainGlobals mg) (hb : s₁.heap.Ns builtinsNs mb) (hbb : ∀ x : Str, x ≠ "__name__" → mb x = bootBuiltins x) (hlim : s₁.heap.NoLimit) (hg : s₁.gens = #[]) (ho : s₁.heap.get? a = some o₁) (hnd : ∀ es ep, o₁.data ≠ .dict es ep) (hr : Room k callerA)
    (F : ∀ base : Heap, K.In base → base.Ns mainGlobals mg → FnG P w K mg base CX0 k fa fd [x] sp) (hbind : ∀ (s : Shared) (u : Value), BindsTo s fd ⟨[u], []⟩ [(x, u)]) (hok : HOk P w H s₁.heap)
    (hA : ∀ b u, H b = some u → b = a ∧ ∃ xs, u = .frz o₁ (.lst xs)) (hK : ∀ u, H a = some u → K.lookup a = none) (hsp : sp [.ref a] H (fun v _ => v = .bl true) fun _ _ _ => False) :
    codeAny (model P w) callerA (.call (.ref fa) ⟨[.ref a], []⟩) (fun r s' => r = .ok (.ret (.bool true)) ∧ OldK s₁.heap s'.heap ∧ s'.os = s₁.os ∧ AllBare s'.gens) s₁ := by
  have free : ∀ {b : Addr} {o : Obj} {es : Array DictEntry} {ep : Nat}, s₁.heap.get? b = some o → o.data = .dict es ep → H b = none := by
    intro b o es ep e d
    cases q : H b with
    | none => rfl
    | some u =>
      rw [(hA b u q).1, ho] at e
      cases e
      exact absurd d (hnd _ _)
  have ns' : ∀ {b : Addr} {m : Str → Option Value}, s₁.heap.Ns b m → (hidT s₁.heap H).Ns b m := by
    rintro b m ⟨o, es, ep, e, d, r⟩
    exact ⟨o, es, ep, hidT_get e (free e d), d, r⟩
  have kin : K.In (hidT s₁.heap H) := by
    intro b o e
    apply hidT_get (KX b o e)
    cases q : H b with
    | none => rfl
    | some u =>
      rw [(hA b u q).1] at e q
      exact absurd ((hK u q).symm.trans e) (by intro z; cases z)
  have md : Mod K mg (hidT s₁.heap H) := ⟨kin, ns' hns, ⟨mb, ns' hb, hbb⟩, let ⟨mc, h1, h2⟩ := hlim; ⟨mc, ns' h1, h2⟩⟩
  have none0 : ∀ b : Addr, b ∉ frs [] := by
    intro b z
    cases z
  have e0 : Env0 P w K mg (hidT s₁.heap H) callerA [] s₁ H := ⟨rfl, md, fun b o e => of_hidT e, Nat.le_of_eq (hidT_size _ _), trivial, fun b z => absurd z (none0 b), hok, .of_eq hg⟩
  apply codeAny_mono ((F _ kin (ns' hns)).run callerA [] s₁ H ⟨[.ref a], []⟩ [.ref a] [.ref a] _ _ rfl hr e0 (hbind s₁ (.ref a)) (.cons rfl .nil) hsp)
  rintro (er | (_ | _ | _ | u)) s' z
  · exact z.elim
  · exact z.elim
  · exact z.elim
  · exact z.elim
  · obtain ⟨v, H', os, bare, un, hok', r', rfl⟩ := z
    cases r'
    refine ⟨rfl, OldK.of_keep ?_, os, bare⟩
    intro b o e
    cases q : H b with
    | none => exact un.keep b o e q (none0 b) (by simp)
    | some u =>
      obtain ⟨_, xs, rfl⟩ := hA b u q
      have e1 := (hok b _ q).1
      rw [e] at e1
      cases e1
      exact (hok' b _ (un.frzs b _ _ q)).1
theorem walk_ofG {l : PySem.W.OpenLaw} {n k : Nat} {q : Program} {loose : List Str} {XP : (Str → Option Value) → Heap → Prop} {YP : World → Heap → Prop} {d : DefRec} {K : Params → PySem.W.Frag} {sp : World → Sp} {x : Str}
    (hn : l.most = some n) (hn2 : n ≤ sizeLine) (hdf : d.params.defaults = []) (hr : Room k callerA) (hY : ∀ (w : World) (h : Heap), YP w h → (K w.params).In h)
    (F : ∀ (w : World) (mg : Str → Option Value) (fa : Addr) (h : Heap), (K w.params).In h → h.Ns mainGlobals mg → mg d.name = some (.ref fa) →
      ∃ fd : FuncData, (∀ (s : Shared) (u : Value), BindsTo s fd ⟨[u], []⟩ [(x, u)]) ∧ ∀ base : Heap, (K w.params).In base → base.Ns mainGlobals mg → FnG l.prog w (K w.params) mg base CX0 k fa fd [x] (sp w))
    (hsp : ∀ (w : World) (H : Hp) (a : Addr) (ns : List Int), ns.length ≤ n → SqL (K w.params) H a (ns.map V.int) → sp w [.ref a] H (fun v _ => v = .bl true) fun _ _ _ => False) :
    PySem.W.WalkO q loose XP YP l.row.toRowW d [] (fun f vs => PySem.call f vs) := by
  apply Att.attach_call hn hdf
  intro w s₀ s₁ mg mb fa o pm cd doc a vs ns G Y ho hd hcd hmg hobj hints hlen hg
  have KX := hY w _ Y
  obtain ⟨fd, hb, hF⟩ := F w mg fa _ KX G.T.g hmg
  have rv := vals_ints hints
  have lenV := hints.length
  have hl : ns.length ≤ sizeLine := Nat.le_trans hlen hn2
  cases hk : (K w.params).lookup a with
  | some o =>
    have e := KX a o hk
    rw [hobj] at e
    cases e
    apply callG_from KX G.T.g G.T.b G.T.builtins G.T.nolimit hg hobj (by intro _ _ z; cases z) hr hF hb (H := fun _ => none) (by intro b u z; cases z) (by intro b u z; cases z) (by intro u z; cases z)
    apply hsp w _ a ns hlen
    exact .inr ⟨_, vs.toArray, _, hk, rfl, rfl, rfl, by rw [List.size_toArray, lenV]; exact hl, by simpa using rv⟩
  | none =>
    have at_ : ∀ b u, (if b = a then some (HO.frz { cls := .type "list", data := .seq vs.toArray } (.lst (ns.map V.int))) else none) = some u → b = a ∧ u = .frz { cls := .type "list", data := .seq vs.toArray } (.lst (ns.map V.int)) := by
      intro b u z
      by_cases e : b = a
      · rw [if_pos e] at z
        exact ⟨e, (Option.some.inj z).symm⟩
      · rw [if_neg e] at z
        cases z
    apply callG_from KX G.T.g G.T.b G.T.builtins G.T.nolimit hg hobj (by intro _ _ z; cases z) hr hF hb (H := fun b => if b = a then some (.frz { cls := .type "list", data := .seq vs.toArray } (.lst (ns.map V.int))) else none)
    · intro b u z
      obtain ⟨rfl, rfl⟩ := at_ b u z
      exact ⟨hobj, by rw [List.length_map]; exact hl, vs, _, rv, hobj⟩
    · intro b u z
      obtain ⟨e, r⟩ := at_ b u z
      exact ⟨e, _, r⟩
    · intro u _
      exact hk
    · apply hsp w _ a ns hlen
      exact .inl (.inr ⟨{ cls := .type "list", data := .seq vs.toArray }, if_pos rfl⟩)
/-! a caught exception, read -/
/-- a caught exception that was kept, with its field -/
def XQ (H : Hp) (a C : Addr) (v : V) : Prop := ∃ d, H a = some (exq a C d) ∧ H d = some (.xd [(("value" : Str), v)])
theorem XQ.same {H H' : Hp} {a C : Addr} {v : V} (h : XQ H a C v) (s : Same H H') : XQ H' a C v := let ⟨d, h1, h2⟩ := h; ⟨d, s _ _ h1, s _ _ h2⟩
theorem XQ.inst {P : Program} {w : World} {H : Hp} {h : Heap} {a C : Addr} {v : V} (hok : HOk P w H h) (x : XQ H a C v) : ∃ ox od mA, PySem.W.InstAt h a ox C (some od) ∧ (∃ d, h.Ns1 d mA ∧ h.get? d = some od) ∧ ∀ f, RelO (List.lookup f [(("value" : Str), v)]) (mA f) := by
  obtain ⟨d, h1, h2⟩ := x
  obtain ⟨oe, vs, e1, e2, e3, e4⟩ := exq_at hok h1
  obtain ⟨mA, hns, hr⟩ := (show ObjOk P w H h d (.xd [(("value" : Str), v)]) from hok d _ h2)
  obtain ⟨od, es, ep, ho, hrest⟩ := id hns
  refine ⟨oe, od, mA, ⟨e1, e2, ?_, ?_⟩, ⟨d, hns, ho⟩, hr⟩
  · unfold PySem.W.notCls
    rw [e4]
  · rw [e3]
    exact ho
def rIsQ (K : PySem.W.Frag) : List V → Hp → VK → Prop := fun xs H Q => ∃ (a C : Addr) (v c : V) (u : Value) (b : Bool), xs = [.ref a, c] ∧ XQ H a C v ∧ XC K C ∧ ClsV c u ∧ PySem.W.kitOne K (.ref C) u = some b ∧ Q (.bl b) H
/-- isinstance of a kept exception, or of any value of a built-in kind -/
def rIsB (K : PySem.W.Frag) : List V → Hp → VK → Prop := fun xs H Q => rIsQ K xs H Q ∨ rIsi K xs H Q
section
variable {X : Cx}
theorem call_isB (K : PySem.W.Frag) (hK : X.K = K) : CallR X (.builtin "isinstance") (rIsB K) := by
  subst hK
  intro pins s σ H xs us Q I r h
  rcases h with ⟨a, C, v, c, u, b, rfl, hx, T, k, e, q⟩ | h
  · obtain ⟨u1, u2, rfl, r1, r2⟩ := vals2 r
    cases k.eq r2
    cases (show u1 = Value.ref a from r1)
    obtain ⟨ox, od, mA, J, _⟩ := hx.inst I.hok
    exact PySem.W.kia_one (PySem.W.kitx_exc T.isC T.ga T.gg T.ox.exC T.cc T.cn T.ct T.cm) I.kIn J e (fun z => nomatch z) fun tk => ⟨.bl b, H, I.tok tk, rfl, q⟩
  · exact call_isi pins s σ H xs us Q I r h
def tQv (K : PySem.W.Frag) (ta : TE) : TE := fun σ H Q => ta σ H fun x H1 => ∃ a C v, x = .ref a ∧ XQ H1 a C v ∧ XC K C ∧ Q v H1
theorem pe_qv (K : PySem.W.Frag) (hK : X.K = K) {e : Expr} {ta : TE} {pos : Pos} (he : PE X e ta) (hb : attributeBase e "value" X.env (eval e X.env) = eval e X.env := by rfl) : PE X (.Attribute e "value" pos) (tQv K ta) := by
  subst hK
  constructor
  intro pins s σ H Q I h
  apply attr_of hb
  apply thn (he.run pins s σ H _ I h)
  rintro u s1 ⟨x, H1, I1, rx, a, C, v, rfl, hx, T, q⟩
  cases rx
  obtain ⟨ox, od, mA, J, ⟨d, hns, hod⟩, hr⟩ := hx.inst I1.hok
  obtain ⟨od', ho, hl⟩ := lookIn_ns hns
  rw [hod] at ho
  cases ho
  have l : List.lookup ("value" : Str) [(("value" : Str), v)] = some v := by simp [List.lookup]
  obtain ⟨u, hu, ru⟩ := RelO.some_of (v := v) (o := mA "value") (by rw [← l]; exact hr "value")
  exact HandSPX.exc_get I1.kIn J T.ga T.gg T.ox.exC (PySem.W.findObj_own T.hd T.nv rfl (by rw [hl, hu])) (handed_of ru) ⟨v, H1, I1.tok _, ru, q⟩
end
end G1

namespace G1
open PySem PySem.Spec PyProof.Rows L2
/-! texts: swapcase, turned round, replace of a text put together -/
theorem ep_str {X : Cx} {pins : List (Addr × Obj)} {σ : L2.St} {Q : VK} {x : Str} {t : Tok} {H : Hp} {s : Shared} (I : L2.Inv X pins σ H s) (q : Q (.str x) H) : EP X pins σ Q (.str x t) s := ⟨.str x, H, I, ⟨t, rfl⟩, q⟩
theorem mt_swap {X : Cx} : MtR X "str.swapcase" fun x xs H Q => ∃ a, x = .str a ∧ xs = [] ∧ a.length ≤ 5592405 ∧ Q (.str (Txt.swapcase a)) H := by
  rintro pins s σ H x xs v us Q I r rs ⟨a, rfl, rfl, hl, q⟩
  cases rs
  obtain ⟨t, rfl⟩ := r
  exact SCL.swapcase hl fun _ => ep_str (I.tok _) q
/-- the text from its end -/
def revS (z : Str) : Str := ⟨z.cps.toList.reverse.toArray⟩
theorem rev_by (z : Str) (u : Tok) : Txt.sliceBy z none none (-1, u) = revS z := by
  have h := step_rev_list z u
  have e : (Txt.sliceBy z none none (-1, u)).cps = z.cps.toList.reverse.toArray := by
    apply Array.toList_inj.mp
    rw [h]
    have hz : z.length = z.cps.toList.length := by rw [Array.length_toList]; rfl
    apply List.ext_getElem
    · rw [List.length_map, List.length_range, List.toList_toArray, List.length_reverse, hz]
    · intro i h1 h2
      rw [List.length_map, List.length_range] at h1
      rw [List.getElem_map, List.getElem_range]
      simp only [List.getElem_reverse, List.toList_toArray]
      have hk : z.length - 1 - i < z.cps.size := by
        have : z.length = z.cps.size := rfl
        omega
      rw [Array.getD_eq_getD_getElem?, Array.getElem?_eq_getElem hk, Option.getD_some, ← Array.getElem_toList]
      congr 1
  unfold revS
  rw [← e]
theorem made_rev (z : Str) (t u : Tok) : sliceMade z t none none (some (-1, u)) = Made.str (revS z) := by
  rw [← rev_by z u]
  unfold sliceMade Txt.sliceBy
  simp
def tRevS (te : TE) : TE := fun σ H Q => te σ H fun x H1 => ∃ z, x = .str z ∧ z.length ≤ sizeLine ∧ Q (.str (revS z)) H1
theorem pe_revS {X : Cx} {e : Expr} {te : TE} {k : Nat} {p1 p2 p3 pos : Pos} (he : PE X e te) (hl : ∀ o r : Value, letTemporaryGo e o r = pure () := by intro _ _; rfl) :
    PE X (.Subscript e (.Slice none none (some (.UnaryOp .USub (.Constant (.int 1) k p1) p2)) p3) pos) (tRevS te) := by
  constructor
  intro pins s σ H Q I h
  refine wpAny_Subscript_Slice_step (T := "str") (id := "str.__getitem__") (by rfl) ?_ hl
  apply thn (he.run pins s σ H _ I h)
  rintro u s1 ⟨x, H1, I1, r, z, rfl, hzl, q⟩
  obtain ⟨t, rfl⟩ := r
  apply wpAny_Slice
  apply evalPart_none_step
  apply evalPart_none_step
  apply evalPart_some_step
  apply thn ((pe_un un_neg (pe_int (X := X) (i := 1))).run pins s1 σ H1 (fun v H2 => v = .int (-1) ∧ H2 = H1) I1 ⟨1, rfl, rfl, rfl⟩)
  rintro w s2 ⟨x2, H2, I2, r2, rfl, rfl⟩
  obtain ⟨t2, rfl⟩ := r2
  refine ⟨?_, ?_⟩
  · rfl
  apply wpAny_getItem_str_slice (l := none) (u := none) (st := some (-1, t2)) ⟨_, Heap.get?_push_size _ rfl, rfl, rfl⟩ rfl
  rw [made_rev]
  simp only [Made.post]
  exact ⟨by show (revS z).cps.size ≤ _; unfold revS; simp only [List.size_toArray, List.length_reverse, Array.length_toList]; exact hzl, ep_str ((I2.kept fun b o e => Heap.get?_push_of_some _ e)) q⟩
/-- name.upper(), and that something was made -/
theorem up_name {X : Cx} {i : Nat} {x c : Str} {p apos pos : Pos} {pins : List (Addr × Obj)} {s : Shared} {σ : L2.St} {H : Hp} {Q : Value → Shared → Prop} (hN : X.N[i]? = some x) (hv : Vis X.env.scope x) (I : L2.Inv X pins σ H s) (hσ : σ[i]? = some (some (.str c))) (hc : c.length ≤ 1000)
    (hd : (x == ("__debug__" : Str)) = false) (hcd : (x == ("__classdict__" : Str)) = false) (hat : attributeBase (.Name x p) "upper" X.env (eval (.Name x p) X.env) = eval (.Name x p) X.env) (hl : (apos.endLine == pos.line) = true)
    (k : ∀ t s', 1 ≤ s'.toks → L2.Inv X pins σ H s' → Q (.str (Txt.upper c) t) s') : wpAny (model X.prog X.w) X.A (eval (.Call (.Attribute (.Name x p) "upper" apos) [] [] pos) X.env) Q X.xe s := by
  apply wpAny_Call_method0_late hat hl
  refine L2.raw_name hN hv I hσ ?_ hd hcd
  rintro u ⟨t, rfl⟩
  refine ⟨"str", "str.upper", PySem.F.plainAttrs_str, PySem.F.slot_str_upper, PySem.F.type_str_upper, rfl, (fun _ e => nomatch e), ?_⟩
  refine PyProof.Rows.callWith_method0 (env := X.env) ?_
  refine SCL.upper (by omega) fun _ => ?_
  exact k _ _ (Nat.succ_le_succ (Nat.zero_le _)) (I.tok _)
/-- o.replace(a + b, "") where a is a sign and b its great one, or the other way about -/
def tRepU (ii : Nat) (fl : Bool) (to : TE) : TE := fun σ H Q => to σ H fun v H1 => ∃ z c, v = .str z ∧ σ[ii]? = some (some (.str c)) ∧ c.length = 1 ∧ (Txt.upper c).length = 1 ∧ z.length ≤ 10000 ∧ Q (.str (Txt.replace z (if fl then c ++ Txt.upper c else Txt.upper c ++ c) ⟨#[]⟩)) H1
theorem rep_tail {X : Cx} {pins : List (Addr × Obj)} {s : Shared} {σ : L2.St} {H : Hp} {Q : VK} {z y : Str} {t : Tok} {u : Nat} {j : Nat} {c0 : Pos} (I : L2.Inv X pins σ H s) (hu : 1 ≤ u) (hu2 : u < s.toks) (hy : y.length = 2) (hz : z.length ≤ 10000) (q : Q (.str (Txt.replace z y ⟨#[]⟩)) H) :
    wpAny (model X.prog X.w) X.A (eval (.Constant (.str ⟨#[]⟩) j c0) X.env) (fun v s1 => wpAny (model X.prog X.w) X.A (call (.builtin "str.replace") [.str z t, .str y u, v]) (EP X pins σ Q) X.xe s1) X.xe s := by
  apply wpAny_Constant_str
  refine SC.replace (u := u) (v := s.toks) (Nat.ne_of_gt hu) (Nat.ne_of_gt (Nat.lt_trans hu hu2)) (Nat.ne_of_lt hu2) ?_ ?_ fun t' k => ep_str ?_ q
  · cases e : y == (⟨#[]⟩ : Str) with
    | false => rfl
    | true =>
      have : y = ⟨#[]⟩ := by simpa using e
      rw [this] at hy
      cases hy
  · show z.length + (z.length + 1) * 0 ≤ _
    omega
  · exact (I.tok k)
theorem add_made {x y : Str} {t u : Tok} (h1 : x.length = 1) (h2 : y.length = 1) : (if (x.length == 0) = true then Made.val (Value.str y u) else if (y.length == 0) = true then Made.val (Value.str x t) else Made.str (x ++ y)) = Made.str (x ++ y) := by
  rw [h1, h2]
  rfl
theorem sz2 {x y : Str} (h1 : x.length = 1) (h2 : y.length = 1) : (x ++ y).cps.size = 2 := by
  show (x.cps ++ y.cps).size = 2
  rw [Array.size_append]
  have a : x.cps.size = 1 := h1
  have b : y.cps.size = 1 := h2
  omega
theorem pe_repU {X : Cx} {o : Expr} {to : TE} {ii : Nat} {x : Str} {j : Nat} {fl : Bool} {p1 p2 p3 p4 p5 c0 apos pos : Pos} (ho : PE X o to) (hN : X.N[ii]? = some x) (hv : Vis X.env.scope x)
    {e : Expr} (he0 : e = if fl then .BinOp (.Name x p1) .Add (.Call (.Attribute (.Name x p2) "upper" p3) [] [] p4) p5 else .BinOp (.Call (.Attribute (.Name x p2) "upper" p3) [] [] p4) .Add (.Name x p1) p5)
    (hd : (x == ("__debug__" : Str)) = false := by rfl) (hcd : (x == ("__classdict__" : Str)) = false := by rfl)
    (hat : attributeBase (.Name x p2) "upper" X.env (eval (.Name x p2) X.env) = eval (.Name x p2) X.env := by rfl) (hl : (p3.endLine == p4.line) = true := by rfl)
    (hat2 : attributeBase o "replace" X.env (eval o X.env) = eval o X.env := by rfl) (hl2 : (apos.endLine == pos.line) = true := by rfl)
    (hb : backTo pos (starEach [e, .Constant (.str ⟨#[]⟩) j c0] X.env) = [(false, eval e X.env), (false, eval (.Constant (.str ⟨#[]⟩) j c0) X.env)] := by rfl) (hs1 : starEach [e, .Constant (.str ⟨#[]⟩) j c0] X.env = (false, eval e X.env) :: starEach [.Constant (.str ⟨#[]⟩) j c0] X.env := by rfl)
    (hs : starEach [e, .Constant (.str ⟨#[]⟩) j c0] X.env = [(false, eval e X.env), (false, eval (.Constant (.str ⟨#[]⟩) j c0) X.env)] := by rfl) :
    PE X (.Call (.Attribute o "replace" apos) [e, .Constant (.str ⟨#[]⟩) j c0] [] pos) (tRepU ii fl to) := by
  constructor
  intro pins s σ H Q I h
  apply Call_method2 hat2 hs hl2
  apply thn (ho.run pins s σ H _ I h)
  rintro u s1 ⟨v, H1, I1, r, z, c, rfl, hσ, h1, h2, hz, q⟩
  obtain ⟨tz, rfl⟩ := r
  refine ⟨"str", "str.replace", PySem.F.plainAttrs_str, PySem.F.slot_str_replace, PySem.F.type_str_replace, rfl, (fun _ e => nomatch e), ?_⟩
  have hs2 : backTo pos (starEach [e, .Constant (.str ⟨#[]⟩) j c0] X.env) = [(false, eval e X.env), (false, eval (.Constant (.str ⟨#[]⟩) j c0) X.env)] := hb
  rw [← hs2]
  have fin : ∀ (y : Str) (t2 : Tok) (s2 : Shared), 1 ≤ s2.toks → L2.Inv X pins σ H1 s2 → y.length = 2 → Q (.str (Txt.replace z y ⟨#[]⟩)) H1 →
      (Made.str y).post (fun v s₁ => wpAny (model X.prog X.w) X.A (spliced (backTo pos (starEach [.Constant (.str ⟨#[]⟩) j c0] X.env))) (fun vs s₂ => wpAny (model X.prog X.w) X.A (call (.builtin "str.replace") ([.str z tz] ++ v :: vs)) (EP X pins σ Q) X.xe s₂) X.xe s₁) s2 := by
    intro y t2 s2 k2 I2 hy q
    simp only [Made.post]
    refine ⟨by rw [hy]; decide, ?_⟩
    refine PyProof.Rows.spliced_more ?_ (by rfl)
    refine wpAny_mono (rep_tail (u := s2.toks) (t := tz) (I2.tok (s2.toks + 1)) k2 (Nat.lt_succ_self _) hy hz q) ?_ fun _ _ z => z
    intro v s3 h3
    exact PyProof.Rows.spliced_none h3
  refine PyProof.Rows.callWith_method1 (PyProof.Rows.spliced_more ?_ hs1) hs1 (by rfl)
  cases fl with
  | true =>
    subst he0
    apply wpAny_BinOp
    refine L2.raw_name hN hv I1 hσ ?_ hd hcd
    rintro u ⟨tc, rfl⟩
    refine up_name hN hv I1 hσ (by omega) hd hcd hat hl fun t2 s2 k2 I2 => ?_
    apply P.add_str
    rw [add_made h1 h2]
    exact fin _ 0 _ k2 I2 (by show (c ++ Txt.upper c).cps.size = 2; exact sz2 h1 h2) q
  | false =>
    subst he0
    apply wpAny_BinOp
    refine up_name hN hv I1 hσ (by omega) hd hcd hat hl fun t2 s2 k2 I2 => ?_
    refine L2.raw_name hN hv I2 hσ ?_ hd hcd
    rintro u ⟨tc, rfl⟩
    apply P.add_str
    rw [add_made h2 h1]
    exact fin _ 0 _ k2 I2 (by show (Txt.upper c ++ c).cps.size = 2; exact sz2 h2 h1) q
end G1

namespace MW
/-- the other sign of a pair -/
def inv (c : Nat) : Nat := c ^^^ 32
theorem inv_inv (c : Nat) : inv (inv c) = c := by unfold inv; rw [Nat.xor_assoc, Nat.xor_self, Nat.xor_zero]
theorem inv_ne (c : Nat) : inv c ≠ c := fun h => by
  have h2 : c ^^^ (c ^^^ 32) = c ^^^ c := congrArg (fun x => c ^^^ x) h
  rw [← Nat.xor_assoc, Nat.xor_self, Nat.zero_xor] at h2
  exact absurd h2 (by decide)
/-- the stack, its top first -/
def step (st : List Nat) (c : Nat) : List Nat := match st with
  | [] => [c]
  | t :: r => if t = inv c then r else c :: t :: r
def stk (st l : List Nat) : List Nat := l.foldl step st
def red (l : List Nat) : List Nat := (stk [] l).reverse
/-- no sign stands beside its other one -/
def Plain : List Nat → Prop
  | [] => True
  | [_] => True
  | a :: b :: r => b ≠ inv a ∧ Plain (b :: r)
theorem Plain.tail {a : Nat} {l : List Nat} (h : Plain (a :: l)) : Plain l := by
  cases l with
  | nil => trivial
  | cons b r => exact h.2
theorem ne_inv {a b : Nat} (h : b ≠ inv a) : a ≠ inv b := fun e => h (by rw [e, inv_inv])
theorem step_plain {st : List Nat} (h : Plain st) (c : Nat) : Plain (step st c) := by
  unfold step
  split
  · trivial
  · rename_i t r
    split
    · exact h.tail
    · rename_i n
      exact ⟨n, h⟩
theorem stk_plain : ∀ (l : List Nat) {st : List Nat}, Plain st → Plain (stk st l)
  | [], _, h => h
  | c :: l, _, h => stk_plain l (step_plain h c)
theorem step_back {st : List Nat} (h : Plain st) (c : Nat) : step (step st c) (inv c) = st := by
  unfold step
  cases st with
  | nil => simp [inv_inv]
  | cons t r =>
    dsimp only
    by_cases e : t = inv c
    · rw [if_pos e]
      cases r with
      | nil => simp [e]
      | cons u r =>
        dsimp only
        have : u ≠ inv t := h.1
        rw [if_neg (by rw [inv_inv]; rw [e, inv_inv] at this; exact this), e]
    · rw [if_neg e]
      dsimp only
      rw [if_pos (inv_inv c).symm]
theorem stk_append (st u v : List Nat) : stk st (u ++ v) = stk (stk st u) v := List.foldl_append
/-- two signs that undo one another may go -/
theorem red_pair (u v : List Nat) (c : Nat) : red (u ++ c :: inv c :: v) = red (u ++ v) := by
  unfold red
  rw [stk_append, stk_append]
  show (stk (step (step (stk [] u) c) (inv c)) v).reverse = _
  rw [step_back (stk_plain (st := []) u (show Plain [] from trivial))]
theorem plain_rev_cons {a : Nat} : ∀ {l : List Nat}, Plain (l ++ [a]) → Plain l
  | [], _ => trivial
  | [b], _ => trivial
  | b :: c :: r, h => ⟨h.1, plain_rev_cons (l := c :: r) h.2⟩
theorem plain_snoc {b a : Nat} : ∀ {l : List Nat}, Plain (l ++ [b, a]) → a ≠ inv b
  | [], h => h.1
  | [c], h => h.2.1
  | c :: d :: r, h => plain_snoc (l := d :: r) h.2
theorem plain_add {b a : Nat} (hn : a ≠ inv b) : ∀ {l : List Nat}, Plain (l ++ [b]) → Plain (l ++ [b, a])
  | [], _ => ⟨hn, trivial⟩
  | [c], h => ⟨h.1, hn, trivial⟩
  | c :: d :: r, h => ⟨h.1, plain_add hn (l := d :: r) h.2⟩
theorem plain_reverse : ∀ {l : List Nat}, Plain l → Plain l.reverse
  | [], _ => trivial
  | [a], _ => trivial
  | a :: b :: r, h => by
    have ih := plain_reverse (l := b :: r) h.2
    rw [List.reverse_cons, List.reverse_cons, List.append_assoc]
    rw [List.reverse_cons] at ih
    exact plain_add (ne_inv h.1) ih
theorem red_plain (l : List Nat) : Plain (red l) := plain_reverse (stk_plain (st := []) l (show Plain [] from trivial))
theorem stk_of_plain : ∀ (l : List Nat) (st : List Nat), Plain (st.reverse ++ l) → stk st l = l.reverse ++ st
  | [], _, _ => rfl
  | c :: l, st, h => by
    have e : step st c = c :: st := by
      unfold step
      cases st with
      | nil => rfl
      | cons t r =>
        have h2 : Plain (r.reverse ++ [t, c] ++ l) := by
          rw [List.reverse_cons] at h
          simpa using h
        have h3 : ∀ {x l : List Nat}, Plain (x ++ l) → Plain x := fun {x l} hh => by
          induction l generalizing x with
          | nil => simpa using hh
          | cons y l ih => exact plain_rev_cons (ih (x := x ++ [y]) (by simpa using hh))
        have h4 := plain_snoc (h3 h2)
        dsimp only
        rw [if_neg (ne_inv h4)]
    show stk (step st c) l = _
    rw [e, stk_of_plain l (c :: st) (by simpa using h)]
    simp
theorem red_of_plain {l : List Nat} (h : Plain l) : red l = l := by
  unfold red
  rw [stk_of_plain l [] (by simpa using h)]
  simp
theorem red_red (l : List Nat) : red (red l) = red l := red_of_plain (red_plain l)
/-- what is reached by taking pairs away -/
theorem red_left (u v : List Nat) : red (red u ++ v) = red (u ++ v) := by
  have h : stk [] (red u) = stk [] u := by
    rw [stk_of_plain (red u) [] (by simpa using red_plain u)]
    unfold red
    simp
  unfold red at h ⊢
  rw [stk_append, stk_append, h]
/-- the word undone -/
def opp (l : List Nat) : List Nat := (l.map inv).reverse
theorem opp_opp (l : List Nat) : opp (opp l) = l := by
  unfold opp
  rw [List.map_reverse, List.reverse_reverse, List.map_map]
  have : (inv ∘ inv) = id := by funext x; exact inv_inv x
  rw [this, List.map_id]
theorem opp_append (u v : List Nat) : opp (u ++ v) = opp v ++ opp u := by
  unfold opp
  rw [List.map_append, List.reverse_append]
theorem red_mid : ∀ (l u v : List Nat), red (u ++ (l ++ opp l) ++ v) = red (u ++ v)
  | [], u, v => by simp [opp]
  | c :: l, u, v => by
    have e : u ++ (c :: l ++ opp (c :: l)) ++ v = (u ++ [c]) ++ (l ++ opp l) ++ (inv c :: v) := by
      simp [opp]
    rw [e, red_mid l (u ++ [c]) (inv c :: v)]
    have e2 : u ++ [c] ++ inv c :: v = u ++ c :: inv c :: v := by simp
    rw [e2, red_pair]
theorem red_undo (l : List Nat) : red (l ++ opp l) = [] := by
  have h := red_mid l [] []
  simpa [red, stk] using h
theorem red_undo2 (l : List Nat) : red (opp l ++ l) = [] := by
  have h := red_undo (opp l)
  rw [opp_opp] at h
  exact h
theorem plain_opp {l : List Nat} (h : Plain l) : Plain (opp l) := by
  unfold opp
  apply plain_reverse
  induction l with
  | nil => trivial
  | cons a l ih =>
    cases l with
    | nil => trivial
    | cons b r =>
      refine ⟨fun e => h.1 ?_, ih h.2⟩
      rw [← inv_inv b, e, inv_inv]
/-! taking away all of one pair, from the left -/
def cut (c : Nat) : List Nat → List Nat
  | [] => []
  | [a] => [a]
  | a :: b :: r => if a = c ∧ b = inv c then cut c r else a :: cut c (b :: r)
theorem cut_len (c : Nat) : ∀ l : List Nat, (cut c l).length ≤ l.length
  | [] => Nat.le_refl _
  | [a] => Nat.le_refl _
  | a :: b :: r => by
    unfold cut
    split
    · exact Nat.le_trans (cut_len c r) (by simp only [List.length_cons]; omega)
    · exact Nat.succ_le_succ (cut_len c (b :: r))
/-- no such pair stands there -/
def NoP (c : Nat) : List Nat → Prop
  | [] => True
  | [_] => True
  | a :: b :: r => ¬ (a = c ∧ b = inv c) ∧ NoP c (b :: r)
theorem cut_same (c : Nat) : ∀ l : List Nat, (cut c l).length = l.length → cut c l = l ∧ NoP c l
  | [], _ => ⟨rfl, trivial⟩
  | [a], _ => ⟨rfl, trivial⟩
  | a :: b :: r, h => by
    unfold cut at h ⊢
    by_cases e : a = c ∧ b = inv c
    · rw [if_pos e] at h
      have := cut_len c r
      simp only [List.length_cons] at h
      omega
    · rw [if_neg e] at h ⊢
      obtain ⟨h1, h2⟩ := cut_same c (b :: r) (by simpa using h)
      exact ⟨by rw [h1], e, h2⟩
theorem stk_cut (c : Nat) : ∀ (l st : List Nat), Plain st → stk st (cut c l) = stk st l
  | [], _, _ => rfl
  | [a], _, _ => rfl
  | a :: b :: r, st, h => by
    unfold cut
    by_cases e : a = c ∧ b = inv c
    · rw [if_pos e, stk_cut c r st h]
      obtain ⟨rfl, rfl⟩ := e
      show _ = stk (step (step st a) (inv a)) r
      rw [step_back h]
    · rw [if_neg e]
      exact stk_cut c (b :: r) (step st a) (step_plain h a)
theorem red_cut (c : Nat) (l : List Nat) : red (cut c l) = red l := by
  unfold red
  rw [stk_cut c l [] (show Plain [] from trivial)]
theorem mem_cut (c : Nat) : ∀ (l : List Nat) (x : Nat), x ∈ cut c l → x ∈ l
  | [], _, h => h
  | [a], _, h => h
  | a :: b :: r, x, h => by
    unfold cut at h
    split at h
    · exact List.mem_cons_of_mem _ (List.mem_cons_of_mem _ (mem_cut c r x h))
    · rcases List.mem_cons.mp h with h | h
      · exact h ▸ List.mem_cons_self
      · exact List.mem_cons_of_mem _ (mem_cut c (b :: r) x h)
theorem plain_of_nop {cs : List Nat} : ∀ {l : List Nat}, (∀ c ∈ cs, NoP c l) → (∀ x ∈ l, x ∈ cs) → Plain l
  | [], _, _ => trivial
  | [_], _, _ => trivial
  | a :: b :: r, h, m => by
    refine ⟨fun e => (h a (m a List.mem_cons_self)).1 ⟨rfl, e⟩, plain_of_nop (fun c hc => (h c hc).2) fun x hx => m x (List.mem_cons_of_mem _ hx)⟩
theorem mem_stk : ∀ (l st : List Nat) (x : Nat), x ∈ stk st l → x ∈ st ∨ x ∈ l
  | [], st, x, h => .inl h
  | c :: l, st, x, h => by
    rcases mem_stk l (step st c) x h with h | h
    · unfold step at h
      split at h
      · exact .inr (by rw [List.mem_singleton.mp h]; exact List.mem_cons_self)
      · split at h
        · exact .inl (List.mem_cons_of_mem _ h)
        · rcases List.mem_cons.mp h with h | h
          · exact .inr (h ▸ List.mem_cons_self)
          · exact .inl h
    · exact .inr (List.mem_cons_of_mem _ h)
theorem mem_red {l : List Nat} {x : Nat} (h : x ∈ red l) : x ∈ l := by
  unfold red at h
  rcases mem_stk l [] x (List.mem_reverse.mp h) with h | h
  · cases h
  · exact h
theorem len_stk : ∀ (l st : List Nat), (stk st l).length ≤ st.length + l.length
  | [], st => Nat.le_refl _
  | c :: l, st => by
    refine Nat.le_trans (len_stk l (step st c)) ?_
    have : (step st c).length ≤ st.length + 1 := by
      unfold step
      split
      · simp
      · split <;> simp only [List.length_cons] <;> omega
    simp only [List.length_cons]
    omega
theorem len_red (l : List Nat) : (red l).length ≤ l.length := by
  unfold red
  rw [List.length_reverse]
  simpa using len_stk l []
/-- pushing on a stack: what a word says is enough -/
theorem stk_red (l : List Nat) : ∀ st, Plain st → stk st (red l) = stk st l := by
  -- by the word's length, sign by sign from the left: the stack of the first signs, read again
  have key : ∀ (l s st : List Nat), Plain st → Plain s → stk st ((stk s l).reverse) = stk (stk st s.reverse) l := by
    intro l
    induction l with
    | nil => intro s st _ _; rfl
    | cons c l ih =>
      intro s st hst hs
      show stk st ((stk (step s c) l).reverse) = stk (step (stk st s.reverse) c) l
      rw [ih (step s c) st hst (step_plain hs c)]
      congr 1
      cases s with
      | nil => rfl
      | cons t r =>
        unfold step
        dsimp only
        by_cases e : t = inv c
        · rw [if_pos e, List.reverse_cons, stk_append]
          show stk st r.reverse = step (step (stk st r.reverse) t) c
          have hc : c = inv t := by rw [e, inv_inv]
          rw [hc, step_back (stk_plain r.reverse hst)]
        · rw [if_neg e, List.reverse_cons, stk_append]
          rfl
  intro st hst
  have h := key l [] st hst (show Plain [] from trivial)
  exact h
/-- the opposite of what a word says -/
theorem red_opp (l : List Nat) : red (opp l) = opp (red l) := by
  -- opp l · l and opp (red l) · l say nothing; so both say the same
  have h1 : red (opp (red l) ++ l) = [] := by
    have : red (opp (red l) ++ l) = red (opp (red l) ++ red l) := by
      have e : ∀ u, red (u ++ red l) = red (u ++ l) := fun u => by
        have a1 : red (red (u ++ l)) = red (u ++ l) := red_red _
        have a2 : red (red u ++ l) = red (u ++ l) := red_left u l
        have a3 : stk (stk [] u) (red l) = stk (stk [] u) l := by
          -- the right part may be shortened under any stack
          have gen : ∀ (l st : List Nat), Plain st → stk st (red l) = stk st l := fun l => by
            intro st hst
            exact stk_red l st hst
          exact gen l _ (stk_plain u (show Plain [] from trivial))
        unfold red at a3 ⊢
        rw [stk_append, stk_append, a3]
      rw [e]
    rw [this, red_undo2]
  have h2 : red (opp (red l) ++ (l ++ opp l)) = red (opp (red l)) := by
    have := red_mid l (opp (red l)) []
    simpa using this
  have h3 : red (red (opp (red l) ++ l) ++ opp l) = red (opp (red l) ++ l ++ opp l) := red_left _ _
  rw [h1, List.nil_append] at h3
  rw [h3, List.append_assoc, h2]
  exact red_of_plain (plain_opp (red_plain l))
end MW

namespace MW
open PySem PySem.Spec PyProof.Rows L2 G1
/-- the twelve signs -/
abbrev sgs : List Nat := [97, 65, 98, 66, 99, 67, 100, 68, 101, 69, 102, 70]
/-- the text of these code points -/
abbrev W (l : List Nat) : Str := ⟨l.toArray⟩
theorem W_eta (x : Str) : W x.cps.toList = x := by
  cases x
  simp [W]
theorem W_inj {a b : List Nat} (h : W a = W b) : a = b := by
  have := congrArg (fun s : Str => s.cps.toList) h
  simpa using this
theorem W_len (l : List Nat) : (W l).length = l.length := by
  show (W l).cps.size = _
  simp
theorem W_list (l : List Nat) : (W l).cps.toList = l := by simp
/-- a text of signs -/
def Sg (l : List Nat) : Prop := ∀ c ∈ l, c ∈ sgs
theorem Sg.append {a b : List Nat} (h : Sg a) (k : Sg b) : Sg (a ++ b) := fun c hc => (List.mem_append.mp hc).elim (h c) (k c)
theorem swap_sign : ∀ c ∈ sgs, c ≠ 931 ∧ (if Unicode.isUpper c = true then Unicode.lowerOf c else if Unicode.isLower c = true then Unicode.upperOf c else [c]) = [inv c] := by decide +kernel
theorem inv_sgs : ∀ c ∈ sgs, inv c ∈ sgs := by decide +kernel
theorem Sg.inv {l : List Nat} (h : Sg l) : Sg (l.map inv) := by
  intro c hc
  obtain ⟨d, hd, rfl⟩ := List.mem_map.mp hc
  exact inv_sgs d (h d hd)
theorem Sg.rev {l : List Nat} (h : Sg l) : Sg l.reverse := fun c hc => h c (List.mem_reverse.mp hc)
theorem Sg.opp {l : List Nat} (h : Sg l) : Sg (opp l) := h.inv.rev
theorem Sg.red {l : List Nat} (h : Sg l) : Sg (red l) := fun c hc => h c (mem_red hc)
theorem swap_W {l : List Nat} (h : Sg l) : Txt.swapcase (W l) = W (l.map inv) := by
  unfold Txt.swapcase
  rw [placed_single (W l) _ inv]
  · simp [W]
  · intro i c e
    rw [W_list] at e
    have hc := h c (List.mem_of_getElem? e)
    obtain ⟨n, k⟩ := swap_sign c hc
    rw [← k]
    have e2 : (W l).cps[i]? = some c := by simpa [W] using e
    unfold Unicode.lowerAt
    rw [e2]
    have : (c == 931) = false := by simpa using n
    simp [this]
theorem swap_one {c : Nat} (h : c ∈ sgs) : Txt.swapcase ⟨#[c]⟩ = ⟨#[inv c]⟩ := swap_W (l := [c]) fun d hd => by
  rw [List.mem_singleton.mp hd]
  exact h
theorem rev_W (l : List Nat) : revS (W l) = W l.reverse := by
  unfold revS
  rw [W_list]
theorem cat_W (a b : List Nat) : W a ++ W b = W (a ++ b) := by
  show (⟨(W a).cps ++ (W b).cps⟩ : Str) = _
  simp [W]
theorem cut_W (l : List Nat) (lo hi : Option Int) : cutS (W l) lo hi = W (List.take (HT.sIx l.length l.length hi - HT.sIx l.length 0 lo) (List.drop (HT.sIx l.length 0 lo) l)) := by
  unfold cutS
  rw [W_len, W_list]
/-- texts, one behind the other -/
theorem glued_W : ∀ (ys : List (List Nat)) (a : List Nat), (List.foldl (fun acc p => acc ++ (⟨#[]⟩ : Str).cps ++ p.cps) a.toArray (ys.map W)) = (a ++ ys.flatten).toArray
  | [], a => by simp
  | y :: ys, a => by
    rw [List.map_cons, List.foldl_cons]
    have : a.toArray ++ (⟨#[]⟩ : Str).cps ++ (W y).cps = (a ++ y).toArray := by simp [W]
    rw [this, glued_W ys (a ++ y)]
    simp
theorem join_W (ys : List (List Nat)) : Txt.join ⟨#[]⟩ (ys.map W) = W ys.flatten := by
  show Builtin.Str.glued _ _ = _
  unfold Builtin.Str.glued
  cases ys with
  | nil => rfl
  | cons y ys =>
    rw [List.map_cons, List.headD_cons, List.drop_succ_cons, List.drop_zero]
    have := glued_W ys y
    simp only [W, List.flatten_cons] at this ⊢
    rw [this]
theorem len_W (ys : List (List Nat)) : ((ys.map W).map (·.length)).sum = ys.flatten.length := by
  induction ys with
  | nil => rfl
  | cons y ys ih =>
    rw [List.map_cons, List.map_cons, List.sum_cons, ih, W_len, List.flatten_cons, List.length_append]
theorem tw_all {p : Nat → Bool} : ∀ {l : List Nat}, (∀ c ∈ l, p c = true) → List.takeWhile p l = l
  | [], _ => rfl
  | a :: l, h => by
    rw [List.takeWhile_cons, h a List.mem_cons_self, if_pos rfl, tw_all fun c hc => h c (List.mem_cons_of_mem _ hc)]
theorem tw_mem {p : Nat → Bool} : ∀ {l : List Nat} {c : Nat}, c ∈ List.takeWhile p l → p c = true
  | [], _, h => nomatch h
  | a :: l, c, h => by
    rw [List.takeWhile_cons] at h
    by_cases e : p a = true
    · rw [if_pos e] at h
      rcases List.mem_cons.mp h with h | h
      · rw [h]; exact e
      · exact tw_mem h
    · rw [if_neg e] at h
      exact nomatch h
theorem dw_nil {p : Nat → Bool} : ∀ {l : List Nat}, List.dropWhile p l = [] → ∀ c ∈ l, p c = true
  | [], _, _, h => nomatch h
  | a :: l, e, c, h => by
    rw [List.dropWhile_cons] at e
    by_cases k : p a = true
    · rw [if_pos k] at e
      rcases List.mem_cons.mp h with h | h
      · rw [h]; exact k
      · exact dw_nil e c h
    · rw [if_neg k] at e
      cases e
/-- nothing is left when signs are stripped exactly if there are no others -/
theorem strip_W (l s : List Nat) : (Txt.stripChars (W l) (W s) = ⟨#[]⟩) ↔ ∀ c ∈ l, c ∈ s := by
  unfold Txt.stripChars
  rw [stripBy_eq]
  have hg : ∀ c, (W s).cps.contains c = true ↔ c ∈ s := fun c => by simp [W]
  generalize (W s).cps.contains = goes at hg
  unfold stripLo stripHi Builtin.Str.strSub
  simp only [if_true, W_list, W_len]
  constructor
  · intro h c hc
    have h2 := congrArg (fun s : Str => s.cps.toList) h
    simp only [W, List.extract_toArray, List.extract_eq_drop_take] at h2
    have h3 : List.take (l.length - (List.takeWhile goes (List.drop (List.takeWhile goes l).length l).reverse).length - (List.takeWhile goes l).length) (List.drop (List.takeWhile goes l).length l) = [] := h2
    have dr : List.drop (List.takeWhile goes l).length l = List.dropWhile goes l := by
      have e := List.takeWhile_append_dropWhile (p := goes) (l := l)
      have e2 : List.drop (List.takeWhile goes l).length (List.takeWhile goes l ++ List.dropWhile goes l) = List.dropWhile goes l := List.drop_left
      rw [e] at e2
      exact e2
    rw [dr] at h3
    -- a sign that doesn't go stands ahead in what is dropped
    cases q : List.dropWhile goes l with
    | nil =>
      have := dw_nil q c hc
      exact (hg c).mp this
    | cons d r =>
      exfalso
      have hd : goes d = false := by
        have := List.head?_dropWhile_not (p := goes) (l := l)
        rw [q] at this
        simpa using this
      rw [q] at h3
      have hlen := congrArg List.length (List.takeWhile_append_dropWhile (p := goes) (l := l))
      rw [List.length_append, q, List.length_cons] at hlen
      have htw : (List.takeWhile goes (d :: r).reverse).length ≤ r.length := by
        rw [List.reverse_cons]
        rcases Nat.lt_or_ge r.length (List.takeWhile goes (r.reverse ++ [d])).length with h5 | h5
        · exfalso
          have h6 : (List.takeWhile goes (r.reverse ++ [d])) = r.reverse ++ [d] := by
            have pre := List.takeWhile_prefix goes (l := r.reverse ++ [d])
            apply pre.eq_of_length_le
            simp only [List.length_append, List.length_reverse, List.length_singleton]
            omega
          have : d ∈ List.takeWhile goes (r.reverse ++ [d]) := by rw [h6]; simp
          have := tw_mem this
          rw [hd] at this
          cases this
        · exact h5
      have h7 := congrArg List.length h3
      rw [List.length_take, List.length_cons, List.length_nil] at h7
      omega
  · intro h
    have all : List.takeWhile goes l = l := by
      exact tw_all fun c hc => (hg c).mpr (h c hc)
    rw [all]
    simp
end MW

namespace G1
open PySem PySem.Spec PyProof.Rows L2
/-! defs of two that may raise, called by place or by both names the other way about -/
def OkX2 (P : Program) (w : World) (K : PySem.W.Frag) (mg : Str → Option Value) (base : Heap) (k : Nat) (x p1 p2 : Str) (sp : Sp) : Prop :=
  ∃ f fd, FnOk P w K mg base (L2.CX P w) k f fd [p1, p2] sp ∧ mg x = some (.ref f) ∧ PySem.W.keepIn K (.ref f) = true ∧ L2.Binds K fd [p1, p2] [] ∧ ∀ (s : Shared) (u1 u2 : Value), BindsTo s fd ⟨[], [(p2, u1), (p1, u2)]⟩ [(p1, u2), (p2, u1)]
theorem OkX2.okX {P : Program} {w : World} {K : PySem.W.Frag} {mg : Str → Option Value} {base : Heap} {k : Nat} {x p1 p2 : Str} {sp : Sp} (h : OkX2 P w K mg base k x p1 p2 sp) : OkX P w K mg base k x [p1, p2] sp :=
  let ⟨f, fd, h1, h2, h3, h4, _⟩ := h
  ⟨f, fd, h1, h2, h3, h4⟩
theorem okx2 {P : Program} {w : World} {K : PySem.W.Frag} {mg : Str → Option Value} {base : Heap} {x p1 p2 : Str} {st : Stmt} {k : Nat} {sp : Sp} (S : Src K mg x st) (F : ∀ f fd, Fun K x x st f fd → FnOk P w K mg base (L2.CX P w) k f fd [p1, p2] sp)
    (h : ∀ (kV doc pm : Value) (an : Option Addr) (cdv ct : Value) (us : List Value), us.length = [p1, p2].length → bindArgs (PySem.W.fnOf x x (defArgs st) (defBody st) (defScope st) .none kV doc pm an cdv ct) ⟨us, []⟩ = pure ([p1, p2].zip us))
    (h2 : ∀ (kV doc pm : Value) (an : Option Addr) (cdv ct u1 u2 : Value), bindArgs (PySem.W.fnOf x x (defArgs st) (defBody st) (defScope st) .none kV doc pm an cdv ct) ⟨[], [(p2, u1), (p1, u2)]⟩ = pure [(p1, u2), (p2, u1)]) : OkX2 P w K mg base k x p1 p2 sp := by
  obtain ⟨f, fd, F1, g⟩ := S
  refine ⟨f, fd, F f fd F1, g, F1.kp, F1.binds h, ?_⟩
  obtain ⟨oc, od, kV, doc, pm, an, cdv, ct, osl, rfl, lk, hcd⟩ := F1.ex
  intro s u1 u2 M A E Q q
  rw [h2 kV doc pm an cdv ct u1 u2]
  exact wpAny_pure q
section
variable {X : Cx} {k j : Nat} {x p1 p2 : Str} {ps : List Str} {sp : Sp} {p pos : Pos} {e : Expr} {es : List Expr} {t : TA}
theorem passC : ∀ {P : Program} {w : World}, Passes (L2.CX P w) X (fun _ _ _ => False) := by
  rintro P w pins σ H s e s' I ⟨a, B, H', cls, d, h⟩
  exact h.2.2.2.2.2.2.2.elim
/-- a call of a def that may raise, where it doesn't -/
theorem pe_callC (C : OkX X.prog X.w X.K X.mg X.base k x ps sp) (hr : Room k X.A) (hg : Gl X x) (ha : PA X (e :: es) t)
    (hdb : (x == ("__debug__" : Str)) = false := by decide) (he : starEach (e :: es) X.env = (false, eval e X.env) :: starEach es X.env := by rfl) (hpl : (backTo pos (starEach es X.env)).any (·.1) = false := by rfl) :
    PE X (.Call (.Name x p) (e :: es) [] pos) (tCallO sp t) := by
  obtain ⟨f, fd, F, hm, hk, hb⟩ := C
  have z := pe_call (dvs := []) (E := fun _ _ _ => False) (p := p) F hr hg hm hk hb .nil passC ha hdb he hpl
  refine ⟨fun pins s σ H Q I h => z.run pins s σ H Q I ?_⟩
  have e : (fun (vs : List V) H1 => sp (vs ++ []) H1 Q (fun _ _ _ => False)) = fun vs H1 => sp vs H1 Q (fun _ _ _ => False) := by
    funext vs H1
    rw [List.append_nil]
  show t σ H (fun vs H1 => sp (vs ++ []) H1 Q (fun _ _ _ => False))
  rw [e]
  exact h
/-- by both names, the second one first -/
def tCallK2 (sp : Sp) (tk : TA) : TE := fun σ H Q => tk σ H fun zs H1 => ∃ v1 v2, zs = [v2, v1] ∧ sp [v1, v2] H1 Q (fun _ _ _ => False)
theorem pe_callK2 {kws : List Keyword} {tk : TA} (C : OkX2 X.prog X.w X.K X.mg X.base k x p1 p2 sp) (hr : Room k X.A) (hg : Gl X x) (hkw : PK X kws tk)
    (hks : (backToKw pos (keywordEach kws X.env)).filterMap (·.1) = [p2, p1] := by rfl) (hall : (backToKw pos (keywordEach kws X.env)).all (·.1.isSome) = true := by rfl) (hdb : (x == ("__debug__" : Str)) = false := by decide)
    (hpl : ((backTo pos (starEach [] X.env)).any (·.1) || (backToKw pos (keywordEach kws X.env)).any (·.1.isNone)) = false := by rfl) :
    PE X (.Call (.Name x p) [] kws pos) (tCallK2 sp tk) := by
  obtain ⟨f, fd, F, hm, hk, hb, hb2⟩ := C
  constructor
  intro pins s σ H Q I h
  apply wpAny_Call_Name_kw (ld_glob I hg hm ?_ hdb)
  apply PySem.W.callWith_KW0 (h₀ := X.base) I.ok.mod.kin hk hall ?_ hpl
  apply thn (hkw.run pos pins s σ H _ I h)
  rintro ws s2 ⟨zs, H2, I2, rz, v1, v2, rfl, q⟩
  refine ⟨I2.kIn, ?_⟩
  rw [hks]
  obtain ⟨w2, w1, rfl, r2, r1⟩ := vals2 rz
  show wpAny (model X.prog X.w) X.A (call (.ref f) [] [(p2, w2), (p1, w1)]) (EP X pins σ Q) X.xe s2
  apply wpAny_call (codeAny_mono (F.run X.A X.stack s2 H2 ⟨[], [(p2, w2), (p1, w1)]⟩ [w1, w2] _ Q _ hr I2.env0 (hb2 s2 w2 w1) (.cons r1 (.cons r2 .nil)) q) ?_)
  rintro (er | (_ | _ | _ | u)) s' z
  · exact passC pins σ H2 s2 er s' I2 z
  · exact z.elim
  · exact z.elim
  · exact z.elim
  · exact I2.after z
end
/-! values of the built-in kinds -/
inductive Any (H : Hp) : V → String → Prop
  | non : Any H .non "NoneType"
  | bl (b : Bool) : Any H (.bl b) "bool"
  | int (i : Int) : Any H (.int i) "int"
  | str (x : Str) : Any H (.str x) "str"
  | lst {a : Addr} {xs : List V} (h : H a = some (.lst xs)) : Any H (.ref a) "list"
  | tup {a : Addr} {xs : List V} (h : H a = some (.tup xs)) : Any H (.ref a) "tuple"
  | dic {a : Addr} {kvs : List (Key × V)} (h : H a = some (.dK kvs)) : Any H (.ref a) "dict"
theorem Any.ty {K : PySem.W.Frag} {H : Hp} {v : V} {t : String} (h : Any H v t) : TyX K H v (.type t) := by
  cases h with
  | non => exact .base .non
  | bl b => exact .base (.bl b)
  | int i => exact .base (.int i)
  | str x => exact .base (.str x)
  | lst h => exact .base (.lst h)
  | tup h => exact .base (.tup h)
  | dic h => exact .base (.dK h)
theorem Any.same {H H' : Hp} (s : Same H H') {v : V} {t : String} (h : Any H v t) : Any H' v t := by
  cases h with
  | non => exact .non
  | bl b => exact .bl b
  | int i => exact .int i
  | str x => exact .str x
  | lst h => exact .lst (s _ _ h)
  | tup h => exact .tup (s _ _ h)
  | dic h => exact .dic (s _ _ h)
theorem Any.mem {H : Hp} {v : V} {t : String} (h : Any H v t) : t ∈ ["NoneType", "bool", "int", "str", "list", "tuple", "dict"] := by
  cases h <;> decide
/-- what isinstance tells of such a value -/
theorem Any.kit {K : PySem.W.Frag} {H : Hp} {v : V} {t : String} (h : Any H v t) : 
    PySem.W.kitOne K (.type t) (.type "int") = some (decide (t = "int" ∨ t = "bool")) ∧ PySem.W.kitOne K (.type t) (.type "bool") = some (decide (t = "bool")) ∧
    PySem.W.kitOne K (.type t) (.type "str") = some (decide (t = "str")) ∧ PySem.W.kitOne K (.type t) (.type "list") = some (decide (t = "list")) := by
  have m := h.mem
  simp only [List.mem_cons, List.not_mem_nil, or_false] at m
  rcases m with rfl | rfl | rfl | rfl | rfl | rfl | rfl <;> exact ⟨kit_ty (by decide +kernel), kit_ty (by decide +kernel), kit_ty (by decide +kernel), kit_ty (by decide +kernel)⟩
/-- what isinstance tells -/
def isT (t c : String) : Bool := decide (t = c) || (decide (t = "bool") && decide (c = "int"))
theorem isT_kit {K : PySem.W.Frag} {H : Hp} {v : V} {t c : String} (h : Any H v t) (hc : c ∈ ["int", "bool", "str", "list"]) : PySem.W.kitOne K (.type t) (.type c) = some (isT t c) := by
  have m := h.mem
  simp only [List.mem_cons, List.not_mem_nil, or_false] at m hc
  rcases hc with rfl | rfl | rfl | rfl <;> rcases m with rfl | rfl | rfl | rfl | rfl | rfl | rfl <;> exact kit_ty (by decide +kernel)
def rIsV : List V → Hp → VK → Prop := fun xs H Q => ∃ v c, xs = [v, .ty c] ∧ c ∈ ["int", "bool", "str", "list"] ∧ ∃ t, Any H v t ∧ Q (.bl (isT t c)) H
theorem mk_int : (("int" : String) ∈ ["int", "bool", "str", "list"]) = True := by simp
theorem mk_bool : (("bool" : String) ∈ ["int", "bool", "str", "list"]) = True := by simp
theorem mk_str : (("str" : String) ∈ ["int", "bool", "str", "list"]) = True := by simp
theorem mk_list : (("list" : String) ∈ ["int", "bool", "str", "list"]) = True := by simp
theorem call_isV {X : Cx} : CallR X (.builtin "isinstance") rIsV := by
  rintro pins s σ H xs us Q I r ⟨v, c, rfl, hc, t, hv, q⟩
  exact call_isi pins s σ H _ us Q I r ⟨v, .ty c, _, _, _, rfl, .ty c, hv.ty, isT_kit hv hc, q⟩
theorem loop_str {x : Str} {g : TG} {tb : TS} {D : Ends} {σ : L2.St} {H : Hp} (Pv : Nat → L2.St → Hp → Prop) (h0 : Pv 0 σ H)
    (hs : ∀ i c σ H, x.cps[i]? = some c → Pv i σ H → g (.str ⟨#[c]⟩) σ H fun σ2 H2 => tb { D with nx := Pv (i + 1), ct := Pv (i + 1), bk := D.nx } σ2 H2) (hd : ∀ σ H, Pv x.cps.size σ H → D.nx σ H) : LoopW (Its x) g tb D σ H := by
  refine ⟨fun i m σ H => i + m = x.cps.size ∧ Pv i σ H, ⟨x.cps.size, Nat.zero_add _, h0⟩, ?_⟩
  rintro i m σ H ⟨e, p⟩
  cases m with
  | zero =>
    have e' : i = x.cps.size := e
    subst e'
    exact .inl ⟨Nat.le_refl _, hd _ _ p⟩
  | succ m =>
    refine .inr ⟨by show i < x.cps.size; omega, Pv (i + 1), fun σ' H' q => ⟨m, Nat.lt_succ_self m, by omega, q⟩, ?_⟩
    rintro v H' ⟨rfl, c, hc, rfl⟩
    exact hs i c σ _ hc p
theorem comp_str {x : Str} {g : TG} {tt : TT} {te : TE} {vs : List Nat} {σ : L2.St} {H1 : Hp} {Q : VK} (Pv : Addr → Nat → Hp → Prop) (h0 : ∀ D, H1 D = none → Pv D 0 (upd H1 D (.lst [])))
    (hs : ∀ D i c H, H1 D = none → x.cps[i]? = some c → Pv D i H → g (.str ⟨#[c]⟩) (wipe σ vs) H fun σ2 H2 => wipe σ2 vs = wipe σ vs ∧ tt σ2 H2 fun b H3 =>
      if b = true then te σ2 H3 fun y H4 => ∃ acc, H4 D = some (.lst acc) ∧ acc.length < sizeLine ∧ Pv D (i + 1) (upd H4 D (.lst (acc ++ [y]))) else Pv D (i + 1) H3) (hd : ∀ D H, H1 D = none → Pv D x.cps.size H → Q (.ref D) H) : CompW (Its x) g tt te vs σ H1 Q := by
  intro D hD
  refine ⟨fun i m H => i + m = x.cps.size ∧ Pv D i H, ⟨x.cps.size, Nat.zero_add _, h0 D hD⟩, ?_⟩
  rintro i m H ⟨e, p⟩
  cases m with
  | zero =>
    have e' : i = x.cps.size := e
    subst e'
    exact .inl ⟨Nat.le_refl _, hd D _ hD p⟩
  | succ m =>
    refine .inr ⟨by show i < x.cps.size; omega, Pv D (i + 1), fun H' q => ⟨m, Nat.lt_succ_self m, by omega, q⟩, ?_⟩
    rintro v H' ⟨rfl, c, hc, rfl⟩
    exact hs D i c _ hD hc p
end G1

namespace G1
open PySem PySem.Spec PyProof.Rows L2
/-! enumerate of a text -/
def Itx (x : Str) : It :=
  { go := fun i _ => i < x.cps.size
    yld := fun i H v H' => ∃ T c, v = V.ref T ∧ H T = none ∧ H' = upd H T (.tup [.int i, .str ⟨#[c]⟩]) ∧ x.cps[i]? = some c
    stop := fun i _ => x.cps.size ≤ i }
theorem inv_turned {X : Cx} {pins : List (Addr × Obj)} {σ : L2.St} {H : Hp} {s : Shared} {h' : Heap} {t' : Nat} {ch : List Addr} (I : L2.Inv X pins σ H s)
    (k : ∀ b o, b ∉ ch → s.heap.get? b = some o → h'.get? b = some o) (hf : ∀ b ∈ ch, FpOk X pins H b) : L2.Inv X pins σ H { heap := h', gens := s.gens, drawn := s.drawn, toks := t', os := s.os } := by
  have nit : ∀ b u, H b = some u → b ∉ ch := fun b u e hb => by rw [(hf b hb).1] at e; cases e
  refine L2.Inv.step (ch := ch) I (fun b hb => ⟨(hf b hb).2.2.2.1, (hf b hb).2.1, (hf b hb).2.2.2.2.1, (hf b hb).2.2.2.2.2⟩) (fun b o _ _ hc e _ => k b o hc e) (fun b o _ _ hc e _ => ⟨o.slots, k b o hc e⟩) (fun _ _ _ _ n => n) (fun b o hc e => ⟨o, k b o hc e⟩) (fun _ _ e => e) (fun _ _ _ e => e) (fun b ps e => ⟨#[], by rw [e]; simp⟩) ?_ ?_ I.bare
  · rintro m ⟨o, es, ep, ho, r⟩
    exact ⟨o, es, ep, k _ o (fun hb => (hf _ hb).2.1 rfl) ho, r⟩
  · intro b u e
    exact (I.hok b u e).stay (fun c v hc q => k c v (hc.elim (fun z => by rw [z]; exact nit b u e) fun z => nit c _ z) q) (fun _ q => q) fun _ _ q => q
theorem turn_enumS {P : Program} {w : World} {K : PySem.W.Frag} {elts : List Expr} {kk : Nat} {tpos : Pos} (e it : Addr) (x : Str) (t : Tok) (ne : e ≠ it) :
    Turn P w K (.Tuple elts kk tpos) (Itx x) [e, it] e (fun i h => (∃ old, IsEnum h e it (i : Int) old) ∧ h.IsStrIter it (strIterType x) x t i ∧ i ≤ x.cps.size) where
  mem := List.mem_cons_self
  obj := by
    rintro i h ⟨⟨old, h1⟩, ⟨o, h2, h3, h4⟩, _⟩ b hb
    rcases List.mem_cons.mp hb with rfl | hb
    · exact ⟨_, h1, fun v z => nomatch z⟩
    · rw [List.mem_singleton.mp hb]
      exact ⟨_, h2, fun v z => by rw [h4] at z; cases z⟩
  keep := by
    rintro i h h' ⟨⟨old, h1⟩, ⟨o, h2, h3, h4⟩, h5⟩ k
    exact ⟨⟨old, k e List.mem_cons_self _ h1⟩, ⟨o, k it (List.mem_cons_of_mem _ List.mem_cons_self) _ h2, h3, h4⟩, h5⟩
  item := by
    rintro X rfl rfl rfl hc i pins s σ H E I hfp ⟨⟨old, h1⟩, h2, h3⟩ hgo
    have G := GoesN.enumFrom (prog := X.prog) (w := X.w) (A := X.A) (elts := elts) (x1 := kk) (pos := tpos) (it := it) (fp := [it]) 0 (Draws.text (A := X.A.in1) (show X.A.in1.handled = none from I.ok.hd hc) it x t) e ne (by simpa using ne) List.mem_cons_self
    refine wpAny_mono (G.goes i s (fun v s2 => ∃ y H', L2.Inv X pins σ H' s2 ∧ L2.RelV y v ∧ (Itx x).yld i H y H' ∧ ((∃ old, IsEnum s2.heap e it ((i + 1 : Nat) : Int) old) ∧ s2.heap.IsStrIter it (strIterType x) x t (i + 1) ∧ i + 1 ≤ x.cps.size) ∧ ∀ b, b ∈ [e, it] → H' b = none) E hgo ⟨⟨old, by rw [Int.zero_add]; exact h1⟩, h2⟩ ?_) ?_ fun _ _ z => z
    · rintro v h' tk ⟨T, tt, y, rfl, hT, ⟨c, u, hcx, rfl⟩, hTup⟩ ⟨⟨old', h4⟩, h5⟩ keep htk
      have nT : H T = none := I.hok.fresh hT
      have gone : ∀ b, b ∈ [e, it] → H b = none := fun b hb => (hfp b hb).1
      have neT : ∀ b, b ∈ [e, it] → b ≠ T := by
        intro b hb z
        have hlt : ∃ o, s.heap.get? b = some o := by
          rcases List.mem_cons.mp hb with rfl | hb
          · exact ⟨_, h1⟩
          · rw [List.mem_singleton.mp hb]
            exact ⟨_, h2.choose_spec.1⟩
        obtain ⟨o, ho⟩ := hlt
        have := Heap.lt_size ho
        rw [z] at this
        exact absurd this (Nat.not_lt.mpr hT)
      refine ⟨.ref T, upd H T (.tup [.int i, .str ⟨#[c]⟩]), ?_, rfl, ⟨T, c, rfl, nT, rfl, hcx⟩, ⟨⟨old', ?_⟩, h5, hgo⟩, ?_⟩
      · refine I.turnedNew keep hfp hT ?_
        rw [Int.zero_add] at hTup
        exact ⟨by show 2 ≤ sizeLine; decide, [_, _], .cons ⟨tt, rfl⟩ (.cons ⟨u, rfl⟩ .nil), hTup⟩
      · rw [Int.zero_add] at h4
        exact h4
      · intro b hb
        rw [upd_ne (neT b hb)]
        exact gone b hb
    · rintro r s1 ⟨v, rfl, h⟩
      refine ⟨v, rfl, ?_⟩
      exact wpAny_mono h (fun _ s2 z => z) fun _ _ z => z
  done := by
    rintro X rfl rfl rfl hc i pins s σ H E I hfp ⟨⟨old, h1⟩, h2, h3⟩ hst
    have hi : i = x.cps.size := Nat.le_antisymm h3 hst
    have G := GoesN.enumFrom (prog := X.prog) (w := X.w) (A := X.A) (elts := elts) (x1 := kk) (pos := tpos) (it := it) (fp := [it]) 0 (Draws.text (A := X.A.in1) (show X.A.in1.handled = none from I.ok.hd hc) it x t) e ne (by simpa using ne) List.mem_cons_self
    refine G.stops s (fun s1 => L2.Inv X pins σ H s1) E ?_ ?_
    · rw [← hi]
      exact ⟨⟨old, by rw [Int.zero_add]; exact h1⟩, h2⟩
    · intro h' tk keep _
      exact inv_turned I keep hfp
  self := by
    rintro A i s Q E ⟨⟨old, h1⟩, h2⟩ q
    exact wpAny_pyIter_enum h1 q
def iEnumS (te : TE) : TI := fun σ H R => te σ H fun v H1 => ∃ x, v = V.str x ∧ R (Itx x) H1
theorem pi_enumS {X : Cx} {e : Expr} {te : TE} {p pos tpos : Pos} {elts : List Expr} {kk : Nat} (hg : Gl X "enumerate") (hm : X.mg "enumerate" = none) (he : PE X e te) (hs : starEach [e] X.env = [(false, eval e X.env)] := by rfl) :
    PI X (.Tuple elts kk tpos) (.Call (.Name "enumerate" p) [e] [] pos) (iEnumS te) := by
  constructor
  intro pins s σ H R I h
  apply wpAny_Call_Name_kw
  refine ld_blt I hg hm (u := .type "enumerate") (by decide +kernel) ?_
  refine PyProof.Rows.callWith_type1 (PyProof.Rows.spliced_more ?_ hs) hs (by rfl)
  apply thn (he.run pins s σ H _ I h)
  rintro u s1 ⟨v, H1, I1, r, x, rfl, q⟩
  obtain ⟨t, rfl⟩ := r
  apply PyProof.Rows.spliced_none
  refine call_enumerate_str fun h' h1 h2 h3 h4 => ?_
  refine wpAny_pyIter_enum h1 ?_
  have I2 : L2.Inv X pins σ H1 { heap := h', gens := s1.gens, drawn := s1.drawn, toks := s1.toks, os := s1.os } := I1.kept h4
  have ne : s1.heap.objs.size + 1 ≠ s1.heap.objs.size := Nat.succ_ne_self _
  refine ⟨_, [s1.heap.objs.size + 1, s1.heap.objs.size], _, Itx x, H1, rfl, I2, turn_enumS (s1.heap.objs.size + 1) s1.heap.objs.size x t ne, ⟨⟨_, h1⟩, h2, Nat.zero_le _⟩, ?_, q⟩
  intro b hb
  have hle : s1.heap.objs.size ≤ b := by
    rcases List.mem_cons.mp hb with rfl | hb
    · exact Nat.le_succ _
    · rw [List.mem_singleton.mp hb]
      exact Nat.le_refl _
  have f := I1.fpOk hle (I1.hok.fresh hle)
  exact f
theorem comp_enumS {x : Str} {g : TG} {tt : TT} {te : TE} {vs : List Nat} {σ : L2.St} {H1 : Hp} {Q : VK} (Pv : Addr → Nat → Hp → Prop) (h0 : ∀ D, H1 D = none → Pv D 0 (upd H1 D (.lst [])))
    (hs : ∀ D i c H T, H1 D = none → x.cps[i]? = some c → Pv D i H → H T = none → g (.ref T) (wipe σ vs) (upd H T (.tup [.int i, .str ⟨#[c]⟩])) fun σ2 H2 => wipe σ2 vs = wipe σ vs ∧ tt σ2 H2 fun b H3 =>
      if b = true then te σ2 H3 fun y H4 => ∃ acc, H4 D = some (.lst acc) ∧ acc.length < sizeLine ∧ Pv D (i + 1) (upd H4 D (.lst (acc ++ [y]))) else Pv D (i + 1) H3) (hd : ∀ D H, H1 D = none → Pv D x.cps.size H → Q (.ref D) H) : CompW (Itx x) g tt te vs σ H1 Q := by
  intro D hD
  refine ⟨fun i m H => i + m = x.cps.size ∧ Pv D i H, ⟨x.cps.size, Nat.zero_add _, h0 D hD⟩, ?_⟩
  rintro i m H ⟨e, p⟩
  cases m with
  | zero =>
    have e' : i = x.cps.size := e
    subst e'
    exact .inl ⟨Nat.le_refl _, hd D _ hD p⟩
  | succ m =>
    refine .inr ⟨by show i < x.cps.size; omega, Pv D (i + 1), fun H' q => ⟨m, Nat.lt_succ_self m, by omega, q⟩, ?_⟩
    rintro v H' ⟨T, c, rfl, hT, rfl, hc⟩
    exact hs D i c _ T hD hc p hT
end G1

namespace G1
open PySem PySem.Spec PyProof.Rows L2
/-- as fng_of, where nothing is raised -/
theorem fng_ofn {P : Program} {w : World} {K : PySem.W.Frag} {mg : Str → Option Value} {base : Heap} {k : Nat} {f : Addr} {x qual : Str} {st : Stmt} {fd : FuncData} {N ps : List Str} {sp : Sp} (F : Fun K x qual st f fd) (S : FnScope N ps (defScope st))
    (len : ∀ vs H Q E, sp vs H Q E → vs.length = ps.length)
    (hbody : ∀ (cdv : Value) (A : Around) (outer : List Env) (s : Shared) (H : Hp) (vs : List V) (Q : VK) (E : XK), A.guards = some [] → Room k (A.deeper (envOfC qual (defScope st) s.heap.objs.size f cdv)) → sp vs H Q E →
      ∃ t, PSs (cxOf CX0 P w K mg base N qual (defScope st) f cdv A outer s H E).nox (defBody st) t ∧ t { nx := fun _ H' => Q .non H', rt := Q } (start N vs) H) : FnG P w K mg base CX0 (k + 1) f fd ps sp where
  len := len
  run := by
    intro A outer s H args us vs Q E hg hr e0 hb r hsp
    obtain ⟨oc, od, kV, doc, pm, an, cdv, ct, osl, rfl, lk, hcd⟩ := F.ex
    have KX : K.In s.heap := e0.mod.kin.keeps fun b o e => (e0.bs b o e).1
    apply codeAny_call_function hr.depth (KX _ _ lk) rfl S.co S.gen rfl (PySem.W.codeRec_of KX hcd) (hb _ _ _ _ ?_)
    apply wpAny_newFunctionEnv_cells S.kind
    · rintro ⟨n, v⟩ hy
      rcases S.par n (List.of_mem_zip hy).1 with q | q
      · exact Or.inl q
      · exact Or.inr ⟨q, PySem.W.cellsFrom_some _ _ _ (Or.inl q)⟩
    rintro env rfl s1 x
    constructor
    · exact (e0.mod.nolimit.keeps fun b o e => (e0.bs b o e).1).keeps x.toInCall.keep
    apply codeAny_func
    obtain ⟨t, ht, hq⟩ := hbody cdv A outer s H vs Q E hg (hr.deeper _) hsp
    have I0 := inv_start (CX := CX0) (E := E) S hr.hd e0 (len _ _ _ _ hsp) r x
    apply wpAny_mono (ht.run [] s1 (start N vs) H _ (I0.wish _) hq) ?_ (fun _ _ z => False.elim z)
    rintro (_ | _ | _ | u) s' hs
    · exact let ⟨_, H', J, q⟩ := hs; ⟨V.non, H', J.os, J.bare, J.base, J.hok, rfl, q⟩
    · exact let ⟨_, _, _, q⟩ := hs; q.elim
    · exact let ⟨_, _, _, q⟩ := hs; q.elim
    · exact let ⟨v, _, H', J, rv, q⟩ := hs; ⟨v, H', J.os, J.bare, J.base, J.hok, rv, q⟩
theorem cr_maxK {X : Cx} (K : PySem.W.Frag) (hK : X.K = K) (hc : X.calm = true) : CallR X (.builtin "max") (rMax K) := hK ▸ cr_max hc
end G1

namespace G1
open PySem PySem.Spec PyProof.Rows L2
theorem vals3' {x y z : V} {us : List Value} (r : Vals [x, y, z] us) : ∃ u w' t', us = [u, w', t'] ∧ RelV x u ∧ RelV y w' ∧ RelV z t' := by
  cases r with
  | cons h r => cases r with
    | cons h2 r => cases r with
      | cons h3 r => cases r with
        | nil => exact ⟨_, _, _, rfl, h, h2, h3⟩
/-! defs of three that may raise, called by place or by all three names the other way about -/
def OkX3 (P : Program) (w : World) (K : PySem.W.Frag) (mg : Str → Option Value) (base : Heap) (k : Nat) (x p1 p2 p3 : Str) (sp : Sp) : Prop :=
  ∃ f fd, FnOk P w K mg base (L2.CX P w) k f fd [p1, p2, p3] sp ∧ mg x = some (.ref f) ∧ PySem.W.keepIn K (.ref f) = true ∧ L2.Binds K fd [p1, p2, p3] [] ∧ ∀ (s : Shared) (u1 u2 u3 : Value), BindsTo s fd ⟨[], [(p3, u1), (p2, u2), (p1, u3)]⟩ [(p1, u3), (p2, u2), (p3, u1)]
theorem OkX3.okX {P : Program} {w : World} {K : PySem.W.Frag} {mg : Str → Option Value} {base : Heap} {k : Nat} {x p1 p2 p3 : Str} {sp : Sp} (h : OkX3 P w K mg base k x p1 p2 p3 sp) : OkX P w K mg base k x [p1, p2, p3] sp :=
  let ⟨f, fd, h1, h2, h3, h4, _⟩ := h
  ⟨f, fd, h1, h2, h3, h4⟩
theorem okx3 {P : Program} {w : World} {K : PySem.W.Frag} {mg : Str → Option Value} {base : Heap} {x p1 p2 p3 : Str} {st : Stmt} {k : Nat} {sp : Sp} (S : Src K mg x st) (F : ∀ f fd, Fun K x x st f fd → FnOk P w K mg base (L2.CX P w) k f fd [p1, p2, p3] sp)
    (h : ∀ (kV doc pm : Value) (an : Option Addr) (cdv ct : Value) (us : List Value), us.length = [p1, p2, p3].length → bindArgs (PySem.W.fnOf x x (defArgs st) (defBody st) (defScope st) .none kV doc pm an cdv ct) ⟨us, []⟩ = pure ([p1, p2, p3].zip us))
    (h2 : ∀ (kV doc pm : Value) (an : Option Addr) (cdv ct u1 u2 u3 : Value), bindArgs (PySem.W.fnOf x x (defArgs st) (defBody st) (defScope st) .none kV doc pm an cdv ct) ⟨[], [(p3, u1), (p2, u2), (p1, u3)]⟩ = pure [(p1, u3), (p2, u2), (p3, u1)]) : OkX3 P w K mg base k x p1 p2 p3 sp := by
  obtain ⟨f, fd, F1, g⟩ := S
  refine ⟨f, fd, F f fd F1, g, F1.kp, F1.binds h, ?_⟩
  obtain ⟨oc, od, kV, doc, pm, an, cdv, ct, osl, rfl, lk, hcd⟩ := F1.ex
  intro s u1 u2 u3 M A E Q q
  rw [h2 kV doc pm an cdv ct u1 u2 u3]
  exact wpAny_pure q
section
variable {X : Cx} {k : Nat} {x p1 p2 p3 : Str} {sp : Sp} {p pos : Pos}
/-- by all three names, the last one first -/
def tCallK3 (sp : Sp) (tk : TA) : TE := fun σ H Q => tk σ H fun zs H1 => ∃ v1 v2 v3, zs = [v3, v2, v1] ∧ sp [v1, v2, v3] H1 Q (fun _ _ _ => False)
theorem pe_callK3 {kws : List Keyword} {tk : TA} (C : OkX3 X.prog X.w X.K X.mg X.base k x p1 p2 p3 sp) (hr : Room k X.A) (hg : Gl X x) (hkw : PK X kws tk)
    (hks : (backToKw pos (keywordEach kws X.env)).filterMap (·.1) = [p3, p2, p1] := by rfl) (hall : (backToKw pos (keywordEach kws X.env)).all (·.1.isSome) = true := by rfl) (hdb : (x == ("__debug__" : Str)) = false := by decide)
    (hpl : ((backTo pos (starEach [] X.env)).any (·.1) || (backToKw pos (keywordEach kws X.env)).any (·.1.isNone)) = false := by rfl) :
    PE X (.Call (.Name x p) [] kws pos) (tCallK3 sp tk) := by
  obtain ⟨f, fd, F, hm, hk, hb, hb2⟩ := C
  constructor
  intro pins s σ H Q I h
  apply wpAny_Call_Name_kw (ld_glob I hg hm ?_ hdb)
  apply PySem.W.callWith_KW0 (h₀ := X.base) I.ok.mod.kin hk hall ?_ hpl
  apply thn (hkw.run pos pins s σ H _ I h)
  rintro ws s2 ⟨zs, H2, I2, rz, v1, v2, v3, rfl, q⟩
  refine ⟨I2.kIn, ?_⟩
  rw [hks]
  obtain ⟨w3, w2, w1, rfl, r3, r2, r1⟩ := vals3' rz
  show wpAny (model X.prog X.w) X.A (call (.ref f) [] [(p3, w3), (p2, w2), (p1, w1)]) (EP X pins σ Q) X.xe s2
  apply wpAny_call (codeAny_mono (F.run X.A X.stack s2 H2 ⟨[], [(p3, w3), (p2, w2), (p1, w1)]⟩ [w1, w2, w3] _ Q _ hr I2.env0 (hb2 s2 w3 w2 w1) (.cons r1 (.cons r2 (.cons r3 .nil))) q) ?_)
  rintro (er | (_ | _ | _ | u)) s' z
  · exact passC pins σ H2 s2 er s' I2 z
  · exact z.elim
  · exact z.elim
  · exact z.elim
  · exact I2.after z
end
end G1

namespace G1
open PySem PySem.Spec PyProof.Rows L2
namespace MT
theorem entry_mt : entryFor table "str.maketrans" = some Builtin.«str.maketrans» := entryFor_of_tree (by kernel_rfl)
theorem plain_mt : plainId "str.maketrans" = true := by decide +kernel
theorem quiet_mt {as : Args} : (Code.builtin "str.maketrans" as).quiet = true := Code.quiet_builtin _ (by decide +kernel)
theorem cls_mt (K : PySem.W.Frag) : PySem.W.findCls K (.type "str") (.type "type") (Str.ofString "maketrans") = some (.val (.builtin "str.maketrans")) := by kernel_rfl
theorem check_mt (x y : Str) (t u : Tok) : checkBuiltinCall "str.maketrans" ⟨[.str x t, .str y u], []⟩ = pure () := by first | rfl | kernel_rfl
section
variable {prog : Program} {w : World} {A : Around} {E : Value → Shared → Prop} {s : Shared}
/-- str.maketrans is looked up on the type -/
theorem getm {K : PySem.W.Frag} {pl : Sem Bool} {Q : Value × List Value → Shared → Prop} (X : K.In s.heap) (h : Q (.builtin "str.maketrans", []) { s with toks := s.toks + 1 }) :
    wpAny (model prog w) A (getMethod (.type "str") (Str.ofString "maketrans") pl) Q E s := by
  have hstub : opaqueClassAbove (.type "str") = pure none := by unfold opaqueClassAbove; dsimp only; rw [show Manifest.isStub "str" = false by decide +kernel]; all_goals rfl
  have ht : typeOf (.type "str") = pure (.type "type") := by first | rfl | kernel_rfl
  have L0 : PySem.W.Looks (model prog w) s.heap (typeOf (.type "str")) (.type "type") := PySem.W.Looks.of_pure ht
  have hg : PySem.W.findIn K (.type "type") "__getattribute__" = some (some (.builtin "type.__getattribute__")) := PySem.W.type_tga
  unfold getMethod specialOf
  refine wpAny_bind (wpAny_bind (L0.here ((PySem.W.looks_findIn X hg).here ?_)))
  dsimp only
  rw [if_pos PySem.W.canon_tga]
  refine wpAny_bind (wpAny_mono (Q := fun v => Q (v, [])) (E := E) ?_ (fun _ _ z => wpAny_pure z) fun _ _ z => z)
  have LO : PySem.W.Looks (model prog w) s.heap (opaqueClassAbove (.type "str")) none := PySem.W.Looks.of_pure hstub
  refine PySem.W.cls_open X LO L0 hg (PySem.W.looks_hook X (r := none) (by rfl)) (by show PySem.W.subIn K _ _ = _; rfl) (cls_mt K) ?_
  show wpAny _ _ (ret (.builtin "str.maketrans")) _ _ _
  exact wpAny_pure (wpAny_pure h)
/-- what the table holds -/
def mtK (l : List (Nat × Nat)) : List (Key × V) := l.map fun ab => (Sum.inl (ab.1 : Int), V.int (ab.2 : Int))
theorem putK_len (kvs : List (Key × V)) (k : Key) (v : V) : (putK kvs k v).length ≤ kvs.length + 1 := by
  unfold putK
  split
  · rw [List.length_map]; omega
  · simp
theorem mergeK_snoc (l : List (Key × V)) (p : Key × V) : mergeK [] (l ++ [p]) = putK (mergeK [] l) p.1 p.2 := by
  unfold mergeK
  rw [List.foldl_append]
  rfl
theorem mergeK_len : ∀ (l : List (Key × V)) (a : List (Key × V)), (l.foldl (fun acc kv => putK acc kv.1 kv.2) a).length ≤ a.length + l.length
  | [], a => Nat.le_refl _
  | p :: l, a => by
    have h1 := mergeK_len l (putK a p.1 p.2)
    have h2 := putK_len a p.1 p.2
    rw [List.foldl_cons, List.length_cons]
    omega
theorem new_dict {M : Model} {Q : Value → Shared → Prop} (h : Q (.ref s.heap.objs.size) { s with heap := s.heap.push { cls := .type "dict", data := .dict #[] } }) : wpAny M A newDict Q E s := by
  simp only [newDict, newObj]
  exact wpAny_bind (wpAny_alloc (wpAny_pure h))
theorem run_mt {x y : Str} {t u : Tok} {Q : Value → Shared → Prop} (hl : x.length = y.length) (hn : x.length ≤ 1000)
    (hQ : ∀ h' tk vs, KV (mergeK [] (mtK (x.cps.toList.zip y.cps.toList))) vs → h'.DictOf (mixKind prog w) s.heap.objs.size vs → (∀ b o, s.heap.get? b = some o → h'.get? b = some o) → Q (.ref s.heap.objs.size) { s with heap := h', toks := tk }) :
    wpAny (model prog w) A (call (.builtin "str.maketrans") [.str x t, .str y u]) Q E s := by
  refine wpAny_call (codeAny_call_builtin plain_mt entry_mt (wpAny_of_eq (check_mt x y t u) ?_))
  unfold Builtin.«str.maketrans»
  refine wpAny_bind (wpAny_of_eq (a := ()) rfl ?_)
  refine wpAny_bind (wpAny_of_eq (a := ()) rfl ?_)
  refine wpAny_bind (wpAny_of_eq (a := some y) (by rfl) ?_)
  refine wpAny_bind (wpAny_of_eq (a := none) (by rfl) ?_)
  refine wpAny_bind (new_dict ?_)
  refine wpAny_bind (wpAny_holding ?_)
  refine wpAny_bind (wpAny_of_eq (a := some x) (by rfl) ?_)
  refine PySem.W.KFB.if_not (by simp [hl]) ?_
  have hd0 : (s.heap.push { cls := .type "dict", data := .dict #[] }).DictOf (mixKind prog w) s.heap.objs.size [] := Heap.DictOf.new s.heap
  dsimp only
  refine wpAny_bind (wpAny_forIn_list _ (fun rest _ s' => ∃ done h' tk vs, done ++ rest = x.cps.toList.zip y.cps.toList ∧ s' = { s with heap := h', toks := tk } ∧ KV (mergeK [] (mtK done)) vs ∧ h'.DictOf (mixKind prog w) s.heap.objs.size vs ∧ ∀ b o, s.heap.get? b = some o → h'.get? b = some o) _ ?_ ?_ _ _
    ⟨[], _, s.toks, [], rfl, rfl, Paired.nil, hd0, fun b o e => Heap.get?_push_of_some _ e⟩)
  · rintro ⟨a, b⟩ rest _ s' ⟨done, h', tk, vs, hdn, rfl, hkv, hd, hk⟩
    dsimp only
    refine wpAny_bind (wpAny_mkInt (wpAny_bind (wpAny_mkInt ?_)))
    have hlen : vs.length ≤ sizeLine := by
      have h1 := hkv.length
      have h2 := mergeK_len (mtK done) []
      have h3 := congrArg List.length hdn
      rw [List.length_append, List.length_zip] at h3
      have h4 : (mergeK [] (mtK done)).length ≤ 0 + (mtK done).length := h2
      have h5 : (mtK done).length = done.length := by unfold mtK; rw [List.length_map]
      have h6 : x.cps.toList.length ≤ 1000 := by rw [Array.length_toList]; exact hn
      rw [sizeLine_eq]
      omega
    refine wpAny_bind (wpAny_dictSet_pairs (k := (Sum.inl (a : Int) : Key)) (kV_is ⟨_, rfl⟩) hd (fun h2 hd2 hs2 => ?_) hlen)
    refine wpAny_pure ⟨done ++ [(a, b)], h2, _, _, by rw [List.append_assoc]; exact hdn, rfl, ?_, hd2, fun c o e => ?_⟩
    · have e : mtK (done ++ [(a, b)]) = mtK done ++ [(Sum.inl (a : Int), V.int (b : Int))] := by unfold mtK; rw [List.map_append]; rfl
      rw [e, mergeK_snoc]
      exact hkv.put (Sum.inl (a : Int)) ⟨_, rfl⟩
    · have := hk c o e
      rw [hs2.2 c (fun z => by rw [z] at e; exact absurd (Heap.lt_size e) (Nat.lt_irrefl _))]
      exact this
  · rintro _ s' ⟨done, h', tk, vs, hdn, rfl, hkv, hd, hk⟩
    rw [List.append_nil] at hdn
    subst hdn
    refine wpAny_bind (wpAny_of_eq (a := PUnit.unit) (by first | rfl | simp [Str.empty]) ?_)
    refine wpAny_pure (wpAny_pure ?_)
    exact hQ h' tk vs hkv hd hk
end
/-! word.translate(table) -/
section
variable {prog : Program} {w : World} {A : Around} {E : Value → Shared → Prop} {s : Shared}
theorem look_tr {B : Around} {F : Value → Shared → Prop} {d : Addr} {kvs : List (Key × V)} {vs : List (Key × Value)} {c e : Nat} {Q : Builtin.Str.Mapped → Shared → Prop} (hkv : KV kvs vs) (hd : s.heap.DictOf (mixKind prog w) d vs) (he : e < 128)
    (hv : valV kvs (Sum.inl (c : Int)) = some (V.int (e : Int))) (h : ∀ tk, Q (.char e) { s with toks := tk }) : wpAny (model prog w) B (Builtin.Str.tableLookup (.ref d) c) Q F s := by
  have hr := hkv.val (Sum.inl (c : Int))
  rw [hv] at hr
  obtain ⟨u, hu, t, rfl⟩ := RelO.some_of hr
  unfold Builtin.Str.tableLookup
  refine wpAny_bind (wpAny_attempt (wpAny_bind (wpAny_mkInt ?_)))
  refine wpAny_getItem_of (k := (Sum.inl (c : Int) : Key)) (kV_is ⟨_, rfl⟩) (s := { s with toks := s.toks + 1 }) hd.mapOf hu ?_
  refine wpAny_bind (wpAny_of_eq (a := some (e : Int)) (by rfl) ?_)
  dsimp only
  refine PySem.W.KFB.if_not (by rw [Bool.or_eq_false_iff, decide_eq_false_iff_not, decide_eq_false_iff_not]; omega) ?_
  exact wpAny_pure (h _)
/-- the loop's state behind some signs -/
def TrI (g : Nat → Nat) (x : List Nat) (s : Shared) (rest : List Nat) (b : List Str × Nat × Bool × List (Nat × Option Nat) × Bool) (s' : Shared) : Prop :=
  ∃ done tk, done ++ rest = x ∧ s' = { s with toks := tk } ∧ b.1 = (done.map fun c => (⟨#[g c]⟩ : Str)).reverse ∧ b.2.1 = done.length ∧ b.2.2.1 = true ∧ (∀ c a, b.2.2.2.1.lookup c = some a → a = some (g c)) ∧ b.2.2.2.2 = false
theorem fold_pieces : ∀ (l : List Nat) (acc : Array Nat), List.foldl (fun acc (p : Str) => acc ++ p.cps) acc (l.map fun c => (⟨#[c]⟩ : Str)) = acc ++ l.toArray
  | [], acc => by simp
  | c :: l, acc => by
    rw [List.map_cons, List.foldl_cons, fold_pieces l]
    simp
theorem run_tr {B : Around} {x : Str} {t : Tok} {d : Addr} {kvs : List (Key × V)} {vs : List (Key × Value)} {g : Nat → Nat} {P : Fin → Shared → Prop} (hn : x.length ≤ 100000) (hkv : KV kvs vs) (hd : s.heap.DictOf (mixKind prog w) d vs)
    (hg : ∀ c ∈ x.cps.toList, c < 128 ∧ g c < 128 ∧ valV kvs (Sum.inl (c : Int)) = some (V.int (g c : Int)))
    (hP : ∀ tk tk2, P (.done (.ret (.str ⟨(x.cps.toList.map g).toArray⟩ tk2))) { s with toks := tk }) :
    wpAny (model prog w) B (Builtin.«str.translate» ⟨[.str x t, .ref d], []⟩) P E s := by
  unfold Builtin.«str.translate»
  refine wpAny_bind (wpAny_of_eq (a := (.str x t, x, .ref d)) (by rfl) ?_)
  dsimp only
  by_cases h0 : (x.length == 0) = true
  · rw [if_pos h0]
    refine wpAny_bind (wpAny_rule (wpAny_bind (wpAny_of_eq (a := .str x t) (by rfl) ?_)))
    have e : x = ⟨(x.cps.toList.map g).toArray⟩ := by
      have hz : x.cps.toList = [] := by
        rw [beq_iff_eq] at h0
        have : x.cps.size = 0 := h0
        exact List.length_eq_zero_iff.mp (by rw [Array.length_toList]; exact this)
      rw [hz]
      cases x with
      | mk cps =>
        simp at hz
        simp [hz]
    have := hP s.toks t
    rw [← e] at this
    exact wpAny_pure this
  · rw [if_neg h0]
    have hfast : (x.cps.all fun c => decide (c < 128)) = true := by
      rw [Array.all_eq_true_iff_forall_mem]
      intro c hc
      rw [decide_eq_true_eq]
      exact (hg c (Array.mem_toList_iff.mpr hc)).1
    rw [hfast]
    refine wpAny_bind (PySem.MeetsSeq2.wpAny_forIn_array _ (TrI g x.cps.toList s) _ ?_ ?_ _ _ ⟨[], s.toks, rfl, rfl, rfl, rfl, rfl, fun c a e => by simp at e, rfl⟩)
    · rintro c rest ⟨pieces, total, fast, known, afterDrop⟩ s' ⟨done, tk, hdn, rfl, hp, ht, hf, hk, ha⟩
      dsimp only at hp ht hf hk ha ⊢
      subst hp ht hf ha
      have hc : c ∈ x.cps.toList := by rw [← hdn]; simp
      obtain ⟨g1, g2, g3⟩ := hg c hc
      have hlen : done.length + 1 ≤ 100000 := by
        have h3 := congrArg List.length hdn
        rw [List.length_append, List.length_cons] at h3
        have h4 : x.cps.toList.length ≤ 100000 := by rw [Array.length_toList]; exact hn
        omega
      refine PySem.W.KFB.if_not (by unfold PySem.Builtin.Str.tooLong; rw [decide_eq_false_iff_not, sizeLine_eq]; omega) ?_
      rw [if_pos rfl]
      have fin : ∀ (known' : List (Nat × Option Nat)) (tk' : Nat), (∀ c a, known'.lookup c = some a → a = some (g c)) → TrI g x.cps.toList s rest ((⟨#[g c]⟩ : Str) :: (done.map fun c => (⟨#[g c]⟩ : Str)).reverse, done.length + 1, true, known', false) { s with toks := tk' } := fun known' tk' hk' =>
        ⟨done ++ [c], tk', by rw [List.append_assoc]; exact hdn, rfl, by simp, by simp, rfl, hk', rfl⟩
      cases hlk : List.lookup c known with
      | some a =>
        have := hk c a hlk
        subst this
        dsimp only
        refine wpAny_bind (wpAny_pure ?_)
        exact wpAny_pure (fin known _ hk)
      | none =>
        dsimp only
        refine wpAny_bind (look_tr hkv hd g2 g3 fun tk' => ?_)
        dsimp only
        rw [if_pos g2]
        dsimp only
        refine wpAny_bind (wpAny_pure ?_)
        refine wpAny_pure (fin ((c, some (g c)) :: known) _ fun c' a e => ?_)
        rw [List.lookup_cons] at e
        by_cases hcc : (c' == c) = true
        · rw [hcc] at e
          rw [beq_iff_eq] at hcc
          subst hcc
          exact (Option.some.inj e).symm
        · have : (c' == c) = false := by simpa using hcc
          rw [this] at e
          exact hk c' a e
    · rintro ⟨pieces, total, fast, known, afterDrop⟩ s' ⟨done, tk, hdn, rfl, hp, ht, hf, hk, ha⟩
      dsimp only at hp ht hf hk ha ⊢
      subst hp ht hf ha
      rw [List.append_nil] at hdn
      subst hdn
      have hlen : x.cps.toList.length ≤ 100000 := by rw [Array.length_toList]; exact hn
      refine PySem.W.KFB.if_not (by unfold PySem.Builtin.Str.tooLong; rw [decide_eq_false_iff_not, sizeLine_eq]; omega) ?_
      rw [List.reverse_reverse]
      have e := fold_pieces (x.cps.toList.map g) #[]
      rw [List.map_map] at e
      have e2 : (fun c => (⟨#[g c]⟩ : Str)) = (fun c => (⟨#[c]⟩ : Str)) ∘ g := rfl
      rw [e2, e, show #[] ++ (List.map g x.cps.toList).toArray = (List.map g x.cps.toList).toArray by simp]
      unfold retStr
      exact wpAny_bind (wpAny_mkStr (wpAny_pure (hP _ _)))
end
end MT
section
variable {X : Cx} {e : Expr} {es : List Expr} {ta : TA}
/-- str.maketrans(x, y) -/
def tMt (t : TA) : TE := fun σ H Q => t σ H fun vs H1 => ∃ x y : Str, vs = [V.str x, V.str y] ∧ x.length = y.length ∧ x.length ≤ 1000 ∧ ∀ p, H1 p = none → Q (.ref p) (upd H1 p (.dK (mergeK [] (MT.mtK (x.cps.toList.zip y.cps.toList)))))
theorem pe_maketrans {p apos pos : Pos} {pl : Sem Bool} (hg : Gl X "str") (hm : X.mg "str" = none) (ha : PA X (e :: es) ta)
    (he : eval (.Call (.Attribute (.Name "str" p) "maketrans" apos) (e :: es) [] pos) X.env = (do
      let ov ← eval (.Name "str" p) X.env
      standAt apos.atName
      let (f, first) ← holding [ov] (getMethod ov "maketrans" pl)
      callWith pos f first (backTo pos (starEach (e :: es) X.env)) (backToKw pos (keywordEach [] X.env))) := by rfl)
    (hs : starEach (e :: es) X.env = (false, eval e X.env) :: starEach es X.env := by rfl) (hplain : (backTo pos (starEach es X.env)).any (·.1) = false := by rfl) : PE X (.Call (.Attribute (.Name "str" p) "maketrans" apos) (e :: es) [] pos) (tMt ta) := by
  refine ⟨fun pins s σ H Q I h => ?_⟩
  refine PySem.W.methodCall_KW (ld_blt I hg hm (by decide +kernel : bootBuiltins "str" = some (.type "str")) ?_ (by decide) (by decide)) he
  refine MT.getm I.kIn ?_
  have I1 : Inv X pins σ H { s with toks := s.toks + 1 } := I.tok _
  have hA := ha.run pos pins _ σ H _ I1 h
  show wpAny _ _ (callWith pos (.builtin "str.maketrans") [] (backTo pos (starEach (e :: es) X.env)) []) _ _ _
  rw [hs] at hA ⊢
  refine Calls.callWith_builtin (by show (false || (backTo pos (starEach es X.env)).any (·.1)) = false; rw [hplain] <;> rfl) (Calls.evalArgs_plain ?_)
  refine thn hA fun us s2 ⟨vs, H2, I2, r2, x, y, ev, hl, hn, q⟩ => ?_
  subst ev
  obtain ⟨u1, u2, rfl, ⟨t1, rfl⟩, ⟨t2, rfl⟩⟩ := vals2 r2
  refine MT.run_mt hl hn fun h' tk vs hkv hd hk => ?_
  have hlen : (mergeK [] (MT.mtK (x.cps.toList.zip y.cps.toList))).length ≤ sizeLine := by
    have h2 := MT.mergeK_len (MT.mtK (x.cps.toList.zip y.cps.toList)) []
    have h5 : (MT.mtK (x.cps.toList.zip y.cps.toList)).length ≤ 1000 := by
      unfold MT.mtK
      rw [List.length_map, List.length_zip]
      have h6 : x.cps.toList.length ≤ 1000 := by rw [Array.length_toList]; exact hn
      omega
    have h7 : (mergeK [] (MT.mtK (x.cps.toList.zip y.cps.toList))).length ≤ 0 + (MT.mtK (x.cps.toList.zip y.cps.toList)).length := h2
    rw [sizeLine_eq]
    omega
  exact ⟨.ref s2.heap.objs.size, _, I2.laid hk (Nat.le_refl _) (show ObjOk X.prog X.w _ _ _ (.dK _) from ⟨hlen, beq_eq_false_iff_ne.mpr (Ne.symm (Nat.ne_of_lt I2.big)), vs, hkv, hd⟩), rfl, q _ (I2.hok.fresh (Nat.le_refl _))⟩
/-- text.translate(table) -/
def rTr : V → List V → Hp → VK → Prop := fun x xs H Q => ∃ (z : Str) (d : Addr) (kvs : List (Key × V)) (g : Nat → Nat), x = .str z ∧ xs = [V.ref d] ∧ H d = some (.dK kvs) ∧ z.length ≤ 100000 ∧ (∀ c ∈ z.cps.toList, c < 128 ∧ g c < 128 ∧ valV kvs (Sum.inl (c : Int)) = some (V.int (g c : Int))) ∧ Q (.str ⟨(z.cps.toList.map g).toArray⟩) H
theorem mt_translate : MtR X "str.translate" rTr := by
  intro pins s σ H x xs v us Q I rx rs h
  obtain ⟨z, d, kvs, g, rfl, rfl, hd, hn, hg, q⟩ := h
  obtain ⟨t, rfl⟩ := rx
  obtain ⟨u, rfl, ru⟩ := rs.one
  cases ru
  obtain ⟨_, _, vs, hkv, dd⟩ := dk_of I.hok hd
  refine wpAny_call_entry PySem.F.slot_str_translate (typeIs_str _ _ _) PySem.F.entry_str_translate ?_ (PySem.F.args_str_translate_2 _ _)
  refine MT.run_tr hn hkv dd hg fun tk tk2 => ?_
  exact ⟨_, rfl, .str _, H, I.tok _, ⟨_, rfl⟩, q⟩
end
end G1

namespace G1
open PySem PySem.Spec PyProof.Rows L2
/-- the comparison of nested data -/
def rLtD (K : PySem.W.Frag) : R2 := fun x y H Q => ∃ d1 d2, Dp K H x d1 ∧ Dp K H y d2 ∧ PySem.W.alike d1 d2 = true ∧ d1 ≠ PyData.none ∧ min d1.depth d2.depth ≤ 32 ∧ Q (.bl (PySem.W.dataLt d1 d2)) H
section
variable {X : Cx}
theorem op_ltD (K : PySem.W.Frag) (hK : X.K = K) (hu : X.A.units + 64 < cLine) : OpR X (compareOp .Lt) (rLtD K) := by
  intro pins s σ H x y v u Q I rx ry h
  obtain ⟨d1, d2, h1, h2, ha, hn, hd, q⟩ := h
  subst hK
  obtain ⟨as, r1⟩ := Dp.reads I d1 x v h1 rx
  obtain ⟨bs, r2⟩ := Dp.reads I d2 y u h2 ry
  exact PySem.W.rcLt_alike d1 d2 X.A s v u as bs r1 r2 ha hn (by omega) X.prog X.w _ _ ⟨.bl _, H, I, ⟨rfl, q⟩⟩
end
def intsD (ns : List Int) : List PyData := ns.map PyData.int
theorem alike_ints : ∀ ns ms : List Int, PySem.W.alikeAll (intsD ns) (intsD ms) = true
  | [], [] => by rfl
  | [], _ :: _ => by rfl
  | _ :: _, [] => by rfl
  | n :: ns, m :: ms => by
    show PySem.W.alikeAll (.int n :: intsD ns) (.int m :: intsD ms) = true
    simp only [PySem.W.alikeAll, PySem.W.alike, alike_ints ns ms, Bool.and_self]
theorem dp_ints {K : PySem.W.Frag} {H : Hp} : ∀ ns : List Int, DpAll K H (ns.map V.int) (intsD ns)
  | [] => .nil
  | n :: ns => .cons (.int n) (dp_ints ns)
theorem dep_ints : ∀ ns : List Int, PyData.depthAll (intsD ns) ≤ 1
  | [] => by decide
  | n :: ns => by
    have := dep_ints ns
    simp only [intsD, List.map_cons, PyData.depthAll, PyData.depth] at this ⊢
    omega
theorem toks_ints : ∀ ns : List Int, PySem.W.keyToksAll (intsD ns) = (ns.flatMap fun n => [Sum.inl 1, Sum.inl n]) ++ [Sum.inl 0]
  | [] => by rfl
  | n :: ns => by
    show PySem.W.keyToksAll (.int n :: intsD ns) = _
    simp only [PySem.W.keyToksAll, PySem.W.keyToks, toks_ints ns, List.flatMap_cons, List.cons_append, List.nil_append]
def lx (xs ys : List (Int ⊕ List Nat)) : Bool := PyProof.Rows.lexLt itemOrd xs ys
theorem lex_cons (a b : Int ⊕ List Nat) (xs ys : List (Int ⊕ List Nat)) : lx (a :: xs) (b :: ys) = (PyProof.Rows.itemLt a b || (!PyProof.Rows.itemLt b a && lx xs ys)) := by
  rfl
theorem lx_nil : lx [] [] = false := rfl
theorem it_i (a b : Int) : PyProof.Rows.itemLt (.inl a) (.inl b) = decide (a < b) := rfl
theorem it_s (a b : List Nat) : PyProof.Rows.itemLt (.inr a) (.inr b) = decide (a < b) := rfl
theorem lex_ints : ∀ ns ms : List Int, lx ((ns.flatMap fun n => [Sum.inl 1, Sum.inl n]) ++ [Sum.inl 0]) ((ms.flatMap fun n => [Sum.inl 1, Sum.inl n]) ++ [Sum.inl 0]) = HT.lexLt ns ms
  | [], [] => by rfl
  | [], m :: ms => by rfl
  | n :: ns, [] => by rfl
  | n :: ns, m :: ms => by
    simp only [List.flatMap_cons, List.cons_append, List.nil_append, lex_cons, it_i, it_s, HT.lexLt]
    rw [lex_ints ns ms]
    by_cases h : n = m
    · subst h
      simp
    · rw [if_neg h]
      rcases Int.lt_or_gt_of_ne h with k | k
      · simp [k]
      · have : ¬ n < m := by omega
        simp [k, this]
theorem lt_ints (ns ms : List Int) : PySem.W.dataLt (.list (intsD ns)) (.list (intsD ms)) = HT.lexLt ns ms := by
  rw [← lex_ints]
  show lx (PySem.W.keyToks _) (PySem.W.keyToks _) = _
  simp only [PySem.W.keyToks, toks_ints]
/-- pairs of a number and a text -/
def pD (n : Int) (x : Str) : PyData := .tuple [.int n, .str x]
theorem lt_pair (n m : Int) (x y : Str) : PySem.W.dataLt (pD n x) (pD m y) = (decide (n < m) || (decide (n = m) && decide (x.cps.toList < y.cps.toList))) := by
  show lx (PySem.W.keyToks _) (PySem.W.keyToks _) = _
  simp only [pD, PySem.W.keyToks, PySem.W.keyToksAll, List.cons_append, List.nil_append, lex_cons, it_i, it_s, lx_nil]
  by_cases h : n = m
  · subst h
    simp
  · rcases Int.lt_or_gt_of_ne h with k | k
    · simp [k]
    · have : ¬ n < m := by omega
      simp [k, this, h]
theorem alike_pair (n m : Int) (x y : Str) : PySem.W.alike (pD n x) (pD m y) = true := by rfl
theorem dep_pair (n : Int) (x : Str) : (pD n x).depth ≤ 3 := by
  simp [pD, PyData.depth, PyData.depthAll]
end G1

namespace G1
open PySem PySem.Spec PyProof.Rows L2
/-! defs of three that may raise, called by place or by all three names the last two the other way about -/
def OkX3b (P : Program) (w : World) (K : PySem.W.Frag) (mg : Str → Option Value) (base : Heap) (k : Nat) (x p1 p2 p3 : Str) (sp : Sp) : Prop :=
  ∃ f fd, FnOk P w K mg base (L2.CX P w) k f fd [p1, p2, p3] sp ∧ mg x = some (.ref f) ∧ PySem.W.keepIn K (.ref f) = true ∧ L2.Binds K fd [p1, p2, p3] [] ∧ ∀ (s : Shared) (u1 u2 u3 : Value), BindsTo s fd ⟨[], [(p1, u1), (p3, u2), (p2, u3)]⟩ [(p1, u1), (p2, u3), (p3, u2)]
theorem OkX3b.okX {P : Program} {w : World} {K : PySem.W.Frag} {mg : Str → Option Value} {base : Heap} {k : Nat} {x p1 p2 p3 : Str} {sp : Sp} (h : OkX3b P w K mg base k x p1 p2 p3 sp) : OkX P w K mg base k x [p1, p2, p3] sp :=
  let ⟨f, fd, h1, h2, h3, h4, _⟩ := h
  ⟨f, fd, h1, h2, h3, h4⟩
theorem okx3b {P : Program} {w : World} {K : PySem.W.Frag} {mg : Str → Option Value} {base : Heap} {x p1 p2 p3 : Str} {st : Stmt} {k : Nat} {sp : Sp} (S : Src K mg x st) (F : ∀ f fd, Fun K x x st f fd → FnOk P w K mg base (L2.CX P w) k f fd [p1, p2, p3] sp)
    (h : ∀ (kV doc pm : Value) (an : Option Addr) (cdv ct : Value) (us : List Value), us.length = [p1, p2, p3].length → bindArgs (PySem.W.fnOf x x (defArgs st) (defBody st) (defScope st) .none kV doc pm an cdv ct) ⟨us, []⟩ = pure ([p1, p2, p3].zip us))
    (h2 : ∀ (kV doc pm : Value) (an : Option Addr) (cdv ct u1 u2 u3 : Value), bindArgs (PySem.W.fnOf x x (defArgs st) (defBody st) (defScope st) .none kV doc pm an cdv ct) ⟨[], [(p1, u1), (p3, u2), (p2, u3)]⟩ = pure [(p1, u1), (p2, u3), (p3, u2)]) : OkX3b P w K mg base k x p1 p2 p3 sp := by
  obtain ⟨f, fd, F1, g⟩ := S
  refine ⟨f, fd, F f fd F1, g, F1.kp, F1.binds h, ?_⟩
  obtain ⟨oc, od, kV, doc, pm, an, cdv, ct, osl, rfl, lk, hcd⟩ := F1.ex
  intro s u1 u2 u3 M A E Q q
  rw [h2 kV doc pm an cdv ct u1 u2 u3]
  exact wpAny_pure q
section
variable {X : Cx} {k : Nat} {x p1 p2 p3 : Str} {sp : Sp} {p pos : Pos}
/-- by all three names, the last two the other way about -/
def tCallK3b (sp : Sp) (tk : TA) : TE := fun σ H Q => tk σ H fun zs H1 => ∃ v1 v2 v3, zs = [v1, v3, v2] ∧ sp [v1, v2, v3] H1 Q (fun _ _ _ => False)
theorem pe_callK3b {kws : List Keyword} {tk : TA} (C : OkX3b X.prog X.w X.K X.mg X.base k x p1 p2 p3 sp) (hr : Room k X.A) (hg : Gl X x) (hkw : PK X kws tk)
    (hks : (backToKw pos (keywordEach kws X.env)).filterMap (·.1) = [p1, p3, p2] := by rfl) (hall : (backToKw pos (keywordEach kws X.env)).all (·.1.isSome) = true := by rfl) (hdb : (x == ("__debug__" : Str)) = false := by decide)
    (hpl : ((backTo pos (starEach [] X.env)).any (·.1) || (backToKw pos (keywordEach kws X.env)).any (·.1.isNone)) = false := by rfl) :
    PE X (.Call (.Name x p) [] kws pos) (tCallK3b sp tk) := by
  obtain ⟨f, fd, F, hm, hk, hb, hb2⟩ := C
  constructor
  intro pins s σ H Q I h
  apply wpAny_Call_Name_kw (ld_glob I hg hm ?_ hdb)
  apply PySem.W.callWith_KW0 (h₀ := X.base) I.ok.mod.kin hk hall ?_ hpl
  apply thn (hkw.run pos pins s σ H _ I h)
  rintro ws s2 ⟨zs, H2, I2, rz, v1, v2, v3, rfl, q⟩
  refine ⟨I2.kIn, ?_⟩
  rw [hks]
  obtain ⟨w1, w3, w2, rfl, r1, r3, r2⟩ := vals3' rz
  show wpAny (model X.prog X.w) X.A (call (.ref f) [] [(p1, w1), (p3, w3), (p2, w2)]) (EP X pins σ Q) X.xe s2
  apply wpAny_call (codeAny_mono (F.run X.A X.stack s2 H2 ⟨[], [(p1, w1), (p3, w3), (p2, w2)]⟩ [w1, w2, w3] _ Q _ hr I2.env0 (hb2 s2 w1 w3 w2) (.cons r1 (.cons r2 (.cons r3 .nil))) q) ?_)
  rintro (er | (_ | _ | _ | u)) s' z
  · exact passC pins σ H2 s2 er s' I2 z
  · exact z.elim
  · exact z.elim
  · exact z.elim
  · exact I2.after z
end
end G1

namespace G1
open PySem PySem.Spec PyProof.Rows L2
/-! what a call made is left untracked again, but for its tuples -/
def tupsOf (H2 H3 : Hp) : Hp := fun b => match H2 b with
  | some o => some o
  | none => match H3 b with
    | some (.tup ys) => some (.tup ys)
    | _ => none
theorem tupsOf_le {H2 H3 : Hp} {b : Addr} {o : HO} (h : H2 b = some o) : tupsOf H2 H3 b = some o := by
  unfold tupsOf
  rw [h]
theorem tupsOf_tup {H2 H3 : Hp} (s : Same H2 H3) {b : Addr} {ys : List V} (h : H3 b = some (.tup ys)) : tupsOf H2 H3 b = some (.tup ys) := by
  unfold tupsOf
  cases e : H2 b with
  | some o =>
    have := s _ _ e
    rw [h] at this
    exact this.symm
  | none => simp only [h]
theorem tupsOf_cases {H2 H3 : Hp} {b : Addr} {o : HO} (h : tupsOf H2 H3 b = some o) : H2 b = some o ∨ H2 b = none ∧ ∃ ys, o = .tup ys ∧ H3 b = some (.tup ys) := by
  unfold tupsOf at h
  cases e : H2 b with
  | some o' =>
    rw [e] at h
    exact .inl h
  | none =>
    rw [e] at h
    cases e3 : H3 b with
    | none => simp only [e3] at h; cases h
    | some o3 =>
      cases o3 with
      | tup ys => simp only [e3] at h; cases h; exact .inr ⟨rfl, ys, rfl, rfl⟩
      | _ => simp only [e3] at h; cases h
theorem tupsOf_none {H2 H3 : Hp} (s : Same H2 H3) {b : Addr} (h : H3 b = none) : tupsOf H2 H3 b = none := by
  cases e : tupsOf H2 H3 b with
  | none => rfl
  | some o =>
    rcases tupsOf_cases e with h2 | ⟨_, ys, _, h3⟩
    · rw [s _ _ h2] at h
      cases h
    · rw [h3] at h
      cases h
theorem paired_mono' {α β : Type} {R R' : α → β → Prop} (k : ∀ a b, R a b → R' a b) : ∀ {as : List α} {bs : List β}, Paired R as bs → Paired R' as bs
  | _, _, .nil => .nil
  | _, _, .cons h t => .cons (k _ _ h) (paired_mono' k t)
theorem obj_forget {P : Program} {w : World} {H2 H3 H' : Hp} {h h' : Heap} (hle : ∀ b o, H2 b = some o → H3 b = some o) (ht : ∀ b ys, H' b = some (.tup ys) → H3 b = some (.tup ys)) {a : Addr} : ∀ o : HO, ObjOk P w H2 h a o → ObjOk P w H' h' a o → ObjOk P w H3 h' a o
  | .lst _, _, k => by simp only [ObjOk] at k ⊢; exact k
  | .tup _, _, k => by simp only [ObjOk] at k ⊢; exact k
  | .dK _, _, k => by simp only [ObjOk] at k ⊢; exact k
  | .dT kvs, _, k => by
    simp only [ObjOk] at k ⊢
    obtain ⟨k1, k2, xs, k3, k4⟩ := k
    exact ⟨k1, k2, xs, paired_mono' (fun p q z => ⟨z.1, ht _ _ z.2.1, z.2.2⟩) k3, k4⟩
  | .set _ _, _, k => by simp only [ObjOk] at k ⊢; exact k
  | .ins C dx fs, j, k => by
    simp only [ObjOk] at j k ⊢
    exact ⟨hle _ _ j.1, k.2⟩
  | .own _, _, k => by simp only [ObjOk] at k ⊢; exact k
  | .xd _, _, k => by simp only [ObjOk] at k ⊢; exact k
  | .rng _ _, _, k => by simp only [ObjOk] at k ⊢; exact k
  | .frz o u, j, k => by
    simp only [ObjOk] at j k ⊢
    exact ⟨k.1, obj_forget hle ht u j.2 k.2⟩
  | .tbl _, _, k => by simp only [ObjOk] at k ⊢; exact k
  | .met _ _, _, k => by simp only [ObjOk] at k ⊢; exact k
  | .ext _, _, k => by simp only [ObjOk] at k ⊢; exact k
theorem forget {X : Cx} {pins : List (Addr × Obj)} {σ : L2.St} {H2 H3 : Hp} {s s' : Shared} (I2 : L2.Inv X pins σ H2 s) (I3 : L2.Inv X pins σ H3 s') (sm : Same H2 H3) : L2.Inv X pins σ (tupsOf H2 H3) s' :=
  { ok := I3.ok
    os := I3.os
    bare := I3.bare
    base :=
      { keep := I3.base.keep
        slot := I3.base.slot
        free := fun b o a e f => tupsOf_none sm (I3.base.free b o a e f)
        there := I3.base.there
        tups := fun b ys e => tupsOf_le (I2.base.tups b ys e)
        frzs := fun b o u e => tupsOf_le (I2.base.frzs b o u e)
        tbls := fun b ps e => let ⟨m, z⟩ := I2.base.tbls b ps e; ⟨m, tupsOf_le z⟩ }
    loc := I3.loc
    cell := I3.cell
    free := tupsOf_none sm I3.free
    freeC := fun x c e => tupsOf_none sm (I3.freeC x c e)
    pin := fun p hp => let ⟨a, b, r⟩ := I3.pin p hp; ⟨a, tupsOf_none sm b, r⟩
    hok := fun a o e => by
      rcases tupsOf_cases e with h2 | ⟨_, ys, rfl, h3⟩
      · exact obj_forget (fun b o z => tupsOf_le z) (fun b ys z => tupsOf_tup sm z) o (I2.hok a o h2) (I3.hok a o (sm _ _ h2))
      · have k := I3.hok a _ h3
        simp only [ObjOk] at k ⊢
        exact k
    len := I3.len }
theorem get_lt {h : Heap} {b : Addr} {o : Obj} (e : h.get? b = some o) : b < h.objs.size := by
  rcases Nat.lt_or_ge b h.objs.size with k | k
  · exact k
  · unfold Heap.get? at e
    rw [Array.getElem?_eq_none k] at e
    cases e
theorem frs_there {h base : Heap} : ∀ {l : List Env}, h.FunFrames base l → ∀ b ∈ frs l, ∃ o, h.get? b = some o
  | [], _, b, hb => nomatch hb
  | e :: l, f, b, hb => by
    rw [Heap.FunFrames.eq_2] at f
    obtain ⟨_, ⟨L, o, e1, _, e3, _⟩, f2⟩ := f
    unfold frs at hb
    rw [List.filterMap_cons, e1] at hb
    rcases List.mem_cons.mp hb with rfl | hb
    · exact ⟨o, e3⟩
    · exact frs_there f2 b hb
theorem vals_at : ∀ {xs : List V} {its : List Value}, Vals xs its → ∀ {i : Nat} {v : Value}, its[i]? = some v → ∃ x, xs[i]? = some x ∧ RelV x v
  | _, _, .nil, _, _, e => by simp at e
  | _, _, .cons r t, 0, v, e => by
    simp only [List.getElem?_cons_zero, Option.some.injEq] at e
    subst e
    exact ⟨_, rfl, r⟩
  | _, _, .cons r t, i + 1, v, e => by
    simp only [List.getElem?_cons_succ] at e
    exact vals_at t e
/-- min(list, key=f): the item that stands first of those with the least key; the keys are pairs of a number and a text -/
def keyBt (kn : Nat → Int) (kz : Nat → Str) (i j : Nat) : Bool := PySem.W.dataLt (pD (kn i) (kz i)) (pD (kn j) (kz j))
def rMinK (mg : Str → Option Value) (x : Str) (sp : Sp) : List V → List V → Hp → VK → Prop := fun vs zs H Q => ∃ (a f : Addr) (xs : List V) (kn : Nat → Int) (kz : Nat → Str), vs = [.ref a] ∧ zs = [.ref f] ∧ mg x = some (.ref f) ∧ H a = some (.lst xs) ∧ xs ≠ [] ∧
  (∀ i z, xs[i]? = some z → ∀ H2 R, Same H H2 → (∀ p H3, Same H2 H3 → H2 p = none → H3 p = some (.tup [.int (kn i), .str (kz i)]) → R (.ref p) H3) → sp [z] H2 R (fun _ _ _ => False)) ∧
  ∀ z H2, xs[argBest (keyBt kn kz) (xs.length - 1)]? = some z → Same H H2 → Q z H2
section
variable {X : Cx}
theorem walk_mine {A : Around} (hA : A.handled = none) {I a : Addr} (ne : a ≠ I) (xs : List V) : Walks X.prog X.w A I [I, a] [I] xs.length (fun i v => ∃ x, xs[i]? = some x ∧ RelV x v) (fun i h => h.IsListIter I a i ∧ ∃ its, Vals xs its ∧ h.IsList a its.toArray) where
  sub := fun b hb => by rw [List.mem_singleton.mp hb]; exact List.mem_cons_self
  frame := fun i h h' ⟨⟨o, e1, e2, e3⟩, its, hv, o2, f1, f2, f3⟩ k => ⟨⟨o, k I List.mem_cons_self o e1, e2, e3⟩, its, hv, o2, k a (List.mem_cons_of_mem _ List.mem_cons_self) o2 f1, f2, f3⟩
  item := fun i s Q E hi ⟨it, its, hv, hl⟩ q => by
    have hlen := Paired.length hv
    refine (Walks.list hA I a ne its.toArray).item i s Q E (by simpa using (by omega : i < its.length)) ⟨it, hl⟩ fun v h' tk hvv hst hk => ?_
    refine q v h' tk ?_ ⟨hst.1, its, hv, hst.2⟩ hk
    have hi2 : i < its.length := by omega
    have e1 : its[i]? = some v := by simpa using hvv
    obtain ⟨x, hx, hr⟩ := vals_at hv e1
    exact ⟨x, hx, hr⟩
  done := fun s Q E ⟨it, its, hv, hl⟩ q => by
    have hlen := Paired.length hv
    refine (Walks.list hA I a ne its.toArray).done s Q E ⟨by simpa [hlen] using it, hl⟩ q
  self := fun i s Q E ⟨it, its, hv, hl⟩ q => (Walks.list hA I a ne its.toArray).self i s Q E ⟨it, hl⟩ q
/-- what stands through the walk -/
def mJ (X : Cx) (pins : List (Addr × Obj)) (σ : L2.St) (H : Hp) (I S : Addr) (s : Shared) : Prop := ∃ H2, L2.Inv X pins σ H2 s ∧ Same H H2 ∧ (∀ b o, H2 b = some o → H b = none → ∃ ys, o = HO.tup ys) ∧ H2 I = none ∧ H2 S = none
/-- a key that was told -/
def mV (X : Cx) (H : Hp) (I S : Addr) (kn : Nat → Int) (kz : Nat → Str) (i : Nat) (k : Value) (s : Shared) : Prop := ∃ p, k = .ref p ∧ (∃ its, Vals [.int (kn i), .str (kz i)] its ∧ IsTup s.heap p its.toArray) ∧ H p = none ∧ p ∉ frs X.stack ∧ p ≠ I ∧ p ≠ S
theorem isTup_un {h : Heap} {p : Addr} {a b : Array Value} (x : IsTup h p a) (y : IsTup h p b) : a = b := by
  obtain ⟨o, e1, _, n, e2⟩ := x
  obtain ⟨o', f1, _, n', f2⟩ := y
  rw [e1] at f1
  cases f1
  rw [e2] at f2
  cases f2
  rfl
theorem isTup_keep {h h' : Heap} {p : Addr} {a : Array Value} (x : IsTup h p a) (k : ∀ o, h.get? p = some o → h'.get? p = some o) : IsTup h' p a := by
  obtain ⟨o, e1, e2⟩ := x
  exact ⟨o, k o e1, e2⟩
theorem relV_int {y : V} {i : Int} {t : Tok} (b : RelV y (.int i t)) : y = .int i := by
  cases y with
  | int j => obtain ⟨t', e⟩ := b; cases e; rfl
  | non => cases b
  | bl _ => cases b
  | ref _ => cases b
  | ty _ => cases b
  | _ => obtain ⟨_, e⟩ := b; cases e
theorem relV_str {y : V} {z : Str} {t : Tok} (b : RelV y (.str z t)) : y = .str z := by
  cases y with
  | str j => obtain ⟨t', e⟩ := b; cases e; rfl
  | non => cases b
  | bl _ => cases b
  | ref _ => cases b
  | ty _ => cases b
  | _ => obtain ⟨_, e⟩ := b; cases e
theorem vals_pair {n : Int} {z : Str} {its : List Value} (h : Vals [.int n, .str z] its) : ∃ t t', its = [.int n t, .str z t'] := by
  obtain ⟨u, u', rfl, ⟨t, rfl⟩, ⟨t', rfl⟩⟩ := vals2 h
  exact ⟨t, t', rfl⟩
theorem vals_pair' {n : Int} {z : Str} {t t' : Tok} {ys : List V} (h : Vals ys [.int n t, .str z t']) : ys = [.int n, .str z] := by
  cases h with
  | cons a h =>
    cases h with
    | cons b h =>
      cases h
      rw [relV_int a, relV_str b]
theorem mJ_keep {pins : List (Addr × Obj)} {σ : L2.St} {H : Hp} {I S : Addr} {s s' : Shared}
    (hS : ∀ b, b ∈ [S, I] → (b ∈ X.ex ∨ X.s_0.heap.objs.size ≤ b) ∧ b ≠ X.env.locals ∧ (∀ (x : Str) (c : Addr), List.lookup x X.env.cells = some c → c ≠ b) ∧ ∀ p : Addr × Obj, p ∈ X.pn ++ pins → p.fst ≠ b)
    (j : mJ X pins σ H I S s) (m : Moved [S, I] (fun a b => b = a) s s') : mJ X pins σ H I S s' := by
  obtain ⟨H2, I2, sm, tp, nI, nS⟩ := j
  refine ⟨H2, ?_, sm, tp, nI, nS⟩
  obtain ⟨h', g', d', t', o'⟩ := s'
  have eo : o' = s.os := m.os
  subst eo
  have nm : ∀ b, (∃ o, H2 b = some o) → b ∉ [S, I] := fun b ⟨o, e⟩ z => by
    rcases List.mem_cons.mp z with rfl | z
    · rw [nS] at e; cases e
    · rw [List.mem_singleton.mp z, nI] at e; cases e
  refine Inv.call (ch := [S, I]) I2 ?_ (fun a o e => ?_) ?_ hS
  · exact { keep := fun b o e _ _ n => m.heap b o n e
            slot := fun b o e _ _ n => ⟨o.slots, m.heap b o n e⟩
            free := fun b o _ e _ => e
            there := fun b o e n => ⟨o, m.heap b o n e⟩
            tups := fun b ys e => e
            frzs := fun b o u e => e
            tbls := fun b ps e => ⟨#[], by simpa using e⟩ }
  · refine ObjOk.stay (I2.hok a o e) (fun b u hb hg => m.heap b u (nm b ?_) hg) (fun b z => z) (fun b ys z => z)
    rcases hb with rfl | hb
    · exact ⟨o, e⟩
    · exact ⟨_, hb⟩
  · have : g' = s.gens := m.gens
    rw [this]
    exact I2.bare
theorem mV_keep {H : Hp} {I S : Addr} {kn : Nat → Int} {kz : Nat → Str} {i : Nat} {k : Value} {s s' : Shared} {G : Array GenState → Array GenState → Prop} (v : mV X H I S kn kz i k s) (m : Moved [S, I] G s s') : mV X H I S kn kz i k s' := by
  obtain ⟨p, rfl, ⟨its, hv, ht⟩, n, nf, nI, nS⟩ := v
  refine ⟨p, rfl, ⟨its, hv, isTup_keep ht fun o e => m.heap p o (fun z => ?_) e⟩, n, nf, nI, nS⟩
  rcases List.mem_cons.mp z with e | e
  · exact nS e
  · exact nI (List.mem_singleton.mp e)
theorem mReads {H : Hp} {I S : Addr} {kn : Nat → Int} {kz : Nat → Str} {i : Nat} {k : Value} {s : Shared} (v : mV X H I S kn kz i k s) : ∃ as, Reads s.heap k (pD (kn i) (kz i)) as := by
  obtain ⟨p, rfl, ⟨its, hv, o, e1, e2, n, e3⟩, _⟩ := v
  obtain ⟨t, t', rfl⟩ := vals_pair hv
  exact ⟨_, .tuple e1 e2 e3 (.cons (.int _ t) (.cons (.str _ t') .nil))⟩
theorem cr_minK {k : Nat} {x pn : Str} {sp : Sp} (C : OkD X.prog X.w X.K X.mg X.base k x [pn] sp) (hr : Room (k + 1) X.A) : CallRK X (.builtin "min") ["key"] (rMinK X.mg x sp) := by
  intro pins s σ H vs zs us ws Q I0 rv rz h
  obtain ⟨a, f, xs, kn, kz, rfl, rfl, hf, ha, hne, hkey, hQ⟩ := h
  obtain ⟨f', fd, F, hm, _, hb⟩ := C
  rw [hf] at hm
  cases hm
  obtain ⟨u, rfl, ru⟩ := rv.one
  obtain ⟨u', rfl, ru'⟩ := rz.one
  cases ru
  cases ru'
  have oa := I0.hok a _ ha
  simp only [ObjOk] at oa
  obtain ⟨hxl, its, n0, hv, hl⟩ := oa
  have hA : X.A.in1.handled = none := (Room.in1 hr).hd
  show wpAny _ X.A (call (.builtin "min") [.ref a] [("key", .ref f)]) _ _ _
  refine call_min_walkK (wpAny_pyIter_list ⟨_, hl, rfl, _, rfl⟩ ?_)
  have haI : a ≠ s.heap.objs.size := Nat.ne_of_lt (get_lt hl)
  have kpush : ∀ (b : Addr) (o : Obj), s.heap.get? b = some o → (s.heap.push { cls := Value.type "list_iterator", data := Data.fields #[Value.ref a, Value.int 0 0] }).get? b = some o := fun b o e => Heap.get?_push_of_some _ e
  have hsz : (s.heap.push { cls := Value.type "list_iterator", data := Data.fields #[Value.ref a, Value.int 0 0] }).objs.size = s.heap.objs.size + 1 := by
    simp [Heap.push]
  have I1 : L2.Inv X pins σ H { s with heap := s.heap.push { cls := Value.type "list_iterator", data := Data.fields #[Value.ref a, Value.int 0 0] } } := I0.kept kpush
  have hfr : ∀ b ∈ frs X.stack, b < s.heap.objs.size := fun b hb => let ⟨o, e⟩ := frs_there I0.env0.funs b hb; get_lt e
  have hloc : X.env.locals < s.heap.objs.size := let ⟨_, ns, _⟩ := I0.loc; ns.lt
  have habove := I0.ok.above
  have hcell : ∀ (x : Str) (c : Addr), List.lookup x X.env.cells = some c → c < s.heap.objs.size := fun x c e => let ⟨_, o, e1, _⟩ := I0.cell x c e; get_lt e1
  have hpin : ∀ p : Addr × Obj, p ∈ X.pn ++ pins → p.fst < s.heap.objs.size := fun p hp => get_lt (I0.pin p hp).1
  generalize hI : s.heap.objs.size = I at *
  have hS2 : (s.heap.push { cls := Value.type "list_iterator", data := Data.fields #[Value.ref a, Value.int 0 0] }).objs.size = I + 1 := hsz
  have fresh : ∀ b, b ∈ [I + 1, I] → (b ∈ X.ex ∨ X.s_0.heap.objs.size ≤ b) ∧ b ≠ X.env.locals ∧ (∀ (x : Str) (c : Addr), List.lookup x X.env.cells = some c → c ≠ b) ∧ ∀ p : Addr × Obj, p ∈ X.pn ++ pins → p.fst ≠ b := by
    intro b hb
    have hbI : I ≤ b := by
      rcases List.mem_cons.mp hb with rfl | hb
      · exact Nat.le_succ I
      · rw [List.mem_singleton.mp hb]
        exact Nat.le_refl _
    refine ⟨.inr (Nat.le_trans (Nat.le_trans habove (Nat.le_of_lt hloc)) hbI), fun e => ?_, fun x c e z => ?_, fun p hp z => ?_⟩
    · rw [e] at hbI
      exact Nat.not_lt.mpr hbI hloc
    · rw [← z] at hbI
      exact Nat.not_lt.mpr hbI (hcell x c e)
    · rw [← z] at hbI
      exact Nat.not_lt.mpr hbI (hpin p hp)
  refine ⟨I, [I, a], [I], fun a b => b = a, xs.length, fun i v => ∃ x, xs[i]? = some x ∧ RelV x v, fun i s' => s'.heap.IsListIter I a i ∧ ∃ its, Vals xs its ∧ s'.heap.IsList a its.toArray, mJ X pins σ H I (I + 1), mV X H I (I + 1) kn kz, keyBt kn kz, rfl, ?_, ?_, ?_, List.length_pos_iff.mpr hne, ?_, ?_, ?_⟩
  · exact (walk_mine (X := X) hA haI xs).toS
  · exact ⟨⟨_, Heap.get?_push_at hI.symm rfl, rfl, rfl⟩, its, hv, _, kpush _ _ hl, rfl, _, rfl⟩
  · intro b hb
    show b < (s.heap.push _).objs.size
    rw [hS2]
    rcases List.mem_cons.mp hb with rfl | hb
    · exact Nat.lt_succ_self _
    · rw [List.mem_singleton.mp hb]
      have h9 := get_lt hl
      rw [hI] at h9
      exact Nat.lt_succ_of_lt h9
  · show KeyRun _ _ _ _ _ (s.heap.push _).objs.size _ _ _ _ _ _ _ _
    rw [hS2]
    refine ⟨fun st st' j m => mJ_keep fresh j m, fun i k st st' v m => mV_keep v m, ?_, ?_⟩
    · rintro i v st o Q' E' hi ⟨z, hz, rz⟩ ⟨H2, I2, sm, tp, nI, nS⟩ ⟨⟨oI, gI, cI, dI⟩, its', hv', hl'⟩ ho q
      apply wpAny_call
      refine codeAny_mono (F.run X.A.in1 X.stack st H2 ⟨[v], []⟩ [v] [z] (fun v H3 => ∃ p, v = .ref p ∧ Same H2 H3 ∧ H2 p = none ∧ H3 p = some (.tup [.int (kn i), .str (kz i)])) (fun _ _ _ => False) (Room.in1 hr) I2.env0.in1 (hb st [v] I2.kIn rfl) (.cons rz .nil) (hkey i z hz H2 _ sm fun p H3 s3 np hp => ⟨p, rfl, s3, np, hp⟩)) ?_
      rintro (er | (_ | _ | _ | u)) s' zz
      · exact zz.elim
      · exact zz.elim
      · exact zz.elim
      · exact zz.elim
      · obtain ⟨v', H3, eos, bare, un, hok, rv', p, rfl, s3, np, hp⟩ := zz
        cases rv'
        obtain ⟨h', g', d', t', o'⟩ := s'
        have eo : o' = st.os := eos
        subst eo
        have I3 : L2.Inv X pins σ H3 { heap := h', gens := g', drawn := d', toks := t', os := st.os } := Inv.call (ch := []) I2 un hok bare (fun b hb => nomatch hb)
        have fI : I ∉ frs X.stack := fun z => Nat.lt_irrefl _ (hfr _ z)
        have fS : I + 1 ∉ frs X.stack := fun z => Nat.lt_irrefl _ (Nat.lt_of_succ_lt (hfr _ z))
        have n3I : H3 I = none := un.free I oI gI nI (fun z => nomatch z)
        have n3S : H3 (I + 1) = none := un.free (I + 1) o ho nS (fun z => nomatch z)
        have nfp : p ∉ frs X.stack := fun z => by
          have := I3.env0.frf p z
          rw [hp] at this
          cases this
        refine q (.ref p) _ ⟨tupsOf H2 H3, forget I2 I3 s3, fun b o e => tupsOf_le (sm _ _ e), fun b o e n => (tupsOf_cases e).elim (fun h2 => tp b o h2 n) (fun ⟨_, ys, e, _⟩ => ⟨ys, e⟩), tupsOf_none s3 n3I, tupsOf_none s3 n3S⟩ ⟨⟨oI, un.keep I oI gI nI fI (fun z => nomatch z), cI, dI⟩, ?_⟩ (un.keep (I + 1) o ho nS fS (fun z => nomatch z)) ⟨p, rfl, ?_, ?_, nfp, fun z => ?_, fun z => ?_⟩ ?_
        · have k := hok a _ (s3 _ _ (sm _ _ ha))
          simp only [ObjOk] at k
          obtain ⟨_, its2, n2, hv2, hl2⟩ := k
          exact ⟨its2, hv2, _, hl2, rfl, _, rfl⟩
        · have k := hok p _ hp
          simp only [ObjOk] at k
          exact k.2
        · cases e : H p with
          | none => rfl
          | some o =>
            have := sm _ _ e
            rw [np] at this
            cases this
        · rw [z, n3I] at hp
          cases hp
        · rw [z, n3S] at hp
          cases hp
        · rintro j k' ⟨p', rfl, ⟨its3, hv3, ht3⟩, n, nf, nI', nS'⟩
          refine ⟨p', rfl, ?_, n, nf, nI', nS'⟩
          cases e : H2 p' with
          | none => exact ⟨its3, hv3, isTup_keep ht3 fun o e' => un.keep p' o e' e nf (fun z => nomatch z)⟩
          | some oo =>
            obtain ⟨ys, rfl⟩ := tp p' oo e n
            have k := I2.hok p' _ e
            simp only [ObjOk] at k
            obtain ⟨_, its4, hv4, ht4⟩ := k
            have e4 : its3 = its4 := by simpa using isTup_un ht3 ht4
            subst e4
            obtain ⟨t1, t2, rfl⟩ := vals_pair hv3
            have ey := vals_pair' hv4
            subst ey
            have k := hok p' _ (s3 _ _ e)
            simp only [ObjOk] at k
            exact k.2
    · intro i j ki kj st Q' E' _ vi vj q
      obtain ⟨as, r1⟩ := mReads vi
      obtain ⟨bs, r2⟩ := mReads vj
      have hun := (Room.in1 hr).un
      have hd := dep_pair (kn i) (kz i)
      exact PySem.W.rcLt_alike _ _ X.A.in1 st ki kj as bs r1 r2 (alike_pair _ _ _ _) (fun z => nomatch z) (by omega) X.prog X.w _ _ q
  · exact ⟨H, I1, .refl H, fun b o e n => (by rw [e] at n; cases n), I0.hok.fresh (Nat.le_of_eq hI), I0.hok.fresh (by rw [hI]; exact Nat.le_succ I)⟩
  · rintro v s' ⟨z, hz, rz⟩ ⟨H2, I2, sm, _⟩
    exact ⟨z, H2, I2, rz, hQ z H2 hz sm⟩
end
end G1

namespace G1
open PySem PySem.Spec PyProof.Rows L2
section
variable {X : Cx} {k : Nat} {x pn : Str} {sp : Sp} {e : Expr} {ta : TE} {p p2 pos kp : Pos}
/-- the name of a def, as a value -/
def tFn (mg : Str → Option Value) (x : Str) : TE := fun σ H Q => ∀ f, mg x = some (.ref f) → Q (.ref f) H
theorem pe_fnref (C : OkD X.prog X.w X.K X.mg X.base k x [pn] sp) (hg : Gl X x) (hdb : (x == ("__debug__" : Str)) = false := by decide) : PE X (.Name x p) (tFn X.mg x) := by
  obtain ⟨f, fd, F, hm, _⟩ := C
  exact ⟨fun pins s σ H Q I h => (pe_gref (a := f) hg hm hdb).run pins s σ H Q I (h f hm)⟩
/-- min(list, key=f) -/
def tMinK (mg : Str → Option Value) (x : Str) (sp : Sp) (ta : TE) : TE := fun σ H Q => ta σ H fun v H1 => ∀ f, mg x = some (.ref f) → rMinK mg x sp [v] [.ref f] H1 Q
theorem pe_minK (C : OkD X.prog X.w X.K X.mg X.base k x [pn] sp) (hr : Room (k + 1) X.A) (hg : Gl X "min") (hm : X.mg "min" = none) (hgx : Gl X x) (he : PE X e ta) (hdb : (x == ("__debug__" : Str)) = false := by decide)
    (h3 : backTo pos (starEach [e] X.env) = (false, eval e X.env) :: backTo pos (starEach [] X.env)   := by rfl)
    (h5 : starEach [e] X.env = (false, eval e X.env) :: starEach [] X.env := by rfl) (h4 : ((backTo pos (starEach [e] X.env)).any fun x => x.fst) = false := by rfl) :
    PE X (.Call (.Name "min" p) [e] [⟨some "key", .Name x p2, kp⟩] pos) (tMinK X.mg x sp ta) := by
  refine ⟨fun pins s σ H Q I h => ?_⟩
  refine (pe_callBK (cr_minK C hr) hg hm (by decide +kernel) (pa_cons he pa_nil h5) (pk_cons (pe_fnref C hgx hdb) pk_nil) (by decide) (by decide) h3 h4 (by rfl) (by rfl) (by rfl)).run pins s σ H Q I h
end
theorem isT_kitT {K : PySem.W.Frag} {H : Hp} {v : V} {t : String} (h : Any H v t) : PySem.W.kitOne K (.type t) (.type "tuple") = some (isT t "tuple") := by
  have m := h.mem
  simp only [List.mem_cons, List.not_mem_nil, or_false] at m
  rcases m with rfl | rfl | rfl | rfl | rfl | rfl | rfl <;> exact kit_ty (by decide +kernel)
/-- isinstance(x, tuple) -/
def rIsTu : List V → Hp → VK → Prop := fun xs H Q => ∃ v, xs = [v, .ty "tuple"] ∧ ∃ t, Any H v t ∧ Q (.bl (isT t "tuple")) H
theorem call_isTu {X : Cx} : CallR X (.builtin "isinstance") rIsTu := by
  rintro pins s σ H xs us Q I r ⟨v, rfl, t, hv, q⟩
  exact call_isi pins s σ H _ us Q I r ⟨v, .ty "tuple", _, _, _, rfl, .ty "tuple", hv.ty, isT_kitT hv, q⟩
end G1

namespace G1
open PySem PySem.Spec PyProof.Rows L2
/-! text.find(other, start): the first place from there on -/
def occStep (q : Nat → Bool) (len : Nat) (p : Array Nat × Nat) (i : Nat) : Array Nat × Nat := if (decide (p.1.size < 1) && decide (p.2 ≤ i) && q i) = true then (p.1.push i, i + len) else p
theorem occ_full (q : Nat → Bool) (len : Nat) : ∀ (L : List Nat) (p : Array Nat × Nat), ¬ p.1.size < 1 → L.foldl (occStep q len) p = p
  | [], p, _ => rfl
  | i :: L, p, h => by
    rw [List.foldl_cons]
    have : occStep q len p i = p := by
      unfold occStep
      rw [if_neg (by simp [h])]
    rw [this]
    exact occ_full q len L p h
theorem occ_find (q : Nat → Bool) (len lo : Nat) : ∀ (L : List Nat), (∀ i ∈ L, lo ≤ i) → ((L.foldl (occStep q len) (#[], lo)).1.toList = (L.find? q).toList)
  | [], _ => rfl
  | i :: L, h => by
    rw [List.foldl_cons, List.find?_cons]
    by_cases e : q i = true
    · have : occStep q len (#[], lo) i = (#[i], i + len) := by
        unfold occStep
        rw [if_pos (by simp [e, h i List.mem_cons_self])]
        rfl
      rw [this, occ_full q len L _ (by simp), e]
      rfl
    · have : occStep q len (#[], lo) i = (#[], lo) := by
        unfold occStep
        rw [if_neg (by simp [e])]
      rw [this, occ_find q len lo L (fun i hi => h i (List.mem_cons_of_mem _ hi))]
      rw [show q i = false by simpa using e]
def occQ (s sub : Str) (hi : Nat) (i : Nat) : Bool := decide (i + sub.length ≤ hi) && Builtin.Str.subAt s sub i
theorem occ_one (s sub : Str) (lo hi : Nat) : Builtin.Str.occurrences s sub lo hi 1 = ((List.range' lo (hi + 1 - lo)).find? (occQ s sub hi)).toList := by
  rw [← occ_find (occQ s sub hi) sub.length lo _ (fun i hi => (List.mem_range'_1.mp hi).1)]
  unfold Builtin.Str.occurrences
  simp only [Std.Legacy.Range.forIn_eq_forIn_range', Std.Legacy.Range.size, Nat.sub_zero, Nat.add_sub_cancel, Nat.div_one]
  generalize List.range' lo (hi + 1 - lo) = L
  have key : ∀ (L : List Nat) (p : Array Nat × Nat), (forIn (m := Id) L p fun i r => if (decide (r.1.size < 1) && decide (r.2 ≤ i) && decide (i + sub.length ≤ hi) && Builtin.Str.subAt s sub i) = true then (pure (ForInStep.yield (r.1.push i, i + sub.length)) : Id _) else pure (ForInStep.yield (r.1, r.2))) = (L.foldl (occStep (occQ s sub hi) sub.length) p : Id _) := by
    intro L
    induction L with
    | nil => intro p; rfl
    | cons i L ih =>
      intro p
      rw [List.forIn_cons, List.foldl_cons]
      have es : occStep (occQ s sub hi) sub.length p i = if (decide (p.1.size < 1) && decide (p.2 ≤ i) && decide (i + sub.length ≤ hi) && Builtin.Str.subAt s sub i) = true then (p.1.push i, i + sub.length) else p := by
        unfold occStep occQ
        simp only [Bool.and_assoc]
      rw [es]
      split
      · exact ih _
      · exact ih _
  exact congrArg (fun p : Array Nat × Nat => p.1.toList) (key L (#[], lo))
/-- the first place from a place on where the other text stands -/
theorem find3_at {s sub : Str} {lo k : Nat} (h1 : lo ≤ k) (h2 : k + sub.length ≤ s.length) (h3 : Builtin.Str.subAt s sub k = true) (h4 : ∀ i, lo ≤ i → i < k → Builtin.Str.subAt s sub i = false) : Txt.find3 s sub (lo : Int) = (k : Int) := by
  have e1 : fromIndex s.length (lo : Int) = lo := by
    unfold fromIndex
    rw [if_neg (by omega)]
    omega
  unfold Txt.find3
  rw [e1, occ_one]
  have e2 : (List.range' lo (s.length + 1 - lo)).find? (occQ s sub s.length) = some k := by
    rw [List.find?_eq_some_iff_append]
    refine ⟨by unfold occQ; simp [h2, h3], List.range' lo (k - lo), List.range' (k + 1) (s.length - k), ?_, fun i hi => ?_⟩
    · have : s.length + 1 - lo = (k - lo) + (1 + (s.length - k)) := by omega
      rw [this, ← List.range'_append_1, show lo + (k - lo) = k by omega, Nat.add_comm 1, List.range'_succ]
    · have := List.mem_range'_1.mp hi
      unfold occQ
      rw [h4 i this.1 (by omega)]
      simp
  rw [e2]
  rfl
end G1

namespace G1
open PySem PySem.Spec PyProof.Rows L2
/-! defs of three that may raise, called by place or by all three names in another order -/
def OkX3c (P : Program) (w : World) (K : PySem.W.Frag) (mg : Str → Option Value) (base : Heap) (k : Nat) (x p1 p2 p3 : Str) (sp : Sp) : Prop :=
  ∃ f fd, FnOk P w K mg base (L2.CX P w) k f fd [p1, p2, p3] sp ∧ mg x = some (.ref f) ∧ PySem.W.keepIn K (.ref f) = true ∧ L2.Binds K fd [p1, p2, p3] [] ∧ ∀ (s : Shared) (u1 u2 u3 : Value), BindsTo s fd ⟨[], [(p3, u3), (p1, u1), (p2, u2)]⟩ [(p1, u1), (p2, u2), (p3, u3)]
theorem OkX3c.okX {P : Program} {w : World} {K : PySem.W.Frag} {mg : Str → Option Value} {base : Heap} {k : Nat} {x p1 p2 p3 : Str} {sp : Sp} (h : OkX3c P w K mg base k x p1 p2 p3 sp) : OkX P w K mg base k x [p1, p2, p3] sp :=
  let ⟨f, fd, h1, h2, h3, h4, _⟩ := h
  ⟨f, fd, h1, h2, h3, h4⟩
theorem okx3c {P : Program} {w : World} {K : PySem.W.Frag} {mg : Str → Option Value} {base : Heap} {x p1 p2 p3 : Str} {st : Stmt} {k : Nat} {sp : Sp} (S : Src K mg x st) (F : ∀ f fd, Fun K x x st f fd → FnOk P w K mg base (L2.CX P w) k f fd [p1, p2, p3] sp)
    (h : ∀ (kV doc pm : Value) (an : Option Addr) (cdv ct : Value) (us : List Value), us.length = [p1, p2, p3].length → bindArgs (PySem.W.fnOf x x (defArgs st) (defBody st) (defScope st) .none kV doc pm an cdv ct) ⟨us, []⟩ = pure ([p1, p2, p3].zip us))
    (h2 : ∀ (kV doc pm : Value) (an : Option Addr) (cdv ct u1 u2 u3 : Value), bindArgs (PySem.W.fnOf x x (defArgs st) (defBody st) (defScope st) .none kV doc pm an cdv ct) ⟨[], [(p3, u3), (p1, u1), (p2, u2)]⟩ = pure [(p1, u1), (p2, u2), (p3, u3)]) : OkX3c P w K mg base k x p1 p2 p3 sp := by
  obtain ⟨f, fd, F1, g⟩ := S
  refine ⟨f, fd, F f fd F1, g, F1.kp, F1.binds h, ?_⟩
  obtain ⟨oc, od, kV, doc, pm, an, cdv, ct, osl, rfl, lk, hcd⟩ := F1.ex
  intro s u1 u2 u3 M A E Q q
  rw [h2 kV doc pm an cdv ct u1 u2 u3]
  exact wpAny_pure q
section
variable {X : Cx} {k : Nat} {x p1 p2 p3 : Str} {sp : Sp} {p pos : Pos}
/-- by all three names, in another order -/
def tCallK3c (sp : Sp) (tk : TA) : TE := fun σ H Q => tk σ H fun zs H1 => ∃ v1 v2 v3, zs = [v3, v1, v2] ∧ sp [v1, v2, v3] H1 Q (fun _ _ _ => False)
theorem pe_callK3c {kws : List Keyword} {tk : TA} (C : OkX3c X.prog X.w X.K X.mg X.base k x p1 p2 p3 sp) (hr : Room k X.A) (hg : Gl X x) (hkw : PK X kws tk)
    (hks : (backToKw pos (keywordEach kws X.env)).filterMap (·.1) = [p3, p1, p2] := by rfl) (hall : (backToKw pos (keywordEach kws X.env)).all (·.1.isSome) = true := by rfl) (hdb : (x == ("__debug__" : Str)) = false := by decide)
    (hpl : ((backTo pos (starEach [] X.env)).any (·.1) || (backToKw pos (keywordEach kws X.env)).any (·.1.isNone)) = false := by rfl) :
    PE X (.Call (.Name x p) [] kws pos) (tCallK3c sp tk) := by
  obtain ⟨f, fd, F, hm, hk, hb, hb2⟩ := C
  constructor
  intro pins s σ H Q I h
  apply wpAny_Call_Name_kw (ld_glob I hg hm ?_ hdb)
  apply PySem.W.callWith_KW0 (h₀ := X.base) I.ok.mod.kin hk hall ?_ hpl
  apply thn (hkw.run pos pins s σ H _ I h)
  rintro ws s2 ⟨zs, H2, I2, rz, v1, v2, v3, rfl, q⟩
  refine ⟨I2.kIn, ?_⟩
  rw [hks]
  obtain ⟨w3, w1, w2, rfl, r3, r1, r2⟩ := vals3' rz
  show wpAny (model X.prog X.w) X.A (call (.ref f) [] [(p3, w3), (p1, w1), (p2, w2)]) (EP X pins σ Q) X.xe s2
  apply wpAny_call (codeAny_mono (F.run X.A X.stack s2 H2 ⟨[], [(p3, w3), (p1, w1), (p2, w2)]⟩ [w1, w2, w3] _ Q _ hr I2.env0 (hb2 s2 w1 w2 w3) (.cons r1 (.cons r2 (.cons r3 .nil))) q) ?_)
  rintro (er | (_ | _ | _ | u)) s' z
  · exact passC pins σ H2 s2 er s' I2 z
  · exact z.elim
  · exact z.elim
  · exact z.elim
  · exact I2.after z
end
end G1
namespace G1
open PySem PySem.Spec PyProof.Rows L2
/-! defs of three that may raise, called by place or by all three names in another order -/
def OkX3d (P : Program) (w : World) (K : PySem.W.Frag) (mg : Str → Option Value) (base : Heap) (k : Nat) (x p1 p2 p3 : Str) (sp : Sp) : Prop :=
  ∃ f fd, FnOk P w K mg base (L2.CX P w) k f fd [p1, p2, p3] sp ∧ mg x = some (.ref f) ∧ PySem.W.keepIn K (.ref f) = true ∧ L2.Binds K fd [p1, p2, p3] [] ∧ ∀ (s : Shared) (u1 u2 u3 : Value), BindsTo s fd ⟨[], [(p2, u2), (p3, u3), (p1, u1)]⟩ [(p1, u1), (p2, u2), (p3, u3)]
theorem OkX3d.okX {P : Program} {w : World} {K : PySem.W.Frag} {mg : Str → Option Value} {base : Heap} {k : Nat} {x p1 p2 p3 : Str} {sp : Sp} (h : OkX3d P w K mg base k x p1 p2 p3 sp) : OkX P w K mg base k x [p1, p2, p3] sp :=
  let ⟨f, fd, h1, h2, h3, h4, _⟩ := h
  ⟨f, fd, h1, h2, h3, h4⟩
theorem okx3d {P : Program} {w : World} {K : PySem.W.Frag} {mg : Str → Option Value} {base : Heap} {x p1 p2 p3 : Str} {st : Stmt} {k : Nat} {sp : Sp} (S : Src K mg x st) (F : ∀ f fd, Fun K x x st f fd → FnOk P w K mg base (L2.CX P w) k f fd [p1, p2, p3] sp)
    (h : ∀ (kV doc pm : Value) (an : Option Addr) (cdv ct : Value) (us : List Value), us.length = [p1, p2, p3].length → bindArgs (PySem.W.fnOf x x (defArgs st) (defBody st) (defScope st) .none kV doc pm an cdv ct) ⟨us, []⟩ = pure ([p1, p2, p3].zip us))
    (h2 : ∀ (kV doc pm : Value) (an : Option Addr) (cdv ct u1 u2 u3 : Value), bindArgs (PySem.W.fnOf x x (defArgs st) (defBody st) (defScope st) .none kV doc pm an cdv ct) ⟨[], [(p2, u2), (p3, u3), (p1, u1)]⟩ = pure [(p1, u1), (p2, u2), (p3, u3)]) : OkX3d P w K mg base k x p1 p2 p3 sp := by
  obtain ⟨f, fd, F1, g⟩ := S
  refine ⟨f, fd, F f fd F1, g, F1.kp, F1.binds h, ?_⟩
  obtain ⟨oc, od, kV, doc, pm, an, cdv, ct, osl, rfl, lk, hcd⟩ := F1.ex
  intro s u1 u2 u3 M A E Q q
  rw [h2 kV doc pm an cdv ct u1 u2 u3]
  exact wpAny_pure q
section
variable {X : Cx} {k : Nat} {x p1 p2 p3 : Str} {sp : Sp} {p pos : Pos}
/-- by all three names, in another order -/
def tCallK3d (sp : Sp) (tk : TA) : TE := fun σ H Q => tk σ H fun zs H1 => ∃ v1 v2 v3, zs = [v2, v3, v1] ∧ sp [v1, v2, v3] H1 Q (fun _ _ _ => False)
theorem pe_callK3d {kws : List Keyword} {tk : TA} (C : OkX3d X.prog X.w X.K X.mg X.base k x p1 p2 p3 sp) (hr : Room k X.A) (hg : Gl X x) (hkw : PK X kws tk)
    (hks : (backToKw pos (keywordEach kws X.env)).filterMap (·.1) = [p2, p3, p1] := by rfl) (hall : (backToKw pos (keywordEach kws X.env)).all (·.1.isSome) = true := by rfl) (hdb : (x == ("__debug__" : Str)) = false := by decide)
    (hpl : ((backTo pos (starEach [] X.env)).any (·.1) || (backToKw pos (keywordEach kws X.env)).any (·.1.isNone)) = false := by rfl) :
    PE X (.Call (.Name x p) [] kws pos) (tCallK3d sp tk) := by
  obtain ⟨f, fd, F, hm, hk, hb, hb2⟩ := C
  constructor
  intro pins s σ H Q I h
  apply wpAny_Call_Name_kw (ld_glob I hg hm ?_ hdb)
  apply PySem.W.callWith_KW0 (h₀ := X.base) I.ok.mod.kin hk hall ?_ hpl
  apply thn (hkw.run pos pins s σ H _ I h)
  rintro ws s2 ⟨zs, H2, I2, rz, v1, v2, v3, rfl, q⟩
  refine ⟨I2.kIn, ?_⟩
  rw [hks]
  obtain ⟨w2, w3, w1, rfl, r2, r3, r1⟩ := vals3' rz
  show wpAny (model X.prog X.w) X.A (call (.ref f) [] [(p2, w2), (p3, w3), (p1, w1)]) (EP X pins σ Q) X.xe s2
  apply wpAny_call (codeAny_mono (F.run X.A X.stack s2 H2 ⟨[], [(p2, w2), (p3, w3), (p1, w1)]⟩ [w1, w2, w3] _ Q _ hr I2.env0 (hb2 s2 w1 w2 w3) (.cons r1 (.cons r2 (.cons r3 .nil))) q) ?_)
  rintro (er | (_ | _ | _ | u)) s' z
  · exact passC pins σ H2 s2 er s' I2 z
  · exact z.elim
  · exact z.elim
  · exact z.elim
  · exact I2.after z
end
end G1

namespace MW
/-! hair and ring of a plain word; powers -/
theorem plain_app_iff : ∀ (u v : List Nat), Plain (u ++ v) ↔ Plain u ∧ Plain v ∧ ∀ a b, u.getLast? = some a → v.head? = some b → b ≠ inv a
  | [], v => by simp [Plain]
  | [a], [] => by simp [Plain]
  | [a], b :: v => by
    simp only [List.singleton_append, Plain, List.getLast?_singleton, List.head?_cons, Option.some.injEq]
    constructor
    · rintro ⟨h1, h2⟩
      exact ⟨trivial, h2, fun x y hx hy => by subst hx; subst hy; exact h1⟩
    · rintro ⟨_, h2, h3⟩
      exact ⟨h3 a b rfl rfl, h2⟩
  | a :: c :: u, v => by
    have ih := plain_app_iff (c :: u) v
    simp only [List.cons_append, Plain] at ih ⊢
    rw [List.getLast?_cons_cons, ih]
    constructor
    · rintro ⟨h1, h2, h3, h4⟩
      exact ⟨⟨h1, h2⟩, h3, h4⟩
    · rintro ⟨⟨h1, h2⟩, h3, h4⟩
      exact ⟨h1, h2, h3, h4⟩
/-- empty, or its last sign is not the other one of its first -/
def Round (r : List Nat) : Prop := ∀ a b, r.getLast? = some a → r.head? = some b → b ≠ inv a
instance (r : List Nat) : Decidable (Round r) := by
  unfold Round
  cases r with
  | nil => exact .isTrue fun a b h => by simp at h
  | cons x r =>
    by_cases e : x = inv ((x :: r).getLast (by simp))
    · exact .isFalse fun h => h _ _ (List.getLast?_eq_some_getLast (by simp)) rfl e
    · refine .isTrue fun a b h1 h2 => ?_
      rw [List.getLast?_eq_some_getLast (by simp)] at h1
      cases h1
      cases h2
      exact e
/-- the sign at k and the k-th one from the end undo one another -/
def Meets (l : List Nat) (k : Nat) : Prop := 2 * k < l.length ∧ l[k]? = (l[l.length - 1 - k]?).map inv
instance (l : List Nat) (k : Nat) : Decidable (Meets l k) := inferInstanceAs (Decidable (_ ∧ _))
/-- so many signs at both ends undo one another, and no more -/
def HairK (l : List Nat) (k : Nat) : Prop := (∀ i, i < k → Meets l i) ∧ ¬ Meets l k
theorem HairK.uniq {l : List Nat} {a b : Nat} (h : HairK l a) (k : HairK l b) : a = b := by
  rcases Nat.lt_trichotomy a b with e | e | e
  · exact absurd (k.1 a e) h.2
  · exact e
  · exact absurd (h.1 b e) k.2
def hairW (l : List Nat) (k : Nat) : List Nat := l.take k
def ringW (l : List Nat) (k : Nat) : List Nat := (l.drop k).take (l.length - k - k)
theorem HairK.le {l : List Nat} {k : Nat} (h : HairK l k) : 2 * k ≤ l.length := by
  cases k with
  | zero => omega
  | succ k =>
    obtain ⟨h1, h2⟩ := h.1 k (Nat.lt_succ_self k)
    rcases Nat.lt_or_ge (2 * k + 1) l.length with e | e
    · omega
    · exfalso
      have e1 : l.length - 1 - k = k := by omega
      rw [e1] at h2
      have hk : k < l.length := by omega
      rw [List.getElem?_eq_getElem hk] at h2
      exact inv_ne _ (Option.some.inj h2).symm
theorem opp_len' (l : List Nat) : (opp l).length = l.length := by
  unfold opp
  rw [List.length_reverse, List.length_map]
theorem opp_get {l : List Nat} {i : Nat} (h : i < l.length) : (opp l)[i]? = (l[l.length - 1 - i]?).map inv := by
  unfold opp
  rw [List.getElem?_reverse (by rw [List.length_map]; exact h), List.length_map, List.getElem?_map]
/-- the parts, one behind the other -/
theorem HairK.parts {l : List Nat} {k : Nat} (h : HairK l k) : l = hairW l k ++ ringW l k ++ opp (hairW l k) := by
  have h2 := h.le
  have e3 : opp (hairW l k) = l.drop (l.length - k) := by
    apply List.ext_getElem?
    intro i
    have hl : (hairW l k).length = k := by unfold hairW; rw [List.length_take]; omega
    rcases Nat.lt_or_ge i k with e | e
    · rw [opp_get (by rw [hl]; exact e), hl]
      have m := h.1 (k - 1 - i) (by omega)
      rw [List.getElem?_drop]
      unfold hairW
      rw [List.getElem?_take_of_lt (by omega), m.2, Option.map_map]
      have : (inv ∘ inv) = id := by funext x; exact inv_inv x
      rw [this, Option.map_id]
      simp only [id]
      congr 1
      omega
    · rw [List.getElem?_eq_none (by rw [opp_len', hl]; omega), List.getElem?_eq_none (by rw [List.length_drop]; omega)]
  rw [e3]
  unfold hairW ringW
  rw [show l.length - k - k = (l.length - k) - k by omega, ← List.drop_take]
  have e4 : List.take k l ++ List.drop k (List.take (l.length - k) l) = List.take (l.length - k) l := by
    have := List.take_append_drop k (List.take (l.length - k) l)
    rw [List.take_take, Nat.min_eq_left (by omega)] at this
    exact this
  rw [e4, List.take_append_drop]
theorem last_get (l : List Nat) : l.getLast? = l[l.length - 1]? := List.getLast?_eq_getElem?
theorem HairK.round {l : List Nat} {k : Nat} (h : HairK l k) : Round (ringW l k) := by
  have h2 := h.le
  intro a b ha hb e
  apply h.2
  have hl : (ringW l k).length = l.length - k - k := by unfold ringW; rw [List.length_take, List.length_drop]; omega
  have hpos : 0 < (ringW l k).length := by
    cases hh : ringW l k with
    | nil => rw [hh] at hb; cases hb
    | cons x y => simp
  rw [List.head?_eq_getElem?] at hb
  rw [last_get, hl] at ha
  unfold ringW at ha hb
  rw [List.getElem?_take_of_lt (by omega), List.getElem?_drop] at ha hb
  refine ⟨by omega, ?_⟩
  rw [Nat.add_zero] at hb
  rw [hb, e, show l.length - 1 - k = k + (l.length - k - k - 1) by omega, ha]
  rfl
theorem hair_of {h r : List Nat} (R : Round r) : HairK (h ++ r ++ opp h) h.length := by
  have hl : (h ++ r ++ opp h).length = h.length + r.length + h.length := by simp [opp_len', Nat.add_assoc]
  constructor
  · intro i hi
    refine ⟨by omega, ?_⟩
    rw [hl]
    rw [List.append_assoc, List.getElem?_append_left hi, ← List.append_assoc]
    rw [List.getElem?_append_right (by rw [List.length_append]; omega), List.length_append, opp_get (by omega), Option.map_map]
    have : (inv ∘ inv) = id := by funext x; exact inv_inv x
    rw [this, Option.map_id]
    simp only [id]
    congr 1
    omega
  · rintro ⟨h1, h2⟩
    rw [hl] at h1 h2
    have hr : 0 < r.length := by omega
    rw [List.append_assoc, List.getElem?_append_right (Nat.le_refl _), Nat.sub_self, List.getElem?_append_left hr,
      List.getElem?_append_right (by omega), List.getElem?_append_left (by omega)] at h2
    have hb : r.head? = r[0]? := List.head?_eq_getElem?
    have ha := last_get r
    rw [show h.length + r.length + h.length - 1 - h.length - h.length = r.length - 1 by omega] at h2
    rw [List.getElem?_eq_getElem hr, List.getElem?_eq_getElem (show r.length - 1 < r.length by omega)] at h2
    refine R r[r.length - 1] r[0] ?_ ?_ (Option.some.inj h2)
    · rw [ha, List.getElem?_eq_getElem]
    · rw [hb, List.getElem?_eq_getElem hr]
theorem parts_of {h r : List Nat} : hairW (h ++ r ++ opp h) h.length = h ∧ ringW (h ++ r ++ opp h) h.length = r := by
  constructor
  · unfold hairW
    rw [List.append_assoc, List.take_left]
  · unfold ringW
    rw [List.append_assoc, List.drop_left]
    have : (h ++ (r ++ opp h)).length - h.length - h.length = r.length := by simp [opp_len']
    rw [this, List.take_left]
/-- the hair's number of signs -/
def hk (l : List Nat) : Nat := ((List.range l.length).takeWhile fun k => decide (Meets l k)).length
theorem tw_range (p : Nat → Bool) : ∀ (n s : Nat), (∀ i, i < ((List.range' s n).takeWhile p).length → p (s + i) = true) ∧ (((List.range' s n).takeWhile p).length < n → p (s + ((List.range' s n).takeWhile p).length) = false)
  | 0, s => ⟨fun i h => absurd h (Nat.not_lt_zero i), fun h => absurd h (Nat.not_lt_zero _)⟩
  | n + 1, s => by
    rw [List.range'_succ, List.takeWhile_cons]
    by_cases h : p s = true
    · rw [if_pos h]
      obtain ⟨h1, h2⟩ := tw_range p n (s + 1)
      constructor
      · intro i hi
        cases i with
        | zero => exact h
        | succ i =>
          have := h1 i (by rw [List.length_cons] at hi; omega)
          rw [show s + (i + 1) = s + 1 + i by omega]
          exact this
      · intro hlt
        rw [List.length_cons] at hlt ⊢
        have := h2 (by omega)
        rw [← this]
        congr 1
        omega
    · rw [if_neg h]
      exact ⟨fun i hi => absurd hi (Nat.not_lt_zero i), fun _ => by simpa using h⟩
theorem hk_spec (l : List Nat) : HairK l (hk l) := by
  obtain ⟨h1, h2⟩ := tw_range (fun k => decide (Meets l k)) l.length 0
  unfold hk
  rw [List.range_eq_range']
  refine ⟨fun i hi => by simpa using h1 i hi, fun hm => ?_⟩
  have := hm.1
  have h3 := h2 (by omega)
  rw [Nat.zero_add] at h3
  simp only [decide_eq_false_iff_not] at h3
  exact h3 hm
def hair (l : List Nat) : List Nat := hairW l (hk l)
def ring (l : List Nat) : List Nat := ringW l (hk l)
theorem hr_eq (l : List Nat) : l = hair l ++ ring l ++ opp (hair l) := (hk_spec l).parts
theorem ring_round (l : List Nat) : Round (ring l) := (hk_spec l).round
theorem hr_of {h r : List Nat} (R : Round r) : hair (h ++ r ++ opp h) = h ∧ ring (h ++ r ++ opp h) = r := by
  have e : hk (h ++ r ++ opp h) = h.length := (hk_spec _).uniq (hair_of R)
  unfold hair ring
  rw [e]
  exact parts_of
theorem round_opp {r : List Nat} (R : Round r) : Round (opp r) := by
  intro a b ha hb e
  unfold opp at ha hb
  rw [List.getLast?_reverse, List.head?_map] at ha
  rw [List.head?_reverse, List.getLast?_map] at hb
  cases h1 : r.head? with
  | none => rw [h1] at ha; cases ha
  | some x =>
    rw [h1] at ha
    cases h2 : r.getLast? with
    | none => rw [h2] at hb; cases hb
    | some y =>
      rw [h2] at hb
      cases ha
      cases hb
      rw [inv_inv] at e
      exact R y x h2 h1 e.symm
theorem hr_opp (l : List Nat) : hair (opp l) = hair l ∧ ring (opp l) = opp (ring l) := by
  have e : opp l = hair l ++ opp (ring l) ++ opp (hair l) := by
    have h := congrArg opp (hr_eq l)
    rw [opp_append, opp_append, opp_opp] at h
    rw [h, List.append_assoc]
  have h2 := hr_of (h := hair l) (round_opp (ring_round l))
  rw [← e] at h2
  exact h2
theorem hr_len (l : List Nat) : 2 * (hair l).length + (ring l).length = l.length := by
  have := congrArg List.length (hr_eq l)
  rw [List.length_append, List.length_append, opp_len'] at this
  omega
theorem ring_nil {l : List Nat} (hp : Plain l) (h : ring l = []) : l = [] := by
  have e := hr_eq l
  rw [h, List.append_nil] at e
  have h1 := red_of_plain hp
  rw [e, red_undo] at h1
  rw [e]
  exact h1.symm
/-! so many times -/
def rep (n : Nat) (l : List Nat) : List Nat := (List.replicate n l).flatten
theorem rep_zero (l : List Nat) : rep 0 l = [] := rfl
theorem rep_succ (n : Nat) (l : List Nat) : rep (n + 1) l = l ++ rep n l := by
  unfold rep
  rw [List.replicate_succ, List.flatten_cons]
theorem rep_succ' (n : Nat) (l : List Nat) : rep (n + 1) l = rep n l ++ l := by
  unfold rep
  rw [List.replicate_succ', List.flatten_append]
  simp
theorem rep_len (n : Nat) (l : List Nat) : (rep n l).length = n * l.length := by
  induction n with
  | zero => simp [rep]
  | succ n ih => rw [rep_succ, List.length_append, ih, Nat.succ_mul]; omega
theorem rep_nil (n : Nat) : rep n [] = [] := by
  induction n with
  | zero => rfl
  | succ n ih => rw [rep_succ, ih]; rfl
theorem rep_opp (n : Nat) (l : List Nat) : opp (rep n l) = rep n (opp l) := by
  induction n with
  | zero => rfl
  | succ n ih => rw [rep_succ, opp_append, ih, rep_succ']
theorem rep_mem {n : Nat} {l : List Nat} {c : Nat} (h : c ∈ rep n l) : c ∈ l := by
  unfold rep at h
  obtain ⟨y, hy, hc⟩ := List.mem_flatten.mp h
  rw [List.mem_replicate] at hy
  rw [← hy.2]
  exact hc
theorem rep_head {n : Nat} {l : List Nat} (hl : l ≠ []) : (rep (n + 1) l).head? = l.head? := by
  rw [rep_succ]
  cases l with
  | nil => exact absurd rfl hl
  | cons a l => rfl
theorem rep_last {n : Nat} {l : List Nat} (hl : l ≠ []) : (rep (n + 1) l).getLast? = l.getLast? := by
  rw [rep_succ', List.getLast?_append]
  cases h : l.getLast? with
  | none => exact absurd (List.getLast?_eq_none_iff.mp h) hl
  | some a => rfl
theorem rep_plain {l : List Nat} (hp : Plain l) (R : Round l) (hl : l ≠ []) : ∀ n, Plain (rep n l)
  | 0 => trivial
  | n + 1 => by
    rw [rep_succ', plain_app_iff]
    refine ⟨rep_plain hp R hl n, hp, fun a b ha hb => ?_⟩
    cases n with
    | zero => cases ha
    | succ n =>
      rw [rep_last hl] at ha
      exact R a b ha hb
theorem red_right (u v : List Nat) : red (u ++ red v) = red (u ++ v) := by
  unfold red
  rw [stk_append, stk_append]
  have := stk_red v (stk [] u) (stk_plain u (show Plain [] from trivial))
  unfold red at this
  rw [this]
theorem red_cong {u u' v v' : List Nat} (h : red u = red u') (k : red v = red v') : red (u ++ v) = red (u' ++ v') := by
  rw [← red_left u v, h, red_left, ← red_right u' v, k, red_right]
/-- the power of a plain word, as the program writes it -/
def pw (b : List Nat) (n : Nat) : List Nat := if b = [] ∨ n = 0 then [] else hair b ++ rep n (ring b) ++ opp (hair b)
theorem red_rep (b : List Nat) (n : Nat) : red (rep n b) = red (hair b ++ rep n (ring b) ++ opp (hair b)) := by
  induction n with
  | zero =>
    rw [rep_zero, rep_zero, List.append_nil, red_undo]
    rfl
  | succ n ih =>
    rw [rep_succ, ← red_right b, ih, red_right]
    have e : b ++ (hair b ++ rep n (ring b) ++ opp (hair b)) = (hair b ++ ring b) ++ (opp (hair b) ++ opp (opp (hair b))) ++ (rep n (ring b) ++ opp (hair b)) := by
      have h := hr_eq b
      generalize hair b = x at h ⊢
      generalize ring b = y at h ⊢
      rw [h, opp_opp]
      simp only [List.append_assoc]
    rw [e, red_mid, rep_succ]
    simp only [List.append_assoc]
theorem pw_plain {b : List Nat} (hp : Plain b) (n : Nat) : Plain (pw b n) := by
  unfold pw
  split
  · trivial
  · rename_i h
    have hb : b ≠ [] := fun e => h (.inl e)
    obtain ⟨m, rfl⟩ : ∃ m, n = m + 1 := ⟨n - 1, by have : n ≠ 0 := fun e => h (.inr e); omega⟩
    have hr : ring b ≠ [] := fun e => hb (ring_nil hp e)
    have hp2 := hp
    rw [hr_eq b, plain_app_iff, plain_app_iff] at hp2
    obtain ⟨⟨p1, p2, j1⟩, p3, j2⟩ := hp2
    rw [plain_app_iff, plain_app_iff]
    refine ⟨⟨p1, rep_plain p2 (ring_round b) hr _, fun x y hx hy => ?_⟩, p3, fun x y hx hy => ?_⟩
    · rw [rep_head hr] at hy
      exact j1 x y hx hy
    · refine j2 x y ?_ hy
      rw [List.getLast?_append, rep_last hr] at hx
      rw [List.getLast?_append]
      exact hx
theorem pw_red {b : List Nat} (hp : Plain b) (n : Nat) : pw b n = red (rep n b) := by
  rw [← red_of_plain (pw_plain hp n), red_rep]
  unfold pw
  split
  · rename_i h
    rcases h with rfl | rfl
    · have : hair ([] : List Nat) = [] := by unfold hair hairW; simp
      have h2 : ring ([] : List Nat) = [] := by unfold ring ringW; simp
      rw [this, h2, rep_nil]
      rfl
    · rw [rep_zero, List.append_nil, red_undo]
      rfl
  · rfl
/-- the power for a whole number -/
def pwi (b : List Nat) (t : Int) : List Nat := pw (if 0 < t then b else opp b) t.natAbs
def gp (b : List Nat) (t : Int) : List Nat := rep t.natAbs (if 0 < t then b else opp b)
theorem pwi_red {b : List Nat} (hp : Plain b) (t : Int) : pwi b t = red (gp b t) := by
  unfold pwi gp
  split
  · exact pw_red hp _
  · exact pw_red (plain_opp hp) _
theorem pwi_plain {b : List Nat} (hp : Plain b) (t : Int) : Plain (pwi b t) := by
  rw [pwi_red hp]
  exact red_plain _
theorem gp_zero (b : List Nat) : gp b 0 = [] := rfl
theorem gp_up (b : List Nat) (t : Int) : red (b ++ gp b t) = red (gp b (t + 1)) := by
  unfold gp
  by_cases h : 0 ≤ t
  · obtain ⟨n, rfl⟩ := Int.eq_ofNat_of_zero_le h
    rw [if_pos (show (0 : Int) < (n : Int) + 1 by omega)]
    have e : ((n : Int) + 1).natAbs = n + 1 := by omega
    rw [e, rep_succ, Int.natAbs_natCast]
    cases n with
    | zero => rfl
    | succ n => rw [if_pos (by omega)]
  · obtain ⟨n, rfl⟩ : ∃ n : Nat, t = -((n : Int) + 1) := ⟨(-t - 1).toNat, by omega⟩
    rw [if_neg (by omega), if_neg (by omega)]
    have e1 : (-((n : Int) + 1)).natAbs = n + 1 := by omega
    have e2 : (-((n : Int) + 1) + 1).natAbs = n := by omega
    rw [e1, e2, rep_succ, ← List.append_assoc]
    have := red_mid b [] (rep n (opp b))
    simpa using this
theorem gp_down (b : List Nat) (t : Int) : red (opp b ++ gp b t) = red (gp b (t - 1)) := by
  have h := gp_up b (t - 1)
  rw [Int.sub_add_cancel] at h
  rw [← red_right, ← h, red_right, ← List.append_assoc]
  have := red_mid (opp b) [] (gp b (t - 1))
  rw [opp_opp] at this
  simpa using this
theorem gp_add (b : List Nat) (s t : Int) : red (gp b s ++ gp b t) = red (gp b (s + t)) := by
  have up : ∀ n : Nat, red (gp b n ++ gp b t) = red (gp b (n + t)) := by
    intro n
    induction n with
    | zero => rw [show ((0 : Nat) : Int) = 0 from rfl, gp_zero, List.nil_append, Int.zero_add]
    | succ n ih =>
      have h := gp_up b n
      have e : ((n + 1 : Nat) : Int) = (n : Int) + 1 := by omega
      rw [e, ← red_left, ← h, red_left, List.append_assoc, ← red_right, ih, red_right, gp_up]
      congr 2
      omega
  have down : ∀ n : Nat, red (gp b (-(n : Int)) ++ gp b t) = red (gp b (-(n : Int) + t)) := by
    intro n
    induction n with
    | zero => rw [show (-((0 : Nat) : Int)) = 0 from rfl, gp_zero, List.nil_append, Int.zero_add]
    | succ n ih =>
      have h := gp_down b (-(n : Int))
      have e : (-((n + 1 : Nat) : Int)) = -(n : Int) - 1 := by omega
      rw [e, ← red_left, ← h, red_left, List.append_assoc, ← red_right, ih, red_right, gp_down]
      congr 2
      omega
  by_cases h : 0 ≤ s
  · obtain ⟨n, rfl⟩ := Int.eq_ofNat_of_zero_le h
    exact up n
  · obtain ⟨n, rfl⟩ : ∃ n : Nat, s = -(n : Int) := ⟨(-s).toNat, by omega⟩
    exact down n
theorem gp_cong {u v : List Nat} (h : red u = red v) (t : Int) : red (gp u t) = red (gp v t) := by
  have key : ∀ (n : Nat) (u v : List Nat), red u = red v → red (rep n u) = red (rep n v) := by
    intro n
    induction n with
    | zero => intro u v _; rfl
    | succ n ih => intro u v h; rw [rep_succ, rep_succ]; exact red_cong h (ih u v h)
  unfold gp
  split
  · exact key _ _ _ h
  · exact key _ _ _ (by rw [red_opp, red_opp, h])
theorem gp_neg (b : List Nat) (t : Int) : gp b (-t) = opp (gp b t) := by
  unfold gp
  rw [rep_opp, Int.natAbs_neg]
  by_cases h0 : t = 0
  · subst h0; rfl
  · by_cases h : 0 < t
    · rw [if_pos h, if_neg (by omega)]
    · rw [if_neg h, if_pos (by omega), opp_opp]
theorem pwi_neg {b : List Nat} (hp : Plain b) (t : Int) : pwi b (-t) = opp (pwi b t) := by
  rw [pwi_red hp, pwi_red hp, gp_neg, red_opp]
theorem pwi_add {b : List Nat} (hp : Plain b) (s t : Int) : red (pwi b s ++ pwi b t) = pwi b (s + t) := by
  rw [pwi_red hp, pwi_red hp, pwi_red hp, red_left, red_right, gp_add]
theorem gp_mul (b : List Nat) (s t : Int) : red (gp (gp b s) t) = red (gp b (s * t)) := by
  have up : ∀ n : Nat, red (gp (gp b s) n) = red (gp b (s * n)) := by
    intro n
    induction n with
    | zero => rw [show ((0 : Nat) : Int) = 0 from rfl, Int.mul_zero]; rfl
    | succ n ih =>
      have e : ((n + 1 : Nat) : Int) = (n : Int) + 1 := by omega
      rw [e, ← gp_up, ← red_right, ih, red_right, gp_add]
      congr 2
      rw [Int.mul_add, Int.mul_one]
      omega
  by_cases h : 0 ≤ t
  · obtain ⟨n, rfl⟩ := Int.eq_ofNat_of_zero_le h
    exact up n
  · obtain ⟨n, rfl⟩ : ∃ n : Nat, t = -(n : Int) := ⟨(-t).toNat, by omega⟩
    rw [gp_neg, red_opp, up, ← red_opp, ← gp_neg]
    congr 2
    rw [Int.mul_neg]
theorem pwi_mul {b : List Nat} (hp : Plain b) (s t : Int) : pwi (pwi b s) t = pwi b (s * t) := by
  rw [pwi_red (pwi_plain hp s), pwi_red hp (s * t), ← gp_mul]
  exact gp_cong (by rw [pwi_red hp, red_red]) t
end MW

namespace G1
open PySem PySem.Spec PyProof.Rows L2
/-! min(list) of texts -/
def ltZ (zs : List Str) (i j : Nat) : Bool := decide ((zs.getD i ⟨#[]⟩).cps.toList < (zs.getD j ⟨#[]⟩).cps.toList)
def rMinS (K : PySem.W.Frag) : List V → Hp → VK → Prop := fun vs H Q => ∃ (a : Addr) (zs : List Str), vs = [.ref a] ∧ SqL K H a (zs.map V.str) ∧ zs ≠ [] ∧ ∀ z, zs[argBest (ltZ zs) (zs.length - 1)]? = some z → Q (.str z) H
section
variable {prog : Program} {w : World} {A : Around} {E : Value → Shared → Prop} {s : Shared} {l : Addr} {xs : Array Value}
theorem iter_any {Q : Value → Shared → Prop} (hl : s.heap.IsList l xs)
    (h : ∀ s₂ : Shared, s₂ = { s with heap := s.heap.push { cls := .type "list_iterator", data := .fields #[.ref l, .int 0 0] } } →
      (s₂.heap.IsListIter s.heap.objs.size l 0 ∧ s₂.heap.IsList l xs) → (∀ b ∈ [s.heap.objs.size, l], b < s₂.heap.objs.size) → l ≠ s.heap.objs.size → Q (.ref s.heap.objs.size) s₂) :
    wpAny (model prog w) A (pyIter (.ref l)) Q E s := by
  have hlt : l < s.heap.objs.size := by obtain ⟨_, e, _⟩ := hl; exact Heap.lt_size e
  refine wpAny_pyIter_list hl (h _ rfl ⟨⟨_, Heap.get?_push_size _ rfl, rfl, rfl⟩, hl.push _⟩ (fun b hb => ?_) (Nat.ne_of_lt hlt))
  show b < (s.heap.push _).objs.size
  rw [Heap.size_push]
  rcases List.mem_cons.mp hb with rfl | hb
  · exact Nat.lt_succ_self _
  · rcases List.mem_cons.mp hb with rfl | hb
    · exact Nat.lt_succ_of_lt hlt
    · cases hb
end
theorem vals_get {zs : List Str} {its : List Value} (h : Vals (zs.map V.str) its) {i : Nat} {v : Value} (e : its[i]? = some v) : ∃ t, v = .str (zs.getD i ⟨#[]⟩) t ∧ zs[i]? = some (zs.getD i ⟨#[]⟩) := by
  obtain ⟨x, hx, r⟩ := vals_at h e
  rw [List.getElem?_map] at hx
  obtain ⟨z, hz, rfl⟩ := Option.map_eq_some_iff.mp hx
  obtain ⟨t, rfl⟩ := r
  exact ⟨t, by rw [List.getD_eq_getElem?_getD, hz]; rfl, by rw [List.getD_eq_getElem?_getD, hz]; rfl⟩
theorem cr_minS {X : Cx} (hc : X.calm = true) : CallR X (.builtin "min") (rMinS X.K) := by
  intro pins s σ H vs us Q I r h
  obtain ⟨a, zs, rfl, hs, hne, q⟩ := h
  obtain ⟨its, rv, hl, _⟩ := I.list hs
  rw [Vals.ref1 r]
  have hlen := rv.length
  rw [List.length_map] at hlen
  have hp := List.length_pos_iff.mpr hne
  refine call_min_walk (iter_any hl.isList fun s₂ e st hfp hlI => ?_)
  subst e
  refine ⟨_, _, _, _, _, _, ltZ zs, rfl, Walks.list (A := X.A.in1) (I.ok.hd hc) _ a hlI its.toArray, st, hfp, by simpa [← hlen] using hp, ?_, fun v h' tk hP hk => ?_⟩
  · intro i j vi vj s' Q' E' hi hj hq
    obtain ⟨t, rfl, _⟩ := vals_get rv (by simpa using hi)
    obtain ⟨t', rfl, _⟩ := vals_get rv (by simpa using hj)
    exact (PyProof.Rows.lt_str hq : wpAny _ _ (compareOp .Lt _ _) _ _ _)
  · have hP' : its[argBest (ltZ zs) (zs.length - 1)]? = some v := by simpa [← hlen] using hP
    obtain ⟨t, rfl, hz⟩ := vals_get rv hP'
    exact ⟨.str _, H, I.kept (old_kept hk), ⟨_, rfl⟩, q _ hz⟩
theorem cr_minSK {X : Cx} (K : PySem.W.Frag) (hK : X.K = K) (hc : X.calm = true) : CallR X (.builtin "min") (rMinS K) := hK ▸ cr_minS hc
end G1

namespace G1
open PySem PySem.Spec PyProof.Rows L2
/-! defs of three that may raise, called by place or by all three names in another order -/
def OkX3e (P : Program) (w : World) (K : PySem.W.Frag) (mg : Str → Option Value) (base : Heap) (k : Nat) (x p1 p2 p3 : Str) (sp : Sp) : Prop :=
  ∃ f fd, FnOk P w K mg base (L2.CX P w) k f fd [p1, p2, p3] sp ∧ mg x = some (.ref f) ∧ PySem.W.keepIn K (.ref f) = true ∧ L2.Binds K fd [p1, p2, p3] [] ∧ ∀ (s : Shared) (u1 u2 u3 : Value), BindsTo s fd ⟨[], [(p3, u3), (p2, u2), (p1, u1)]⟩ [(p1, u1), (p2, u2), (p3, u3)]
theorem OkX3e.okX {P : Program} {w : World} {K : PySem.W.Frag} {mg : Str → Option Value} {base : Heap} {k : Nat} {x p1 p2 p3 : Str} {sp : Sp} (h : OkX3e P w K mg base k x p1 p2 p3 sp) : OkX P w K mg base k x [p1, p2, p3] sp :=
  let ⟨f, fd, h1, h2, h3, h4, _⟩ := h
  ⟨f, fd, h1, h2, h3, h4⟩
theorem okx3e {P : Program} {w : World} {K : PySem.W.Frag} {mg : Str → Option Value} {base : Heap} {x p1 p2 p3 : Str} {st : Stmt} {k : Nat} {sp : Sp} (S : Src K mg x st) (F : ∀ f fd, Fun K x x st f fd → FnOk P w K mg base (L2.CX P w) k f fd [p1, p2, p3] sp)
    (h : ∀ (kV doc pm : Value) (an : Option Addr) (cdv ct : Value) (us : List Value), us.length = [p1, p2, p3].length → bindArgs (PySem.W.fnOf x x (defArgs st) (defBody st) (defScope st) .none kV doc pm an cdv ct) ⟨us, []⟩ = pure ([p1, p2, p3].zip us))
    (h2 : ∀ (kV doc pm : Value) (an : Option Addr) (cdv ct u1 u2 u3 : Value), bindArgs (PySem.W.fnOf x x (defArgs st) (defBody st) (defScope st) .none kV doc pm an cdv ct) ⟨[], [(p3, u3), (p2, u2), (p1, u1)]⟩ = pure [(p1, u1), (p2, u2), (p3, u3)]) : OkX3e P w K mg base k x p1 p2 p3 sp := by
  obtain ⟨f, fd, F1, g⟩ := S
  refine ⟨f, fd, F f fd F1, g, F1.kp, F1.binds h, ?_⟩
  obtain ⟨oc, od, kV, doc, pm, an, cdv, ct, osl, rfl, lk, hcd⟩ := F1.ex
  intro s u1 u2 u3 M A E Q q
  rw [h2 kV doc pm an cdv ct u1 u2 u3]
  exact wpAny_pure q
section
variable {X : Cx} {k : Nat} {x p1 p2 p3 : Str} {sp : Sp} {p pos : Pos}
/-- by all three names, in another order -/
def tCallK3e (sp : Sp) (tk : TA) : TE := fun σ H Q => tk σ H fun zs H1 => ∃ v1 v2 v3, zs = [v3, v2, v1] ∧ sp [v1, v2, v3] H1 Q (fun _ _ _ => False)
theorem pe_callK3e {kws : List Keyword} {tk : TA} (C : OkX3e X.prog X.w X.K X.mg X.base k x p1 p2 p3 sp) (hr : Room k X.A) (hg : Gl X x) (hkw : PK X kws tk)
    (hks : (backToKw pos (keywordEach kws X.env)).filterMap (·.1) = [p3, p2, p1] := by rfl) (hall : (backToKw pos (keywordEach kws X.env)).all (·.1.isSome) = true := by rfl) (hdb : (x == ("__debug__" : Str)) = false := by decide)
    (hpl : ((backTo pos (starEach [] X.env)).any (·.1) || (backToKw pos (keywordEach kws X.env)).any (·.1.isNone)) = false := by rfl) :
    PE X (.Call (.Name x p) [] kws pos) (tCallK3e sp tk) := by
  obtain ⟨f, fd, F, hm, hk, hb, hb2⟩ := C
  constructor
  intro pins s σ H Q I h
  apply wpAny_Call_Name_kw (ld_glob I hg hm ?_ hdb)
  apply PySem.W.callWith_KW0 (h₀ := X.base) I.ok.mod.kin hk hall ?_ hpl
  apply thn (hkw.run pos pins s σ H _ I h)
  rintro ws s2 ⟨zs, H2, I2, rz, v1, v2, v3, rfl, q⟩
  refine ⟨I2.kIn, ?_⟩
  rw [hks]
  obtain ⟨w3, w2, w1, rfl, r3, r2, r1⟩ := vals3' rz
  show wpAny (model X.prog X.w) X.A (call (.ref f) [] [(p3, w3), (p2, w2), (p1, w1)]) (EP X pins σ Q) X.xe s2
  apply wpAny_call (codeAny_mono (F.run X.A X.stack s2 H2 ⟨[], [(p3, w3), (p2, w2), (p1, w1)]⟩ [w1, w2, w3] _ Q _ hr I2.env0 (hb2 s2 w1 w2 w3) (.cons r1 (.cons r2 (.cons r3 .nil))) q) ?_)
  rintro (er | (_ | _ | _ | u)) s' z
  · exact passC pins σ H2 s2 er s' I2 z
  · exact z.elim
  · exact z.elim
  · exact z.elim
  · exact I2.after z
end
end G1
namespace G1
open PySem PySem.Spec PyProof.Rows L2
theorem comp_tup {K : PySem.W.Frag} {a : Addr} {xs : List V} {g : TG} {tt : TT} {te : TE} {vs : List Nat} {σ : L2.St} {H1 : Hp} {Q : VK} (Pv : Addr → Nat → Hp → Prop) (h0 : ∀ D, H1 D = none → Pv D 0 (upd H1 D (.lst []))) (hl : ∀ D i H, H1 D = none → i ≤ xs.length → Pv D i H → SqT K H a xs)
    (hs : ∀ D i x H, H1 D = none → xs[i]? = some x → Pv D i H → g x (wipe σ vs) H fun σ2 H2 => wipe σ2 vs = wipe σ vs ∧ tt σ2 H2 fun b H3 =>
      if b = true then te σ2 H3 fun y H4 => ∃ acc, H4 D = some (.lst acc) ∧ acc.length < sizeLine ∧ Pv D (i + 1) (upd H4 D (.lst (acc ++ [y]))) else Pv D (i + 1) H3) (hd : ∀ D H, H1 D = none → Pv D xs.length H → Q (.ref D) H) : CompW (Itt K a) g tt te vs σ H1 Q :=
  fun D hD => lc_tup (Pv D) (h0 D hD) (fun i H => hl D i H hD) (fun i x H => hs D i x H hD) fun H => hd D H hD
theorem loop_tup {K : PySem.W.Frag} {a : Addr} {xs : List V} {g : TG} {tb : TS} {D : Ends} {σ : L2.St} {H : Hp} (Pv : Nat → L2.St → Hp → Prop) (h0 : Pv 0 σ H) (hl : ∀ i σ H, i ≤ xs.length → Pv i σ H → SqT K H a xs)
    (hs : ∀ i x σ H, xs[i]? = some x → Pv i σ H → g x σ H fun σ2 H2 => tb { D with nx := Pv (i + 1), ct := Pv (i + 1), bk := D.nx } σ2 H2) (hd : ∀ σ H, Pv xs.length σ H → D.nx σ H) : LoopW (Itt K a) g tb D σ H := for_tup Pv h0 hl hs hd
end G1

namespace G1
open PySem PySem.Spec PyProof.Rows L2
theorem vals4 {x y z a : V} {us : List Value} (r : Vals [x, y, z, a] us) : ∃ u w' t' b', us = [u, w', t', b'] ∧ RelV x u ∧ RelV y w' ∧ RelV z t' ∧ RelV a b' := by
  cases r with
  | cons h r => cases r with
    | cons h2 r => cases r with
      | cons h3 r => cases r with
        | cons h4 r => cases r with
          | nil => exact ⟨_, _, _, _, rfl, h, h2, h3, h4⟩
/-! defs of four that may raise, called by place or by all four names the other way about -/
def OkX4 (P : Program) (w : World) (K : PySem.W.Frag) (mg : Str → Option Value) (base : Heap) (k : Nat) (x p1 p2 p3 p4 : Str) (sp : Sp) : Prop :=
  ∃ f fd, FnOk P w K mg base (L2.CX P w) k f fd [p1, p2, p3, p4] sp ∧ mg x = some (.ref f) ∧ PySem.W.keepIn K (.ref f) = true ∧ L2.Binds K fd [p1, p2, p3, p4] [] ∧ ∀ (s : Shared) (u1 u2 u3 u4 : Value), BindsTo s fd ⟨[], [(p4, u1), (p3, u2), (p2, u3), (p1, u4)]⟩ [(p1, u4), (p2, u3), (p3, u2), (p4, u1)]
theorem OkX4.okX {P : Program} {w : World} {K : PySem.W.Frag} {mg : Str → Option Value} {base : Heap} {k : Nat} {x p1 p2 p3 p4 : Str} {sp : Sp} (h : OkX4 P w K mg base k x p1 p2 p3 p4 sp) : OkX P w K mg base k x [p1, p2, p3, p4] sp :=
  let ⟨f, fd, h1, h2, h3, h4, _⟩ := h
  ⟨f, fd, h1, h2, h3, h4⟩
theorem okx4 {P : Program} {w : World} {K : PySem.W.Frag} {mg : Str → Option Value} {base : Heap} {x p1 p2 p3 p4 : Str} {st : Stmt} {k : Nat} {sp : Sp} (S : Src K mg x st) (F : ∀ f fd, Fun K x x st f fd → FnOk P w K mg base (L2.CX P w) k f fd [p1, p2, p3, p4] sp)
    (h : ∀ (kV doc pm : Value) (an : Option Addr) (cdv ct : Value) (us : List Value), us.length = [p1, p2, p3, p4].length → bindArgs (PySem.W.fnOf x x (defArgs st) (defBody st) (defScope st) .none kV doc pm an cdv ct) ⟨us, []⟩ = pure ([p1, p2, p3, p4].zip us))
    (h2 : ∀ (kV doc pm : Value) (an : Option Addr) (cdv ct u1 u2 u3 u4 : Value), bindArgs (PySem.W.fnOf x x (defArgs st) (defBody st) (defScope st) .none kV doc pm an cdv ct) ⟨[], [(p4, u1), (p3, u2), (p2, u3), (p1, u4)]⟩ = pure [(p1, u4), (p2, u3), (p3, u2), (p4, u1)]) : OkX4 P w K mg base k x p1 p2 p3 p4 sp := by
  obtain ⟨f, fd, F1, g⟩ := S
  refine ⟨f, fd, F f fd F1, g, F1.kp, F1.binds h, ?_⟩
  obtain ⟨oc, od, kV, doc, pm, an, cdv, ct, osl, rfl, lk, hcd⟩ := F1.ex
  intro s u1 u2 u3 u4 M A E Q q
  rw [h2 kV doc pm an cdv ct u1 u2 u3 u4]
  exact wpAny_pure q
section
variable {X : Cx} {k : Nat} {x p1 p2 p3 p4 : Str} {sp : Sp} {p pos : Pos}
/-- by all four names, the last one first -/
def tCallK4 (sp : Sp) (tk : TA) : TE := fun σ H Q => tk σ H fun zs H1 => ∃ v1 v2 v3 v4, zs = [v4, v3, v2, v1] ∧ sp [v1, v2, v3, v4] H1 Q (fun _ _ _ => False)
theorem pe_callK4 {kws : List Keyword} {tk : TA} (C : OkX4 X.prog X.w X.K X.mg X.base k x p1 p2 p3 p4 sp) (hr : Room k X.A) (hg : Gl X x) (hkw : PK X kws tk)
    (hks : (backToKw pos (keywordEach kws X.env)).filterMap (·.1) = [p4, p3, p2, p1] := by rfl) (hall : (backToKw pos (keywordEach kws X.env)).all (·.1.isSome) = true := by rfl) (hdb : (x == ("__debug__" : Str)) = false := by decide)
    (hpl : ((backTo pos (starEach [] X.env)).any (·.1) || (backToKw pos (keywordEach kws X.env)).any (·.1.isNone)) = false := by rfl) :
    PE X (.Call (.Name x p) [] kws pos) (tCallK4 sp tk) := by
  obtain ⟨f, fd, F, hm, hk, hb, hb2⟩ := C
  constructor
  intro pins s σ H Q I h
  apply wpAny_Call_Name_kw (ld_glob I hg hm ?_ hdb)
  apply PySem.W.callWith_KW0 (h₀ := X.base) I.ok.mod.kin hk hall ?_ hpl
  apply thn (hkw.run pos pins s σ H _ I h)
  rintro ws s2 ⟨zs, H2, I2, rz, v1, v2, v3, v4, rfl, q⟩
  refine ⟨I2.kIn, ?_⟩
  rw [hks]
  obtain ⟨w4, w3, w2, w1, rfl, r4, r3, r2, r1⟩ := vals4 rz
  show wpAny (model X.prog X.w) X.A (call (.ref f) [] [(p4, w4), (p3, w3), (p2, w2), (p1, w1)]) (EP X pins σ Q) X.xe s2
  apply wpAny_call (codeAny_mono (F.run X.A X.stack s2 H2 ⟨[], [(p4, w4), (p3, w3), (p2, w2), (p1, w1)]⟩ [w1, w2, w3, w4] _ Q _ hr I2.env0 (hb2 s2 w4 w3 w2 w1) (.cons r1 (.cons r2 (.cons r3 (.cons r4 .nil)))) q) ?_)
  rintro (er | (_ | _ | _ | u)) s' z
  · exact passC pins σ H2 s2 er s' I2 z
  · exact z.elim
  · exact z.elim
  · exact z.elim
  · exact I2.after z
end
end G1
namespace G1
open PySem PySem.Spec PyProof.Rows L2
section
variable {X : Cx}
theorem sl_listK (K : PySem.W.Frag) (hK : X.K = K) : SlR X (rSlL K) := hK ▸ sl_list
end
end G1

namespace G1
open PySem PySem.Spec PyProof.Rows L2
/-! an except suite that makes values of the caught exception -/
/-- the wish of «except x as n: suite» where the suite reads the exception as a kept value -/
def wVal (K : PySem.W.Frag) (c : Value) (i : Nat) (ts : TS) (D : Ends) : WX := fun cls d σ H =>
  PySem.W.exmOne K cls c = some true ∧ ∃ C dd, cls = .ref C ∧ d = some dd ∧ ∀ a, H a = none → ts { nx := fun σ' H' => D.nx (σ'.set i none) H', rt := fun _ _ => False } (σ.set i (some (.ref a))) (upd H a (exq a C dd))
section
variable {X : Cx} {x n : Str} {c : Value} {i : Nat} {body suite : List Stmt} {b₀ : Stmt} {np pos pos' : Pos} {tb : WX → TS} {ts : TS}
theorem Inv.toSuite {pins : List (Addr × Obj)} {σ : L2.St} {H : Hp} {s : Shared} (I : Inv X pins σ H s) (a : Addr) : Inv (X.suite a (X.pn ++ pins)) [] σ H s :=
  ⟨I.ok.suite _ _, I.os, I.bare, I.base, I.loc, I.cell, I.free, I.freeC, fun p hp => I.pin p (by rw [List.append_nil] at hp; exact hp), I.hok, I.len⟩
theorem Inv.ofSuite {pins pn' : List (Addr × Obj)} {σ : L2.St} {H : Hp} {s : Shared} {a : Addr} (I : Inv (X.suite a (X.pn ++ pins)) pn' σ H s) (ok : X.Ok) : Inv X pins σ H s :=
  ⟨ok, I.os, I.bare, I.base, I.loc, I.cell, I.free, I.freeC, fun p hp => I.pin p (List.mem_append_left _ hp), I.hok, I.len⟩
theorem ps_try_val (hs : X.stack = X.env :: X.outer) (hf : X.env.frame = some X.env.locals) (hex : X.ex = []) (hN : X.N.Nodup) (hi : X.N[i]? = some n) (hln : X.env.kindOf n = some .local) (hc : Names X x c)
    (hb : ∀ (W : WX) (pn : List (Addr × Obj)) (xe : Value → Shared → Prop), Takes (X.tr pn xe) W → PassesOwn (model X.prog X.w) X.A X.env xe → PSs (X.tr pn xe) body (tb W))
    (hsu : ∀ (a : Addr) (pn : List (Addr × Obj)), PSs (X.suite a pn) (b₀ :: suite) ts) :
    PS X (.Try body [.ExceptHandler (some (.Name x np)) (some n) (b₀ :: suite) pos'] [] [] pos) (fun D σ H => tb (wVal X.K c i ts D) D σ H) := by
  constructor
  intro pins s σ H D I h
  have ok := I.ok
  have hfr : X.A.frames = some (X.env :: X.outer) := ok.frames.trans (congrArg some hs)
  apply wpAny_Try_except
  apply wpAny_mono ((hb (wVal X.K c i ts D) (X.pn ++ pins) (fun e s₁ => wpAny (model X.prog X.w) X.A (noteFrame e X.env) (fun _ s₂ => wpAny (model X.prog X.w) X.A (setFlight e none) (fun _ s₃ =>
    wpAny (model X.prog X.w) X.A (handleBy e X.env [.ExceptHandler (some (.Name x np)) (some n) (b₀ :: suite) pos']) (SP X pins D) X.xe s₃) X.xe s₂) X.xe s₁) ?_ PassesOwn.looking).run [] s σ H D (I.toTry _) h) ?_ (fun _ _ z => z)
  · rintro u s' ⟨a, B, sI, pins', σ', H', cls, d, rfl, J', nb, up, sky, na, os, ag, hb1, C, dd, rfl, rfl, hyes⟩
    have J : Inv X pins σ' H' sI := J'.ofTry ok
    have sky' : Sky B (X.env :: X.outer) a (Zc (.ref C) (some dd)) X.env.locals s'.heap := hs ▸ sky
    apply Sky.land Zc.steady hfr hf sky'
    intro h3 fl3 up3
    have J3 : Inv X pins σ' H' { s' with heap := h3 } := J.landed nb fl3.1 (up.trans up3) os ag
    obtain ⟨oe3, vs3, he3, hz3, hd3⟩ := fl3.there
    have nfr : a ∉ frs (X.env :: X.outer) := fun hm => by
      obtain ⟨_, o', e', hnf⟩ := fl3.2.2.1.mem hm
      rw [he3] at e'; cases e'; exact hnf _ hd3
    have nL : a ≠ X.env.locals := fun z => nfr (List.mem_filterMap.mpr ⟨X.env, List.mem_cons_self, hf.trans (congrArg some z.symm)⟩)
    have nF : a ∉ X.fs := fun hm => by
      obtain ⟨e, he, q⟩ := List.mem_filterMap.mp hm
      exact nfr (List.mem_filterMap.mpr ⟨e, List.mem_cons_of_mem _ he, q⟩)
    have naI : sI.heap.get? a = none := by
      cases q : sI.heap.get? a with
      | none => rfl
      | some o => exact absurd (fl3.2.1 ▸ nb a o q (hs ▸ nfr)) (by intro z; cases z)
    have n0 : X.s_0.heap.get? a = none := by
      cases q : X.s_0.heap.get? a with
      | none => rfl
      | some o =>
        obtain ⟨o', q'⟩ := J.base.there a o q (by rw [hex]; exact fun z => nomatch z)
        rw [naI] at q'; cases q'
    have nC : ∀ x c, X.env.cells.lookup x = some c → c ≠ a := fun x c e z => by
      obtain ⟨v, o, ho, _⟩ := J.cell x c e
      rw [z, naI] at ho; cases ho
    have np' : ∀ p ∈ X.pn ++ pins, p.1 ≠ a := fun p hp z => by
      have q := (J.pin p hp).1
      rw [z, naI] at q; cases q
    have S3 := J3.suite he3 hd3 na nL nF
    apply wpAny_handleBy_cons (codeAny_handlers_test ?_) (by intro q; cases q)
    have LT : PySem.W.Looks (model X.prog X.w) h3 (typeOf (.ref a)) (.ref C) := fun A Q E s k q => wpAny_typeOf_ref (k _ _ he3) (by rw [hz3.1]; exact q)
    have LM := PySem.W.exm_one (M := model X.prog X.w) (J3.kIn) LT hb1
    have test : ∀ {Q : Value → Shared → Prop} {E : Value → Shared → Prop}, Q c { s' with heap := h3 } → wpAny (model X.prog X.w) (X.A.mark (some (.ref a))) (eval (.Name x np) X.env) Q E { s' with heap := h3 } := fun {Q E} q => by
      rcases hc with ⟨hg, hdbg, hm | ⟨hm, hv, hnn⟩⟩
      · exact ld_glob (X := X.suite a ((a, oe3) :: (X.pn ++ pins))) S3 hg hm q hdbg
      · exact ld_blt (X := X.suite a ((a, oe3) :: (X.pn ++ pins))) S3 hg hm hv q hnn hdbg
    apply test
    apply LM.here
    apply codeAny_handlers_suite_as
    apply HandSPX.lands_againZ fl3
    intro h4 fl4 up4
    have J4 : Inv X pins σ' H' { s' with heap := h4 } := J.landed nb fl4.1 ((up.trans up3).trans up4) os ag
    obtain ⟨oe4, vs4, he4, hz4, hd4⟩ := fl4.there
    have S4 := Inv.toSuite (track (o := exq a C dd) J4 n0 na nL nC np' (exq_ok he4 hz4.1 hz4.2 hd4)) a
    apply store_ok (X := X.suite a (X.pn ++ pins)) (v := .ref a) S4 hN hi (.inl hln) rfl ?_ (.inr hln)
    intro s5 S5
    apply wpAny_mono ((hsu a (X.pn ++ pins)).run [] s5 _ _ _ S5 (hyes a na)) ?_ (fun _ _ z => False.elim z)
    intro f s6 hsp
    cases f with
    | next =>
      obtain ⟨σ6, H6, S6, z⟩ := hsp
      exact gone_ok (Inv.ofSuite S6 ok) hN hi hln fun s7 J7 => ⟨_, _, J7, z⟩
    | brk =>
      obtain ⟨_, _, _, z⟩ := hsp
      exact z.elim
    | cont =>
      obtain ⟨_, _, _, z⟩ := hsp
      exact z.elim
    | ret u =>
      obtain ⟨_, _, _, _, _, z⟩ := hsp
      exact z.elim
  · intro f s1 hsp
    cases f with
    | next => exact wpAny_execs_nil (let ⟨a1, a2, a3, a4⟩ := hsp; ⟨a1, a2, a3.ofTry ok, a4⟩)
    | brk => exact (let ⟨a1, a2, a3, a4⟩ := hsp; ⟨a1, a2, a3.ofTry ok, a4⟩)
    | cont => exact (let ⟨a1, a2, a3, a4⟩ := hsp; ⟨a1, a2, a3.ofTry ok, a4⟩)
    | ret u => exact (let ⟨a1, a2, a3, a4, a5, a6⟩ := hsp; ⟨a1, a2, a3, a4.ofTry ok, a5, a6⟩)
end
end G1

namespace G1
open PySem PySem.Spec PyProof PyProof.Rows L2 MW
/-! the text of nested data: how long, of which characters -/
theorem slen (x y : Str) : (x ++ y).length = x.length + y.length := by
  show (x.cps ++ y.cps).size = _
  rw [Array.size_append]
  rfl
theorem textFrom_le : ∀ (ts : List Str) (k : Nat) (acc : Str), (textFrom k acc ts).length ≤ acc.length + piled ts
  | [], _, acc => Nat.le_add_right _ _
  | t :: ts, k, acc => by
    have h := textFrom_le ts (k + 1) (acc ++ (if k > 0 then ", " else "" : String) ++ t)
    have e : ((if k > 0 then ", " else "" : String) : Str).length ≤ 2 := by
      split
      · exact Nat.le_refl _
      · exact Nat.zero_le _
    rw [slen, slen] at h
    rw [piled_cons]
    show (textFrom (k + 1) _ ts).length ≤ _
    omega
theorem listText_le (ts : List Str) : (listText ts).length ≤ 2 + piled ts := by
  unfold listText
  rw [slen]
  have h := textFrom_le ts 0 "["
  have e1 : (("[" : String) : Str).length = 1 := rfl
  have e2 : (("]" : String) : Str).length = 1 := rfl
  rw [e1] at h
  rw [e2]
  omega
theorem tupleText_le (ts : List Str) : (tupleText ts).length ≤ 3 + piled ts := by
  unfold tupleText
  rw [slen, slen]
  have e1 : (("(" : String) : Str).length = 1 := rfl
  have e2 : ((if ts.length == 1 then ",)" else ")" : String) : Str).length ≤ 2 := by
    split
    · exact Nat.le_refl _
    · exact Nat.le_succ _
  have h : (Str.join ", " ts).length ≤ piled ts := by
    cases ts with
    | nil => exact Nat.le_refl _
    | cons t ts =>
      have := join_length_add (t :: ts) (by simp)
      omega
  rw [e1]
  omega
theorem sOk_app {x y : Str} (h : PyData.strOk x = true) (k : PyData.strOk y = true) : PyData.strOk (x ++ y) = true := by
  show (x.cps ++ y.cps).all _ = true
  rw [Array.all_append]
  have h' : x.cps.all (fun x => decide (x < 1114112)) = true := h
  have k' : y.cps.all (fun x => decide (x < 1114112)) = true := k
  rw [h', k']
  rfl
theorem sOk_of (s : String) : PyData.strOk (PySem.Str.ofString s) = true := by
  rw [PySem.Str.ofString_eq_toList]
  unfold PyData.strOk
  simp only [List.all_toArray, List.all_map, List.all_eq_true]
  intro ch _
  simp only [Function.comp, decide_eq_true_eq]
  show ch.val.toNat < 1114112
  rcases ch.valid with h | ⟨_, h⟩
  · have : ch.val.toNat < 55296 := h
    omega
  · exact h
theorem textFrom_ok : ∀ (ts : List Str) (k : Nat) (acc : Str), PyData.strOk acc = true → (∀ t ∈ ts, PyData.strOk t = true) → PyData.strOk (textFrom k acc ts) = true
  | [], _, acc, h, _ => h
  | t :: ts, k, acc, h, k2 => textFrom_ok ts (k + 1) _ (sOk_app (sOk_app h (sOk_of _)) (k2 t List.mem_cons_self)) fun x hx => k2 x (List.mem_cons_of_mem _ hx)
theorem listText_ok {ts : List Str} (h : ∀ t ∈ ts, PyData.strOk t = true) : PyData.strOk (listText ts) = true := sOk_app (textFrom_ok ts 0 _ (sOk_of _) h) (sOk_of _)
theorem join_ok : ∀ ts : List Str, (∀ t ∈ ts, PyData.strOk t = true) → PyData.strOk (Str.join ", " ts) = true
  | [], _ => sOk_of ""
  | [x], h => h x List.mem_cons_self
  | x :: y :: r, h => by
    show PyData.strOk (x ++ ", " ++ Str.join ", " (y :: r)) = true
    exact sOk_app (sOk_app (h x List.mem_cons_self) (sOk_of _)) (join_ok (y :: r) fun z hz => h z (List.mem_cons_of_mem _ hz))
theorem tupleText_ok {ts : List Str} (h : ∀ t ∈ ts, PyData.strOk t = true) : PyData.strOk (tupleText ts) = true := sOk_app (sOk_app (sOk_of _) (join_ok ts h)) (sOk_of _)
/-- data that may be shown: nested at most n deep, a text of at most B characters -/
structure Fine (n B : Nat) (d : PyData) : Prop where
  sw : d.showable = true
  dp : d.depth ≤ n
  ln : d.shown.length ≤ B
  ok : PyData.strOk d.shown = true
  nd : d.hasDict = false
theorem Fine.mono {n n' B B' : Nat} {d : PyData} (h : Fine n B d) (k : n ≤ n') (l : B ≤ B') : Fine n' B' d := ⟨h.sw, Nat.le_trans h.dp k, Nat.le_trans h.ln l, h.ok, h.nd⟩
theorem fine_all {n B : Nat} : ∀ {ds : List PyData}, (∀ d ∈ ds, Fine n B d) → PyData.showableAll ds = true ∧ PyData.depthAll ds ≤ n ∧ piled (PyData.shownAll ds) ≤ (B + 2) * ds.length ∧ (∀ t ∈ PyData.shownAll ds, PyData.strOk t = true) ∧ PyData.hasDictAll ds = false
  | [], _ => ⟨rfl, Nat.zero_le _, Nat.zero_le _, (fun _ z => nomatch z), rfl⟩
  | d :: ds, h => by
    obtain ⟨a1, a2, a3, a4, a5⟩ := fine_all fun x hx => h x (List.mem_cons_of_mem _ hx)
    have f := h d List.mem_cons_self
    refine ⟨?_, ?_, ?_, ?_, ?_⟩
    · rw [PyData.showableAll, f.sw, a1]
      rfl
    · rw [PyData.depthAll]
      have := f.dp
      omega
    · rw [PyData.shownAll, piled_cons, List.length_cons, Nat.mul_succ]
      have := f.ln
      omega
    · intro t ht
      rw [PyData.shownAll] at ht
      rcases List.mem_cons.mp ht with rfl | ht
      · exact f.ok
      · exact a4 t ht
    · rw [PyData.hasDictAll, f.nd, a5]
      rfl
theorem Fine.list {n B : Nat} {ds : List PyData} (h : ∀ d ∈ ds, Fine n B d) : Fine (n + 1) (2 + (B + 2) * ds.length) (.list ds) := by
  obtain ⟨a1, a2, a3, a4, a5⟩ := fine_all h
  refine ⟨by rw [PyData.showable]; exact a1, by rw [PyData.depth]; omega, ?_, by rw [PyData.shown]; exact listText_ok a4, by rw [PyData.hasDict]; exact a5⟩
  rw [PyData.shown]
  exact Nat.le_trans (listText_le _) (by omega)
theorem Fine.tuple {n B : Nat} {ds : List PyData} (h : ∀ d ∈ ds, Fine n B d) : Fine (n + 1) (3 + (B + 2) * ds.length) (.tuple ds) := by
  obtain ⟨a1, a2, a3, a4, a5⟩ := fine_all h
  refine ⟨by rw [PyData.showable]; exact a1, by rw [PyData.depth]; omega, ?_, by rw [PyData.shown]; exact tupleText_ok a4, by rw [PyData.hasDict]; exact a5⟩
  rw [PyData.shown]
  exact Nat.le_trans (tupleText_le _) (by omega)
theorem Fine.int {i : Int} (h : i.natAbs < 10 ^ 100) : Fine 0 200 (.int i) := by
  refine ⟨?_, Nat.zero_le _, ?_, sOk_of _, rfl⟩
  · show decide (i.natAbs.log2 < 1920) = true
    rw [decide_eq_true_eq]
    by_cases h0 : i.natAbs = 0
    · rw [h0]; decide
    · exact (Nat.log2_lt h0).mpr (Nat.lt_of_lt_of_le h (by decide +kernel))
  · show (PySem.Str.ofString (toString i)).length ≤ 200
    rw [PySem.ofString_length]
    have := PySem.int_text_length_le10 (k := 100) (by decide) h
    omega
theorem Fine.bool (b : Bool) : Fine 0 5 (.bool b) := ⟨rfl, Nat.zero_le _, by cases b <;> decide, by cases b <;> exact sOk_of _, rfl⟩
theorem Fine.none : Fine 0 4 .none := ⟨rfl, Nat.zero_le _, by decide, sOk_of _, rfl⟩
theorem quote_or (x : Str) : reprQuote x = 39 ∨ reprQuote x = 34 := by
  unfold reprQuote
  split
  · exact .inr rfl
  · exact .inl rfl
theorem rc_sgs {q : Nat} (h : q = 39 ∨ q = 34) : ∀ c ∈ sgs, Builtin.Str.reprChar q c = [c] := by
  rcases h with rfl | rfl <;> decide +kernel
theorem fold_sgs {q : Nat} (hq : q = 39 ∨ q = 34) : ∀ (l : List Nat), (∀ ch ∈ l, ch ∈ sgs) → ∀ acc : Array Nat, (acc.all fun x => decide (x < 1114112)) = true → ((l.foldl (fun out ch => out ++ (Builtin.Str.reprChar q ch).toArray) acc).all fun x => decide (x < 1114112)) = true
  | [], _, acc, h => h
  | ch :: l, hl, acc, h => by
    rw [List.foldl_cons]
    refine fold_sgs hq l (fun c hc => hl c (List.mem_cons_of_mem _ hc)) _ ?_
    have hc := hl ch List.mem_cons_self
    have h2 : ∀ c ∈ sgs, c < 1114112 := by decide
    rw [rc_sgs hq ch hc, Array.all_append, h]
    simp [h2 ch hc]
theorem Fine.word {l : List Nat} (h : ∀ c ∈ l, c ∈ sgs) : Fine 0 (10 * l.length + 2) (.str ⟨l.toArray⟩) := by
  refine ⟨rfl, Nat.zero_le _, ?_, ?_, rfl⟩
  · have hx := StrLaws.reprText_len ⟨l.toArray⟩ fun c hc => by
      have h2 : ∀ c ∈ sgs, c < 16 ^ 8 := by decide
      exact h2 c (h c (by simpa using hc))
    have e : (⟨l.toArray⟩ : Str).length = l.length := by show l.toArray.size = _; simp
    rw [e] at hx
    exact hx
  · show PyData.strOk (reprText ⟨l.toArray⟩) = true
    have q := quote_or ⟨l.toArray⟩
    unfold PyData.strOk reprText
    simp only [Array.all_push, ← Array.foldl_toList, Bool.and_eq_true, decide_eq_true_eq]
    refine ⟨fold_sgs q _ h _ ?_, ?_⟩
    · rcases q with e | e <;> rw [e] <;> simp
    · rcases q with e | e <;> rw [e] <;> decide
theorem Fine.shows {K : PySem.W.Frag} {H : Hp} {v : V} {n B : Nat} {d : PyData} (h : Fine n B d) (e : De K H v d) (hn : n ≤ 60) (hB : B ≤ sizeLine) : Shows K H v d :=
  ⟨e, h.sw, Nat.le_trans h.dp hn, Nat.le_trans h.ln hB, fun z => by rw [h.nd] at z; cases z⟩
end G1

namespace G1
open PySem PySem.Spec PyProof.Rows L2
/-! what an expression makes, by its data alone, in any heap behind a first one: no address is named -/
section
variable {K : PySem.W.Frag}
mutual
theorem De.same {H H' : Hp} (s : Same H H') : ∀ (d : PyData) (v : V), De K H v d → De K H' v d
  | _, _, .non => .non
  | _, _, .bl b => .bl b
  | _, _, .int i => .int i
  | _, _, .str x => .str x
  | _, _, .dic h => .dic (s _ _ h)
  | .list ds, _, .lst h q => .lst (s _ _ h) (DeAll.same s ds _ q)
  | .tuple ds, _, .tup h q => .tup (s _ _ h) (DeAll.same s ds _ q)
theorem DeAll.same {H H' : Hp} (s : Same H H') : ∀ (ds : List PyData) (vs : List V), DeAll K H vs ds → DeAll K H' vs ds
  | [], _, .nil => .nil
  | d :: ds, _, .cons a b => .cons (De.same s d _ a) (DeAll.same s ds _ b)
end
theorem deAll_len {H : Hp} : ∀ {xs : List V} {ds : List PyData}, DeAll K H xs ds → xs.length = ds.length
  | _, _, .nil => rfl
  | _, _, .cons _ t => by rw [List.length_cons, List.length_cons, deAll_len t]
theorem deAll_app {H : Hp} : ∀ {xs ys : List V} {ds es : List PyData}, DeAll K H xs ds → DeAll K H ys es → DeAll K H (xs ++ ys) (ds ++ es)
  | _, _, _, _, .nil, h => h
  | _, _, _, _, .cons a t, h => .cons a (deAll_app t h)
theorem deAll_take {H : Hp} : ∀ {xs : List V} {ds : List PyData} (n : Nat), DeAll K H xs ds → DeAll K H (xs.take n) (ds.take n)
  | _, _, 0, _ => .nil
  | _, _, n + 1, .nil => .nil
  | _, _, n + 1, .cons a t => .cons a (deAll_take n t)
theorem deAll_drop {H : Hp} : ∀ {xs : List V} {ds : List PyData} (n : Nat), DeAll K H xs ds → DeAll K H (xs.drop n) (ds.drop n)
  | _, _, 0, h => h
  | _, _, n + 1, .nil => .nil
  | _, _, n + 1, .cons a t => deAll_drop n t
/-- a heap without some addresses -/
def hid (l : List Addr) (H : Hp) : Hp := fun b => if b ∈ l then none else H b
theorem hid_in {l : List Addr} {H : Hp} {b : Addr} (h : b ∉ l) : hid l H b = H b := if_neg h
theorem hid_sub (l : List Addr) (H : Hp) : Same (hid l H) H := fun b o e => by
  unfold hid at e
  split at e
  · cases e
  · exact e
theorem hid_same {B : List Addr} {H H' : Hp} (s : Same H H') : Same (hid B H) (hid B H') := fun b o e => by
  unfold hid at e
  split at e
  · cases e
  · rename_i n
    rw [hid_in n]
    exact s b o e
/-- addresses that stand -/
def In (B : List Addr) (H : Hp) : Prop := ∀ b ∈ B, H b ≠ none
theorem In.same {B : List Addr} {H H' : Hp} (h : In B H) (s : Same H H') : In B H' := fun b hb e => by
  cases k : H b with
  | none => exact h b hb k
  | some o => rw [s b o k] at e; cases e
theorem In.new {B : List Addr} {H : Hp} (h : In B H) {p : Addr} (np : H p = none) : p ∉ B := fun hp => h p hp np
/-- t makes data d of what stands in H0, and of new things alone, whatever else stands -/
def Ev (K : PySem.W.Frag) (t : TE) (σ : L2.St) (d : PyData) (H0 : Hp) : Prop := ∀ H Q B, In B H → Same H0 (hid B H) → (∀ v H', Same H H' → De K (hid B H') v d → Q v H') → t σ H Q
def EvA (K : PySem.W.Frag) (t : TA) (σ : L2.St) (ds : List PyData) (H0 : Hp) : Prop := ∀ H Q B, In B H → Same H0 (hid B H) → (∀ vs H', Same H H' → DeAll K (hid B H') vs ds → Q vs H') → t σ H Q
variable {σ : L2.St} {H0 : Hp}
theorem Ev.int (i : Int) : Ev K (tC (.int i)) σ (.int i) H0 := fun H Q B hB s q => q _ _ (.refl H) (.int i)
theorem Ev.str (x : Str) : Ev K (tC (.str x)) σ (.str x) H0 := fun H Q B hB s q => q _ _ (.refl H) (.str x)
theorem Ev.bl (b : Bool) : Ev K (tC (.bl b)) σ (.bool b) H0 := fun H Q B hB s q => q _ _ (.refl H) (.bl b)
theorem Ev.non : Ev K (tC .non) σ .none H0 := fun H Q B hB s q => q _ _ (.refl H) .non
theorem Ev.var {i : Nat} {v : V} {d : PyData} (h : σ[i]? = some (some v)) (e : De K H0 v d) : Ev K (tVar i) σ d H0 := fun H Q B hB s q => ⟨v, h, q v H (.refl H) (De.same s d v e)⟩
theorem Ev.dict : Ev K tDNewK σ (.dict []) H0 := fun H Q B hB s q p np => q _ _ (same_upd np) (.dic (by rw [hid_in (hB.new np)]; exact upd_same))
theorem EvA.nil : EvA K tNil σ [] H0 := fun H Q B hB s q => q _ _ (.refl H) .nil
theorem EvA.cons {ta : TE} {tr : TA} {d : PyData} {ds : List PyData} (h1 : Ev K ta σ d H0) (h2 : EvA K tr σ ds H0) : EvA K (tCons ta tr) σ (d :: ds) H0 :=
  fun H Q B hB s q => h1 H _ B hB s fun x H1 s1 e1 => h2 H1 _ B (hB.same s1) (s.trans (hid_same s1)) fun xs H2 s2 e2 => q _ _ (s1.trans s2) (.cons (De.same (hid_same s2) _ _ e1) e2)
theorem Ev.lst {ta : TA} {ds : List PyData} (h : EvA K ta σ ds H0) (hl : ds.length ≤ sizeLine) : Ev K (tLst ta) σ (.list ds) H0 :=
  fun H Q B hB s q => h H _ B hB s fun xs H1 s1 e => ⟨by rw [deAll_len e]; exact hl, fun p np => q _ _ (s1.trans (same_upd np)) (.lst (by rw [hid_in ((hB.same s1).new np)]; exact upd_same) (DeAll.same (hid_same (same_upd np)) _ _ e))⟩
theorem Ev.tup {ta : TA} {ds : List PyData} (h : EvA K ta σ ds H0) (hl : ds.length ≤ sizeLine) : Ev K (tTup ta) σ (.tuple ds) H0 :=
  fun H Q B hB s q => h H _ B hB s fun xs H1 s1 e => ⟨by rw [deAll_len e]; exact hl, fun p np => q _ _ (s1.trans (same_upd np)) (.tup (by rw [hid_in ((hB.same s1).new np)]; exact upd_same) (DeAll.same (hid_same (same_upd np)) _ _ e))⟩
theorem de_list {H : Hp} {B : List Addr} {v : V} {ds : List PyData} (h : De K (hid B H) v (.list ds)) : ∃ a xs, v = .ref a ∧ H a = some (.lst xs) ∧ DeAll K (hid B H) xs ds := by
  cases h with
  | lst h k => exact ⟨_, _, rfl, hid_sub _ _ _ _ h, k⟩
theorem Ev.cat {ta tb : TE} {xs ys : List PyData} (h1 : Ev K ta σ (.list xs) H0) (h2 : Ev K tb σ (.list ys) H0) (hl : xs.length + ys.length ≤ sizeLine) : Ev K (tOp rCat ta tb) σ (.list (xs ++ ys)) H0 :=
  fun H Q B hB s q => h1 H _ B hB s fun v H1 s1 e1 => h2 H1 _ B (hB.same s1) (s.trans (hid_same s1)) fun w H2 s2 e2 => by
    obtain ⟨a, us, rfl, ha, ka⟩ := de_list (De.same (hid_same s2) _ _ e1)
    obtain ⟨b, zs, rfl, hb, kb⟩ := de_list e2
    exact ⟨a, b, us, zs, rfl, rfl, ha, hb, by rw [deAll_len ka, deAll_len kb]; exact hl, fun p np => q _ _ ((s1.trans s2).trans (same_upd np)) (.lst (by rw [hid_in ((hB.same (s1.trans s2)).new np)]; exact upd_same) (DeAll.same (hid_same (same_upd np)) _ _ (deAll_app ka kb)))⟩
theorem Ev.op {ta tb : TE} {f : Int → Int → V} {i j k : Int} (h1 : Ev K ta σ (.int i) H0) (h2 : Ev K tb σ (.int j) H0) (hf : f i j = .int k) : Ev K (tOp (rI0 f) ta tb) σ (.int k) H0 :=
  fun H Q B hB s q => h1 H _ B hB s fun v H1 s1 e1 => h2 H1 _ B (hB.same s1) (s.trans (hid_same s1)) fun w H2 s2 e2 => by
    cases e1
    cases e2
    exact ⟨i, j, rfl, rfl, by rw [hf]; exact q _ _ (s1.trans s2) (.int k)⟩
theorem Ev.neg {ta : TE} {i : Int} (h1 : Ev K ta σ (.int i) H0) : Ev K (tUn (rU fun i => .int (-i)) ta) σ (.int (-i)) H0 :=
  fun H Q B hB s q => h1 H _ B hB s fun v H1 s1 e1 => by
    cases e1
    exact ⟨i, rfl, q _ _ s1 (.int _)⟩
theorem Ev.len {ta : TE} {xs : List PyData} (h : Ev K ta σ (.list xs) H0) : Ev K (tCB rLenM (tCons ta tNil)) σ (.int (xs.length : Nat)) H0 :=
  fun H Q B hB s q => h H _ B hB s fun v H1 s1 e1 => by
    obtain ⟨a, us, rfl, ha, ka⟩ := de_list e1
    refine ⟨a, us, rfl, ha, ?_⟩
    rw [deAll_len ka]
    exact q _ _ s1 (.int _)
theorem Ev.rep {ta tb : TE} {xs : List PyData} {k : Int} (h1 : Ev K ta σ (.list xs) H0) (h2 : Ev K tb σ (.int k) H0) (k0 : -(2 ^ 63) ≤ k) (k1 : k < 2 ^ 63) (hl : xs.length * k.toNat ≤ sizeLine) : Ev K (tOp rRep ta tb) σ (.list (List.replicate k.toNat xs).flatten) H0 :=
  fun H Q B hB s q => h1 H _ B hB s fun v H1 s1 e1 => h2 H1 _ B (hB.same s1) (s.trans (hid_same s1)) fun w H2 s2 e2 => by
    obtain ⟨a, us, rfl, ha, ka⟩ := de_list (De.same (hid_same s2) _ _ e1)
    cases e2
    have kr : ∀ n : Nat, DeAll K (hid B H2) (List.replicate n us).flatten (List.replicate n xs).flatten := by
      intro n
      induction n with
      | zero => exact .nil
      | succ n ih =>
        rw [List.replicate_succ, List.replicate_succ, List.flatten_cons, List.flatten_cons]
        exact deAll_app ka ih
    exact ⟨a, k, us, rfl, rfl, ha, k0, k1, by rw [deAll_len ka]; exact hl, fun p np => q _ _ ((s1.trans s2).trans (same_upd np)) (.lst (by rw [hid_in ((hB.same (s1.trans s2)).new np)]; exact upd_same) (DeAll.same (hid_same (same_upd np)) _ _ (kr _)))⟩
theorem Ev.tupOf {ta : TE} {xs : List PyData} (h : Ev K ta σ (.list xs) H0) : Ev K (tCB (fun xs H Q => ∃ p ys, xs = [.ref p] ∧ ((SqL K H p ys ∧ ∀ l, H l = none → Q (.ref l) (upd H l (.tup ys))) ∨ (SqT K H p ys ∧ Q (.ref p) H))) (tCons ta tNil)) σ (.tuple xs) H0 :=
  fun H Q B hB s q => h H _ B hB s fun v H1 s1 e1 => by
    obtain ⟨a, us, rfl, ha, ka⟩ := de_list e1
    exact ⟨a, us, rfl, .inl ⟨SqL.of ha, fun l nl => q _ _ (s1.trans (same_upd nl)) (.tup (by rw [hid_in ((hB.same s1).new nl)]; exact upd_same) (DeAll.same (hid_same (same_upd nl)) _ _ ka))⟩⟩
theorem deAll_get {H : Hp} : ∀ {xs : List V} {ds : List PyData}, DeAll K H xs ds → ∀ {i : Nat} {x : V}, xs[i]? = some x → ∃ d, ds[i]? = some d ∧ De K H x d
  | _, _, .nil, _, _, h => by cases h
  | _, _, .cons a t, 0, _, h => by
    cases h
    exact ⟨_, rfl, a⟩
  | _, _, .cons a t, i + 1, _, h => deAll_get t (i := i) h
theorem hid_upd {B : List Addr} {D : Addr} {H : Hp} {o : HO} (h : D ∈ B) : hid B (upd H D o) = hid B H := by
  funext b
  unfold hid
  split
  · rfl
  · rename_i n
    rw [upd_ne (fun z : b = D => n (by rw [z]; exact h))]
theorem hid_more {D : Addr} {B : List Addr} {H : Hp} : Same (hid (D :: B) H) (hid B H) := fun b o e => by
  unfold hid at e
  split at e
  · cases e
  · rename_i n
    rw [hid_in fun z => n (List.mem_cons_of_mem _ z)]
    exact e
/-- a comprehension over a list of data -/
theorem Ev.comp {g : TG} {te : TE} {vs : List Nat} {tl : TE} {xs : List PyData} {f : PyData → PyData} (h : Ev K tl σ (.list xs) H0) (hl : xs.length ≤ 1000)
    (hs : ∀ (x : PyData) (v : V) (H : Hp) (Q : VK) (B : List Addr) (P : Hp → Prop), x ∈ xs → In B H → Same H0 (hid B H) → De K (hid B H) v x → (∀ y H', Same H H' → De K (hid B H') y (f x) → Q y H') → g v (wipe σ vs) H fun σ2 H2 => wipe σ2 vs = wipe σ vs ∧ tYes σ2 H2 fun b H3 => if b = true then te σ2 H3 Q else P H3) :
    Ev K (fun σ H Q => tl σ H fun v H1 => ∃ a, v = .ref a ∧ (∃ ys, SqL K H1 a ys) ∧ CompW (Itl K a) g tYes te vs σ H1 Q) σ (.list (xs.map f)) H0 :=
  fun H Q B hB s q => h H _ B hB s fun v H1 s1 e1 => by
    obtain ⟨a, us, rfl, ha, ka⟩ := de_list e1
    have hul := deAll_len ka
    have hz := sizeLine_eq
    have hB1 := hB.same s1
    refine ⟨a, rfl, ⟨_, SqL.of ha⟩, ?_⟩
    refine comp_list (xs := us) (fun D i H' => Same H1 H' ∧ ∃ ys, H' D = some (.lst ys) ∧ ys.length = i ∧ DeAll K (hid (D :: B) H') ys ((xs.take i).map f)) (fun D nD => ⟨same_upd nD, [], upd_same, rfl, .nil⟩) (fun D i H' nD hi ⟨s', _⟩ => SqL.of (s' _ _ ha)) ?_ ?_
    · rintro D i x H' nD hi ⟨s', ys, hD, hyl, hA⟩
      obtain ⟨dx, hdx, ex⟩ := deAll_get ka hi
      have hBD : In (D :: B) H' := fun b hb e => by
        rcases List.mem_cons.mp hb with rfl | hb
        · rw [hD] at e; cases e
        · exact hB1.same s' b hb e
      have sD : Same (hid B H1) (hid (D :: B) H') := fun b o e => by
        have nbB : b ∉ B := fun z => by unfold hid at e; rw [if_pos z] at e; cases e
        rw [hid_in nbB] at e
        rw [hid_in (by simp [nbB, ne_none e nD])]
        exact s' b o e
      refine hs dx x H' _ (D :: B) _ (List.mem_of_getElem? hdx) hBD ((s.trans (hid_same s1)).trans sD) (De.same sD _ _ ex) fun y H4 s4 ey => ⟨ys, s4 _ _ hD, by rw [hyl]; have := (List.getElem?_eq_some_iff.mp hdx).1; omega, same_over (s'.trans s4) nD, ys ++ [y], upd_same, by rw [List.length_append, hyl]; rfl, ?_⟩
      rw [hid_upd List.mem_cons_self, take_step hdx, List.map_append]
      exact deAll_app (DeAll.same (hid_same s4) _ _ hA) (.cons ey .nil)
    · rintro D H' nD ⟨s', ys, hD, hyl, hA⟩
      rw [hul, List.take_length] at hA
      exact q _ _ (s1.trans s') (.lst (by rw [hid_in (hB1.new nD)]; exact hD) (DeAll.same hid_more _ _ hA))
end
end G1

namespace G1
open PySem PySem.Spec PyProof.Rows L2
/-! rows of a def over data: stores, the return, slices, comprehensions over numbers -/
section
variable {K : PySem.W.Frag} {σ : L2.St} {H0 : Hp}
theorem hid_nil (H : Hp) : hid [] H = H := by
  funext b
  exact hid_in (by simp)
theorem Ev.run {te : TE} {d : PyData} {H : Hp} {Q : VK} (h : Ev K te σ d H) (q : ∀ v H', Same H H' → De K H' v d → Q v H') : te σ H Q :=
  h H Q [] (fun _ z => nomatch z) (by rw [hid_nil]; exact .refl H) fun v H' s e => q v H' s (by rw [hid_nil] at e; exact e)
theorem ev_store {te : TE} {i : Nat} {u : TS} {D : Ends} {d : PyData} {H : Hp} (h : Ev K te σ d H) (q : ∀ v H', Same H H' → De K H' v d → u D (σ.set i (some v)) H') : tSeq (tAsg te (gName i)) u D σ H := h.run q
theorem ev_ret {te : TE} {D : Ends} {d : PyData} {H : Hp} (h : Ev K te σ d H) (q : ∀ v H', Same H H' → De K H' v d → D.rt v H') : tRet te D σ H := h.run q
theorem Ev.lit {ta : TA} {ds : List PyData} {d : PyData} (h : EvA K ta σ ds H0) (hd : d = .list ds) (hl : ds.length ≤ sizeLine) : Ev K (tLst ta) σ d H0 := by
  subst hd
  exact Ev.lst h hl
/-- xs[:k] -/
theorem Ev.take {te th : TE} {xs : List PyData} {k : Nat} (h : Ev K te σ (.list xs) H0) (h2 : Ev K th σ (.int k) H0) (hk : k ≤ xs.length) : Ev K (tSl (rSlL K) te tNoPart (tPart th)) σ (.list (xs.take k)) H0 :=
  fun H Q B hB s q => h H _ B hB s fun v H1 s1 e1 => h2 H1 _ B (hB.same s1) (s.trans (hid_same s1)) fun w H2 s2 e2 => by
    obtain ⟨a, us, rfl, ha, ka⟩ := de_list (De.same (hid_same s2) _ _ e1)
    cases e2
    have e : cutV us none (some (k : Int)) = us.take k := by
      have := deAll_len ka
      unfold cutV
      rw [HT.sIx_nat, HT.sIx_none, List.drop_zero, Nat.sub_zero, Nat.min_eq_left (by omega)]
    refine ⟨k, rfl, a, us, rfl, .of ha, fun p np => ?_⟩
    rw [e]
    exact q _ _ ((s1.trans s2).trans (same_upd np)) (.lst (by rw [hid_in ((hB.same (s1.trans s2)).new np)]; exact upd_same) (DeAll.same (hid_same (same_upd np)) _ _ (deAll_take k ka)))
/-- xs[k:] -/
theorem Ev.drop {te tl : TE} {xs : List PyData} {k : Nat} (h : Ev K te σ (.list xs) H0) (h2 : Ev K tl σ (.int k) H0) (hk : k ≤ xs.length) : Ev K (tSl (rSlL K) te (tPart tl) tNoPart) σ (.list (xs.drop k)) H0 :=
  fun H Q B hB s q => h H _ B hB s fun v H1 s1 e1 => h2 H1 _ B (hB.same s1) (s.trans (hid_same s1)) fun w H2 s2 e2 => by
    obtain ⟨a, us, rfl, ha, ka⟩ := de_list (De.same (hid_same s2) _ _ e1)
    cases e2
    have e : cutV us (some (k : Int)) none = us.drop k := by
      have := deAll_len ka
      unfold cutV
      rw [HT.sIx_nat, HT.sIx_none, Nat.min_eq_left (by omega), List.take_of_length_le (by rw [List.length_drop]; omega)]
    refine ⟨k, rfl, a, us, rfl, .of ha, fun p np => ?_⟩
    rw [e]
    exact q _ _ ((s1.trans s2).trans (same_upd np)) (.lst (by rw [hid_in ((hB.same (s1.trans s2)).new np)]; exact upd_same) (DeAll.same (hid_same (same_upd np)) _ _ (deAll_drop k ka)))
theorem Ev.list {tl : TE} {te : TE} {i : Nat} {xs : List PyData} {f : PyData → PyData} (h : Ev K tl σ (.list xs) H0) (hl : xs.length ≤ 1000)
    (hs : ∀ (x : PyData) (v : V) (H1 : Hp), x ∈ xs → Same H0 H1 → De K H1 v x → Ev K te ((σ.set i none).set i (some v)) (f x) H1) : Ev K (tLc (iList K tl) (gName i) tYes te [i]) σ (.list (xs.map f)) H0 := by
  refine Ev.comp (g := gName i) (te := te) (vs := [i]) (tl := tl) h hl fun x v H Q B P hx hB s e q => ?_
  refine ⟨?_, ?_⟩
  · show ((σ.set i none).set i (some v)).set i none = σ.set i none
    rw [List.set_set, List.set_set]
  · show (if (true : Bool) = true then te ((σ.set i none).set i (some v)) H Q else P H)
    rw [if_pos rfl]
    exact hs x v (hid B H) hx s e H Q B hB (.refl _) fun y H' s' e' => q y H' s' e'
/-- a comprehension over range(n) -/
theorem Ev.rng {ta : TE} {te : TE} {i n : Nat} {f : Nat → PyData} (h : Ev K ta σ (.int n) H0) (hl : n ≤ 1000)
    (hs : ∀ (k : Nat) (H1 : Hp), k < n → Same H0 H1 → Ev K te ((σ.set i none).set i (some (.int k))) (f k) H1) : Ev K (tLc (iRng1 (tCons ta tNil)) (gName i) tYes te [i]) σ (.list ((List.range n).map f)) H0 :=
  fun H Q B hB s q => h H _ B hB s fun v H1 s1 e1 => by
    cases e1
    have hz := sizeLine_eq
    have hB1 := hB.same s1
    refine ⟨_, rfl, by omega, by omega, ?_⟩
    show CompW (Itr 0 ((n : Int)).toNat) (gName i) tYes te [i] σ H1 Q
    refine comp_range (n := n) (fun D k H' => Same H1 H' ∧ ∃ ys, H' D = some (.lst ys) ∧ ys.length = k ∧ DeAll K (hid (D :: B) H') ys ((List.range k).map f)) (fun D nD => ⟨same_upd nD, [], upd_same, rfl, .nil⟩) ?_ ?_
    · rintro D k H' nD hk ⟨s', ys, hD, hyl, hA⟩
      have hBD : In (D :: B) H' := fun b hb e => by
        rcases List.mem_cons.mp hb with rfl | hb
        · rw [hD] at e; cases e
        · exact hB1.same s' b hb e
      have sD : Same (hid B H1) (hid (D :: B) H') := fun b o e => by
        have nbB : b ∉ B := fun z => by unfold hid at e; rw [if_pos z] at e; cases e
        rw [hid_in nbB] at e
        rw [hid_in (by simp [nbB, ne_none e nD])]
        exact s' b o e
      refine ⟨?_, ?_⟩
      · show ((σ.set i none).set i _).set i none = σ.set i none
        rw [List.set_set, List.set_set]
      rw [Int.zero_add]
      show te ((σ.set i none).set i (some (.int k))) H' _
      refine hs k (hid (D :: B) H') hk ((s.trans (hid_same s1)).trans sD) H' _ (D :: B) hBD (.refl _) fun y H4 s4 ey => ⟨ys, s4 _ _ hD, by rw [hyl]; omega, same_over (s'.trans s4) nD, ys ++ [y], upd_same, by rw [List.length_append, hyl]; rfl, ?_⟩
      rw [hid_upd List.mem_cons_self, List.range_succ, List.map_append]
      exact deAll_app (DeAll.same (hid_same s4) _ _ hA) (.cons ey .nil)
    · rintro D H' nD ⟨s', ys, hD, hyl, hA⟩
      exact q _ _ (s1.trans s') (.lst (by rw [hid_in (hB1.new nD)]; exact hD) (DeAll.same hid_more _ _ hA))
/-- a comprehension over range(lo, hi) -/
theorem Ev.rng2 {ta tb : TE} {te : TE} {i : Nat} {lo hi : Int} {f : Nat → PyData} (h : Ev K ta σ (.int lo) H0) (h2 : Ev K tb σ (.int hi) H0) (b1 : -1000 ≤ lo) (b2 : lo ≤ 1000) (b3 : -1000 ≤ hi) (b4 : hi ≤ 1000)
    (hs : ∀ (k : Nat) (H1 : Hp), k < (hi - lo).toNat → Same H0 H1 → Ev K te ((σ.set i none).set i (some (.int (lo + k)))) (f k) H1) : Ev K (tLc (iRng2 (tCons ta (tCons tb tNil))) (gName i) tYes te [i]) σ (.list ((List.range (hi - lo).toNat).map f)) H0 :=
  fun H Q B hB s q => h H _ B hB s fun v H0' s0 e0 => h2 H0' _ B (hB.same s0) (s.trans (hid_same s0)) fun w H1 s01 e1 => by
    cases e0
    cases e1
    have s1 := s0.trans s01
    have hz := sizeLine_eq
    have hB1 := hB.same s1
    refine ⟨_, _, rfl, ⟨by omega, by omega, by omega, by omega⟩, ?_⟩
    show CompW (Itr lo (hi - lo).toNat) (gName i) tYes te [i] σ H1 Q
    refine comp_range (n := (hi - lo).toNat) (fun D k H' => Same H1 H' ∧ ∃ ys, H' D = some (.lst ys) ∧ ys.length = k ∧ DeAll K (hid (D :: B) H') ys ((List.range k).map f)) (fun D nD => ⟨same_upd nD, [], upd_same, rfl, .nil⟩) ?_ ?_
    · rintro D k H' nD hk ⟨s', ys, hD, hyl, hA⟩
      have hBD : In (D :: B) H' := fun b hb e => by
        rcases List.mem_cons.mp hb with rfl | hb
        · rw [hD] at e; cases e
        · exact hB1.same s' b hb e
      have sD : Same (hid B H1) (hid (D :: B) H') := fun b o e => by
        have nbB : b ∉ B := fun z => by unfold hid at e; rw [if_pos z] at e; cases e
        rw [hid_in nbB] at e
        rw [hid_in (by simp [nbB, ne_none e nD])]
        exact s' b o e
      refine ⟨?_, ?_⟩
      · show ((σ.set i none).set i _).set i none = σ.set i none
        rw [List.set_set, List.set_set]
      show te ((σ.set i none).set i (some (.int (lo + k)))) H' _
      refine hs k (hid (D :: B) H') hk ((s.trans (hid_same s1)).trans sD) H' _ (D :: B) hBD (.refl _) fun y H4 s4 ey => ⟨ys, s4 _ _ hD, by rw [hyl]; omega, same_over (s'.trans s4) nD, ys ++ [y], upd_same, by rw [List.length_append, hyl]; rfl, ?_⟩
      rw [hid_upd List.mem_cons_self, List.range_succ, List.map_append]
      exact deAll_app (DeAll.same (hid_same s4) _ _ hA) (.cons ey .nil)
    · rintro D H' nD ⟨s', ys, hD, hyl, hA⟩
      exact q _ _ (s1.trans s') (.lst (by rw [hid_in (hB1.new nD)]; exact hD) (DeAll.same hid_more _ _ hA))
end
end G1

namespace K16
open PySem PySem.Spec PyProof.Rows L2 G1 MW
def topS (i : Nat) : Stmt := PySem.Challenge.pw_signlanes_k16_papers_and_what_they_say.main.body.getD i (.Pass ⟨0, 0, 0, 0⟩)
abbrev s_reduced : Stmt := topS 8
theorem sc_reduced : FnScope ["word", "kept", "sign"] ["word"] (defScope s_reduced) := ⟨rfl, rfl, rfl, by decide +kernel, rfl, by decide +kernel, by decide +kernel⟩
abbrev s_undone : Stmt := topS 9
theorem sc_undone : FnScope ["word"] ["word"] (defScope s_undone) := ⟨rfl, rfl, rfl, by decide +kernel, rfl, by decide +kernel, by decide +kernel⟩
abbrev s_is_whole : Stmt := topS 15
theorem sc_is_whole : FnScope ["value"] ["value"] (defScope s_is_whole) := ⟨rfl, rfl, rfl, by decide +kernel, rfl, by decide +kernel, by decide +kernel⟩
abbrev s_is_count : Stmt := topS 16
theorem sc_is_count : FnScope ["value"] ["value"] (defScope s_is_count) := ⟨rfl, rfl, rfl, by decide +kernel, rfl, by decide +kernel, by decide +kernel⟩
abbrev s_is_spelled : Stmt := topS 17
theorem sc_is_spelled : FnScope ["many", "value", "most"] ["many", "value", "most"] (defScope s_is_spelled) := ⟨rfl, rfl, rfl, by decide +kernel, rfl, by decide +kernel, by decide +kernel⟩
abbrev s_check_many : Stmt := topS 20
theorem sc_check_many : FnScope ["many"] ["many"] (defScope s_check_many) := ⟨rfl, rfl, rfl, by decide +kernel, rfl, by decide +kernel, by decide +kernel⟩
abbrev s_check_word : Stmt := topS 21
theorem sc_check_word : FnScope ["many", "word"] ["many", "word"] (defScope s_check_word) := ⟨rfl, rfl, rfl, by decide +kernel, rfl, by decide +kernel, by decide +kernel⟩
abbrev s_is_word_list : Stmt := topS 18
theorem sc_is_word_list : FnScope ["many", "value", "most", "word"] ["many", "value", "most"] (defScope s_is_word_list) := ⟨rfl, rfl, rfl, by decide +kernel, rfl, by decide +kernel, by decide +kernel⟩
abbrev s_is_short_list : Stmt := topS 19
theorem sc_is_short_list : FnScope ["many", "value"] ["many", "value"] (defScope s_is_short_list) := ⟨rfl, rfl, rfl, by decide +kernel, rfl, by decide +kernel, by decide +kernel⟩
abbrev s_check_short_list : Stmt := topS 22
theorem sc_check_short_list : FnScope ["many", "words"] ["many", "words"] (defScope s_check_short_list) := ⟨rfl, rfl, rfl, by decide +kernel, rfl, by decide +kernel, by decide +kernel⟩
local macro_rules | `(tactic| walk_at "rd") => `(tactic| simp only [L2.tPar3, L2.tSeq, L2.tAug, L2.tTup, G1.tCallK3b, G1.tMt, G1.tMinK, G1.rIsTu, L2.rIxT, G1.rTr, G1.rLtD,L2.rIn, L2.tDNewK,  G1.iEnumS, L2.tDGet, L2.gTup, L2.gCons, L2.gNil, L2.tPar, L2.rIxS, G1.tRepU, L2.rSlS, L2.iStr, L2.tNotV, G1.rIsV, G1.mk_int, G1.mk_bool, G1.mk_str, G1.mk_list, G1.tCallX, V.ty.injEq, L2.tChain, L2.rIsB, G1.tRevS, L2.tM0, L2.tM1, L2.tCallS, G1.tCallK2, G1.tMkR, L2.rAll, L2.rPop, L2.tBM0, L2.tRevL, L2.tAsg, L2.tOp, L2.rI, L2.rI0, L2.tVar, L2.tC, L2.tCB, L2.tCons, L2.tNil, L2.tRet, L2.gName, L2.start, L2.tIf, L2.tIfS, L2.tTest, L2.tNext, L2.rIxL, L2.tSl, L2.rSlL, L2.tNoPart, L2.tPart, L2.tLst, L2.tTup, L2.rSum, L2.tBits, L2.gSub, L2.rSetL, L2.rCat, L2.tDrop, L2.tBM, L2.tBM0, L2.rAppend, L2.tYes, L2.tB, L2.tAnd, L2.tOr, L2.tNot, L2.tAndV, L2.tOrV, G1.tCallO, G1.tXm, G1.tXn, G1.tXv, HO.lst.injEq, HO.tup.injEq, Nat.reduceAdd, Nat.zero_add, List.set_cons_zero, List.set_cons_succ, G1.tFor_eq, G1.tLc_eq, G1.rIxM, G1.rLenM, G1.rSlM, G1.atI_0, G1.atI_1, G1.atI_2, G1.ixN_0, G1.ixN_2, L2.upd_same, L2.upd_upd, and_assoc, L2.iRng1, L2.iList, L2.tUn, L2.rU, G1.rRepS, L2.wipe, List.foldl, L2.rEq, L2.rNe, List.map, List.replicate, List.length, List.append, List.set, List.getElem?_cons_zero, List.getElem?_cons_succ, List.cons_append, List.nil_append, Option.some.injEq, V.int.injEq, V.bl.injEq, V.ref.injEq, V.str.injEq, List.cons.injEq, reduceCtorEq, false_and, and_false, exists_false, or_false, false_or, exists_and_left, exists_and_right, exists_eq_left', exists_eq_left, true_and, and_true, Nat.sub_self, decide_eq_true_eq])
def GC (mg : Str → Option Value) (x : Str) (v : V) : Prop := ∃ u, mg x = some u ∧ L2.RelV v u
theorem pe_gc {X : Cx} {x : Str} {v : V} {p : Pos} (hg : Gl X x) (h : GC X.mg x v) (hdb : (x == ("__debug__" : Str)) = false := by decide) : PE X (.Name x p) (tC v) := by
  obtain ⟨u, hm, r⟩ := h
  exact pe_glob hg hm r hdb
abbrev SG : Str := W sgs
structure Txt (P : Program) (w : World) (K : PySem.W.Frag) (mg : Str → Option Value) (base : Heap) (c : Nat → Addr) (cF : Addr) : Prop where
  n_int : mg "int" = none
  n_len : mg "len" = none
  n_sum : mg "sum" = none
  n_max : mg "max" = none
  n_range : mg "range" = none
  n_isinstance : mg "isinstance" = none
  n_list : mg "list" = none
  n_bool : mg "bool" = none
  n_str : mg "str" = none
  n_all : mg "all" = none
  n_dict : mg "dict" = none
  n_enumerate : mg "enumerate" = none
  n_abs : mg "abs" = none
  n_min : mg "min" = none
  n_tuple : mg "tuple" = none
  n_repr : mg "repr" = none
  c_SIGNS : GC mg "SIGNS" (.str SG)
  c_MOST_SIGNS : GC mg "MOST_SIGNS" (.int 1000)
  c_MOST_LETTERS : GC mg "MOST_LETTERS" (.int 6)
  c_MOST_WORDS : GC mg "MOST_WORDS" (.int 12)
  c_MOST_WORD_SIGNS : GC mg "MOST_WORD_SIGNS" (.int 200)
  c_MOST_SAID : GC mg "MOST_SAID" (.int 10000)
  c_MOST_ITEMS : GC mg "MOST_ITEMS" (.int 12)
  x : ∀ i, i < 4 → XOk P w K mg base (["InvalidNumber", "InvalidWord", "InvalidList", "InvalidPaper"].getD i "") (c i)
  nF : XNk K mg "FoldError" cF
  exm : ∀ i, i < 4 → PySem.W.exmOne K (.ref (c i)) (.ref cF) = some true
  kit : ∀ i j, i < 4 → j < 4 → PySem.W.kitOne K (.ref (c i)) (.ref (c j)) = some (decide (j = i))
section
variable {P : Program} {w : World} {K : PySem.W.Frag} {mg : Str → Option Value} {base : Heap} {c : Nat → Addr} {cF : Addr}
theorem cmul {i j : Int} (h1 : i.natAbs < 2 ^ 64) (h2 : j.natAbs < 2 ^ 64) : CMulW i j := wide_mul h1 h2 (by decide) (by decide) (by decide)
/-- what is no whole number -/
def whB : V → Bool | .int _ => true | _ => false
/-- a number of letters -/
def manyB : V → Bool | .int m => decide (1 ≤ m) && decide (m ≤ 6) | _ => false
/-- a word for so many letters -/
def spBn (n : Nat) (m : Int) : V → Bool | .str x => decide (x.length ≤ n) && x.cps.toList.all (fun c => decide (c ∈ sgs.take (2 * m).toNat)) | _ => false
abbrev spB (m : Int) : V → Bool := spBn 1000 m
/-- a value that may be handed in -/
def Okv (H : Hp) (v : V) : Prop := ∃ t, Any H v t ∧ ∀ x, v = .str x → x.length ≤ 100000
theorem Okv.same {H H' : Hp} (s : Same H H') {v : V} (h : Okv H v) : Okv H' v := let ⟨t, h1, h2⟩ := h; ⟨t, h1.same s, h2⟩
/-- a list of words -/
def wlB (n : Nat) (m : Int) (H : Hp) : V → Bool | .ref a => (match H a with | some (.lst xs) => xs.all (spBn n m) | _ => false) | _ => false
def spWhole : Sp := fun vs H Q _ => ∃ v, vs = [v] ∧ Okv H v ∧ Q (.bl (whB v)) H
theorem ok_is_whole (S : Src K mg "is_whole" s_is_whole) (T : Txt P w K mg base c cF) : OkD P w K mg base 1 "is_whole" ["value"] spWhole := by
  refine okd S (fun f fd F => F.ok sc_is_whole (fun vs H Q E h => ?_) (fun cdv A outer s H vs Q E hr h => ?_)) (fun _ _ _ _ _ _ us hl => match us, hl with | [_], _ => rfl)
  · obtain ⟨_, rfl, _⟩ := h
    rfl
  · obtain ⟨v, rfl, ⟨t, hv, _⟩, q⟩ := h
    refine ⟨_, ((pss_one (ps_ret (pe_and (pe_callB call_isV (by rfl) T.n_isinstance (by decide +kernel) (pa_cons (pv 0) (pa_cons (pe_gty (n := "int") (by rfl) T.n_int (by decide +kernel)) pa_nil))) (pe_one (pe_not (pe_callB call_isV (by rfl) T.n_isinstance (by decide +kernel) (pa_cons (pv 0) (pa_cons (pe_gty (n := "bool") (by rfl) T.n_bool (by decide +kernel)) pa_nil))))))))), ?_⟩
    walk_at "rd"
    refine ⟨t, hv, ?_⟩
    cases hv <;> simp only [isT, whB] at q ⊢ <;> first
      | exact q
      | exact ⟨_, .int _, q⟩
      | exact ⟨_, .bl _, q⟩
def spSpelled : Sp := fun vs H Q _ => ∃ (n : Nat) (m : Int) (v : V), vs = [.int m, v, .int n] ∧ n ≤ 1000 ∧ 1 ≤ m ∧ m ≤ 6 ∧ Okv H v ∧ Q (.bl (spBn n m v)) H
theorem take_step {α : Type} {xs : List α} {i : Nat} {x : α} (h : xs[i]? = some x) : xs.take (i + 1) = xs.take i ++ [x] := by
  rw [List.take_add_one, h]
  rfl
theorem join_signs (l : List Nat) : Txt.join ⟨#[]⟩ (l.map fun c => (⟨#[c]⟩ : Str)) = W l := by
  have h := join_W (l.map fun c => [c])
  rw [List.map_map] at h
  have e : (l.map fun c => [c]).flatten = l := by
    induction l with
    | nil => rfl
    | cons a l ih => rw [List.map_cons, List.flatten_cons, ih (by have := join_W (l.map fun c => [c]); rw [List.map_map] at this; exact this)]; rfl
  rw [e] at h
  exact h
theorem atI_last {α : Type} (xs : List α) (x : α) : atI (xs ++ [x]) (-1) = some x := by
  have h : ixN (xs ++ [x]).length (-1) = some xs.length := by
    unfold ixN
    rw [List.length_append, List.length_singleton]
    split
    · omega
    · split <;> simp <;> omega
  unfold atI
  rw [h]
  simp
theorem cutSG {m : Int} (h1 : 1 ≤ m) (h2 : m ≤ 6) : cutS SG none (some (2 * m)) = W (sgs.take (2 * m).toNat) := by
  have : m = 1 ∨ m = 2 ∨ m = 3 ∨ m = 4 ∨ m = 5 ∨ m = 6 := by omega
  rcases this with rfl | rfl | rfl | rfl | rfl | rfl <;> decide +kernel
theorem strip_spB {n : Nat} {m : Int} {x : Str} (h1 : 1 ≤ m) (h2 : m ≤ 6) (hx : ¬ ((n : Nat) : Int) < ((x.length : Nat) : Int)) : decide (Txt.stripChars x (W (sgs.take (2 * m).toNat)) = PySem.Str.ofString "") = spBn n m (.str x) := by
  have e : PySem.Str.ofString "" = (⟨#[]⟩ : Str) := rfl
  rw [e]
  have h := strip_W x.cps.toList (sgs.take (2 * m).toNat)
  rw [W_eta] at h
  simp only [spBn]
  rw [show decide (x.length ≤ n) = true by rw [decide_eq_true_eq]; omega, Bool.true_and]
  rw [Bool.eq_iff_iff, decide_eq_true_eq, h, List.all_eq_true]
  simp only [decide_eq_true_eq]
theorem ok_is_spelled (S : Src K mg "is_spelled" s_is_spelled) (T : Txt P w K mg base c cF) : OkD P w K mg base 1 "is_spelled" ["many", "value", "most"] spSpelled := by
  refine okd S (fun f fd F => F.ok sc_is_spelled (fun vs H Q E h => ?_) (fun cdv A outer s H vs Q E hr h => ?_)) (fun _ _ _ _ _ _ us hl => match us, hl with | [_, _, _], _ => rfl)
  · obtain ⟨_, _, _, rfl, _⟩ := h
    rfl
  · obtain ⟨n, m, v, rfl, hn, h1, h2, ⟨t, hv, hl⟩, q⟩ := h
    refine ⟨_, ((pss_cons (ps_if (PW.pt (pw_or (pt_not (pt_val (pe_callB call_isV (by rfl) T.n_isinstance (by decide +kernel) (pa_cons (pv 1) (pa_cons (pe_gty (n := "str") (by rfl) T.n_str (by decide +kernel)) pa_nil))))) (pw_or1 (pt_cmpR op_gt (pe_callB call_len_str (by rfl) T.n_len PySem.boot_len (pa_cons (pv 1) pa_nil)) (pv 2) (nomark _))))) (pss_one (ps_ret pe_bl)) pss_nil)
      (pss_one (ps_ret (pe_cmpR op_eq (pe_bm PySem.F.plainAttrs_str PySem.F.slot_str_strip PySem.F.type_str_strip mt_stripChars (pv 1) (pa_cons (pe_slice sl_str (pe_gc (by rfl) T.c_SIGNS) po_none (po_some (pe_op op_mulW pe_int (pv 0)))) pa_nil)) pe_str (nomark _)))))), ?_⟩
    walk_at "rd"
    refine ⟨t, hv, ?_⟩
    cases hv with
    | str x =>
      have hx := hl x rfl
      rw [if_neg (by decide)]
      refine ⟨x, rfl, by rw [sizeLine_eq]; omega, ?_⟩
      split
      · rename_i hlen
        have : spBn n m (.str x) = false := by
          simp only [spBn]
          rw [show decide (x.length ≤ n) = false by rw [decide_eq_false_iff_not]; omega, Bool.false_and]
        rw [this] at q
        exact q
      · rename_i hlen
        refine ⟨rfl, cmul (by decide) (by omega), by decide +kernel, x, rfl, by rw [sizeLine_eq]; omega, rfl, ?_⟩
        rw [cutSG h1 h2, strip_spB h1 h2 hlen]
        exact q
    | _ =>
      rw [if_pos (by decide), if_pos trivial]
      exact q
theorem ok_reduced (S : Src K mg "reduced" s_reduced) (T : Txt P w K mg base c cF) : OkD P w K mg base 1 "reduced" ["word"] (fun vs H Q _ => ∃ l, vs = [.str (W l)] ∧ Sg l ∧ l.length ≤ 200000 ∧ ∀ H', Same H H' → Q (.str (W (red l))) H') := by
  refine okd S (fun f fd F => F.ok sc_reduced (fun vs H Q E h => ?_) (fun cdv A outer s H vs Q E hr h => ?_)) (fun _ _ _ _ _ _ us hl => match us, hl with | [_], _ => rfl)
  · obtain ⟨_, rfl, _⟩ := h
    rfl
  · obtain ⟨l, rfl, hS, hl, q⟩ := h
    refine ⟨_, ((pss_cons (ps_set (i := 1) sc_reduced.nd rfl (.inl rfl) (pe_lst pa_nil))
      (pss_cons (ps_for PassesOwn.never rfl (pi_str (pv 0)) (pg_name (i := 2) sc_reduced.nd rfl (.inl rfl)) (pss_one (ps_if (PW.pt (pw_and (pt_truth (pv 1) (by intro _; rfl)) (pw_and1 (pt_cmpR op_eq (pe_ix ix_lM (pv 1) (pe_un un_neg pe_int) (fun _ _ => rfl)) (pe_m0 PySem.F.slot_str_swapcase PySem.F.type_str_swapcase mt_swap (pv 2)) (nomark _))))) (pss_one (ps_expr (pe_bm0 PySem.F.plainAttrs_list PySem.F.slot_list_pop PySem.F.type_list_pop mt_pop (pv 1)))) (pss_one (ps_expr (pe_bm PySem.F.plainAttrs_list PySem.F.slot_list_append PySem.F.type_list_append mt_append (pv 1) (pa_cons (pv 2) pa_nil)))))))
      (pss_one (ps_ret (pe_join pe_str (pv 1))))))), ?_⟩
    walk_at "rd"
    refine ⟨Nat.zero_le _, fun p np => ?_⟩
    refine loop_str (fun i σ H' => ∃ v, σ = [some (.str (W l)), some (.ref p), v] ∧ H' = upd H p (.lst ((stk [] (l.take i)).reverse.map fun c => V.str ⟨#[c]⟩))) ⟨none, rfl, rfl⟩ ?_ ?_
    · rintro i ch σ H' hi ⟨v, rfl, rfl⟩
      have hi' : l[i]? = some ch := by simpa [W] using hi
      walk_at "rd"
      have hc : ch ∈ sgs := hS ch (List.mem_of_getElem? hi')
      have hlen : (stk [] (List.take i l)).length ≤ 200000 := by
        have h1 := len_stk (List.take i l) []
        have h2 : (List.take i l).length ≤ l.length := by rw [List.length_take]; omega
        simp only [List.length_nil, Nat.zero_add] at h1
        omega
      have hstep : stk [] (List.take (i + 1) l) = MW.step (stk [] (List.take i l)) ch := by
        rw [List.take_add_one, hi', Option.toList_some, stk_append]
        rfl
      rw [hstep]
      generalize stk [] (List.take i l) = st at hlen
      cases st with
      | nil =>
        refine ⟨false, .inl ⟨_, .inl (.inl upd_same), rfl⟩, ?_⟩
        rw [if_neg (by decide), if_neg id]
        exact ⟨.inl ⟨rfl, _, .inl (.inl upd_same)⟩, by decide, ⟨_, rfl⟩, rfl⟩
      | cons t r =>
        have e : List.map (fun c => V.str ⟨#[c]⟩) (t :: r).reverse = List.map (fun c => V.str ⟨#[c]⟩) r.reverse ++ [V.str ⟨#[t]⟩] := by simp
        rw [e]
        refine ⟨true, .inl ⟨_, .inl (.inl upd_same), by simp⟩, ?_⟩
        rw [if_pos rfl]
        refine ⟨_, atI_last _ _, ⟨_, rfl⟩, by show 1 ≤ _; decide, rfl, ?_⟩
        rw [swap_one hc]
        simp only [MW.step]
        split
        · rename_i h5
          have h6 : t = inv ch := by
            have := V.str.inj h5
            exact List.singleton_inj.mp (W_inj (a := [t]) (b := [inv ch]) this)
          rw [if_pos h6]
          refine ⟨.inl ⟨rfl, _, .inl (.inl upd_same)⟩, ⟨V.str ⟨#[t]⟩, by simp⟩, ⟨_, rfl⟩, ?_⟩
          rw [List.dropLast_concat]
        · rename_i h5
          rw [if_neg (fun h6 => h5 (by rw [h6]))]
          refine ⟨.inl ⟨rfl, _, .inl (.inl upd_same)⟩, ?_, ⟨_, rfl⟩, ?_⟩
          · rw [sizeLine_eq]
            simp only [List.length_append, List.length_map, List.length_reverse, List.length_cons, List.length_nil] at hlen ⊢
            omega
          · congr 2
            simp
    · rintro σ H' ⟨v, rfl, rfl⟩
      walk_at "rd"
      refine ⟨⟨_, rfl⟩, (red l).map fun c => ⟨#[c]⟩, .inl (.inl (.inl ?_)), ?_, ?_⟩
      · rw [upd_same, List.map_map]
        unfold red
        rw [show (W l).cps.size = l.length by simp, List.take_length]
        rfl
      · have := len_red l
        have e0 : (PySem.Str.ofString "").length = 0 := rfl
        rw [e0, Nat.mul_zero, Nat.add_zero, show (List.map (fun x : Str => x.length) (List.map (fun c => (⟨#[c]⟩ : Str)) (red l))).sum = (red l).length by
          generalize red l = z
          induction z with
          | nil => rfl
          | cons a z ih =>
            rw [List.map_cons, List.map_cons, List.sum_cons, ih, List.length_cons]
            show 1 + _ = _
            omega]
        omega
      · have e0 : PySem.Str.ofString "" = (⟨#[]⟩ : Str) := rfl
        rw [e0, join_signs]
        exact q _ (same_upd np)
def spUnd : Sp := fun vs H Q _ => ∃ l, vs = [.str (W l)] ∧ Sg l ∧ l.length ≤ 200000 ∧ Q (.str (W (opp l))) H
theorem ok_undone (S : Src K mg "undone" s_undone) (T : Txt P w K mg base c cF) : OkD P w K mg base 1 "undone" ["word"] spUnd := by
  refine okd S (fun f fd F => F.ok sc_undone (fun vs H Q E h => ?_) (fun cdv A outer s H vs Q E hr h => ?_)) (fun _ _ _ _ _ _ us hl => match us, hl with | [_], _ => rfl)
  · obtain ⟨_, rfl, _⟩ := h
    rfl
  · obtain ⟨l, rfl, hS, hl, q⟩ := h
    refine ⟨_, ((pss_one (ps_ret (pe_m0 PySem.F.slot_str_swapcase PySem.F.type_str_swapcase mt_swap (pe_revS (pv 0)))))), ?_⟩
    walk_at "rd"
    have hz := sizeLine_eq
    rw [W_len, rev_W, W_len, List.length_reverse, swap_W hS.rev]
    refine ⟨by omega, ⟨_, rfl⟩, by omega, ?_⟩
    rw [show l.reverse.map inv = opp l by unfold opp; rw [List.map_reverse]]
    exact q
def spCheckMany (c : Nat → Addr) : Sp := fun vs H Q E => ∃ v, vs = [v] ∧ Okv H v ∧ (manyB v = true → Q .non H) ∧ (manyB v = false → Raised (c 0) v H E)
theorem ok_check_many (S : Src K mg "check_many" s_check_many) (T : Txt P w K mg base c cF) (C_is_whole : OkD P w K mg base 1 "is_whole" ["value"] spWhole) : OkX P w K mg base 3 "check_many" ["many"] (spCheckMany c) := by
  refine okx S (fun f fd F => F.okX sc_check_many (fun vs H Q E h => ?_) (fun cdv A outer s H vs Q E hr h => ?_)) (fun _ _ _ _ _ _ us hl => match us, hl with | [_], _ => rfl)
  · obtain ⟨_, rfl, _⟩ := h
    rfl
  · obtain ⟨v, rfl, hv, q1, q2⟩ := h
    refine ⟨_, ((pss_one (ps_if (PW.pt (pw_or (pt_not (pt_val (pe_callO C_is_whole (hr.mono (by decide)) (by rfl) (pa_cons (pv 0) pa_nil)))) (pw_or1 (pt_not (pt_chain op_le op_le pe_int (pv 0) (pe_gc (by rfl) T.c_MOST_LETTERS)))))) (pss_one (ps_raiseX rfl (takes_of rfl rfl rfl rfl) (T.x 0 (by decide)) (hr.mono (by decide)) (by rfl) (pa_cons (pv 0) pa_nil))) pss_nil))), ?_⟩
    walk_at "rd"
    refine ⟨v, rfl, hv, _, rfl, ?_⟩
    obtain ⟨t, ht, _⟩ := hv
    cases ht with
    | int i =>
      rw [if_neg (fun z => by cases z)]
      refine ⟨i, rfl, ?_⟩
      simp only [manyB, Bool.and_eq_true, decide_eq_true_eq, Bool.and_eq_false_iff, decide_eq_false_iff_not] at q1 q2
      split
      · rename_i h1
        refine ⟨i, rfl, ?_⟩
        split
        · rename_i h2
          exact q2 (.inr (by simpa using h2))
        · rename_i h2
          exact q1 ⟨h1, by simpa using h2⟩
      · rename_i h1
        rw [if_pos (by decide)]
        exact q2 (.inl h1)
    | _ => exact q2 rfl
def spCheckWord (c : Nat → Addr) : Sp := fun vs H Q E => ∃ m v, vs = [.int m, v] ∧ 1 ≤ m ∧ m ≤ 6 ∧ Okv H v ∧ (spB m v = true → Q .non H) ∧ (spB m v = false → Raised (c 1) v H E)
theorem ok_check_word (S : Src K mg "check_word" s_check_word) (T : Txt P w K mg base c cF) (C_is_spelled : OkD P w K mg base 1 "is_spelled" ["many", "value", "most"] spSpelled) : OkX P w K mg base 3 "check_word" ["many", "word"] (spCheckWord c) := by
  refine okx S (fun f fd F => F.okX sc_check_word (fun vs H Q E h => ?_) (fun cdv A outer s H vs Q E hr h => ?_)) (fun _ _ _ _ _ _ us hl => match us, hl with | [_, _], _ => rfl)
  · obtain ⟨_, _, rfl, _⟩ := h
    rfl
  · obtain ⟨m, v, rfl, h1, h2, hv, q1, q2⟩ := h
    refine ⟨_, ((pss_one (ps_if (pt_not (pt_val (pe_callO C_is_spelled (hr.mono (by decide)) (by rfl) (pa_cons (pv 0) (pa_cons (pv 1) (pa_cons (pe_gc (by rfl) T.c_MOST_SIGNS) pa_nil)))))) (pss_one (ps_raiseX rfl (takes_of rfl rfl rfl rfl) (T.x 1 (by decide)) (hr.mono (by decide)) (by rfl) (pa_cons (pv 1) pa_nil))) pss_nil))), ?_⟩
    walk_at "rd"
    refine ⟨1000, m, v, rfl, by decide, h1, h2, hv, ?_⟩
    cases e : spBn 1000 m v with
    | true => exact ⟨true, rfl, q1 e⟩
    | false => exact ⟨false, rfl, q2 e⟩
/-- what may stand in a list that is handed in -/
def Okl (H : Hp) (v : V) : Prop := Okv H v ∧ ∀ a xs, v = .ref a → H a = some (.lst xs) → xs.length ≤ 1000 ∧ ∀ x ∈ xs, Okv H x
def Refuse (c : Nat → Addr) (v1 : V) (H : Hp) (E : XK) (k : Int → Prop) : Prop := (manyB v1 = false → Raised (c 0) v1 H E) ∧ ∀ m, v1 = .int m → 1 ≤ m → m ≤ 6 → k m
theorem many_of {v : V} (e : manyB v = true) : ∃ m, v = .int m ∧ 1 ≤ m ∧ m ≤ 6 := by
  cases v with
  | int m =>
    simp only [manyB, Bool.and_eq_true, decide_eq_true_eq] at e
    exact ⟨m, rfl, e.1, e.2⟩
  | _ => cases e
theorem many_cases {v : V} : manyB v = false ∨ ∃ m, v = .int m ∧ 1 ≤ m ∧ m ≤ 6 ∧ manyB v = true := by
  cases e : manyB v with
  | false => exact .inl rfl
  | true =>
    cases v with
    | int m =>
      simp only [manyB, Bool.and_eq_true, decide_eq_true_eq] at e
      exact .inr ⟨m, rfl, e.1, e.2, rfl⟩
    | _ => cases e
/-- a plain word, if a word -/
def plB : V → Bool | .str x => decide (red x.cps.toList = x.cps.toList) | _ => false
theorem spB_of {n : Nat} {m : Int} {v : V} (h : spBn n m v = true) : ∃ l, v = .str (W l) ∧ Sg l ∧ l.length ≤ n ∧ ∀ c ∈ l, c ∈ sgs.take (2 * m).toNat := by
  cases v with
  | str x =>
    simp only [spBn, Bool.and_eq_true, decide_eq_true_eq, List.all_eq_true] at h
    refine ⟨x.cps.toList, by rw [W_eta], fun c hc => List.mem_of_mem_take (h.2 c hc), ?_, h.2⟩
    rw [← W_len, W_eta]
    exact h.1
  | _ => cases h
def spRed : Sp := fun vs H Q _ => ∃ l, vs = [.str (W l)] ∧ Sg l ∧ l.length ≤ 200000 ∧ ∀ H', Same H H' → Q (.str (W (red l))) H'
/-- what a def of (many, word) tells -/
def intB : V → Bool | .int i => decide (0 ≤ i) | _ => false
def spCount : Sp := fun vs H Q _ => ∃ v, vs = [v] ∧ Okv H v ∧ Q (.bl (intB v)) H
theorem ok_is_count (S : Src K mg "is_count" s_is_count) (T : Txt P w K mg base c cF) (C_is_whole : OkD P w K mg base 1 "is_whole" ["value"] spWhole) : OkD P w K mg base 2 "is_count" ["value"] spCount := by
  refine okd S (fun f fd F => F.ok sc_is_count (fun vs H Q E h => ?_) (fun cdv A outer s H vs Q E hr h => ?_)) (fun _ _ _ _ _ _ us hl => match us, hl with | [_], _ => rfl)
  · obtain ⟨_, rfl, _⟩ := h
    rfl
  · obtain ⟨v, rfl, hv, q⟩ := h
    refine ⟨_, ((pss_one (ps_ret (pe_and (pe_callO C_is_whole (hr.mono (by decide)) (by rfl) (pa_cons (pv 0) pa_nil)) (pe_one (pe_cmpR op_ge (pv 0) pe_int (nomark _))))))), ?_⟩
    walk_at "rd"
    refine ⟨v, rfl, hv, _, rfl, ?_⟩
    cases v with
    | int i => exact ⟨i, rfl, q⟩
    | _ => exact q
def spWordList : Sp := fun vs H Q _ => ∃ (n : Nat) (m : Int) (v : V), vs = [.int m, v, .int n] ∧ n ≤ 1000 ∧ 1 ≤ m ∧ m ≤ 6 ∧ Okl H v ∧ ∀ H', Same H H' → Q (.bl (wlB n m H v)) H'
theorem ok_is_word_list (S : Src K mg "is_word_list" s_is_word_list) (T : Txt P w K mg base c cF) (C_is_spelled : OkD P w K mg base 1 "is_spelled" ["many", "value", "most"] spSpelled) : OkD P w K mg base 2 "is_word_list" ["many", "value", "most"] spWordList := by
  refine okd S (fun f fd F => F.ok sc_is_word_list (fun vs H Q E h => ?_) (fun cdv A outer s H vs Q E hr h => ?_)) (fun _ _ _ _ _ _ us hl => match us, hl with | [_, _, _], _ => rfl)
  · obtain ⟨_, _, _, rfl, _⟩ := h
    rfl
  · obtain ⟨n, m, v, rfl, hn, h1, h2, ⟨⟨t, hv, hl⟩, hx⟩, q⟩ := h
    refine ⟨_, ((pss_one (ps_ret (pe_and (pe_callB call_isV (by rfl) T.n_isinstance (by decide +kernel) (pa_cons (pv 1) (pa_cons (pe_gty (n := "list") (by rfl) T.n_list (by decide +kernel)) pa_nil))) (pe_one (pe_callB (cr_all rfl) (by rfl) T.n_all (by decide +kernel) (pa_cons (pe_lc (own := [("word", 3)]) (g := gName 3) (tt := tYes) (by rfl) sc_is_word_list.nd (pi_list (pv 1)) (blkOk_by (own := [("word", 3)]) (N := ["many", "value", "most", "word"]) (sc := defScope s_is_word_list) (by decide +kernel)) (fun _ _ _ _ _ => pg_name (i := 3) sc_is_word_list.nd rfl (Or.inl rfl)) (fun _ _ _ _ _ => pts_nil) (fun _ _ _ _ _ => (pe_callO C_is_spelled (hr.mono (by decide)) (by rfl) (pa_cons (pv 0) (pa_cons (pv 3) (pa_cons (pv 2) pa_nil)))))) pa_nil))))))), ?_⟩
    walk_at "rd"
    refine ⟨t, hv, ?_⟩
    cases hv with
    | @lst a xs ha =>
      rw [if_pos (by decide)]
      obtain ⟨hxl, hxs⟩ := hx a xs rfl ha
      have hw : wlB n m H (.ref a) = xs.all (spBn n m) := by simp only [wlB, ha]
      refine ⟨a, rfl, ⟨xs, SqL.of ha⟩, ?_⟩
      refine comp_list (xs := xs) (fun D i H' => H' = upd H D (.lst ((xs.take i).map fun x => V.bl (spBn n m x)))) (fun D nD => rfl) ?_ ?_ ?_
      · rintro D i H' nD hi rfl
        exact SqL.of (by rw [upd_ne (ne_none ha nD)]; exact ha)
      · rintro D i x H' nD hi rfl
        walk_at "rd"
        refine ⟨n, m, x, rfl, hn, h1, h2, (hxs x (List.mem_of_getElem? hi)).same (same_upd nD), ?_⟩
        refine ⟨_, upd_same, ?_, ?_⟩
        · rw [List.length_map, List.length_take, sizeLine_eq]
          omega
        · rw [upd_upd, take_step hi, List.map_append]
          rfl
      · rintro D H' nD rfl
        walk_at "rd"
        refine ⟨xs.map (spBn n m), SqL.of ?_, ?_⟩
        · rw [upd_same, List.take_length, List.map_map]
          rfl
        · rw [List.all_map]
          have := q _ (same_upd (o := .lst ((xs.take xs.length).map fun x => V.bl (spBn n m x))) nD)
          rw [hw] at this
          exact this
    | _ =>
      rw [if_neg (by decide)]
      simp only [wlB, *] at q
      exact q _ (Same.refl H)
def slB (m : Int) (H : Hp) : V → Bool | .ref a => (match H a with | some (.lst xs) => decide (xs.length ≤ 12) && xs.all (spBn 200 m) | _ => false) | _ => false
def spShort : Sp := fun vs H Q _ => ∃ m v, vs = [.int m, v] ∧ 1 ≤ m ∧ m ≤ 6 ∧ Okl H v ∧ ∀ H', Same H H' → Q (.bl (slB m H v)) H'
theorem ok_is_short_list (S : Src K mg "is_short_list" s_is_short_list) (T : Txt P w K mg base c cF) (C_is_word_list : OkD P w K mg base 2 "is_word_list" ["many", "value", "most"] spWordList) : OkD P w K mg base 3 "is_short_list" ["many", "value"] spShort := by
  refine okd S (fun f fd F => F.ok sc_is_short_list (fun vs H Q E h => ?_) (fun cdv A outer s H vs Q E hr h => ?_)) (fun _ _ _ _ _ _ us hl => match us, hl with | [_, _], _ => rfl)
  · obtain ⟨_, _, rfl, _⟩ := h
    rfl
  · obtain ⟨m, v, rfl, h1, h2, hx, q⟩ := h
    have hx0 := hx
    obtain ⟨⟨t, hv, hl⟩, hxx⟩ := hx
    refine ⟨_, ((pss_cons (ps_if (PW.pt (pw_or (pt_not (pt_val (pe_callB call_isV (by rfl) T.n_isinstance (by decide +kernel) (pa_cons (pv 1) (pa_cons (pe_gty (n := "list") (by rfl) T.n_list (by decide +kernel)) pa_nil))))) (pw_or1 (pt_cmpR op_gt (pe_callB call_lenM (by rfl) T.n_len PySem.boot_len (pa_cons (pv 1) pa_nil)) (pe_gc (by rfl) T.c_MOST_WORDS) (nomark _))))) (pss_one (ps_ret pe_bl)) pss_nil)
      (pss_one (ps_ret (pe_callO C_is_word_list (hr.mono (by decide)) (by rfl) (pa_cons (pv 0) (pa_cons (pv 1) (pa_cons (pe_gc (by rfl) T.c_MOST_WORD_SIGNS) pa_nil)))))))), ?_⟩
    walk_at "rd"
    refine ⟨t, hv, ?_⟩
    cases hv with
    | @lst a xs ha =>
      rw [if_neg (by decide)]
      refine ⟨a, rfl, xs, ha, ?_⟩
      have hw : slB m H (.ref a) = (decide (xs.length ≤ 12) && xs.all (spBn 200 m)) := by simp only [slB, ha]
      have hw2 : wlB 200 m H (.ref a) = xs.all (spBn 200 m) := by simp only [wlB, ha]
      rw [hw] at q
      by_cases hc : xs.length ≤ 12
      · rw [if_neg (by omega)]
        rw [decide_eq_true hc, Bool.true_and, ← hw2] at q
        exact ⟨200, m, _, rfl, by decide, h1, h2, hx0, q⟩
      · rw [if_pos (by omega)]
        rw [decide_eq_false hc, Bool.false_and] at q
        exact q _ (.refl H)
    | _ =>
      rw [if_pos (by decide), if_pos trivial]
      simp only [slB, *] at q
      exact q _ (.refl H)
def spCheckShort (c : Nat → Addr) : Sp := fun vs H Q E => ∃ m v, vs = [.int m, v] ∧ 1 ≤ m ∧ m ≤ 6 ∧ Okl H v ∧ (slB m H v = true → ∀ H', Same H H' → Q .non H') ∧ (slB m H v = false → ∀ H', Same H H' → Raised (c 2) v H' E)
theorem ok_check_short_list (S : Src K mg "check_short_list" s_check_short_list) (T : Txt P w K mg base c cF) (C_is_short_list : OkD P w K mg base 3 "is_short_list" ["many", "value"] spShort) : OkX P w K mg base 4 "check_short_list" ["many", "words"] (spCheckShort c) := by
  refine okx S (fun f fd F => F.okX sc_check_short_list (fun vs H Q E h => ?_) (fun cdv A outer s H vs Q E hr h => ?_)) (fun _ _ _ _ _ _ us hl => match us, hl with | [_, _], _ => rfl)
  · obtain ⟨_, _, rfl, _⟩ := h
    rfl
  · obtain ⟨m, v, rfl, h1, h2, hv, q1, q2⟩ := h
    refine ⟨_, ((pss_one (ps_if (pt_not (pt_val (pe_callO C_is_short_list (hr.mono (by decide)) (by rfl) (pa_cons (pv 0) (pa_cons (pv 1) pa_nil))))) (pss_one (ps_raiseX rfl (takes_of rfl rfl rfl rfl) (T.x 2 (by decide)) (hr.mono (by decide)) (by rfl) (pa_cons (pv 1) pa_nil))) pss_nil))), ?_⟩
    walk_at "rd"
    refine ⟨m, v, rfl, h1, h2, hv, fun H' s' => ?_⟩
    cases e : slB m H v with
    | true => exact ⟨true, rfl, q1 e H' s'⟩
    | false => exact ⟨false, rfl, q2 e H' s'⟩
end
end K16

namespace K16
open PySem PySem.Spec PyProof.Rows L2 G1 MW
abbrev s_is_item : Stmt := topS 29
theorem sc_is_item : FnScope ["value", "known", "number", "side"] ["value", "known"] (defScope s_is_item) := ⟨rfl, rfl, rfl, by decide +kernel, rfl, by decide +kernel, by decide +kernel⟩
abbrev s_is_step : Stmt := topS 28
theorem sc_is_step : FnScope ["value", "known", "item"] ["value", "known"] (defScope s_is_step) := ⟨rfl, rfl, rfl, by decide +kernel, rfl, by decide +kernel, by decide +kernel⟩
abbrev s_step_word : Stmt := topS 30
theorem sc_step_word : FnScope ["known", "step", "number", "side"] ["known", "step"] (defScope s_step_word) := ⟨rfl, rfl, rfl, by decide +kernel, rfl, by decide +kernel, by decide +kernel⟩
abbrev s_said_words : Stmt := topS 27
theorem sc_said_words : FnScope ["words", "paper", "known", "given", "step", "word"] ["words", "paper"] (defScope s_said_words) := ⟨rfl, rfl, rfl, by decide +kernel, rfl, by decide +kernel, by decide +kernel⟩
abbrev s_said : Stmt := topS 26
theorem sc_said : FnScope ["many", "words", "paper", "found"] ["many", "words", "paper"] (defScope s_said) := ⟨rfl, rfl, rfl, by decide +kernel, rfl, by decide +kernel, by decide +kernel⟩
abbrev s_is_paper : Stmt := topS 31
theorem sc_is_paper : FnScope ["many", "words", "word", "value", "found"] ["many", "words", "word", "value"] (defScope s_is_paper) := ⟨rfl, rfl, rfl, by decide +kernel, rfl, by decide +kernel, by decide +kernel⟩
local macro_rules | `(tactic| walk_at "rd") => `(tactic| simp only [L2.tPar3, L2.tSeq, L2.tAug, L2.tTup, G1.tCallK3b, G1.tMt, G1.tMinK, G1.rIsTu, L2.rIxT, G1.rTr, G1.rLtD, if_true, if_false, L2.rNotB, L2.rMax, L2.iRng2,L2.rIn, L2.tDNewK,  G1.iEnumS, L2.tDGet, L2.gTup, L2.gCons, L2.gNil, L2.tPar, L2.rIxS, G1.tRepU, L2.rSlS, L2.iStr, L2.tNotV, G1.rIsV, G1.mk_int, G1.mk_bool, G1.mk_str, G1.mk_list, G1.tCallX, V.ty.injEq, L2.tChain, L2.rIsB, G1.tRevS, L2.tM0, L2.tM1, L2.tCallS, G1.tCallK2, G1.tMkR, L2.rAll, L2.rPop, L2.tBM0, L2.tRevL, L2.tAsg, L2.tOp, L2.rI, L2.rI0, L2.tVar, L2.tC, L2.tCB, L2.tCons, L2.tNil, L2.tRet, L2.gName, L2.start, L2.tIf, L2.tIfS, L2.tTest, L2.tNext, L2.rIxL, L2.tSl, L2.rSlL, L2.tNoPart, L2.tPart, L2.tLst, L2.tTup, L2.rSum, L2.tBits, L2.gSub, L2.rSetL, L2.rCat, L2.tDrop, L2.tBM, L2.tBM0, L2.rAppend, L2.tYes, L2.tB, L2.tAnd, L2.tOr, L2.tNot, L2.tAndV, L2.tOrV, G1.tCallO, G1.tXm, G1.tXn, G1.tXv, HO.lst.injEq, HO.tup.injEq, Nat.reduceAdd, Nat.zero_add, List.set_cons_zero, List.set_cons_succ, G1.tFor_eq, G1.tLc_eq, G1.rIxM, G1.rLenM, G1.rSlM, G1.atI_0, G1.atI_1, G1.atI_2, G1.ixN_0, G1.ixN_2, L2.upd_same, L2.upd_upd, and_assoc, L2.iRng1, L2.iList, L2.tUn, L2.rU, G1.rRepS, L2.wipe, List.foldl, L2.rEq, L2.rNe, List.map, List.replicate, List.length, List.append, List.set, List.getElem?_cons_zero, List.getElem?_cons_succ, List.cons_append, List.nil_append, Option.some.injEq, V.int.injEq, V.bl.injEq, V.ref.injEq, V.str.injEq, List.cons.injEq, reduceCtorEq, false_and, and_false, exists_false, or_false, false_or, exists_and_left, exists_and_right, exists_eq_left', exists_eq_left, true_and, and_true, Nat.sub_self, decide_eq_true_eq])
section
variable {P : Program} {w : World} {K : PySem.W.Frag} {mg : Str → Option Value} {base : Heap} {c : Nat → Addr} {cF : Addr}
mutual
theorem De.same {H H' : Hp} (s : Same H H') : ∀ (d : PyData) (v : V), De K H v d → De K H' v d
  | _, _, .non => .non
  | _, _, .bl b => .bl b
  | _, _, .int i => .int i
  | _, _, .str x => .str x
  | _, _, .dic h => .dic (s _ _ h)
  | .list ds, _, .lst h q => .lst (s _ _ h) (DeAll.same s ds _ q)
  | .tuple ds, _, .tup h q => .tup (s _ _ h) (DeAll.same s ds _ q)
theorem DeAll.same {H H' : Hp} (s : Same H H') : ∀ (ds : List PyData) (vs : List V), DeAll K H vs ds → DeAll K H' vs ds
  | [], _, .nil => .nil
  | d :: ds, _, .cons a b => .cons (De.same s d _ a) (DeAll.same s ds _ b)
end
mutual
def sb : PyData → Bool
  | .str x => decide (x.length ≤ 100000)
  | .list ds => sbAll ds
  | .tuple ds => sbAll ds
  | _ => true
def sbAll : List PyData → Bool
  | [] => true
  | d :: ds => sb d && sbAll ds
end
def itemB (k : Int) : PyData → Bool
  | .tuple [.int n, .int s] => decide (0 ≤ n) && decide (n < k) && (decide (s = 1) || decide (s = -1))
  | _ => false
def tn : PyData → String
  | .none => "NoneType"
  | .bool _ => "bool"
  | .int _ => "int"
  | .str _ => "str"
  | .list _ => "list"
  | .tuple _ => "tuple"
  | .dict _ => "dict"
theorem de_any {H : Hp} {v : V} {d : PyData} (h : De K H v d) : Any H v (tn d) := by
  cases h with
  | non => exact .non
  | bl b => exact .bl b
  | int i => exact .int i
  | str x => exact .str x
  | lst h _ => exact .lst h
  | tup h _ => exact .tup h
  | dic h => exact .dic h
theorem de_okv {H : Hp} {v : V} {d : PyData} (h : De K H v d) (hb : sb d = true) : Okv H v := by
  refine ⟨_, de_any h, fun x e => ?_⟩
  subst e
  cases h
  rw [sb, decide_eq_true_eq] at hb
  exact hb
theorem sbAll_mem : ∀ {ds : List PyData}, sbAll ds = true → ∀ d ∈ ds, sb d = true
  | [], _, d, h => nomatch h
  | e :: ds, h, d, hd => by
    rw [sbAll, Bool.and_eq_true] at h
    rcases List.mem_cons.mp hd with rfl | hd
    · exact h.1
    · exact sbAll_mem h.2 d hd
def spItem (K : PySem.W.Frag) : Sp := fun vs H Q _ => ∃ v d k, vs = [v, .int k] ∧ De K H v d ∧ sb d = true ∧ ∀ H', Same H H' → Q (.bl (itemB k d)) H'
theorem ok_is_item (S : Src K mg "is_item" s_is_item) (T : Txt P w K mg base c cF) (C_is_whole : OkD P w K mg base 1 "is_whole" ["value"] spWhole) (C_is_count : OkD P w K mg base 2 "is_count" ["value"] spCount) : OkD P w K mg base 3 "is_item" ["value", "known"] (spItem K) := by
  refine okd S (fun f fd F => F.ok sc_is_item (fun vs H Q E h => ?_) (fun cdv A outer s H vs Q E hr h => ?_)) (fun _ _ _ _ _ _ us hl => match us, hl with | [_, _], _ => rfl)
  · obtain ⟨_, _, _, rfl, _⟩ := h
    rfl
  · obtain ⟨v, d, k, rfl, hd, hb, q⟩ := h
    refine ⟨_, ((pss_cons (ps_if (PW.pt (pw_or (pt_not (pt_val (pe_callB call_isTu (by rfl) T.n_isinstance (by decide +kernel) (pa_cons (pv 0) (pa_cons (pe_gty (n := "tuple") (by rfl) T.n_tuple (by decide +kernel)) pa_nil))))) (pw_or1 (pt_cmpR op_ne (pe_callB call_len_seq (by rfl) T.n_len (by decide +kernel) (pa_cons (pv 0) pa_nil)) pe_int (nomark _))))) (pss_one (ps_ret pe_bl)) pss_nil)
      (pss_cons (ps_asg (pv 0) (pg_tup (by rfl) (pgs_cons (pg_name (i := 2) sc_is_item.nd rfl (.inl rfl)) (pgs_cons (pg_name (i := 3) sc_is_item.nd rfl (.inl rfl)) pgs_nil))))
      (pss_one (ps_ret (pe_and (pe_callO C_is_count (hr.mono (by decide)) (by rfl) (pa_cons (pv 2) pa_nil)) (pe_and (pe_cmpR op_lt (pv 2) (pv 1) (nomark _)) (pe_and (pe_callO C_is_whole (hr.mono (by decide)) (by rfl) (pa_cons (pv 3) pa_nil)) (pe_one (pe_cmpR op_in_seq (pv 3) (pe_tup (pa_cons pe_int (pa_cons (pe_un un_neg pe_int) pa_nil))) rfl)))))))))), ?_⟩
    walk_at "rd"
    cases hd with
    | @tup a xs ds ht hall =>
      refine ⟨_, .tup ht, ?_⟩
      rw [if_neg (by decide)]
      refine ⟨a, rfl, xs, .inr (SqT.of ht), rfl, ?_⟩
      cases hall with
      | nil =>
        rw [if_pos (by decide)]
        exact q _ (.refl H)
      | @cons v1 vs1 d1 ds1 e1 hall =>
        cases hall with
        | nil =>
          rw [if_pos (by rfl)]
          have : itemB k (.tuple [d1]) = false := by cases d1 <;> rfl
          rw [this] at q
          exact q _ (.refl H)
        | @cons v2 vs2 d2 ds2 e2 hall =>
          cases hall with
          | nil =>
            rw [sb] at hb
            have b1 := sbAll_mem hb d1 List.mem_cons_self
            have b2 := sbAll_mem hb d2 (List.mem_cons_of_mem _ List.mem_cons_self)
            rw [if_neg (by simp)]
            refine ⟨a, rfl, _, SqT.of ht, rfl, _, _, rfl, _, _, rfl, rfl, ?_⟩
            refine ⟨v1, rfl, de_okv e1 b1, _, rfl, ?_⟩
            cases e1 with
            | int n =>
              by_cases h0 : 0 ≤ n
              · rw [if_pos (show intB (V.int n) = true from decide_eq_true h0)]
                refine ⟨n, rfl, ?_⟩
                by_cases hk : n < k
                · rw [if_pos hk]
                  refine ⟨v2, rfl, de_okv e2 b2, _, rfl, ?_⟩
                  cases e2 with
                  | int s =>
                    rw [if_pos (by rfl)]
                    refine ⟨by decide, fun p np => ⟨_, .inr (SqT.of upd_same), rfl, rfl, ?_⟩⟩
                    have e : inV (.int s) [.int 1, .int (-1)] = itemB k (.tuple [.int n, .int s]) := by
                      simp only [inV, itemB, eqV, List.any_cons, List.any_nil, h0, hk, decide_true, Bool.true_and, Bool.or_false]
                      rw [show ((1 : Int) == s) = decide (s = 1) from (decide_eq_decide.mpr eq_comm : decide ((1 : Int) = s) = decide (s = 1)), show ((-1 : Int) == s) = decide (s = -1) from (decide_eq_decide.mpr eq_comm : decide ((-1 : Int) = s) = decide (s = -1))]
                    rw [e]
                    exact q _ (same_upd np)
                  | _ =>
                    rw [if_neg (by simp [whB])]
                    exact q _ (.refl H)
                · rw [if_neg hk]
                  have e : itemB k (.tuple [.int n, d2]) = false := by
                    cases d2 <;> first | rfl | simp [itemB, hk]
                  rw [e] at q
                  exact q _ (.refl H)
              · rw [if_neg (show ¬ intB (V.int n) = true from fun z => h0 (of_decide_eq_true z))]
                have e : itemB k (.tuple [.int n, d2]) = false := by
                  cases d2 <;> first | rfl | simp [itemB, h0]
                rw [e] at q
                exact q _ (.refl H)
            | _ =>
              rw [if_neg (by simp [intB])]
              exact q _ (.refl H)
          | @cons v3 vs3 d3 ds3 e3 hall =>
            rw [if_pos (by simp; omega)]
            have : itemB k (.tuple (d1 :: d2 :: d3 :: ds3)) = false := by cases d1 <;> first | rfl | (cases d2 <;> rfl)
            rw [this] at q
            exact q _ (.refl H)
    | non => exact ⟨_, .non, by rw [if_pos (by decide)]; exact q _ (.refl H)⟩
    | bl b => exact ⟨_, .bl b, by rw [if_pos (by decide)]; exact q _ (.refl H)⟩
    | int b => exact ⟨_, .int b, by rw [if_pos (by decide)]; exact q _ (.refl H)⟩
    | str b => exact ⟨_, .str b, by rw [if_pos (by decide)]; exact q _ (.refl H)⟩
    | lst h _ => exact ⟨_, .lst h, by rw [if_pos (by decide)]; exact q _ (.refl H)⟩
    | dic h => exact ⟨_, .dic h, by rw [if_pos (by decide)]; exact q _ (.refl H)⟩
def stepB (k : Int) : PyData → Bool
  | .list ds => decide (ds.length ≤ 12) && ds.all (itemB k)
  | _ => false
theorem DeAll.length {H : Hp} : ∀ {xs : List V} {ds : List PyData}, DeAll K H xs ds → xs.length = ds.length
  | _, _, .nil => rfl
  | _, _, .cons _ t => by rw [List.length_cons, List.length_cons, DeAll.length t]
theorem DeAll.get {H : Hp} : ∀ {xs : List V} {ds : List PyData}, DeAll K H xs ds → ∀ {i : Nat} {x : V}, xs[i]? = some x → ∃ d, ds[i]? = some d ∧ De K H x d
  | _, _, .nil, _, _, h => by cases h
  | _, _, .cons a t, 0, _, h => by
    cases h
    exact ⟨_, rfl, a⟩
  | _, _, .cons a t, i + 1, _, h => DeAll.get t (i := i) h
def spStep (K : PySem.W.Frag) : Sp := fun vs H Q _ => ∃ v d k, vs = [v, .int k] ∧ De K H v d ∧ sb d = true ∧ ∀ H', Same H H' → Q (.bl (stepB k d)) H'
theorem ok_is_step (S : Src K mg "is_step" s_is_step) (T : Txt P w K mg base c cF) (C_is_item : OkD P w K mg base 3 "is_item" ["value", "known"] (spItem K)) : OkD P w K mg base 4 "is_step" ["value", "known"] (spStep K) := by
  refine okd S (fun f fd F => F.ok sc_is_step (fun vs H Q E h => ?_) (fun cdv A outer s H vs Q E hr h => ?_)) (fun _ _ _ _ _ _ us hl => match us, hl with | [_, _], _ => rfl)
  · obtain ⟨_, _, _, rfl, _⟩ := h
    rfl
  · obtain ⟨v, d, k, rfl, hd, hb, q⟩ := h
    refine ⟨_, ((pss_cons (ps_if (PW.pt (pw_or (pt_not (pt_val (pe_callB call_isV (by rfl) T.n_isinstance (by decide +kernel) (pa_cons (pv 0) (pa_cons (pe_gty (n := "list") (by rfl) T.n_list (by decide +kernel)) pa_nil))))) (pw_or1 (pt_cmpR op_gt (pe_callB call_lenM (by rfl) T.n_len PySem.boot_len (pa_cons (pv 0) pa_nil)) (pe_gc (by rfl) T.c_MOST_ITEMS) (nomark _))))) (pss_one (ps_ret pe_bl)) pss_nil)
      (pss_one (ps_ret (pe_callB (cr_all rfl) (by rfl) T.n_all (by decide +kernel) (pa_cons (pe_lc (own := [("item", 2)]) (g := gName 2) (tt := tYes) (by rfl) sc_is_step.nd (pi_list (pv 0)) (blkOk_by (own := [("item", 2)]) (N := ["value", "known", "item"]) (sc := defScope s_is_step) (by decide +kernel)) (fun _ _ _ _ _ => pg_name (i := 2) sc_is_step.nd rfl (Or.inl rfl)) (fun _ _ _ _ _ => pts_nil) (fun _ _ _ _ _ => (pe_callO C_is_item (hr.mono (by decide)) (by rfl) (pa_cons (pv 2) (pa_cons (pv 1) pa_nil))))) pa_nil)))))), ?_⟩
    walk_at "rd"
    cases hd with
    | @lst a xs ds ht hall =>
      refine ⟨_, .lst ht, ?_⟩
      rw [if_neg (by decide)]
      refine ⟨a, rfl, xs, ht, ?_⟩
      have hl := DeAll.length hall
      rw [sb] at hb
      have e : stepB k (.list ds) = (decide (ds.length ≤ 12) && ds.all (itemB k)) := rfl
      rw [e] at q
      by_cases hc : ds.length ≤ 12
      · rw [if_neg (by omega)]
        rw [decide_eq_true hc, Bool.true_and] at q
        refine ⟨a, rfl, ⟨xs, SqL.of ht⟩, ?_⟩
        refine comp_list (xs := xs) (fun D i H' => Same H H' ∧ H' D = some (.lst ((ds.take i).map fun d => V.bl (itemB k d)))) (fun D nD => ⟨same_upd nD, upd_same⟩) (fun D i H' nD hi ⟨s', _⟩ => SqL.of (s' _ _ ht)) ?_ ?_
        · rintro D i x H' nD hi ⟨s', hD⟩
          obtain ⟨dx, hdx, ex⟩ := DeAll.get hall hi
          walk_at "rd"
          refine ⟨x, dx, k, rfl, De.same s' _ _ ex, sbAll_mem hb dx (List.mem_of_getElem? hdx), fun H2 s2 => ⟨_, s2 _ _ hD, by rw [List.length_map, List.length_take, sizeLine_eq]; omega, same_over (s'.trans s2) nD, ?_⟩⟩
          rw [take_step hdx, List.map_append]
          rfl
        · rintro D H' nD ⟨s', hD⟩
          rw [hl, List.take_length] at hD
          refine ⟨D, rfl, ds.map (itemB k), SqL.of ?_, ?_⟩
          · rw [hD, List.map_map]
            rfl
          · rw [List.all_map]
            exact q _ s'
      · rw [if_pos (by omega)]
        rw [decide_eq_false hc, Bool.false_and] at q
        exact q _ (.refl H)
    | non => exact ⟨_, .non, by rw [if_pos (by decide)]; exact q _ (.refl H)⟩
    | bl b => exact ⟨_, .bl b, by rw [if_pos (by decide)]; exact q _ (.refl H)⟩
    | int b => exact ⟨_, .int b, by rw [if_pos (by decide)]; exact q _ (.refl H)⟩
    | str b => exact ⟨_, .str b, by rw [if_pos (by decide)]; exact q _ (.refl H)⟩
    | tup h _ => exact ⟨_, .tup h, by rw [if_pos (by decide)]; exact q _ (.refl H)⟩
    | dic h => exact ⟨_, .dic h, by rw [if_pos (by decide)]; exact q _ (.refl H)⟩
/-- the words that stand at an address -/
def WsAt (H : Hp) (a : Addr) (ls : List (List Nat)) : Prop := H a = some (.lst (ls.map fun l => V.str (W l)))
def itemW (ks : List (List Nat)) : PyData → List Nat
  | .tuple [.int n, .int s] => if s = 1 then ks.getD n.toNat [] else opp (ks.getD n.toNat [])
  | _ => []
def stepW (ks : List (List Nat)) : PyData → List Nat
  | .list ds => red (ds.flatMap (itemW ks))
  | _ => []
theorem item_of {k : Int} {d : PyData} (h : itemB k d = true) : ∃ n s, d = .tuple [.int n, .int s] ∧ 0 ≤ n ∧ n < k ∧ (s = 1 ∨ s = -1) := by
  unfold itemB at h
  split at h
  · simp only [Bool.and_eq_true, Bool.or_eq_true, decide_eq_true_eq] at h
    exact ⟨_, _, rfl, h.1.1, h.1.2, h.2⟩
  · cases h
theorem lens_flat : ∀ ls : List (List Nat), (List.map (fun x : Str => x.length) (ls.map W)).sum = ls.flatten.length
  | [] => rfl
  | l :: ls => by
    rw [List.map_cons, List.map_cons, List.sum_cons, lens_flat ls, List.flatten_cons, List.length_append, W_len]
theorem flat_len {n : Nat} : ∀ {ls : List (List Nat)}, (∀ l ∈ ls, Sg l ∧ l.length ≤ n) → ls.flatten.length ≤ n * ls.length
  | [], _ => Nat.zero_le _
  | l :: ls, h => by
    have h1 := (h l List.mem_cons_self).2
    have h2 := flat_len (ls := ls) fun x hx => h x (List.mem_cons_of_mem _ hx)
    rw [List.flatten_cons, List.length_append, List.length_cons, Nat.mul_succ]
    omega
def spStepW (K : PySem.W.Frag) : Sp := fun vs H Q _ => ∃ (a : Addr) (v : V) (d : PyData) (ks : List (List Nat)), vs = [.ref a, v] ∧ WsAt H a ks ∧ (∀ l ∈ ks, Sg l ∧ l.length ≤ 10000) ∧ De K H v d ∧ stepB ks.length d = true ∧ ∀ H', Same H H' → Q (.str (W (stepW ks d))) H'
theorem ok_step_word (S : Src K mg "step_word" s_step_word) (T : Txt P w K mg base c cF) (C_reduced : OkD P w K mg base 1 "reduced" ["word"] spRed) (C_undone : OkD P w K mg base 1 "undone" ["word"] spUnd) : OkD P w K mg base 2 "step_word" ["known", "step"] (spStepW K) := by
  refine okd S (fun f fd F => F.ok sc_step_word (fun vs H Q E h => ?_) (fun cdv A outer s H vs Q E hr h => ?_)) (fun _ _ _ _ _ _ us hl => match us, hl with | [_, _], _ => rfl)
  · obtain ⟨_, _, _, _, rfl, _⟩ := h
    rfl
  · obtain ⟨a, v, d, ks, rfl, ha, hks, hd, hb, q⟩ := h
    refine ⟨_, ((pss_one (ps_ret (pe_callO C_reduced (hr.mono (by decide)) (by rfl) (pa_cons (pe_join pe_str (pe_lc (own := [("number", 2), ("side", 3)]) (g := gTup K 2 (gCons (gName 2) (gCons (gName 3) gNil))) (tt := tYes) (by rfl) sc_step_word.nd (pi_list (pv 1)) (blkOk_by (own := [("number", 2), ("side", 3)]) (N := ["known", "step", "number", "side"]) (sc := defScope s_step_word) (by decide +kernel)) (fun _ _ _ _ _ => pg_tup (by rfl) (pgs_cons (pg_name (i := 2) sc_step_word.nd rfl (Or.inl rfl)) (pgs_cons (pg_name (i := 3) sc_step_word.nd rfl (Or.inl rfl)) pgs_nil))) (fun _ _ _ _ _ => pts_nil) (fun _ _ _ _ _ => (pe_ifExp (pt_cmpR op_eq (pv 3) pe_int (nomark _)) (pe_ix ix_lM (pv 0) (pv 2) (fun _ _ => rfl)) (pe_callO C_undone (hr.mono (by decide)) (by rfl) (pa_cons (pe_ix ix_lM (pv 0) (pv 2) (fun _ _ => rfl)) pa_nil)))))) pa_nil))))), ?_⟩
    walk_at "rd"
    cases hd with
    | @lst a1 xs ds ht hall =>
      have hb' : (decide (ds.length ≤ 12) && ds.all (itemB (ks.length : Nat))) = true := hb
      rw [Bool.and_eq_true, decide_eq_true_eq, List.all_eq_true] at hb'
      obtain ⟨hl12, hit⟩ := hb'
      have hl := DeAll.length hall
      refine ⟨⟨_, rfl⟩, a1, rfl, ⟨xs, SqL.of ht⟩, ?_⟩
      refine comp_list (xs := xs) (fun D i H' => Same H H' ∧ H' D = some (.lst ((ds.take i).map fun d => V.str (W (itemW ks d))))) (fun D nD => ⟨same_upd nD, upd_same⟩) (fun D i H' nD hi ⟨s', _⟩ => SqL.of (s' _ _ ht)) ?_ ?_
      · rintro D i x H' nD hi ⟨s', hD⟩
        obtain ⟨dx, hdx, ex⟩ := DeAll.get hall hi
        obtain ⟨n, sd, rfl, n0, n1, hs⟩ : ∃ n sd, dx = .tuple [.int n, .int sd] ∧ 0 ≤ n ∧ n < (ks.length : Nat) ∧ (sd = 1 ∨ sd = -1) := item_of (hit dx (List.mem_of_getElem? hdx))
        obtain ⟨p, rfl, hp⟩ : ∃ p, x = .ref p ∧ H p = some (.tup [.int n, .int sd]) := by
          cases ex with
          | tup h t =>
            cases t with
            | cons a t =>
              cases a
              cases t with
              | cons a t =>
                cases a
                cases t
                exact ⟨_, rfl, h⟩
        walk_at "rd"
        refine ⟨_, SqT.of (s' _ _ hp), rfl, _, _, rfl, _, _, rfl, rfl, ?_⟩
        obtain ⟨l, hkl⟩ : ∃ l, ks[n.toNat]? = some l := ⟨_, List.getElem?_eq_getElem (h := by omega)⟩
        have hgl : ks.getD n.toNat [] = l := by rw [List.getD_eq_getElem?_getD, hkl]; rfl
        have hat : atI (ks.map fun l => V.str (W l)) n = some (V.str (W l)) := by
          rw [show n = ((n.toNat : Nat) : Int) by omega]
          exact atI_nat (by rw [List.getElem?_map, hkl]; rfl)
        have hll := hks l (List.mem_of_getElem? hkl)
        refine ⟨rfl, ?_⟩
        have hle : ((ds.take i).map fun d => V.str (W (itemW ks d))).length < sizeLine := by rw [List.length_map, List.length_take, sizeLine_eq]; omega
        rcases hs with rfl | rfl
        · rw [if_pos rfl]
          refine ⟨_, _, rfl, s' _ _ ha, _, hat, _, hD, hle, same_over s' nD, ?_⟩
          rw [take_step hdx, List.map_append, List.map_singleton]
          simp [itemW, hkl]
        · rw [if_neg (by decide)]
          refine ⟨_, _, rfl, s' _ _ ha, _, hat, l, rfl, hll.1, by omega, _, hD, hle, same_over s' nD, ?_⟩
          rw [take_step hdx, List.map_append, List.map_singleton]
          simp [itemW, hkl]
      · rintro D H' nD ⟨s', hD⟩
        rw [hl, List.take_length] at hD
        have hw : ∀ l ∈ ds.map (itemW ks), Sg l ∧ l.length ≤ 10000 := by
          intro l hlm
          obtain ⟨dx, hdx, rfl⟩ := List.mem_map.mp hlm
          obtain ⟨n, sd, rfl, n0, n1, hs⟩ := item_of (hit dx hdx)
          obtain ⟨l, hkl⟩ : ∃ l, ks[n.toNat]? = some l := ⟨_, List.getElem?_eq_getElem (h := by omega)⟩
          have hll := hks l (List.mem_of_getElem? hkl)
          have hgl : ks.getD n.toNat [] = l := by rw [List.getD_eq_getElem?_getD, hkl]; rfl
          show Sg (if sd = 1 then ks.getD n.toNat [] else opp (ks.getD n.toNat [])) ∧ (if sd = 1 then ks.getD n.toNat [] else opp (ks.getD n.toNat [])).length ≤ 10000
          rw [hgl]
          split
          · exact hll
          · exact ⟨hll.1.opp, by unfold opp; rw [List.length_reverse, List.length_map]; exact hll.2⟩
        have hflat := flat_len hw
        rw [List.length_map] at hflat
        have e0 : PySem.Str.ofString "" = (⟨#[]⟩ : Str) := rfl
        refine ⟨D, rfl, (ds.map (itemW ks)).map W, .inl (SqL.of ?_), ?_, ?_⟩
        · rw [hD, List.map_map, List.map_map]
          rfl
        · rw [lens_flat]
          have e1 : (PySem.Str.ofString "").length = 0 := rfl
          rw [e1]
          omega
        · rw [e0, join_W]
          refine ⟨_, rfl, fun ch hc => ?_, by omega, fun H2 s2 => ?_⟩
          · obtain ⟨l, hlm, hc⟩ := List.mem_flatten.mp hc
            exact (hw l hlm).1 ch hc
          · have := q H2 (s'.trans s2)
            rw [show stepW ks (.list ds) = red (ds.flatMap (itemW ks)) from rfl, List.flatMap_def] at this
            exact this
    | _ => cases hb
/-- what the steps say, one behind the other: each a step, none too long -/
def saidW : List (List Nat) → List PyData → Option (List (List Nat))
  | ks, [] => some ks
  | ks, d :: ds => if stepB ks.length d = true ∧ (stepW ks d).length ≤ 10000 then saidW (ks ++ [stepW ks d]) ds else none
def saidD (ws : List (List Nat)) : PyData → Option (List (List Nat))
  | .list ds => (saidW (ws.map red) ds).map fun r => r.drop ws.length
  | _ => none
theorem stepW_sg {ks : List (List Nat)} {d : PyData} (hk : ∀ l ∈ ks, Sg l ∧ l.length ≤ 10000) (h : stepB (ks.length : Nat) d = true) : Sg (stepW ks d) := by
  unfold stepB at h
  split at h
  · rename_i ds
    rw [Bool.and_eq_true, List.all_eq_true] at h
    intro ch hc
    have hc := mem_red (show ch ∈ red (ds.flatMap (itemW ks)) from hc)
    obtain ⟨dx, hdx, hc⟩ := List.mem_flatMap.mp hc
    obtain ⟨n, sd, rfl, n0, n1, hs⟩ := item_of (h.2 dx hdx)
    obtain ⟨l, hkl⟩ : ∃ l, ks[n.toNat]? = some l := ⟨_, List.getElem?_eq_getElem (h := by omega)⟩
    have hll := hk l (List.mem_of_getElem? hkl)
    have hgl : ks.getD n.toNat [] = l := by rw [List.getD_eq_getElem?_getD, hkl]; rfl
    have hc : ch ∈ (if sd = 1 then ks.getD n.toNat [] else opp (ks.getD n.toNat [])) := hc
    rw [hgl] at hc
    split at hc
    · exact hll.1 ch hc
    · exact hll.1.opp ch hc
  · cases h
theorem stepW_len {ks : List (List Nat)} {d : PyData} (hk : ∀ l ∈ ks, Sg l ∧ l.length ≤ 10000) (h : stepB (ks.length : Nat) d = true) : (stepW ks d).length ≤ 120000 := by
  unfold stepB at h
  split at h
  · rename_i ds
    rw [Bool.and_eq_true, List.all_eq_true, decide_eq_true_eq] at h
    have e : (stepW ks (.list ds)).length ≤ (ds.map (itemW ks)).flatten.length := by
      rw [← List.flatMap_def]
      exact len_red _
    have e2 : (ds.map (itemW ks)).flatten.length ≤ 10000 * (ds.map (itemW ks)).length := by
      refine flat_len fun l hlm => ?_
      obtain ⟨dx, hdx, rfl⟩ := List.mem_map.mp hlm
      obtain ⟨n, sd, rfl, n0, n1, hs⟩ := item_of (h.2 dx hdx)
      obtain ⟨l, hkl⟩ : ∃ l, ks[n.toNat]? = some l := ⟨_, List.getElem?_eq_getElem (h := by omega)⟩
      have hll := hk l (List.mem_of_getElem? hkl)
      have hgl : ks.getD n.toNat [] = l := by rw [List.getD_eq_getElem?_getD, hkl]; rfl
      show Sg (if sd = 1 then ks.getD n.toNat [] else opp (ks.getD n.toNat [])) ∧ (if sd = 1 then ks.getD n.toNat [] else opp (ks.getD n.toNat [])).length ≤ 10000
      rw [hgl]
      split
      · exact hll
      · exact ⟨hll.1.opp, by unfold opp; rw [List.length_reverse, List.length_map]; exact hll.2⟩
    rw [List.length_map] at e2
    omega
  · cases h
theorem cutV_from (xs : List V) {n : Nat} (h : n ≤ xs.length) : cutV xs (some ((n : Nat) : Int)) none = xs.drop n := by
  have e1 : HT.sIx xs.length 0 (some ((n : Nat) : Int)) = n := by
    unfold HT.sIx
    simp
    rw [if_neg (by omega)]
    omega
  have e2 : HT.sIx xs.length xs.length none = xs.length := rfl
  unfold cutV
  rw [e1, e2, List.take_of_length_le (by rw [List.length_drop]; exact Nat.le_refl _)]
def spSaid (K : PySem.W.Frag) : Sp := fun vs H Q _ => ∃ (a : Addr) (v : V) (d : PyData) (ws : List (List Nat)), vs = [.ref a, v] ∧ WsAt H a ws ∧ (∀ l ∈ ws, Sg l ∧ l.length ≤ 1000) ∧ ws.length ≤ 1000 ∧ De K H v d ∧ sb d = true ∧ (∀ ds, d = .list ds → ds.length ≤ 100000) ∧ ∀ x H', Same H H' → (saidD ws d = none → x = .non) → (∀ rs, saidD ws d = some rs → ∃ p, x = .ref p ∧ H p = none ∧ WsAt H' p rs) → Q x H'
theorem ok_said_words (S : Src K mg "said_words" s_said_words) (T : Txt P w K mg base c cF) (C_reduced : OkD P w K mg base 1 "reduced" ["word"] spRed) (C_is_step : OkD P w K mg base 4 "is_step" ["value", "known"] (spStep K)) (C_step_word : OkD P w K mg base 2 "step_word" ["known", "step"] (spStepW K)) : OkD P w K mg base 5 "said_words" ["words", "paper"] (spSaid K) := by
  refine okd S (fun f fd F => F.ok sc_said_words (fun vs H Q E h => ?_) (fun cdv A outer s H vs Q E hr h => ?_)) (fun _ _ _ _ _ _ us hl => match us, hl with | [_, _], _ => rfl)
  · obtain ⟨_, _, _, _, rfl, _⟩ := h
    rfl
  · obtain ⟨a, v, d, ws, rfl, ha, hws, hwl, hd, hb, hdl, q⟩ := h
    refine ⟨_, ((pss_cons (ps_if (pt_not (pt_val (pe_callB call_isV (by rfl) T.n_isinstance (by decide +kernel) (pa_cons (pv 1) (pa_cons (pe_gty (n := "list") (by rfl) T.n_list (by decide +kernel)) pa_nil))))) (pss_one (ps_ret pe_non)) pss_nil)
      (pss_cons (ps_setLc (i := 2) (own := [("given", 3)]) (g := gName 3) (tt := tYes) (by rfl) sc_said_words.nd rfl rfl (sw_true rfl rfl rfl (by decide +kernel)) (pi_list (pv 0)) (blkOk_by (own := [("given", 3)]) (N := ["words", "paper", "known", "given", "step", "word"]) (sc := defScope s_said_words) (by decide +kernel)) (fun _ _ _ _ _ => pg_name (i := 3) sc_said_words.nd rfl (Or.inl rfl)) (fun _ _ _ _ _ => pts_nil) (fun _ _ _ _ _ => (pe_callO C_reduced (hr.mono (by decide)) (by rfl) (pa_cons (pv 3) pa_nil))))
      (pss_cons (ps_for PassesOwn.never rfl (pi_list (pv 1)) (pg_name (i := 4) sc_said_words.nd rfl (.inl rfl)) (pss_cons (ps_if (pt_not (pt_val (pe_callO C_is_step (hr.mono (by decide)) (by rfl) (pa_cons (pv 4) (pa_cons (pe_callB call_lenM (by rfl) T.n_len PySem.boot_len (pa_cons (pv 2) pa_nil)) pa_nil))))) (pss_one (ps_ret pe_non)) pss_nil)
      (pss_cons (ps_set (i := 5) sc_said_words.nd rfl (.inl rfl) (pe_callO C_step_word (hr.mono (by decide)) (by rfl) (pa_cons (pv 2) (pa_cons (pv 4) pa_nil))))
      (pss_cons (ps_if (pt_cmpR op_gt (pe_callB call_len_str (by rfl) T.n_len PySem.boot_len (pa_cons (pv 5) pa_nil)) (pe_gc (by rfl) T.c_MOST_SAID) (nomark _)) (pss_one (ps_ret pe_non)) pss_nil)
      (pss_one (ps_expr (pe_bm PySem.F.plainAttrs_list PySem.F.slot_list_append PySem.F.type_list_append mt_append (pv 2) (pa_cons (pv 5) pa_nil))))))))
      (pss_one (ps_ret (pe_slice (sl_listK K rfl) (pv 2) (po_some (pe_callB call_lenM (by rfl) T.n_len PySem.boot_len (pa_cons (pv 0) pa_nil))) po_none))))))), ?_⟩
    walk_at "rd"
    cases hd with
    | @lst a1 xs ds ht hall =>
      refine ⟨_, .lst ht, ?_⟩
      rw [if_neg (by decide)]
      refine ⟨⟨_, SqL.of ha⟩, ?_⟩
      have hl := DeAll.length hall
      rw [sb] at hb
      have hdl := hdl ds rfl
      have hz := sizeLine_eq
      have hwl' : (ws.map fun l => V.str (W l)).length = ws.length := List.length_map ..
      refine comp_list (xs := ws.map fun l => V.str (W l)) (fun D i H' => Same H H' ∧ H' D = some (.lst ((ws.take i).map fun l => V.str (W (red l))))) (fun D nD => ⟨same_upd nD, upd_same⟩) (fun D i H' nD hi ⟨s', _⟩ => SqL.of (s' _ _ ha)) ?_ ?_
      · rintro D i x H' nD hi ⟨s', hD⟩
        rw [List.getElem?_map] at hi
        obtain ⟨l, hl', rfl⟩ := Option.map_eq_some_iff.mp hi
        obtain ⟨g1, g2⟩ := hws l (List.mem_of_getElem? hl')
        walk_at "rd"
        refine ⟨l, rfl, g1, by omega, fun H2 s2 => ⟨_, s2 _ _ hD, by rw [List.length_map, List.length_take]; omega, same_over (s'.trans s2) nD, ?_⟩⟩
        rw [take_step hl', List.map_append]
        rfl
      · rintro D H1 nD ⟨s1, hD⟩
        rw [hwl', List.take_length] at hD
        refine ⟨a1, rfl, ⟨_, SqL.of (s1 _ _ ht)⟩, ?_⟩
        have hD0 : WsAt H1 D (ws.map red) := by unfold WsAt; rw [hD, List.map_map]; rfl
        have hg0 : ∀ l ∈ ws.map red, Sg l ∧ l.length ≤ 10000 := by
          intro l hlm
          obtain ⟨u, hu, rfl⟩ := List.mem_map.mp hlm
          have := hws u hu
          have := len_red u
          exact ⟨(hws u hu).1.red, by omega⟩
        refine loop_list (xs := xs) (fun i σ H' => ∃ v4 v5 ks, σ = [some (.ref a), some (.ref a1), some (.ref D), none, v4, v5] ∧ Same H H' ∧ WsAt H' D ks ∧ (∀ l ∈ ks, Sg l ∧ l.length ≤ 10000) ∧ ks.length = ws.length + i ∧ saidW (ws.map red) ds = saidW ks (ds.drop i)) ⟨none, none, _, rfl, s1, hD0, hg0, by rw [List.length_map]; rfl, by rw [List.drop_zero]⟩ (fun i σ H' hi ⟨_, _, _, _, s', _⟩ => SqL.of (s' _ _ ht)) ?_ ?_
        · rintro i x σ H' hi ⟨v4, v5, ks, rfl, s2, hk, hg, hkl, he⟩
          obtain ⟨dx, hdx, ex⟩ := DeAll.get hall hi
          have hil : i < ds.length := (List.getElem?_eq_some_iff.mp hdx).1
          have hdrop : ds.drop i = dx :: ds.drop (i + 1) := by
            rw [List.drop_eq_getElem_cons hil]
            congr 1
            exact (List.getElem?_eq_some_iff.mp hdx).2
          rw [hdrop, saidW] at he
          walk_at "rd"
          have hxl : (ks.map fun l => V.str (W l)).length = ks.length := List.length_map ..
          refine ⟨_, hk, x, dx, ((ks.length : Nat) : Int), by rw [hxl], De.same s2 _ _ ex, sbAll_mem hb dx (List.mem_of_getElem? hdx), fun H2 s3 => ⟨_, rfl, ?_⟩⟩
          have no : saidW (ws.map red) ds = none → ∀ H', Same H H' → Q .non H' := fun e H' s' => q _ _ s' (fun _ => rfl) (fun rs z => by rw [show saidD ws (.list ds) = (saidW (ws.map red) ds).map fun r => r.drop ws.length from rfl, e] at z; cases z)
          cases hst : stepB (ks.length : Nat) dx with
          | false =>
            rw [if_pos (by rfl)]
            rw [hst, if_neg (fun z => nomatch z.1)] at he
            exact no he _ (s2.trans s3)
          | true =>
            rw [if_neg (by decide)]
            have hlen := stepW_len hg hst
            refine ⟨D, x, dx, ks, rfl, s3 _ _ hk, hg, De.same (s2.trans s3) _ _ ex, hst, fun H3 s4 => ⟨_, rfl, by rw [W_len]; omega, ?_⟩⟩
            by_cases hle : (stepW ks dx).length ≤ 10000
            · rw [if_neg (by rw [W_len]; omega)]
              rw [hst, if_pos ⟨rfl, hle⟩] at he
              have hk3 := s4 _ _ (s3 _ _ hk)
              refine ⟨.inl ⟨rfl, _, .inl (.inl hk3)⟩, _, hk3, by rw [hxl]; omega, ⟨_, rfl⟩, ⟨_, rfl⟩, same_over (s2.trans (s3.trans s4)) nD, ks ++ [stepW ks dx], ?_, ?_, ?_, he⟩
              · unfold WsAt
                rw [upd_same, List.map_append]
                rfl
              · intro l hlm
                rcases List.mem_append.mp hlm with h | h
                · exact hg l h
                · rw [List.mem_singleton.mp h]
                  exact ⟨stepW_sg hg hst, hle⟩
              · rw [List.length_append, hkl]
                show ws.length + i + 1 = _
                omega
            · rw [if_pos (by rw [W_len]; omega)]
              rw [hst, if_neg (fun z => hle z.2)] at he
              exact no he _ (s2.trans (s3.trans s4))
        · rintro σ H' ⟨v4, v5, ks, rfl, s2, hk, hg, hkl, he⟩
          rw [hl, List.drop_length] at he
          walk_at "rd"
          refine ⟨_, s2 _ _ ha, _, SqL.of hk, fun p np => ?_⟩
          rw [hwl', cutV_from _ (by rw [List.length_map]; omega), ← List.map_drop]
          have e : saidD ws (.list ds) = some (ks.drop ws.length) := by
            rw [show saidD ws (.list ds) = (saidW (ws.map red) ds).map fun r => r.drop ws.length from rfl, he]
            rfl
          refine q _ _ (s2.trans (same_upd np)) (fun z => by rw [e] at z; cases z) (fun rs z => ?_)
          rw [e] at z
          cases z
          exact ⟨p, rfl, s2.free np, upd_same⟩
    | non => exact ⟨_, .non, by rw [if_pos (by decide)]; exact q _ _ (.refl H) (fun _ => rfl) (fun rs z => nomatch z)⟩
    | bl b => exact ⟨_, .bl b, by rw [if_pos (by decide)]; exact q _ _ (.refl H) (fun _ => rfl) (fun rs z => nomatch z)⟩
    | int b => exact ⟨_, .int b, by rw [if_pos (by decide)]; exact q _ _ (.refl H) (fun _ => rfl) (fun rs z => nomatch z)⟩
    | str b => exact ⟨_, .str b, by rw [if_pos (by decide)]; exact q _ _ (.refl H) (fun _ => rfl) (fun rs z => nomatch z)⟩
    | tup h _ => exact ⟨_, .tup h, by rw [if_pos (by decide)]; exact q _ _ (.refl H) (fun _ => rfl) (fun rs z => nomatch z)⟩
    | dic h => exact ⟨_, .dic h, by rw [if_pos (by decide)]; exact q _ _ (.refl H) (fun _ => rfl) (fun rs z => nomatch z)⟩
end
end K16

namespace K16
open PySem PySem.Spec PyProof.Rows L2 G1 MW

local macro_rules | `(tactic| walk_at "rd") => `(tactic| simp only [L2.tPar3, L2.tSeq, L2.tAug, L2.tTup, G1.tCallK3b, G1.tMt, G1.tMinK, G1.rIsTu, L2.rIxT, G1.rTr, G1.rLtD, if_true, if_false, L2.rNotB, L2.rMax, L2.iRng2,L2.rIn, L2.tDNewK,  G1.iEnumS, L2.tDGet, L2.gTup, L2.gCons, L2.gNil, L2.tPar, L2.rIxS, G1.tRepU, L2.rSlS, L2.iStr, L2.tNotV, G1.rIsV, G1.mk_int, G1.mk_bool, G1.mk_str, G1.mk_list, G1.tCallX, V.ty.injEq, L2.tChain, L2.rIsB, G1.tRevS, L2.tM0, L2.tM1, L2.tCallS, G1.tCallK2, G1.tMkR, L2.rAll, L2.rPop, L2.tBM0, L2.tRevL, L2.tAsg, L2.tOp, L2.rI, L2.rI0, L2.tVar, L2.tC, L2.tCB, L2.tCons, L2.tNil, L2.tRet, L2.gName, L2.start, L2.tIf, L2.tIfS, L2.tTest, L2.tNext, L2.rIxL, L2.tSl, L2.rSlL, L2.tNoPart, L2.tPart, L2.tLst, L2.tTup, L2.rSum, L2.tBits, L2.gSub, L2.rSetL, L2.rCat, L2.tDrop, L2.tBM, L2.tBM0, L2.rAppend, L2.tYes, L2.tB, L2.tAnd, L2.tOr, L2.tNot, L2.tAndV, L2.tOrV, G1.tCallO, G1.tXm, G1.tXn, G1.tXv, HO.lst.injEq, HO.tup.injEq, Nat.reduceAdd, Nat.zero_add, List.set_cons_zero, List.set_cons_succ, G1.tFor_eq, G1.tLc_eq, G1.rIxM, G1.rLenM, G1.rSlM, G1.atI_0, G1.atI_1, G1.atI_2, G1.ixN_0, G1.ixN_2, L2.upd_same, L2.upd_upd, and_assoc, L2.iRng1, L2.iList, L2.tUn, L2.rU, G1.rRepS, L2.wipe, List.foldl, L2.rEq, L2.rNe, List.map, List.replicate, List.length, List.append, List.set, List.getElem?_cons_zero, List.getElem?_cons_succ, List.cons_append, List.nil_append, Option.some.injEq, V.int.injEq, V.bl.injEq, V.ref.injEq, V.str.injEq, List.cons.injEq, reduceCtorEq, false_and, and_false, exists_false, or_false, false_or, exists_and_left, exists_and_right, exists_eq_left', exists_eq_left, true_and, and_true, Nat.sub_self, decide_eq_true_eq])
section
variable {P : Program} {w : World} {K : PySem.W.Frag} {mg : Str → Option Value} {base : Heap} {c : Nat → Addr} {cF : Addr}
def Sm (m : Int) (l : List Nat) : Prop := ∀ c ∈ l, c ∈ sgs.take (2 * m).toNat
theorem Sm.sg {m : Int} {l : List Nat} (h : Sm m l) : Sg l := fun c hc => List.mem_of_mem_take (h c hc)
theorem spBn_W {n : Nat} {m : Int} {l : List Nat} (h : Sm m l) (hl : l.length ≤ n) : spBn n m (.str (W l)) = true := by
  simp only [spBn, Bool.and_eq_true, decide_eq_true_eq, List.all_eq_true]
  exact ⟨by rw [W_len]; exact hl, fun ch hc => h ch hc⟩
theorem okv_int {H : Hp} (m : Int) : Okv H (.int m) := ⟨_, .int m, fun _ z => nomatch z⟩
theorem okv_W {H : Hp} {l : List Nat} (hl : l.length ≤ 100000) : Okv H (.str (W l)) := ⟨_, .str _, fun x z => by cases z; rw [W_len]; exact hl⟩
theorem many_ok {m : Int} (h1 : 1 ≤ m) (h2 : m ≤ 6) : manyB (.int m) = true := by
  simp only [manyB, Bool.and_eq_true, decide_eq_true_eq]
  exact ⟨h1, h2⟩
/-- a list of words of which a group is made -/
def Short (m : Int) (ws : List (List Nat)) : Prop := ws.length ≤ 12 ∧ ∀ l ∈ ws, Sm m l ∧ l.length ≤ 200
theorem Short.okl {H : Hp} {a : Addr} {m : Int} {ws : List (List Nat)} (h : Short m ws) (ha : WsAt H a ws) : Okl H (.ref a) := by
  refine ⟨⟨_, .lst ha, fun _ z => nomatch z⟩, fun b xs e hb => ?_⟩
  cases e
  rw [ha] at hb
  cases hb
  refine ⟨by rw [List.length_map]; have := h.1; omega, fun x hx => ?_⟩
  obtain ⟨l, hl, rfl⟩ := List.mem_map.mp hx
  have := (h.2 l hl).2
  exact okv_W (by omega)
theorem Short.slB {H : Hp} {a : Addr} {m : Int} {ws : List (List Nat)} (h : Short m ws) (ha : WsAt H a ws) : slB m H (.ref a) = true := by
  have ha' : H a = some (.lst (ws.map fun l => V.str (W l))) := ha
  simp only [K16.slB, ha', Bool.and_eq_true, decide_eq_true_eq, List.all_eq_true]
  refine ⟨by rw [List.length_map]; exact h.1, fun x hx => ?_⟩
  obtain ⟨l, hl, rfl⟩ := List.mem_map.mp hx
  exact spBn_W (h.2 l hl).1 (h.2 l hl).2
def spSaidX (K : PySem.W.Frag) (c : Nat → Addr) : Sp := fun vs H Q E => ∃ (m : Int) (a : Addr) (v : V) (d : PyData) (ws : List (List Nat)), vs = [.int m, .ref a, v] ∧ 1 ≤ m ∧ m ≤ 6 ∧ WsAt H a ws ∧ Short m ws ∧ De K H v d ∧ sb d = true ∧ (∀ ds, d = .list ds → ds.length ≤ 100000) ∧ (saidD ws d = none → ∀ H', Same H H' → Raised (c 3) v H' E) ∧ ∀ rs p H', saidD ws d = some rs → Same H H' → H p = none → WsAt H' p rs → Q (.ref p) H'
theorem ok_said (S : Src K mg "said" s_said) (T : Txt P w K mg base c cF) (C_check_many : OkX P w K mg base 3 "check_many" ["many"] (spCheckMany c)) (C_check_short_list : OkX P w K mg base 4 "check_short_list" ["many", "words"] (spCheckShort c)) (C_said_words : OkD P w K mg base 5 "said_words" ["words", "paper"] (spSaid K)) : OkX3 P w K mg base 6 "said" "many" "words" "paper" (spSaidX K c) := by
  refine okx3 S (fun f fd F => F.okX sc_said (fun vs H Q E h => ?_) (fun cdv A outer s H vs Q E hr h => ?_)) (fun _ _ _ _ _ _ us hl => match us, hl with | [_, _, _], _ => rfl) (fun _ _ _ _ _ _ _ _ _ => rfl)
  · obtain ⟨_, _, _, _, _, rfl, _⟩ := h
    rfl
  · obtain ⟨m, a, v, d, ws, rfl, h1, h2, ha, hsh, hd, hb, hdl, q1, q2⟩ := h
    refine ⟨_, ((pss_cons (ps_expr (pe_callX (takes_of rfl rfl rfl rfl) C_check_many (hr.mono (by decide)) (by rfl) (pa_cons (pv 0) pa_nil)))
      (pss_cons (ps_expr (pe_callX (takes_of rfl rfl rfl rfl) C_check_short_list (hr.mono (by decide)) (by rfl) (pa_cons (pv 0) (pa_cons (pv 1) pa_nil))))
      (pss_cons (ps_set (i := 3) sc_said.nd rfl (.inl rfl) (pe_callO C_said_words (hr.mono (by decide)) (by rfl) (pa_cons (pv 1) (pa_cons (pv 2) pa_nil))))
      (pss_cons (ps_if (pt_cmpR op_isN (pv 3) pe_non (nomark _)) (pss_one (ps_raiseX rfl (takes_of rfl rfl rfl rfl) (T.x 3 (by decide)) (hr.mono (by decide)) (by rfl) (pa_cons (pv 2) pa_nil))) pss_nil)
      (pss_one (ps_ret (pv 3)))))))), ?_⟩
    walk_at "rd"
    refine ⟨_, rfl, okv_int m, fun _ => ?_, fun e => by rw [many_ok h1 h2] at e; cases e⟩
    refine ⟨m, _, rfl, h1, h2, hsh.okl ha, fun _ H1 s1 => ?_, fun e => by rw [hsh.slB ha] at e; cases e⟩
    refine ⟨a, v, d, ws, rfl, s1 _ _ ha, fun l hl => ⟨(hsh.2 l hl).1.sg, by have := (hsh.2 l hl).2; omega⟩, by have := hsh.1; omega, De.same s1 _ _ hd, hb, hdl, fun x H2 s2 x1 x2 => ?_⟩
    cases e : saidD ws d with
    | none =>
      rw [x1 e, if_pos rfl]
      exact q1 e _ (s1.trans s2)
    | some rs =>
      obtain ⟨p, rfl, np, hp⟩ := x2 rs e
      rw [if_neg (by simp)]
      exact q2 rs p H2 e (s1.trans s2) (s1.free np) hp
def paperB (ws : List (List Nat)) (l : List Nat) (d : PyData) : Bool := match saidD ws d with | none => false | some rs => decide (red l = rs.getLastD [])
def spPaper (K : PySem.W.Frag) : Sp := fun vs H Q E => ∃ (m : Int) (a : Addr) (l : List Nat) (v : V) (d : PyData) (ws : List (List Nat)), vs = [.int m, .ref a, .str (W l), v] ∧ 1 ≤ m ∧ m ≤ 6 ∧ WsAt H a ws ∧ Short m ws ∧ Sm m l ∧ l.length ≤ 1000 ∧ De K H v d ∧ sb d = true ∧ (∀ ds, d = .list ds → ds.length ≤ 100000) ∧ ∀ H', Same H H' → Q (.bl (paperB ws l d)) H'
theorem ok_is_paper (S : Src K mg "is_paper" s_is_paper) (T : Txt P w K mg base c cF) (C_check_many : OkX P w K mg base 3 "check_many" ["many"] (spCheckMany c)) (C_check_word : OkX P w K mg base 3 "check_word" ["many", "word"] (spCheckWord c)) (C_check_short_list : OkX P w K mg base 4 "check_short_list" ["many", "words"] (spCheckShort c)) (C_reduced : OkD P w K mg base 1 "reduced" ["word"] spRed) (C_said_words : OkD P w K mg base 5 "said_words" ["words", "paper"] (spSaid K)) : OkX4 P w K mg base 6 "is_paper" "many" "words" "word" "value" (spPaper K) := by
  refine okx4 S (fun f fd F => F.okX sc_is_paper (fun vs H Q E h => ?_) (fun cdv A outer s H vs Q E hr h => ?_)) (fun _ _ _ _ _ _ us hl => match us, hl with | [_, _, _, _], _ => rfl) (fun _ _ _ _ _ _ _ _ _ _ => rfl)
  · obtain ⟨_, _, _, _, _, _, rfl, _⟩ := h
    rfl
  · obtain ⟨m, a, l, v, d, ws, rfl, h1, h2, ha, hsh, hSl, hll, hd, hb, hdl, q⟩ := h
    refine ⟨_, ((pss_cons (ps_expr (pe_callX (takes_of rfl rfl rfl rfl) C_check_many (hr.mono (by decide)) (by rfl) (pa_cons (pv 0) pa_nil)))
      (pss_cons (ps_expr (pe_callX (takes_of rfl rfl rfl rfl) C_check_short_list (hr.mono (by decide)) (by rfl) (pa_cons (pv 0) (pa_cons (pv 1) pa_nil))))
      (pss_cons (ps_expr (pe_callX (takes_of rfl rfl rfl rfl) C_check_word (hr.mono (by decide)) (by rfl) (pa_cons (pv 0) (pa_cons (pv 2) pa_nil))))
      (pss_cons (ps_set (i := 4) sc_is_paper.nd rfl (.inl rfl) (pe_callO C_said_words (hr.mono (by decide)) (by rfl) (pa_cons (pv 1) (pa_cons (pv 3) pa_nil))))
      (pss_cons (ps_if (pt_cmpR op_isN (pv 4) pe_non (nomark _)) (pss_one (ps_ret pe_bl)) pss_nil)
      (pss_one (ps_ret (pe_cmpR op_eq (pe_callO C_reduced (hr.mono (by decide)) (by rfl) (pa_cons (pv 2) pa_nil)) (pe_ifExp (pt_truth (pv 4) (by intro _; rfl)) (pe_ix ix_lM (pv 4) (pe_un un_neg pe_int) (fun _ _ => rfl)) pe_str) (nomark _)))))))))), ?_⟩
    walk_at "rd"
    refine ⟨_, rfl, okv_int m, fun _ => ?_, fun e => by rw [many_ok h1 h2] at e; cases e⟩
    refine ⟨m, _, rfl, h1, h2, hsh.okl ha, fun _ H1 s1 => ?_, fun e => by rw [hsh.slB ha] at e; cases e⟩
    refine ⟨m, _, rfl, h1, h2, okv_W (by omega), fun _ => ?_, fun e => by rw [show spB m (.str (W l)) = true from spBn_W hSl hll] at e; cases e⟩
    refine ⟨a, v, d, ws, rfl, s1 _ _ ha, fun l hl => ⟨(hsh.2 l hl).1.sg, by have := (hsh.2 l hl).2; omega⟩, by have := hsh.1; omega, De.same s1 _ _ hd, hb, hdl, fun x H2 s2 x1 x2 => ?_⟩
    unfold paperB at q
    cases e : saidD ws d with
    | none =>
      rw [e] at q
      rw [x1 e, if_pos rfl]
      exact q _ (s1.trans s2)
    | some rs =>
      rw [e] at q
      obtain ⟨p, rfl, np, hp⟩ := x2 rs e
      rw [if_neg (by simp)]
      refine ⟨l, rfl, hSl.sg, by omega, fun H3 s3 => ?_⟩
      have hp3 := s3 _ _ hp
      have q' : ∀ H', Same H H' → Q (.bl (decide (red l = rs.getLastD []))) H' := q
      have sA := s1.trans (s2.trans s3)
      rcases List.eq_nil_or_concat rs with rfl | ⟨r0, z, hz⟩
      · refine ⟨false, .inl ⟨_, SqL.of hp3, rfl⟩, ?_⟩
        rw [if_neg (by decide)]
        refine ⟨rfl, ?_⟩
        rw [show decide (V.str (W (red l)) = V.str (PySem.Str.ofString "")) = decide (red l = [].getLastD []) from decide_eq_decide.mpr ⟨fun z => W_inj (b := []) (V.str.inj z), fun z => by rw [z]; rfl⟩]
        exact q' _ sA
      · rw [List.concat_eq_append] at hz
        subst hz
        rw [List.map_append, List.map_singleton] at hp3
        refine ⟨true, .inl ⟨_, SqL.of hp3, by simp⟩, ?_⟩
        rw [if_pos rfl]
        refine ⟨p, rfl, _, hp3, _, atI_last _ _, rfl, ?_⟩
        rw [show decide (V.str (W (red l)) = V.str (W z)) = decide (red l = (r0 ++ [z]).getLastD []) from decide_eq_decide.mpr ⟨fun z => by rw [W_inj (V.str.inj z)]; simp, fun z => by rw [z]; simp⟩]
        exact q' _ sA
end
end K16

namespace K16
open PySem PySem.Spec PyProof.Rows L2 G1 MW
abbrev s_law_hash : Stmt := topS 33
theorem sc_law_hash : FnScope ["_law_seed", "_law_index", "_law_mixed"] ["_law_seed", "_law_index"] (defScope s_law_hash) := ⟨rfl, rfl, rfl, by decide +kernel, rfl, by decide +kernel, by decide +kernel⟩
abbrev s_law_cell : Stmt := topS 35
theorem sc_law_cell : FnScope ["_law_script", "_law_index"] ["_law_script", "_law_index"] (defScope s_law_cell) := ⟨rfl, rfl, rfl, by decide +kernel, rfl, by decide +kernel, by decide +kernel⟩
abbrev s_law_generator : Stmt := topS 36
theorem sc_law_generator : FnScope ["_law_script", "_law_index", "_law_seed"] ["_law_script", "_law_index"] (defScope s_law_generator) := ⟨rfl, rfl, rfl, by decide +kernel, rfl, by decide +kernel, by decide +kernel⟩
abbrev s_law_random : Stmt := topS 34
theorem sc_law_random : FnScope ["_law_generator_here", "_law_bound", "_law_drawn", "_law_turn"] ["_law_generator_here", "_law_bound"] (defScope s_law_random) := ⟨rfl, rfl, rfl, by decide +kernel, rfl, by decide +kernel, by decide +kernel⟩
abbrev s_law_text : Stmt := topS 38
theorem sc_law_text : FnScope ["_law_numbers_here", "_law_number"] ["_law_numbers_here"] (defScope s_law_text) := ⟨rfl, rfl, rfl, by decide +kernel, rfl, by decide +kernel, by decide +kernel⟩
abbrev s_law_word : Stmt := topS 42
theorem sc_law_word : FnScope ["_law_generator_here", "_law_many", "_law_most", "_law_turn"] ["_law_generator_here", "_law_many", "_law_most"] (defScope s_law_word) := ⟨rfl, rfl, rfl, by decide +kernel, rfl, by decide +kernel, by decide +kernel⟩
abbrev s_law_numbers : Stmt := topS 37
theorem sc_law_numbers : FnScope ["_law_word_here", "_law_places", "_law_at", "_law_sign"] ["_law_word_here"] (defScope s_law_numbers) := ⟨rfl, rfl, rfl, by decide +kernel, rfl, by decide +kernel, by decide +kernel⟩
abbrev s_law_plain : Stmt := topS 39
theorem sc_law_plain : FnScope ["_law_word_here", "_law_found", "_law_number"] ["_law_word_here"] (defScope s_law_plain) := ⟨rfl, rfl, rfl, by decide +kernel, rfl, by decide +kernel, by decide +kernel⟩
abbrev s_law_opposite : Stmt := topS 40
theorem sc_law_opposite : FnScope ["_law_word_here", "_law_number"] ["_law_word_here"] (defScope s_law_opposite) := ⟨rfl, rfl, rfl, by decide +kernel, rfl, by decide +kernel, by decide +kernel⟩
local macro_rules | `(tactic| walk_at "rd") => `(tactic| simp only [L2.tPar3, L2.tSeq, L2.tAug, L2.tTup, G1.tCallK3b, G1.tMt, G1.tMinK, G1.rIsTu, L2.rIxT, G1.rTr, G1.rLtD, if_true, if_false, L2.rNotB, L2.rMax, L2.iRng2,L2.rIn, L2.tDNewK,  G1.iEnumS, L2.tDGet, L2.gTup, L2.gCons, L2.gNil, L2.tPar, L2.rIxS, G1.tRepU, L2.rSlS, L2.iStr, L2.tNotV, G1.rIsV, G1.mk_int, G1.mk_bool, G1.mk_str, G1.mk_list, G1.tCallX, V.ty.injEq, L2.tChain, L2.rIsB, G1.tRevS, L2.tM0, L2.tM1, L2.tCallS, G1.tCallK2, G1.tMkR, L2.rAll, L2.rPop, L2.tBM0, L2.tRevL, L2.tAsg, L2.tOp, L2.rI, L2.rI0, L2.tVar, L2.tC, L2.tCB, L2.tCons, L2.tNil, L2.tRet, L2.gName, L2.start, L2.tIf, L2.tIfS, L2.tTest, L2.tNext, L2.rIxL, L2.tSl, L2.rSlL, L2.tNoPart, L2.tPart, L2.tLst, L2.tTup, L2.rSum, L2.tBits, L2.gSub, L2.rSetL, L2.rCat, L2.tDrop, L2.tBM, L2.tBM0, L2.rAppend, L2.tYes, L2.tB, L2.tAnd, L2.tOr, L2.tNot, L2.tAndV, L2.tOrV, G1.tCallO, G1.tXm, G1.tXn, G1.tXv, HO.lst.injEq, HO.tup.injEq, Nat.reduceAdd, Nat.zero_add, List.set_cons_zero, List.set_cons_succ, G1.tFor_eq, G1.tLc_eq, G1.rIxM, G1.rLenM, G1.rSlM, G1.atI_0, G1.atI_1, G1.atI_2, G1.ixN_0, G1.ixN_2, L2.upd_same, L2.upd_upd, and_assoc, L2.iRng1, L2.iList, L2.tUn, L2.rU, G1.rRepS, L2.wipe, List.foldl, L2.rEq, L2.rNe, List.map, List.replicate, List.length, List.append, List.set, List.getElem?_cons_zero, List.getElem?_cons_succ, List.cons_append, List.nil_append, Option.some.injEq, V.int.injEq, V.bl.injEq, V.ref.injEq, V.str.injEq, List.cons.injEq, reduceCtorEq, false_and, and_false, exists_false, or_false, false_or, exists_and_left, exists_and_right, exists_eq_left', exists_eq_left, true_and, and_true, Nat.sub_self, decide_eq_true_eq])
section
variable {P : Program} {w : World} {K : PySem.W.Frag} {mg : Str → Option Value} {base : Heap} {c : Nat → Addr} {cF : Addr}
def spHash : Sp := fun vs H Q _ => ∃ s i : Int, vs = [.int s, .int i] ∧ 0 ≤ s ∧ s < 2147483647 ∧ 0 ≤ i ∧ i ≤ 1000000000 ∧ ∀ h : Int, 0 ≤ h → h < 2147483647 → Q (.int h) H
theorem ok_hash (S : Src K mg "_law_hash" s_law_hash) (T : Txt P w K mg base c cF) : OkD P w K mg base 1 "_law_hash" ["_law_seed", "_law_index"] spHash := by
  refine okd S (fun f fd F => F.ok sc_law_hash (fun vs H Q E h => ?_) (fun cdv A outer s H vs Q E hr h => ?_)) (fun _ _ _ _ _ _ us hl => match us, hl with | [_, _], _ => rfl)
  · obtain ⟨_, _, rfl, _⟩ := h
    rfl
  · obtain ⟨sd, ix, rfl, h0, h1, h2, h3, q⟩ := h
    refine ⟨_, ((pss_cons (ps_set (i := 2) sc_law_hash.nd rfl (.inl rfl) (pe_op op_mod (pe_callTy call_int1 (by rfl) T.n_int PyProof.Rows.boot_int (pa_cons (pe_op op_add (pe_op op_add (pe_op op_add (pe_op op_mulW (pv 0) pe_int) (pe_op op_mulW (pe_op op_mulW pe_int (pv 1)) (pv 1))) (pe_op op_mulW pe_int (pv 1))) pe_int) pa_nil)) pe_int))
      (pss_cons (ps_set (i := 2) sc_law_hash.nd rfl (.inl rfl) (pe_op op_mod (pe_callTy call_int1 (by rfl) T.n_int PyProof.Rows.boot_int (pa_cons (pe_op op_add (pe_op op_add (pe_op op_mulW (pv 2) (pv 2)) (pe_op op_mulW pe_int (pv 1))) pe_int) pa_nil)) pe_int))
      (pss_one (ps_ret (pe_op op_mod (pe_callTy call_int1 (by rfl) T.n_int PyProof.Rows.boot_int (pa_cons (pe_op op_mulW (pv 2) pe_int) pa_nil)) pe_int)))))), ?_⟩
    walk_at "rd"
    have n (x : Int) : 0 ≤ x % 2147483629 ∧ x % 2147483629 < 2147483629 := ⟨Int.emod_nonneg _ (by decide), Int.emod_lt_of_pos _ (by decide)⟩
    have n2 (x : Int) : 0 ≤ x % 2147483587 ∧ x % 2147483587 < 2147483587 := ⟨Int.emod_nonneg _ (by decide), Int.emod_lt_of_pos _ (by decide)⟩
    have n3 (x : Int) : 0 ≤ x % 2147483647 ∧ x % 2147483647 < 2147483647 := ⟨Int.emod_nonneg _ (by decide), Int.emod_lt_of_pos _ (by decide)⟩
    refine ⟨cmul (by omega) (by decide), cmul (by decide) (by omega), cmul (by omega) (by omega), cmul (by decide) (by omega), by decide, ?_, cmul (by decide) (by omega), by decide, ?_, by decide, ?_⟩
    · exact cmul (by have := n (sd * 1140671 + 27644437 * ix * ix + 131 * ix + 19); omega) (by have := n (sd * 1140671 + 27644437 * ix * ix + 131 * ix + 19); omega)
    · refine cmul ?_ (by decide)
      generalize (sd * 1140671 + 27644437 * ix * ix + 131 * ix + 19) = y
      have := n2 (y % 2147483629 * (y % 2147483629) + 62089 * ix + 32416187)
      omega
    · exact q _ (n3 _).1 (n3 _).2
/-- a generator at g -/
def GenAt (H : Hp) (g : Addr) (x y z : Int) : Prop := H g = some (.lst [.int x, .int y, .int z])
def spGen (K : PySem.W.Frag) : Sp := fun vs H Q _ => ∃ (a : Addr) (ns : List Int) (i : Int), vs = [.ref a, .int i] ∧ SqL K H a (ns.map V.int) ∧ ns.length ≤ 63 ∧ 0 ≤ i ∧ i ≤ 1000 ∧
  ∀ (g : Addr) (H' : Hp) (x y : Int), Same H H' → H g = none → GenAt H' g x y (1000 * i) → 0 ≤ x → x < 10 ^ 600 → 0 ≤ y → y < 2147483647 → Q (.ref g) H'
def spCell (K : PySem.W.Frag) : Sp := fun vs H Q _ => ∃ (a : Addr) (ns : List Int) (i : Int), vs = [.ref a, .int i] ∧ SqL K H a (ns.map V.int) ∧ ns.length ≤ 63 ∧ 0 ≤ i ∧ ∀ (sd : Int) H', Same H H' → Q (.int sd) H'
theorem ok_cell (S : Src K mg "_law_cell" s_law_cell) (T : Txt P w K mg base c cF) : OkD P w K mg base 1 "_law_cell" ["_law_script", "_law_index"] (spCell K) := by
  refine okd S (fun f fd F => F.ok sc_law_cell (fun vs H Q E h => ?_) (fun cdv A outer s H vs Q E hr h => ?_)) (fun _ _ _ _ _ _ us hl => match us, hl with | [_, _], _ => rfl)
  · obtain ⟨_, _, _, rfl, _⟩ := h
    rfl
  · obtain ⟨a, ns, ix, rfl, hS, hl, h0, q⟩ := h
    refine ⟨_, ((pss_cons (ps_if (pt_cmpR op_lt (pv 1) (pe_callB call_len_seq (by rfl) T.n_len (by decide +kernel) (pa_cons (pv 0) pa_nil)) (nomark _)) (pss_one (ps_ret (pe_ix ix_list (pv 0) (pv 1) (fun _ _ => rfl)))) pss_nil)
      (pss_one (ps_ret (pe_op op_mod (pe_callB (cr_sum rfl) (by rfl) T.n_sum (by decide +kernel) (pa_cons (pe_slice (sl_listK K rfl) (pv 0) po_none (po_some pe_int)) pa_nil)) pe_int))))), ?_⟩
    walk_at "rd"
    obtain ⟨j, rfl⟩ := Int.eq_ofNat_of_zero_le h0
    refine ⟨_, .inl hS, ?_⟩
    rw [List.length_map]
    split
    · rename_i hj
      have hj' : j < ns.length := by omega
      exact ⟨_, hS, _, atI_nat (v := V.int ns[j]) (by rw [List.getElem?_map, List.getElem?_eq_getElem hj']; rfl), q _ _ (.refl H)⟩
    · refine ⟨_, hS, fun p np => ?_⟩
      obtain ⟨ns', hc⟩ : ∃ ns' : List Int, cutV (ns.map V.int) none (some 1) = ns'.map V.int := ⟨_, by unfold cutV; rw [← List.map_drop, ← List.map_take]⟩
      rw [hc]
      exact ⟨ns', .inl (.inl upd_same), by decide, q _ _ (same_upd np)⟩
theorem ok_gen (S : Src K mg "_law_generator" s_law_generator) (T : Txt P w K mg base c cF) (C_law_cell : OkD P w K mg base 1 "_law_cell" ["_law_script", "_law_index"] (spCell K)) : OkD P w K mg base 2 "_law_generator" ["_law_script", "_law_index"] (spGen K) := by
  refine okd S (fun f fd F => F.ok sc_law_generator (fun vs H Q E h => ?_) (fun cdv A outer s H vs Q E hr h => ?_)) (fun _ _ _ _ _ _ us hl => match us, hl with | [_, _], _ => rfl)
  · obtain ⟨_, _, _, rfl, _⟩ := h
    rfl
  · obtain ⟨a, ns, ix, rfl, hS, hl, h0, h1, q⟩ := h
    refine ⟨_, ((pss_cons (ps_set (i := 2) sc_law_generator.nd rfl (.inl rfl) (pe_callO C_law_cell (hr.mono (by decide)) (by rfl) (pa_cons (pv 0) (pa_cons (pv 1) pa_nil))))
      (pss_one (ps_ret (pe_lst (pa_cons (pe_op op_mod (pe_callTy call_int1 (by rfl) T.n_int PyProof.Rows.boot_int (pa_cons (pe_callB (call_max2 rfl) (by rfl) T.n_max (by decide +kernel) (pa_cons (pe_op op_sub (pv 2) (pe_op op_powW pe_int pe_int)) (pa_cons pe_int pa_nil))) pa_nil)) (pe_op op_powW (pe_op op_powW pe_int pe_int) pe_int)) (pa_cons (pe_op op_mod (pe_callTy call_int1 (by rfl) T.n_int PyProof.Rows.boot_int (pa_cons (pv 2) pa_nil)) pe_int) (pa_cons (pe_op op_mulW pe_int (pv 1)) pa_nil)))))))), ?_⟩
    walk_at "rd"
    refine ⟨a, ns, ix, rfl, hS, hl, h0, fun sd H1 sm => ?_⟩
    obtain ⟨j, rfl⟩ := Int.eq_ofNat_of_zero_le h0
    have e10 : ((10 : Int) ^ Int.toNat 60) ^ Int.toNat 10 = 10 ^ 600 := by decide +kernel
    have p10 : (0 : Int) < ((10 : Int) ^ Int.toNat 60) ^ Int.toNat 10 := by decide +kernel
    refine ⟨⟨by decide, by decide +kernel⟩, _, rfl, ⟨by decide, by decide +kernel⟩, ⟨by decide, by decide +kernel⟩, p10, .inl ⟨_, rfl, by decide, cmul (by decide) (by omega), by decide, fun p np => ?_⟩⟩
    refine q p _ _ _ (sm.trans (same_upd np)) (sm.free np) upd_same (Int.emod_nonneg _ (Int.ne_of_gt p10)) ?_ (Int.emod_nonneg _ (by decide)) (Int.emod_lt_of_pos _ (by decide))
    rw [← e10]
    exact Int.emod_lt_of_pos _ p10
/-- what a draw does: the generator's numbers go on, the rest stays -/
def spRandom : Sp := fun vs H Q _ => ∃ (g : Addr) (b x y z : Int), vs = [.ref g, .int b] ∧ GenAt H g x y z ∧ 0 < b ∧ b.natAbs < 2 ^ 6000 ∧ 0 ≤ x ∧ x < 10 ^ 600 ∧ 0 ≤ y ∧ y < 2147483647 ∧ 0 ≤ z ∧ z ≤ 100000000 ∧
  ∀ d x' z' : Int, 0 ≤ d → d < b → 0 ≤ x' → x' < 10 ^ 600 → z ≤ z' → z' ≤ z + 300 → Q (.int d) (upd H g (.lst [.int x', .int y, .int z']))
theorem ok_random (S : Src K mg "_law_random" s_law_random) (T : Txt P w K mg base c cF) (C_law_hash : OkD P w K mg base 1 "_law_hash" ["_law_seed", "_law_index"] spHash) : OkD P w K mg base 2 "_law_random" ["_law_generator_here", "_law_bound"] spRandom := by
  refine okd S (fun f fd F => F.ok sc_law_random (fun vs H Q E h => ?_) (fun cdv A outer s H vs Q E hr h => ?_)) (fun _ _ _ _ _ _ us hl => match us, hl with | [_, _], _ => rfl)
  · obtain ⟨_, _, _, _, _, rfl, _⟩ := h
    rfl
  · obtain ⟨g, b, x, y, z, rfl, hg, hb, hb2, hx, hx2, hy, hy2, hz, hz2, q⟩ := h
    have hg' : H g = some (.lst [.int x, .int y, .int z]) := hg
    refine ⟨_, ((pss_cons (ps_if (pt_cmpR op_gt (pe_ix ix_lM (pv 0) pe_int (fun _ _ => rfl)) pe_int (nomark _)) (pss_cons (ps_set (i := 2) sc_law_random.nd rfl (.inl rfl) (pe_op op_mod (pe_callTy call_int1 (by rfl) T.n_int PyProof.Rows.boot_int (pa_cons (pe_ix ix_lM (pv 0) pe_int (fun _ _ => rfl)) pa_nil)) (pv 1)))
      (pss_cons (ps_asg (pe_op op_fdivW (pe_ix ix_lM (pv 0) pe_int (fun _ _ => rfl)) (pv 1)) (pg_sub (pv 0) pe_int set_list))
      (pss_one (ps_ret (pv 2))))) pss_nil)
      (pss_cons (ps_set (i := 2) sc_law_random.nd rfl (.inl rfl) pe_int)
      (pss_cons (ps_for PassesOwn.never rfl (pi_range1 (by rfl) T.n_range (pa_cons (pe_op op_add pe_int (pe_op op_fdivW (pe_bits (pv 1)) pe_int)) pa_nil)) (pg_name (i := 3) sc_law_random.nd rfl (.inl rfl)) (pss_cons (ps_asg (pe_op op_add (pe_ix ix_lM (pv 0) pe_int (fun _ _ => rfl)) pe_int) (pg_sub (pv 0) pe_int set_list))
      (pss_one (ps_set (i := 2) sc_law_random.nd rfl (.inl rfl) (pe_op op_add (pe_op op_mulW (pv 2) pe_int) (pe_callO C_law_hash (hr.mono (by decide)) (by rfl) (pa_cons (pe_ix ix_lM (pv 0) pe_int (fun _ _ => rfl)) (pa_cons (pe_ix ix_lM (pv 0) pe_int (fun _ _ => rfl)) pa_nil))))))))
      (pss_one (ps_ret (pe_op op_mod (pe_callTy call_int1 (by rfl) T.n_int PyProof.Rows.boot_int (pa_cons (pv 2) pa_nil)) (pv 1)))))))), ?_⟩
    walk_at "rd"
    simp only [hg']
    walk_at "rd"
    have hbits : Builtin.Int.intBits b ≤ 6000 := PyProof.Rows.intBits_le hb2
    refine ite2 (fun h0 => ?_) (fun h0 => ?_)
    · exact ⟨hb, wide_div hb hb2 (by decide) (by decide), q _ _ _ (Int.emod_nonneg _ (by omega)) (Int.emod_lt_of_pos _ hb) (Int.ediv_nonneg hx (by omega)) (Int.lt_of_le_of_lt (Int.ediv_le_self _ hx) hx2) (Int.le_refl _) (by omega)⟩
    · refine ⟨⟨by decide, by decide⟩, by omega, by omega, ?_⟩
      obtain ⟨n, hn⟩ : ∃ n : Nat, n = (1 + ((Builtin.Int.intBits b : Nat) : Int) / 30).toNat := ⟨_, rfl⟩
      have hn2 : n ≤ 201 := by omega
      rw [← hn]
      refine loop_range (fun i σ H' => ∃ (d : Int) (v : Option V), σ = [some (.ref g), some (.int b), some (.int d), v] ∧ 0 ≤ d ∧ d < 2 ^ (31 * i) ∧ H' = upd H g (.lst [.int x, .int y, .int (z + i)])) ⟨0, none, rfl, by decide, by decide, ?_⟩ ?_ ?_
      · rw [upd_id]
        simpa using hg'
      · rintro i σ H' hi ⟨d, v, rfl, d0, d1, rfl⟩
        walk_at "rd"
        refine ⟨wide_mul (a := 31 * i + 1) (b := 64) ?_ (by decide) (by omega) (by decide) (by omega), ?_⟩
        · have e : (2 : Int) ^ (31 * i) = ((2 ^ (31 * i) : Nat) : Int) := by rw [Int.natCast_pow]; rfl
          rw [e] at d1
          rw [Nat.pow_succ]
          omega
        · refine ⟨y, _, rfl, hy, hy2, by omega, by omega, fun h h0 h1 => ⟨_, rfl, ⟨_, rfl⟩, by omega, ?_, ?_⟩⟩
          · rw [Nat.mul_add, Int.pow_add]
            have : (2 : Int) ^ (31 * 1) = 2147483648 := by decide
            rw [this]
            generalize (2 : Int) ^ (31 * i) = p at d1
            omega
          · rw [show z + ((i + 1 : Nat) : Int) = z + i + 1 by omega]
      · rintro σ H' ⟨d, v, rfl, d0, d1, rfl⟩
        walk_at "rd"
        exact ⟨hb, q _ _ _ (Int.emod_nonneg _ (by omega)) (Int.emod_lt_of_pos _ hb) hx hx2 (by omega) (by omega)⟩
/-- a generator that is still good -/
def GenOk (H : Hp) (g : Addr) (Z : Int) : Prop := ∃ x y z, GenAt H g x y z ∧ 0 ≤ x ∧ x < 10 ^ 600 ∧ 0 ≤ y ∧ y < 2147483647 ∧ 0 ≤ z ∧ z ≤ Z
/-- what stood but at g stands -/
def But (g : Addr) (H H' : Hp) : Prop := ∀ b o, b ≠ g → H b = some o → H' b = some o
theorem But.refl {g : Addr} (H : Hp) : But g H H := fun _ _ _ e => e
theorem But.trans {g : Addr} {H H1 H2 : Hp} (a : But g H H1) (b : But g H1 H2) : But g H H2 := fun x o n e => b x o n (a x o n e)
theorem But.of {g : Addr} {H H1 : Hp} (a : Same H H1) : But g H H1 := fun x o _ e => a x o e
theorem But.set {g : Addr} {H : Hp} {o : HO} : But g H (upd H g o) := fun x o' n e => by rw [upd_ne n]; exact e
theorem GenOk.but {g : Addr} {H H' : Hp} {Z : Int} (h : GenOk H g Z) (s : Same H H') : GenOk H' g Z := let ⟨x, y, z, h1, h2⟩ := h; ⟨x, y, z, s _ _ h1, h2⟩
theorem GenOk.le {g : Addr} {H : Hp} {Z Z' : Int} (h : GenOk H g Z) (l : Z ≤ Z') : GenOk H g Z' := let ⟨x, y, z, h1, h2, h3, h4, h5, h6, h7⟩ := h; ⟨x, y, z, h1, h2, h3, h4, h5, h6, by omega⟩
/-- a draw -/
theorem draw {g : Addr} {H : Hp} {Z b : Int} {Q : VK} (h : GenOk H g Z) (hZ : Z ≤ 100000000) (hb : 0 < b) (hb2 : b < 1000000) (q : ∀ (d : Int) (H' : Hp), 0 ≤ d → d < b → But g H H' → GenOk H' g (Z + 300) → Q (.int d) H') : spRandom [.ref g, .int b] H Q (fun _ _ _ => False) := by
  obtain ⟨x, y, z, h1, h2, h3, h4, h5, h6, h7⟩ := h
  refine ⟨g, b, x, y, z, rfl, h1, hb, ?_, h2, h3, h4, h5, h6, by omega, fun d x' z' d0 d1 x0 x1 z0 z1 => q d _ d0 d1 .set ⟨x', y, z', upd_same, x0, x1, h4, h5, by omega, by omega⟩⟩
  exact Nat.lt_of_lt_of_le (show b.natAbs < 1000000 by omega) (Nat.le_trans (show 1000000 ≤ 2 ^ 20 by decide) (Nat.pow_le_pow_right (by decide) (by decide)))
/-- the numbers of signs -/
def NumsAt (H : Hp) (a : Addr) (ns : List Nat) : Prop := H a = some (.lst (ns.map fun n => V.int (n : Nat)))
def sg (n : Nat) : Nat := sgs.getD n 0
theorem ones_len (z : List Nat) : (List.map (fun x : Str => x.length) (List.map (fun c => (⟨#[c]⟩ : Str)) z)).sum = z.length := by
  induction z with
  | nil => rfl
  | cons a z ih =>
    rw [List.map_cons, List.map_cons, List.sum_cons, ih, List.length_cons]
    show 1 + _ = _
    omega
def spText : Sp := fun vs H Q _ => ∃ a ns, vs = [.ref a] ∧ NumsAt H a ns ∧ (∀ n ∈ ns, n < 12) ∧ ns.length ≤ 200000 ∧ ∀ H', Same H H' → Q (.str (W (ns.map sg))) H'
theorem ok_text (S : Src K mg "_law_text" s_law_text) (T : Txt P w K mg base c cF) : OkD P w K mg base 1 "_law_text" ["_law_numbers_here"] spText := by
  refine okd S (fun f fd F => F.ok sc_law_text (fun vs H Q E h => ?_) (fun cdv A outer s H vs Q E hr h => ?_)) (fun _ _ _ _ _ _ us hl => match us, hl with | [_], _ => rfl)
  · obtain ⟨_, _, rfl, _⟩ := h
    rfl
  · obtain ⟨a, ns, rfl, ha, hn, hl, q⟩ := h
    refine ⟨_, ((pss_one (ps_ret (pe_join pe_str (pe_lc (own := [("_law_number", 1)]) (g := gName 1) (tt := tYes) (by rfl) sc_law_text.nd (pi_list (pv 0)) (blkOk_by (own := [("_law_number", 1)]) (N := ["_law_numbers_here", "_law_number"]) (sc := defScope s_law_text) (by decide +kernel)) (fun _ _ _ _ _ => pg_name (i := 1) sc_law_text.nd rfl (Or.inl rfl)) (fun _ _ _ _ _ => pts_nil) (fun _ _ _ _ _ => (pe_ix ix_str pe_str (pv 1) (fun _ _ => rfl)))))))), ?_⟩
    walk_at "rd"
    refine ⟨⟨_, rfl⟩, ⟨_, SqL.of ha⟩, ?_⟩
    refine comp_list (xs := ns.map fun n => V.int (n : Nat)) (fun D i H' => H' = upd H D (.lst ((ns.take i).map fun n => V.str ⟨#[sg n]⟩))) (fun D nD => rfl) ?_ ?_ ?_
    · rintro D i H' nD hi rfl
      exact SqL.of (by rw [upd_ne (ne_none ha nD)]; exact ha)
    · rintro D i x H' nD hi rfl
      rw [List.getElem?_map] at hi
      obtain ⟨n, hn', rfl⟩ := Option.map_eq_some_iff.mp hi
      have hlt := hn n (List.mem_of_getElem? hn')
      walk_at "rd"
      refine ⟨by decide +kernel, sg n, ?_, ?_, ?_⟩
      · have : (PySem.Str.ofString "aAbBcCdDeEfF").cps.toList = sgs := by decide +kernel
        rw [this]
        apply atI_nat
        unfold sg
        rw [List.getD_eq_getElem?_getD, List.getElem?_eq_getElem (by show n < 12; exact hlt), Option.getD_some]
      · rw [List.length_map, List.length_take, sizeLine_eq]
        omega
      · rw [take_step hn', List.map_append]
        rfl
    · rintro D H' nD rfl
      rw [List.length_map, List.take_length]
      walk_at "rd"
      refine ⟨(ns.map sg).map fun c => ⟨#[c]⟩, .inl (SqL.of ?_), ?_, ?_⟩
      · rw [upd_same, List.map_map, List.map_map]
        rfl
      · rw [ones_len, List.length_map]
        have e0 : (PySem.Str.ofString "").length = 0 := rfl
        rw [e0]
        omega
      · have e0 : PySem.Str.ofString "" = (⟨#[]⟩ : Str) := rfl
        rw [e0, join_signs]
        exact q _ (same_upd nD)
theorem sg_mem {m : Int} {k : Nat} (hm : m ≤ 6) (h : k < (2 * m).toNat) : sg k ∈ sgs.take (2 * m).toNat := by
  have hk : k < sgs.length := by show k < 12; omega
  unfold sg
  rw [List.getD_eq_getElem?_getD, List.getElem?_eq_getElem hk, Option.getD_some]
  apply List.mem_iff_getElem?.mpr
  exact ⟨k, by rw [List.getElem?_take_of_lt h, List.getElem?_eq_getElem hk]⟩
def spWord (K : PySem.W.Frag) : Sp := fun vs H Q _ => ∃ g m n Z, vs = [.ref g, .int m, .int n] ∧ 1 ≤ m ∧ m ≤ 6 ∧ 0 ≤ n ∧ n ≤ 1000 ∧ GenOk H g Z ∧ Z + 300 * (n + 2) ≤ 100000000 ∧
  ∀ l H', Sm m l → (l.length : Int) ≤ n → But g H H' → GenOk H' g (Z + 300 * (n + 1)) → Q (.str (W l)) H'
theorem ok_word (S : Src K mg "_law_word" s_law_word) (T : Txt P w K mg base c cF) (C_law_random : OkD P w K mg base 2 "_law_random" ["_law_generator_here", "_law_bound"] spRandom) (C_law_text : OkD P w K mg base 1 "_law_text" ["_law_numbers_here"] spText) : OkD P w K mg base 3 "_law_word" ["_law_generator_here", "_law_many", "_law_most"] (spWord K) := by
  refine okd S (fun f fd F => F.ok sc_law_word (fun vs H Q E h => ?_) (fun cdv A outer s H vs Q E hr h => ?_)) (fun _ _ _ _ _ _ us hl => match us, hl with | [_, _, _], _ => rfl)
  · obtain ⟨_, _, _, _, rfl, _⟩ := h
    rfl
  · obtain ⟨g, m, n, Z, rfl, h1, h2, h3, h4, hg, hZ, q⟩ := h
    refine ⟨_, ((pss_one (ps_ret (pe_callO C_law_text (hr.mono (by decide)) (by rfl) (pa_cons (pe_lc (own := [("_law_turn", 3)]) (g := gName 3) (tt := tYes) (by rfl) sc_law_word.nd (pi_range1 (by rfl) T.n_range (pa_cons (pe_callO C_law_random (hr.mono (by decide)) (by rfl) (pa_cons (pv 0) (pa_cons (pe_op op_add (pv 2) pe_int) pa_nil))) pa_nil)) (blkOk_by (own := [("_law_turn", 3)]) (N := ["_law_generator_here", "_law_many", "_law_most", "_law_turn"]) (sc := defScope s_law_word) (by decide +kernel)) (fun _ _ _ _ _ => pg_name (i := 3) sc_law_word.nd rfl (Or.inl rfl)) (fun _ _ _ _ _ => pts_nil) (fun _ _ _ _ _ => (pe_callO C_law_random (hr.mono (by decide)) (by rfl) (pa_cons (pv 0) (pa_cons (pe_op op_mulW pe_int (pv 1)) pa_nil))))) pa_nil))))), ?_⟩
    walk_at "rd"
    refine draw hg (by omega) (by omega) (by omega) fun d H1 d0 d1 bt gk => ?_
    refine ⟨d, rfl, by omega, by omega, ?_⟩
    refine comp_range (fun D i H' => ∃ ns : List Nat, H' D = some (.lst (ns.map fun k => V.int (k : Nat))) ∧ ns.length = i ∧ (∀ k ∈ ns, k < (2 * m).toNat) ∧ But g H1 H' ∧ GenOk H' g (Z + 300 + 300 * i)) (fun D nD => ⟨[], upd_same, rfl, (fun _ z => nomatch z), .of (same_upd nD), (gk.but (same_upd nD)).le (by omega)⟩) ?_ ?_
    · rintro D i H' nD hi ⟨ns, hD, hlen, hns, bt', gk'⟩
      walk_at "rd"
      refine ⟨cmul (by decide) (by omega), ?_⟩
      refine draw gk' (by omega) (by omega) (by omega) fun e H2 e0 e1 bt2 gk2 => ?_
      have ngD : D ≠ g := by
        obtain ⟨x, y, z, hx, _⟩ := gk
        exact fun z => by rw [z] at nD; rw [GenAt, nD] at hx; cases hx
      have hD2 := bt2 D _ ngD hD
      refine ⟨_, hD2, by rw [List.length_map, hlen, sizeLine_eq]; omega, ns ++ [e.toNat], ?_, by rw [List.length_append, hlen]; rfl, ?_, ?_, ?_⟩
      · rw [List.map_append]
        congr 1
        show [V.int e] = [V.int (e.toNat : Nat)]
        rw [Int.toNat_of_nonneg e0]
      · intro k hk
        rcases List.mem_append.mp hk with hk | hk
        · exact hns k hk
        · rw [List.mem_singleton.mp hk]
          omega
      · intro b o n q
        have q2 := bt2 b o n (bt' b o n q)
        have : b ≠ D := fun z => by rw [z, nD] at q; cases q
        rw [upd_ne this]
        exact q2
      · obtain ⟨x, y, z, hx, r⟩ := gk2.le (show Z + 300 + 300 * (i : Int) + 300 ≤ Z + 300 + 300 * ((i + 1 : Nat) : Int) by omega)
        exact ⟨x, y, z, by rw [GenAt, upd_ne (Ne.symm ngD)]; exact hx, r⟩
    · rintro D H' nD ⟨ns, hD, hlen, hns, bt', gk'⟩
      refine ⟨D, ns, rfl, hD, fun k hk => by have := hns k hk; omega, by omega, fun H2 s2 => ?_⟩
      refine q _ H2 ?_ ?_ ((bt.trans bt').trans (.of s2)) ((gk'.but s2).le (by omega))
      · intro ch hc
        obtain ⟨k, hk, rfl⟩ := List.mem_map.mp hc
        exact sg_mem (by omega) (hns k hk)
      · rw [List.length_map]
        omega
theorem bx : ∀ s : Nat, s < 12 → Builtin.bitXor (s : Int) 1 = ((s ^^^ 1 : Nat) : Int) ∧ s ^^^ 1 < 12 ∧ sg (s ^^^ 1) = inv (sg s) := by decide +kernel
theorem bx2 : ∀ m : Nat, m ≤ 6 → ∀ s : Nat, s < 2 * m → s ^^^ 1 < 2 * m := by decide +kernel
def num (ch : Nat) : Nat := sgs.idxOf ch
theorem num_lt : ∀ ch ∈ sgs, num ch < 12 := by decide +kernel
theorem num_inj : ∀ a ∈ sgs, ∀ b ∈ sgs, num a = num b → a = b := by decide +kernel
def trc (ch : Nat) : Nat := 97 + num ch
theorem num_sg : ∀ j, j < 12 → num (sg j) = j ∧ sg j ∈ sgs := by decide +kernel
theorem num_sgs : ∀ ns : List Nat, (∀ j ∈ ns, j < 12) → (ns.map sg).map num = ns
  | [], _ => rfl
  | n :: ns, h => by
    rw [List.map_cons, List.map_cons, (num_sg n (h n List.mem_cons_self)).1, num_sgs ns fun j hj => h j (List.mem_cons_of_mem _ hj)]
theorem inv_num : ∀ a ∈ sgs, ∀ b ∈ sgs, (b = inv a) = (num b = num a ^^^ 1) := by
  have h : ∀ a ∈ sgs, ∀ b ∈ sgs, decide (b = inv a) = decide (num b = num a ^^^ 1) := by decide +kernel
  intro a ha b hb
  exact propext (decide_eq_decide.mp (h a ha b hb))
def kvsA : List (L2.Key × V) := (List.range 12).map fun i => (Sum.inr (⟨#[sg i]⟩ : Str), V.int (i : Nat))
theorem kvsA_at {i ch : Nat} (h : sgs[i]? = some ch) : kvsA[i]? = some (Sum.inr (⟨#[ch]⟩ : Str), V.int (i : Nat)) := by
  have hi : i < 12 := (List.getElem?_eq_some_iff.mp h).1
  unfold kvsA
  rw [List.getElem?_map, List.getElem?_range hi, Option.map_some]
  unfold sg
  rw [List.getD_eq_getElem?_getD, h, Option.getD_some]
theorem kvsA_val : ∀ ch ∈ sgs, valV kvsA (Sum.inr (⟨#[ch]⟩ : Str)) = some (V.int (num ch : Nat)) := by
  intro ch hc
  simp only [sgs, List.mem_cons, List.not_mem_nil, or_false] at hc
  rcases hc with rfl | rfl | rfl | rfl | rfl | rfl | rfl | rfl | rfl | rfl | rfl | rfl <;> rfl
theorem paired_snoc {α β : Type} {R : α → β → Prop} {a : α} {b : β} (r : R a b) : ∀ {as : List α} {bs : List β}, Paired R as bs → Paired R (as ++ [a]) (bs ++ [b])
  | _, _, .nil => .cons r .nil
  | _, _, .cons h t => .cons h (paired_snoc r t)
theorem paired_mono {α β : Type} {R R' : α → β → Prop} (k : ∀ a b, R a b → R' a b) : ∀ {as : List α} {bs : List β}, Paired R as bs → Paired R' as bs
  | _, _, .nil => .nil
  | _, _, .cons h t => .cons (k _ _ h) (paired_mono k t)
def spNumbers : Sp := fun vs H Q _ => ∃ l, vs = [.str (W l)] ∧ Sg l ∧ l.length ≤ 200000 ∧ ∀ a H', Same H H' → H a = none → NumsAt H' a (l.map num) → Q (.ref a) H'
theorem ok_numbers (S : Src K mg "_law_numbers" s_law_numbers) (T : Txt P w K mg base c cF) : OkD P w K mg base 1 "_law_numbers" ["_law_word_here"] spNumbers := by
  refine okd S (fun f fd F => F.ok sc_law_numbers (fun vs H Q E h => ?_) (fun cdv A outer s H vs Q E hr h => ?_)) (fun _ _ _ _ _ _ us hl => match us, hl with | [_], _ => rfl)
  · obtain ⟨_, rfl, _⟩ := h
    rfl
  · obtain ⟨l, rfl, hS, hl, q⟩ := h
    refine ⟨_, ((pss_cons (ps_set (i := 1) sc_law_numbers.nd rfl (.inr rfl) (pe_callTy (call_dictP rfl) (by rfl) T.n_dict (by decide +kernel) (pa_cons (pe_lc (own := [("_law_at", 2), ("_law_sign", 3)]) (g := gTup K 2 (gCons (gName 2) (gCons (gName 3) gNil))) (tt := tYes) (by rfl) sc_law_numbers.nd (pi_enumS (by rfl) T.n_enumerate pe_str) (blkOk_by (own := [("_law_at", 2), ("_law_sign", 3)]) (N := ["_law_word_here", "_law_places", "_law_at", "_law_sign"]) (sc := defScope s_law_numbers) (by decide +kernel)) (fun _ _ _ _ _ => pg_tup (by rfl) (pgs_cons (pg_name (i := 2) sc_law_numbers.nd rfl (Or.inl rfl)) (pgs_cons (pg_name (i := 3) sc_law_numbers.nd rfl (Or.inl rfl)) pgs_nil))) (fun _ _ _ _ _ => pts_nil) (fun _ _ _ _ _ => (pe_tup (pa_cons (pv 3) (pa_cons (pv 2) pa_nil))))) pa_nil)))
      (pss_one (ps_ret (pe_lc (own := [("_law_sign", 3)]) (g := gName 3) (tt := tYes) (by rfl) sc_law_numbers.nd (pi_str (pv 0)) (blkOk_by (own := [("_law_sign", 3)]) (N := ["_law_word_here", "_law_places", "_law_at", "_law_sign"]) (sc := defScope s_law_numbers) (by decide +kernel)) (fun _ _ _ _ _ => pg_name (i := 3) sc_law_numbers.nd rfl (Or.inl rfl)) (fun _ _ _ _ _ => pts_nil) (fun _ _ _ _ _ => (pe_dget (hu_of hr) (pv 1) (pv 3) (fun _ _ => rfl)))))))), ?_⟩
    walk_at "rd"
    refine comp_enumS (fun D i H' => ∃ ps : List Addr, Same H H' ∧ H' D = some (.lst (ps.map V.ref)) ∧ Paired (fun p kv => H' p = some (.tup [kV kv.1, kv.2])) ps (kvsA.take i)) (fun D nD => ⟨[], same_upd nD, upd_same, .nil⟩) ?_ ?_
    · rintro D i ch H' A nD hi ⟨ps, sm, hD, hps⟩ nA
      walk_at "rd"
      have hi' : sgs[i]? = some ch := by
        have e : (PySem.Str.ofString "aAbBcCdDeEfF").cps = sgs.toArray := by decide +kernel
        rw [e] at hi
        simpa using hi
      have nAD : D ≠ A := ne_none hD nA
      refine ⟨_, SqT.of upd_same, rfl, _, _, rfl, _, _, rfl, rfl, ?_⟩
      refine ⟨by show 2 ≤ sizeLine; decide, fun p np => ?_⟩
      have npA : A ≠ p := ne_none upd_same np
      have np' : H' p = none := by rw [upd_ne (Ne.symm npA)] at np; exact np
      have npD : D ≠ p := ne_none hD np'
      have hlen : ps.length ≤ 12 := by
        have h1 := Paired.length hps
        have h2 : (kvsA.take i).length ≤ 12 := by
          rw [List.length_take]
          have : kvsA.length = 12 := by decide
          omega
        omega
      refine ⟨ps.map V.ref, by rw [upd_ne npD, upd_ne nAD]; exact hD, by rw [List.length_map, sizeLine_eq]; omega, ?_, ps ++ [p], by rw [List.map_append]; rfl, ?_⟩
      · intro b o e
        have nb : b ≠ D := ne_none e nD
        rw [upd_ne nb]
        exact same_upd np _ _ (same_upd nA _ _ (sm b o e))
      · rw [take_step (kvsA_at hi')]
        refine paired_snoc ?_ (paired_mono ?_ hps)
        · rw [upd_ne (Ne.symm npD), upd_same]
          rfl
        · intro a kv e
          have n1 : a ≠ D := fun z => by rw [z, hD] at e; cases e
          rw [upd_ne n1]
          exact same_upd np _ _ (same_upd nA _ _ e)
    · rintro D H' nD ⟨ps, sm, hD, hps⟩
      walk_at "rd"
      have e12 : (PySem.Str.ofString "aAbBcCdDeEfF").cps.size = 12 := by decide +kernel
      rw [e12, show kvsA.take 12 = kvsA from rfl] at hps
      refine ⟨ps, SqL.of hD, kvsA, paired_mono (fun a kv e => SqT.of e) hps, fun p np => ?_⟩
      rw [show mergeK [] kvsA = kvsA from rfl]
      have hl2 := sizeLine_eq
      refine comp_str (fun A i H2 => H2 = upd (upd H' p (.dK kvsA)) A (.lst ((l.take i).map fun n => V.int (num n : Nat)))) (fun A nA => rfl) ?_ ?_
      · rintro A i ch H2 nA hi rfl
        have hi' : l[i]? = some ch := by simpa [W] using hi
        have hc := hS ch (List.mem_of_getElem? hi')
        have npA : p ≠ A := ne_none upd_same nA
        walk_at "rd"
        refine ⟨V.int (num ch : Nat), ?_, by rw [List.length_map, List.length_take, sizeLine_eq]; omega, ?_⟩
        · have := DGet.k (H := upd (upd H' p (.dK kvsA)) A (.lst ((l.take i).map fun n => V.int (num n : Nat)))) (a := p) (kvs := kvsA) (k := Sum.inr (⟨#[ch]⟩ : Str)) (by rw [upd_ne npA, upd_same])
          rw [kvsA_val ch hc] at this
          exact this
        · rw [take_step hi', List.map_append]
          rfl
      · rintro A H2 nA rfl
        have npA : p ≠ A := ne_none upd_same nA
        have nA' : H' A = none := by rw [upd_ne (Ne.symm npA)] at nA; exact nA
        rw [show (W l).cps.size = l.length by simp, List.take_length]
        refine q A _ ((sm.trans (same_upd np)).trans (same_upd nA)) (sm.free nA') ?_
        unfold NumsAt
        rw [upd_same, List.map_map]
        rfl
theorem dp_ints {H : Hp} : ∀ ns : List Nat, DpAll K H (ns.map fun n => V.int ((n : Nat) : Int)) (ns.map fun n => PyData.int ((n : Nat) : Int))
  | [] => .nil
  | n :: ns => .cons (.int _) (dp_ints ns)
theorem ints_lay : ∀ ns : List Nat, PyData.canLayAll0 (ns.map fun n => PyData.int ((n : Nat) : Int)) = true ∧ PyData.depthAll (ns.map fun n => PyData.int ((n : Nat) : Int)) = 0
  | [] => ⟨rfl, rfl⟩
  | n :: ns => by
    obtain ⟨h1, h2⟩ := ints_lay ns
    refine ⟨?_, ?_⟩
    · rw [List.map_cons, PyData.canLayAll0, PyData.canLay0, h1]
      rfl
    · rw [List.map_cons, PyData.depthAll, PyData.depth, h2]
      rfl
theorem ints_shaped (ns : List Nat) : SeqAt.shaped (.list (ns.map fun n => PyData.int ((n : Nat) : Int))) = true := by
  obtain ⟨h1, h2⟩ := ints_lay ns
  unfold SeqAt.shaped
  rw [PyData.canLay0, PyData.depth, h1, h2]
  rfl
theorem eq_nil {H : Hp} {a p : Addr} {ns : List Nat} {Q : VK} (ha : NumsAt H a ns) (hp : H p = some (.lst [])) (k : Q (.bl (decide (ns = []))) H) : rEqD K (.ref a) (.ref p) H Q := by
  refine ⟨_, _, .lst (SqL.of ha) (dp_ints ns), .lst (SqL.of hp) .nil, ints_shaped ns, rfl, ?_⟩
  cases ns with
  | nil => exact k
  | cons n ns => exact k
theorem ne_nil {H : Hp} {a p : Addr} {ns : List Nat} {Q : VK} (ha : NumsAt H a ns) (hp : H p = some (.lst [])) (k : Q (.bl (!decide (ns = []))) H) : rNeD K (.ref a) (.ref p) H Q := by
  refine ⟨_, _, .lst (SqL.of ha) (dp_ints ns), .lst (SqL.of hp) .nil, ints_shaped ns, rfl, ?_⟩
  cases ns with
  | nil => exact k
  | cons n ns => exact k
theorem sg_num : ∀ c ∈ sgs, sg (num c) = c := by decide +kernel
theorem sg_nums : ∀ l : List Nat, Sg l → (l.map num).map sg = l
  | [], _ => rfl
  | c :: l, h => by
    rw [List.map_cons, List.map_cons, sg_num c (h c List.mem_cons_self), sg_nums l fun x hx => h x (List.mem_cons_of_mem _ hx)]
theorem num_inv : ∀ c ∈ sgs, num (inv c) = num c ^^^ 1 := by decide +kernel
theorem stk_mem {l : List Nat} {x : Nat} (h : x ∈ stk [] l) : x ∈ l := mem_red (show x ∈ red l from List.mem_reverse.mpr h)
def spPlain : Sp := fun vs H Q _ => ∃ l, vs = [.str (W l)] ∧ Sg l ∧ l.length ≤ 200000 ∧ ∀ H', Same H H' → Q (.str (W (red l))) H'
theorem ok_plain (S : Src K mg "_law_plain" s_law_plain) (T : Txt P w K mg base c cF) (C_law_numbers : OkD P w K mg base 1 "_law_numbers" ["_law_word_here"] spNumbers) (C_law_text : OkD P w K mg base 1 "_law_text" ["_law_numbers_here"] spText) : OkD P w K mg base 2 "_law_plain" ["_law_word_here"] spPlain := by
  refine okd S (fun f fd F => F.ok sc_law_plain (fun vs H Q E h => ?_) (fun cdv A outer s H vs Q E hr h => ?_)) (fun _ _ _ _ _ _ us hl => match us, hl with | [_], _ => rfl)
  · obtain ⟨_, rfl, _⟩ := h
    rfl
  · obtain ⟨l, rfl, hS, hl, q⟩ := h
    refine ⟨_, ((pss_cons (ps_set (i := 1) sc_law_plain.nd rfl (.inl rfl) (pe_lst pa_nil))
      (pss_cons (ps_for PassesOwn.never rfl (pi_list (pe_callO C_law_numbers (hr.mono (by decide)) (by rfl) (pa_cons (pv 0) pa_nil))) (pg_name (i := 2) sc_law_plain.nd rfl (.inl rfl)) (pss_one (ps_if (PW.pt (pw_and (pt_cmpR (op_neDK K rfl hr.units) (pv 1) (pe_lst pa_nil) (nomark _)) (pw_and1 (pt_cmpR op_eq (pe_ix ix_lM (pv 1) (pe_op op_sub (pe_callB call_lenM (by rfl) T.n_len PySem.boot_len (pa_cons (pv 1) pa_nil)) pe_int) (fun _ _ => rfl)) (pe_op op_xor (pv 2) pe_int) (nomark _))))) (pss_one (ps_expr (pe_bm0 PySem.F.plainAttrs_list PySem.F.slot_list_pop PySem.F.type_list_pop mt_pop (pv 1)))) (pss_one (ps_expr (pe_bm PySem.F.plainAttrs_list PySem.F.slot_list_append PySem.F.type_list_append mt_append (pv 1) (pa_cons (pv 2) pa_nil)))))))
      (pss_one (ps_ret (pe_callO C_law_text (hr.mono (by decide)) (by rfl) (pa_cons (pv 1) pa_nil))))))), ?_⟩
    walk_at "rd"
    have hz := sizeLine_eq
    refine ⟨Nat.zero_le _, fun p np => ⟨l, rfl, hS, hl, fun a H1 s1 na ha => ⟨a, rfl, ⟨_, SqL.of ha⟩, ?_⟩⟩⟩
    have nap : a ≠ p := (ne_none upd_same na).symm
    have hp1 : H1 p = some (.lst []) := s1 _ _ upd_same
    refine loop_list (xs := (l.map num).map fun n => V.int ((n : Nat) : Int)) (fun i σ H' => ∃ v, σ = [some (.str (W l)), some (.ref p), v] ∧ NumsAt H' p ((stk [] (l.take i)).reverse.map num) ∧ But p H1 H') ⟨none, rfl, hp1, .refl _⟩ (fun i σ H' hi ⟨_, _, _, b⟩ => SqL.of (b _ _ nap ha)) ?_ ?_
    · rintro i x σ H' hi ⟨v, rfl, hp, bt⟩
      rw [List.getElem?_map, List.getElem?_map] at hi
      obtain ⟨ch, hi', rfl⟩ : ∃ ch, l[i]? = some ch ∧ V.int ((num ch : Nat) : Int) = x := by
        cases e : l[i]? with
        | none => rw [e] at hi; cases hi
        | some ch => rw [e] at hi; cases hi; exact ⟨ch, rfl, rfl⟩
      have hc : ch ∈ sgs := hS ch (List.mem_of_getElem? hi')
      walk_at "rd"
      have hlen : (stk [] (List.take i l)).length ≤ 200000 := by
        have h1 := len_stk (List.take i l) []
        have h2 : (List.take i l).length ≤ l.length := by rw [List.length_take]; omega
        simp only [List.length_nil, Nat.zero_add] at h1
        omega
      have hstep : stk [] (List.take (i + 1) l) = MW.step (stk [] (List.take i l)) ch := by
        rw [List.take_add_one, hi', Option.toList_some, stk_append]
        rfl
      have hmem : ∀ x ∈ stk [] (List.take i l), x ∈ sgs := fun x hx => hS x (List.mem_of_mem_take (stk_mem hx))
      rw [hstep]
      generalize stk [] (List.take i l) = st at hlen hmem hp
      refine ⟨Nat.zero_le _, fun p1 np1 => ne_nil (ns := st.reverse.map num) (same_upd np1 _ _ hp) upd_same ⟨_, rfl, ?_⟩⟩
      have hp' : NumsAt (upd H' p1 (.lst [])) p (st.reverse.map num) := same_upd np1 _ _ hp
      have bt' : But p H1 (upd H' p1 (.lst [])) := bt.trans (.of (same_upd np1))
      generalize upd H' p1 (.lst []) = F at hp' bt' ⊢
      cases st with
      | nil =>
        rw [if_neg (by simp)]
        exact ⟨.inl ⟨rfl, _, .inl (.inl hp')⟩, _, hp', by show 0 < _; omega, ⟨_, rfl⟩, upd_same, bt'.trans .set⟩
      | cons t r =>
        rw [if_pos (by simp)]
        have e : ((t :: r).reverse.map num).map (fun n => V.int ((n : Nat) : Int)) = (r.reverse.map num).map (fun n => V.int ((n : Nat) : Int)) ++ [V.int ((num t : Nat) : Int)] := by simp
        have hp2 : F p = some (.lst ((r.reverse.map num).map (fun n => V.int ((n : Nat) : Int)) ++ [V.int ((num t : Nat) : Int)])) := by rw [← e]; exact hp'
        refine ⟨_, hp2, _, hp2, V.int ((num t : Nat) : Int), ?_, rfl, ?_⟩
        · rw [List.length_append, show ((((r.reverse.map num).map fun n => V.int ((n : Nat) : Int)).length + [V.int ((num t : Nat) : Int)].length : Nat) : Int) - 1 = ((((r.reverse.map num).map fun n => V.int ((n : Nat) : Int)).length : Nat) : Int) by simp]
          exact atI_nat (by simp)
        · rw [(bx _ (num_lt ch hc)).1]
          have hin := inv_num ch hc t (hmem t List.mem_cons_self)
          simp only [MW.step]
          by_cases h6 : t = inv ch
          · rw [if_pos (by rw [show num t = num ch ^^^ 1 from hin.mp h6]), if_pos h6]
            refine ⟨.inl ⟨rfl, _, .inl (.inl hp2)⟩, _, hp2, ⟨_, by rw [List.length_append]; exact List.getElem?_concat_length⟩, ⟨_, rfl⟩, ?_, bt'.trans .set⟩
            unfold NumsAt
            rw [upd_same, List.dropLast_concat]
          · rw [if_neg (fun z => h6 (hin.mpr (by have := V.int.inj z; omega))), if_neg h6]
            refine ⟨.inl ⟨rfl, _, .inl (.inl hp2)⟩, _, hp2, ?_, ⟨_, rfl⟩, ?_, bt'.trans .set⟩
            · simp only [List.length_append, List.length_map, List.length_reverse, List.length_cons, List.length_nil] at hlen ⊢
              omega
            · unfold NumsAt
              rw [upd_same]
              simp
    · rintro σ H' ⟨v, rfl, hp, bt⟩
      walk_at "rd"
      rw [List.length_map, List.length_map, List.take_length] at hp
      have sA : Same H H' := fun b o e => bt b o (ne_none e np) (s1 _ _ (same_upd np _ _ e))
      have hR : Sg (red l) := hS.red
      have lr := len_red l
      refine ⟨p, (red l).map num, rfl, hp, fun n hn => ?_, by rw [List.length_map]; omega, fun H2 s2 => ?_⟩
      · obtain ⟨x, hx, rfl⟩ := List.mem_map.mp hn
        exact num_lt x (hR x hx)
      · rw [sg_nums _ hR]
        exact q _ (sA.trans s2)
def spOther : Sp := fun vs H Q _ => ∃ l, vs = [.str (W l)] ∧ Sg l ∧ l.length ≤ 200000 ∧ ∀ H', Same H H' → Q (.str (W (opp l))) H'
theorem ok_other (S : Src K mg "_law_opposite" s_law_opposite) (T : Txt P w K mg base c cF) (C_law_numbers : OkD P w K mg base 1 "_law_numbers" ["_law_word_here"] spNumbers) (C_law_text : OkD P w K mg base 1 "_law_text" ["_law_numbers_here"] spText) : OkD P w K mg base 2 "_law_opposite" ["_law_word_here"] spOther := by
  refine okd S (fun f fd F => F.ok sc_law_opposite (fun vs H Q E h => ?_) (fun cdv A outer s H vs Q E hr h => ?_)) (fun _ _ _ _ _ _ us hl => match us, hl with | [_], _ => rfl)
  · obtain ⟨_, rfl, _⟩ := h
    rfl
  · obtain ⟨l, rfl, hS, hl, q⟩ := h
    refine ⟨_, ((pss_one (ps_ret (pe_callO C_law_text (hr.mono (by decide)) (by rfl) (pa_cons (pe_lc (own := [("_law_number", 1)]) (g := gName 1) (tt := tYes) (by rfl) sc_law_opposite.nd (pi_list (pe_revL (pe_callO C_law_numbers (hr.mono (by decide)) (by rfl) (pa_cons (pv 0) pa_nil)))) (blkOk_by (own := [("_law_number", 1)]) (N := ["_law_word_here", "_law_number"]) (sc := defScope s_law_opposite) (by decide +kernel)) (fun _ _ _ _ _ => pg_name (i := 1) sc_law_opposite.nd rfl (Or.inl rfl)) (fun _ _ _ _ _ => pts_nil) (fun _ _ _ _ _ => (pe_op op_xor (pv 1) pe_int))) pa_nil))))), ?_⟩
    walk_at "rd"
    have hz := sizeLine_eq
    refine ⟨l, rfl, hS, hl, fun a H1 s1 na ha => ⟨a, rfl, _, SqL.of ha, fun p np => ⟨⟨_, SqL.of upd_same⟩, ?_⟩⟩⟩
    have e : ((l.map num).map fun n => V.int ((n : Nat) : Int)).reverse = l.reverse.map fun c => V.int ((num c : Nat) : Int) := by rw [List.map_map, ← List.map_reverse]; rfl
    rw [e]
    refine comp_list (xs := l.reverse.map fun c => V.int ((num c : Nat) : Int)) (fun D i H' => Same (upd H1 p (.lst (l.reverse.map fun c => V.int ((num c : Nat) : Int)))) H' ∧ H' D = some (.lst ((l.reverse.take i).map fun c => V.int ((num (inv c) : Nat) : Int)))) (fun D nD => ⟨same_upd nD, upd_same⟩) (fun D i H' nD hi ⟨s', _⟩ => SqL.of (s' _ _ upd_same)) ?_ ?_
    · rintro D i x H' nD hi ⟨s', hD⟩
      rw [List.getElem?_map] at hi
      obtain ⟨c', hc', rfl⟩ := Option.map_eq_some_iff.mp hi
      have hc := hS c' (List.mem_reverse.mp (List.mem_of_getElem? hc'))
      walk_at "rd"
      refine ⟨_, hD, by rw [List.length_map, List.length_take, List.length_reverse]; omega, same_over s' nD, ?_⟩
      rw [take_step hc', List.map_append, (bx _ (num_lt c' hc)).1, ← num_inv c' hc]
      rfl
    · rintro D H' nD ⟨s', hD⟩
      rw [List.length_map, List.take_length] at hD
      have sA := s1.trans ((same_upd np).trans s')
      refine ⟨D, (opp l).map num, rfl, ?_, fun n hn => ?_, by rw [List.length_map]; unfold opp; rw [List.length_reverse, List.length_map]; omega, fun H2 s2 => ?_⟩
      · unfold NumsAt
        rw [hD]
        unfold opp
        rw [← List.map_reverse, List.map_map, List.map_map]
        rfl
      · obtain ⟨x, hx, rfl⟩ := List.mem_map.mp hn
        exact num_lt x (hS.opp x hx)
      · rw [sg_nums _ hS.opp]
        exact q _ (sA.trans s2)
end
end K16

namespace K16
open PySem PySem.Spec PyProof.Rows L2 G1 MW
abbrev s_law_loose : Stmt := topS 41
theorem sc_law_loose : FnScope ["_law_generator_here", "_law_many", "_law_word_here", "_law_at", "_law_sign"] ["_law_generator_here", "_law_many", "_law_word_here"] (defScope s_law_loose) := ⟨rfl, rfl, rfl, by decide +kernel, rfl, by decide +kernel, by decide +kernel⟩
abbrev s_law_words : Stmt := topS 43
theorem sc_law_words : FnScope ["_law_generator_here", "_law_many", "_law_size", "_law_most", "_law_found", "_law_turn"] ["_law_generator_here", "_law_many", "_law_size", "_law_most"] (defScope s_law_words) := ⟨rfl, rfl, rfl, by decide +kernel, rfl, by decide +kernel, by decide +kernel⟩
local macro_rules | `(tactic| walk_at "rd") => `(tactic| simp only [L2.tPar3, L2.tSeq, L2.tAug, L2.tTup, G1.tCallK3b, G1.tMt, G1.tMinK, G1.rIsTu, L2.rIxT, G1.rTr, G1.rLtD, if_true, if_false, L2.rNotB, L2.rMax, L2.iRng2,L2.rIn, L2.tDNewK,  G1.iEnumS, L2.tDGet, L2.gTup, L2.gCons, L2.gNil, L2.tPar, L2.rIxS, G1.tRepU, L2.rSlS, L2.iStr, L2.tNotV, G1.rIsV, G1.mk_int, G1.mk_bool, G1.mk_str, G1.mk_list, G1.tCallX, V.ty.injEq, L2.tChain, L2.rIsB, G1.tRevS, L2.tM0, L2.tM1, L2.tCallS, G1.tCallK2, G1.tMkR, L2.rAll, L2.rPop, L2.tBM0, L2.tRevL, L2.tAsg, L2.tOp, L2.rI, L2.rI0, L2.tVar, L2.tC, L2.tCB, L2.tCons, L2.tNil, L2.tRet, L2.gName, L2.start, L2.tIf, L2.tIfS, L2.tTest, L2.tNext, L2.rIxL, L2.tSl, L2.rSlL, L2.tNoPart, L2.tPart, L2.tLst, L2.tTup, L2.rSum, L2.tBits, L2.gSub, L2.rSetL, L2.rCat, L2.tDrop, L2.tBM, L2.tBM0, L2.rAppend, L2.tYes, L2.tB, L2.tAnd, L2.tOr, L2.tNot, L2.tAndV, L2.tOrV, G1.tCallO, G1.tXm, G1.tXn, G1.tXv, HO.lst.injEq, HO.tup.injEq, Nat.reduceAdd, Nat.zero_add, List.set_cons_zero, List.set_cons_succ, G1.tFor_eq, G1.tLc_eq, G1.rIxM, G1.rLenM, G1.rSlM, G1.atI_0, G1.atI_1, G1.atI_2, G1.ixN_0, G1.ixN_2, L2.upd_same, L2.upd_upd, and_assoc, L2.iRng1, L2.iList, L2.tUn, L2.rU, G1.rRepS, L2.wipe, List.foldl, L2.rEq, L2.rNe, List.map, List.replicate, List.length, List.append, List.set, List.getElem?_cons_zero, List.getElem?_cons_succ, List.cons_append, List.nil_append, Option.some.injEq, V.int.injEq, V.bl.injEq, V.ref.injEq, V.str.injEq, List.cons.injEq, reduceCtorEq, false_and, and_false, exists_false, or_false, false_or, exists_and_left, exists_and_right, exists_eq_left', exists_eq_left, true_and, and_true, Nat.sub_self, decide_eq_true_eq])
section
variable {P : Program} {w : World} {K : PySem.W.Frag} {mg : Str → Option Value} {base : Heap} {c : Nat → Addr} {cF : Addr}
theorem cutS_lo {l : List Nat} {k : Nat} (h : k ≤ l.length) : cutS (W l) none (some (k : Int)) = W (l.take k) := by
  rw [cut_W]
  have e1 : HT.sIx l.length l.length (some (k : Int)) = k := by
    unfold HT.sIx
    simp
    rw [if_neg (by omega)]
    omega
  have e2 : HT.sIx l.length 0 none = 0 := rfl
  rw [e1, e2]
  simp
theorem cutS_hi {l : List Nat} {k : Nat} (h : k ≤ l.length) : cutS (W l) (some (k : Int)) none = W (l.drop k) := by
  rw [cut_W]
  have e1 : HT.sIx l.length 0 (some (k : Int)) = k := by
    unfold HT.sIx
    simp
    rw [if_neg (by omega)]
    omega
  have e2 : HT.sIx l.length l.length none = l.length := rfl
  rw [e1, e2, List.take_of_length_le (by rw [List.length_drop]; exact Nat.le_refl _)]
theorem GenOk.ne {H : Hp} {g p : Addr} {Z : Int} (h : GenOk H g Z) (n : H p = none) : p ≠ g := fun e => by
  obtain ⟨_, _, _, h1, _⟩ := h
  subst e
  unfold GenAt at h1
  rw [n] at h1
  cases h1
theorem GenOk.set {H : Hp} {g p : Addr} {o : HO} {Z : Int} (h : GenOk H g Z) (n : p ≠ g) : GenOk (upd H p o) g Z := by
  obtain ⟨x, y, z, h1, h2⟩ := h
  exact ⟨x, y, z, by unfold GenAt; rw [upd_ne (Ne.symm n)]; exact h1, h2⟩
theorem But.free {g D : Addr} {H H1 : Hp} (b : But g H H1) (n : H1 D = none) (ne : D ≠ g) : H D = none := by
  cases e : H D with
  | none => rfl
  | some o =>
    rw [b D o ne e] at n
    cases n
theorem inv_take {m : Int} (h1 : 1 ≤ m) (h2 : m ≤ 6) : ∀ ch ∈ sgs.take (2 * m).toNat, inv ch ∈ sgs.take (2 * m).toNat := by
  have : m = 1 ∨ m = 2 ∨ m = 3 ∨ m = 4 ∨ m = 5 ∨ m = 6 := by omega
  rcases this with rfl | rfl | rfl | rfl | rfl | rfl <;> decide +kernel
theorem sm_opp {m : Int} {l : List Nat} (h1 : 1 ≤ m) (h2 : m ≤ 6) (h : Sm m l) : Sm m (opp l) := by
  intro ch hc
  unfold MW.opp at hc
  obtain ⟨d, hd, rfl⟩ := List.mem_map.mp (List.mem_reverse.mp hc)
  exact inv_take h1 h2 d (h d hd)
def spLoose : Sp := fun vs H Q _ => ∃ g m l Z, vs = [.ref g, .int m, .str (W l)] ∧ 1 ≤ m ∧ m ≤ 6 ∧ Sm m l ∧ l.length ≤ 20000 ∧ GenOk H g Z ∧ Z + 5000 ≤ 100000000 ∧
  ∀ l' H', Sm m l' → l'.length = l.length + 2 → red l' = red l → But g H H' → GenOk H' g (Z + 600) → Q (.str (W l')) H'
theorem ok_loose (S : Src K mg "_law_loose" s_law_loose) (T : Txt P w K mg base c cF) (C_law_random : OkD P w K mg base 2 "_law_random" ["_law_generator_here", "_law_bound"] spRandom) (C_law_text : OkD P w K mg base 1 "_law_text" ["_law_numbers_here"] spText) : OkD P w K mg base 3 "_law_loose" ["_law_generator_here", "_law_many", "_law_word_here"] spLoose := by
  refine okd S (fun f fd F => F.ok sc_law_loose (fun vs H Q E h => ?_) (fun cdv A outer s H vs Q E hr h => ?_)) (fun _ _ _ _ _ _ us hl => match us, hl with | [_, _, _], _ => rfl)
  · obtain ⟨_, _, _, _, rfl, _⟩ := h
    rfl
  · obtain ⟨g, m, l, Z, rfl, h1, h2, hS, hl, hg, hZ, q⟩ := h
    refine ⟨_, ((pss_cons (ps_par (i := 3) (j := 4) (by rfl) sc_law_loose.nd rfl rfl (by decide) rfl rfl (pa_cons (pe_callO C_law_random (hr.mono (by decide)) (by rfl) (pa_cons (pv 0) (pa_cons (pe_op op_add (pe_callB call_len_str (by rfl) T.n_len PySem.boot_len (pa_cons (pv 2) pa_nil)) pe_int) pa_nil))) (pa_cons (pe_callO C_law_random (hr.mono (by decide)) (by rfl) (pa_cons (pv 0) (pa_cons (pe_op op_mulW pe_int (pv 1)) pa_nil))) pa_nil)) (by rfl))
      (pss_one (ps_ret (pe_op op_add_str (pe_op op_add_str (pe_slice sl_str (pv 2) po_none (po_some (pv 3))) (pe_callO C_law_text (hr.mono (by decide)) (by rfl) (pa_cons (pe_lst (pa_cons (pv 4) (pa_cons (pe_op op_xor (pv 4) pe_int) pa_nil))) pa_nil))) (pe_slice sl_str (pv 2) (po_some (pv 3)) po_none)))))), ?_⟩
    walk_at "rd"
    have hz := sizeLine_eq
    refine ⟨by rw [W_len]; omega, ?_⟩
    rw [W_len]
    refine draw hg (by omega) (by omega) (by omega) fun a H2 a0 a1 bt2 gk2 => ?_
    refine ⟨cmul (by decide) (by omega), draw gk2 (by omega) (by omega) (by omega) fun s H3 s0 s1 bt3 gk3 => ?_⟩
    obtain ⟨an, rfl⟩ := Int.eq_ofNat_of_zero_le a0
    obtain ⟨sn, rfl⟩ := Int.eq_ofNat_of_zero_le s0
    obtain ⟨mn, rfl⟩ := Int.eq_ofNat_of_zero_le (show 0 ≤ m by omega)
    have han : an ≤ l.length := by omega
    have hsn : sn < 2 * mn := by omega
    have hsx := bx2 mn (by omega) sn hsn
    obtain ⟨b1, b2, b3⟩ := bx sn (by omega)
    refine ⟨_, rfl, by omega, _, rfl, by omega, fun p np => ⟨p, [sn, sn ^^^ 1], rfl, ?_, ?_, (by show 2 ≤ 200000; decide), fun H4 s4 => ⟨_, rfl, ?_, _, rfl, by omega, ?_, ?_⟩⟩⟩
    · show upd H3 p _ p = _
      rw [upd_same, b1]
      rfl
    · intro n hn
      rcases List.mem_cons.mp hn with rfl | hn
      · omega
      · rw [List.mem_singleton.mp hn]
        exact b2
    · rw [cutS_lo han, W_len, W_len, List.length_take]
      simp only [List.map_cons, List.map_nil, List.length_cons, List.length_nil]
      omega
    · rw [cutS_lo han, cat_W, W_len, cutS_hi han, W_len, List.length_append, List.length_take, List.length_drop]
      simp only [List.map_cons, List.map_nil, List.length_cons, List.length_nil]
      omega
    · rw [cutS_lo han, cutS_hi han, cat_W, cat_W]
      simp only [List.map_cons, List.map_nil, b3]
      refine q _ H4 ?_ ?_ ?_ ((bt2.trans bt3).trans ((But.of (same_upd np)).trans (.of s4))) (((gk3.but (same_upd np)).but s4).le (by omega))
      · intro ch hc
        rcases List.mem_append.mp hc with hc | hc
        · rcases List.mem_append.mp hc with hc | hc
          · exact hS ch (List.mem_of_mem_take hc)
          · rcases List.mem_cons.mp hc with rfl | hc
            · exact sg_mem (by omega) (by omega)
            · rw [List.mem_singleton.mp hc, ← b3]
              exact sg_mem (by omega) (by omega)
        · exact hS ch (List.mem_of_mem_drop hc)
      · simp only [List.length_append, List.length_take, List.length_drop, List.length_cons, List.length_nil]
        omega
      · have := red_pair (l.take an) (l.drop an) (sg sn)
        rw [List.take_append_drop] at this
        rw [← this, List.append_assoc]
        rfl
theorem strOk_W {l : List Nat} (h : Sg l) : PyData.strOk (W l) = true := by
  have hs : ∀ c ∈ sgs, c < 1114112 := by decide
  show (l.toArray).all (fun x => decide (x < 1114112)) = true
  simp only [List.all_toArray, List.all_eq_true, decide_eq_true_eq]
  exact fun c hc => hs c (h c hc)
theorem strs_lay : ∀ ls : List (List Nat), (∀ l ∈ ls, Sg l) → PyData.canLayAll0 (ls.map fun l => PyData.str (W l)) = true ∧ PyData.depthAll (ls.map fun l => PyData.str (W l)) = 0
  | [], _ => ⟨rfl, rfl⟩
  | l :: ls, h => by
    obtain ⟨h1, h2⟩ := strs_lay ls fun x hx => h x (List.mem_cons_of_mem _ hx)
    refine ⟨?_, ?_⟩
    · rw [List.map_cons, PyData.canLayAll0, PyData.canLay0, h1, strOk_W (h l List.mem_cons_self)]
      rfl
    · rw [List.map_cons, PyData.depthAll, PyData.depth, h2]
      rfl
theorem strs_shaped (ls : List (List Nat)) (h : ∀ l ∈ ls, Sg l) : SeqAt.shaped (.list (ls.map fun l => PyData.str (W l))) = true := by
  obtain ⟨h1, h2⟩ := strs_lay ls h
  unfold SeqAt.shaped
  rw [PyData.canLay0, PyData.depth, h1, h2]
  rfl
theorem dp_strs {H : Hp} : ∀ ls : List (List Nat), DpAll K H (ls.map fun l => V.str (W l)) (ls.map fun l => PyData.str (W l))
  | [] => .nil
  | l :: ls => .cons (.str _) (dp_strs ls)
theorem ne_nilW {H : Hp} {a p : Addr} {ls : List (List Nat)} {Q : VK} (ha : WsAt H a ls) (hs : ∀ l ∈ ls, Sg l) (hp : H p = some (.lst [])) (k : Q (.bl (!decide (ls = []))) H) : rNeD K (.ref a) (.ref p) H Q := by
  refine ⟨_, _, .lst (SqL.of ha) (dp_strs ls), .lst (SqL.of hp) .nil, strs_shaped ls hs, rfl, ?_⟩
  cases ls with
  | nil => exact k
  | cons n ns => exact k
def spWords : Sp := fun vs H Q _ => ∃ (g : Addr) (m n k Z : Int), vs = [.ref g, .int m, .int n, .int k] ∧ 1 ≤ m ∧ m ≤ 6 ∧ 0 ≤ n ∧ n ≤ 11 ∧ 0 ≤ k ∧ k ≤ 30 ∧ GenOk H g Z ∧ Z + 200000 ≤ 100000000 ∧
  ∀ a ws H', H a = none → WsAt H' a ws → (ws.length : Int) ≤ n + 1 → (∀ l ∈ ws, Sm m l ∧ (l.length : Int) ≤ 6 * k) → But g H H' → GenOk H' g (Z + 150000) → Q (.ref a) H'
theorem ok_words (S : Src K mg "_law_words" s_law_words) (T : Txt P w K mg base c cF) (C_law_random : OkD P w K mg base 2 "_law_random" ["_law_generator_here", "_law_bound"] spRandom) (C_law_word : OkD P w K mg base 3 "_law_word" ["_law_generator_here", "_law_many", "_law_most"] (spWord K)) (C_law_plain : OkD P w K mg base 2 "_law_plain" ["_law_word_here"] spPlain) (C_law_opposite : OkD P w K mg base 2 "_law_opposite" ["_law_word_here"] spOther) : OkD P w K mg base 4 "_law_words" ["_law_generator_here", "_law_many", "_law_size", "_law_most"] spWords := by
  refine okd S (fun f fd F => F.ok sc_law_words (fun vs H Q E h => ?_) (fun cdv A outer s H vs Q E hr h => ?_)) (fun _ _ _ _ _ _ us hl => match us, hl with | [_, _, _, _], _ => rfl)
  · obtain ⟨_, _, _, _, _, rfl, _⟩ := h
    rfl
  · obtain ⟨g, m, n, k, Z, rfl, h1, h2, n0, n1, k0, k1, hg, hZ, q⟩ := h
    refine ⟨_, ((pss_cons (ps_setLc (i := 4) (own := [("_law_turn", 5)]) (g := gName 5) (tt := tYes) (by rfl) sc_law_words.nd rfl rfl (sw_true rfl rfl rfl (by decide +kernel)) (pi_range1 (by rfl) T.n_range (pa_cons (pe_callO C_law_random (hr.mono (by decide)) (by rfl) (pa_cons (pv 0) (pa_cons (pe_op op_add (pv 2) pe_int) pa_nil))) pa_nil)) (blkOk_by (own := [("_law_turn", 5)]) (N := ["_law_generator_here", "_law_many", "_law_size", "_law_most", "_law_found", "_law_turn"]) (sc := defScope s_law_words) (by decide +kernel)) (fun _ _ _ _ _ => pg_name (i := 5) sc_law_words.nd rfl (Or.inl rfl)) (fun _ _ _ _ _ => pts_nil) (fun _ _ _ _ _ => (pe_callO C_law_word (hr.mono (by decide)) (by rfl) (pa_cons (pv 0) (pa_cons (pv 1) (pa_cons (pv 3) pa_nil))))))
      (pss_cons (ps_if (PW.pt (pw_and (pt_cmpR op_gt (pe_callB call_lenM (by rfl) T.n_len PySem.boot_len (pa_cons (pv 4) pa_nil)) pe_int (nomark _)) (pw_and1 (pt_cmpR op_eq (pe_callO C_law_random (hr.mono (by decide)) (by rfl) (pa_cons (pv 0) (pa_cons pe_int pa_nil))) pe_int (nomark _))))) (pss_one (ps_asg (pe_callO C_law_plain (hr.mono (by decide)) (by rfl) (pa_cons (pe_op op_add_str (pe_ix ix_lM (pv 4) pe_int (fun _ _ => rfl)) (pe_ix ix_lM (pv 4) pe_int (fun _ _ => rfl))) pa_nil)) (pg_sub (pv 4) pe_int set_list))) pss_nil)
      (pss_cons (ps_if (PW.pt (pw_and (pt_cmpR (op_neDK K rfl hr.units) (pv 4) (pe_lst pa_nil) (nomark _)) (pw_and1 (pt_cmpR op_eq (pe_callO C_law_random (hr.mono (by decide)) (by rfl) (pa_cons (pv 0) (pa_cons pe_int pa_nil))) pe_int (nomark _))))) (pss_one (ps_expr (pe_bm PySem.F.plainAttrs_list PySem.F.slot_list_append PySem.F.type_list_append mt_append (pv 4) (pa_cons (pe_callO C_law_plain (hr.mono (by decide)) (by rfl) (pa_cons (pe_op op_add_str (pe_op op_add_str (pe_callO C_law_opposite (hr.mono (by decide)) (by rfl) (pa_cons (pe_ix ix_lM (pv 4) pe_int (fun _ _ => rfl)) pa_nil)) (pe_ix ix_lM (pv 4) (pe_op op_sub (pe_callB call_lenM (by rfl) T.n_len PySem.boot_len (pa_cons (pv 4) pa_nil)) pe_int) (fun _ _ => rfl))) (pe_ix ix_lM (pv 4) pe_int (fun _ _ => rfl))) pa_nil)) pa_nil)))) pss_nil)
      (pss_one (ps_ret (pv 4))))))), ?_⟩
    walk_at "rd"
    have hz := sizeLine_eq
    refine draw hg (by omega) (by omega) (by omega) fun d H1 d0 d1 bt gk => ?_
    refine ⟨d, rfl, by omega, by omega, ?_⟩
    refine comp_range (n := d.toNat) (fun D i H' => ∃ ls : List (List Nat), ls.length = i ∧ WsAt H' D ls ∧ (∀ l ∈ ls, Sm m l ∧ (l.length : Int) ≤ k) ∧ But g H1 H' ∧ GenOk H' g (Z + 300 + 10000 * i)) (fun D nD => ⟨[], rfl, upd_same, fun _ z => (nomatch z), .of (same_upd nD), (gk.but (same_upd nD)).le (by omega)⟩) ?_ ?_
    · rintro D i H' nD hi ⟨ls, hls, hD, hg', bt', gk'⟩
      walk_at "rd"
      have nDg : D ≠ g := GenOk.ne gk nD
      refine ⟨g, m, k, _, rfl, h1, h2, k0, by omega, gk', by omega, fun l H7 hSl hll bt7 gk7 => ⟨_, bt7 _ _ nDg hD, by rw [List.length_map]; omega, ?_⟩⟩
      refine ⟨ls ++ [l], by rw [List.length_append, hls]; rfl, by unfold WsAt; rw [upd_same, List.map_append]; rfl, fun l' hl' => ?_, fun b o nb e => by rw [upd_ne (ne_none e nD)]; exact bt7 _ _ nb (bt' _ _ nb e), GenOk.le (Z := Z + 300 + 10000 * i + 300 * (k + 1)) (gk7.set nDg) (by omega)⟩
      rcases List.mem_append.mp hl' with h | h
      · exact hg' l' h
      · rw [List.mem_singleton.mp h]
        exact ⟨hSl, hll⟩
    · rintro D H2 nD ⟨ls, hls, hD, hg', bt', gk'⟩
      have nDg : D ≠ g := GenOk.ne gk nD
      have hxl : (ls.map fun l => V.str (W l)).length = ls.length := List.length_map ..
      have fD : H D = none := (bt.free nD nDg)
      have tail : ∀ (F : Hp) (ls : List (List Nat)), WsAt F D ls → (∀ l ∈ ls, Sm m l ∧ (l.length : Int) ≤ 2 * k) → (ls.length : Int) ≤ n → But g H F → GenOk F g (Z + 130000) → 0 ≤ sizeLine ∧ ∀ p, F p = none → rNeD K (V.ref D) (V.ref p) (upd F p (HO.lst [])) fun x H' => ∃ k, x = V.bl k ∧ if k = true then spRandom [V.ref g, V.int 4] H' (fun x H1 => scal x (V.int 0) = true ∧ if x = V.int 0 then tyV K "list" (V.ref D) H1 ∧ ∃ p, V.ref D = V.ref p ∧ ∃ x, H1 p = some (HO.lst x) ∧ ∃ x_1, atI x 0 = some x_1 ∧ spOther [x_1] H1 (fun x H1 => ∃ p, V.ref D = V.ref p ∧ ∃ x_2, H1 p = some (HO.lst x_2) ∧ ∃ p, V.ref D = V.ref p ∧ ∃ x_3, H1 p = some (HO.lst x_3) ∧ ∃ x_4, atI x_3 (↑x_2.length - 1) = some x_4 ∧ ∃ i, x = V.str i ∧ ∃ x, x_4 = V.str x ∧ i.length + x.length ≤ sizeLine ∧ ∃ p, V.ref D = V.ref p ∧ ∃ x_5, H1 p = some (HO.lst x_5) ∧ ∃ x_6, atI x_5 0 = some x_6 ∧ ∃ x_7, x_6 = V.str x_7 ∧ (i ++ x).length + x_7.length ≤ sizeLine ∧ spPlain [V.str (i ++ x ++ x_7)] H1 (fun x H1 => ∃ l, V.ref D = V.ref l ∧ ∃ x_8, H1 l = some (HO.lst x_8) ∧ x_8.length < sizeLine ∧ Q (V.ref D) (upd H1 l (HO.lst (x_8 ++ [x])))) fun x x_8 x_9 => False) fun x x_2 x_3 => False else Q (V.ref D) H1) fun x x_1 x_2 => False else Q (V.ref D) H' := by
        intro F ls hF hg2 hl2 btF gkF
        refine ⟨Nat.zero_le _, fun p np => ne_nilW (same_upd np _ _ hF) (fun l hl => (hg2 l hl).1.sg) upd_same ⟨_, rfl, ?_⟩⟩
        have hF' : WsAt (upd F p (.lst [])) D ls := same_upd np _ _ hF
        have btF' : But g H (upd F p (.lst [])) := btF.trans (.of (same_upd np))
        have gkF' : GenOk (upd F p (.lst [])) g (Z + 130000) := gkF.but (same_upd np)
        generalize upd F p (.lst []) = F1 at hF' btF' gkF' ⊢
        have hxl : (ls.map fun l => V.str (W l)).length = ls.length := List.length_map ..
        have big : ∀ l ∈ ls, Sm m l ∧ (l.length : Int) ≤ 6 * k := fun l hl => ⟨(hg2 l hl).1, by have := (hg2 l hl).2; omega⟩
        by_cases hn : ls = []
        · rw [if_neg (by simp [hn])]
          exact q D ls F1 fD hF' (by omega) big btF' (gkF'.le (by omega))
        · rw [if_pos (by simp [hn])]
          refine draw gkF' (by omega) (by decide) (by decide) fun r F2 r0 r1 bt2 gk2 => ⟨rfl, ?_⟩
          have hF2 : WsAt F2 D ls := bt2 _ _ nDg hF'
          by_cases hr : r = 0
          · subst hr
            rw [if_pos rfl]
            have hpos : 0 < ls.length := List.length_pos_iff.mpr hn
            obtain ⟨l0, hl0⟩ : ∃ l, ls[0]? = some l := ⟨_, List.getElem?_eq_getElem (h := hpos)⟩
            obtain ⟨lz, hlz⟩ : ∃ l, ls[ls.length - 1]? = some l := ⟨_, List.getElem?_eq_getElem (h := by omega)⟩
            have g0 := hg2 l0 (List.mem_of_getElem? hl0)
            have gz := hg2 lz (List.mem_of_getElem? hlz)
            have a0 : atI (ls.map fun l => V.str (W l)) 0 = some (V.str (W l0)) := atI_nat (j := 0) (by rw [List.getElem?_map, hl0]; rfl)
            have az : atI (ls.map fun l => V.str (W l)) (((ls.map fun l => V.str (W l)).length : Nat) - 1) = some (V.str (W lz)) := by
              rw [hxl, show ((ls.length : Nat) : Int) - 1 = ((ls.length - 1 : Nat) : Int) by omega]
              exact atI_nat (by rw [List.getElem?_map, hlz]; rfl)
            have lo : (opp l0).length = l0.length := by unfold opp; rw [List.length_reverse, List.length_map]
            have lrd := len_red (opp l0 ++ lz ++ l0)
            have lcat : (opp l0 ++ lz ++ l0).length = l0.length + lz.length + l0.length := by rw [List.length_append, List.length_append, lo]
            refine ⟨.inl ⟨rfl, _, .inl (.inl hF2)⟩, D, rfl, _, hF2, _, a0, l0, rfl, g0.1.sg, by omega, fun F3 s3 => ?_⟩
            have hF3 : WsAt F3 D ls := s3 _ _ hF2
            refine ⟨D, rfl, _, hF3, D, rfl, _, hF3, _, az, _, rfl, _, rfl, by rw [W_len, W_len]; omega, D, rfl, _, hF3, _, a0, _, rfl, by rw [cat_W, W_len, W_len, List.length_append]; omega, ?_⟩
            rw [cat_W, cat_W]
            refine ⟨opp l0 ++ lz ++ l0, rfl, ?_, by omega, fun F4 s4 => ?_⟩
            · intro ch hc
              rcases List.mem_append.mp hc with hc | hc
              · rcases List.mem_append.mp hc with hc | hc
                · exact g0.1.sg.opp ch hc
                · exact gz.1.sg ch hc
              · exact g0.1.sg ch hc
            · have hF4 : WsAt F4 D ls := s4 _ _ hF3
              have bt4 : But g H F4 := (btF'.trans bt2).trans (.of (s3.trans s4))
              refine ⟨D, rfl, _, hF4, by rw [hxl]; omega, ?_⟩
              refine q D (ls ++ [red (opp l0 ++ lz ++ l0)]) _ fD ?_ ?_ ?_ ?_ ?_
              · unfold WsAt
                rw [upd_same, List.map_append]
                rfl
              · rw [List.length_append]
                show ((ls.length + 1 : Nat) : Int) ≤ _
                omega
              · intro l hl
                rcases List.mem_append.mp hl with h | h
                · exact big l h
                · rw [List.mem_singleton.mp h]
                  refine ⟨fun ch hc => ?_, by omega⟩
                  rcases List.mem_append.mp (mem_red hc) with hc | hc
                  · rcases List.mem_append.mp hc with hc | hc
                    · exact sm_opp h1 h2 g0.1 ch hc
                    · exact gz.1 ch hc
                  · exact g0.1 ch hc
              · exact fun b o nb e => by rw [upd_ne (ne_none e fD)]; exact bt4 b o nb e
              · exact GenOk.le ((gk2.but (s3.trans s4)).set nDg) (by omega)
          · rw [if_neg (fun z => hr (V.int.inj z))]
            exact q D ls F2 fD hF2 (by omega) big (btF'.trans bt2) (gk2.le (by omega))
      have btH2 := bt.trans bt'
      have hdn : ls.length ≤ n := by omega
      refine ⟨D, rfl, _, hD, ?_⟩
      rw [hxl]
      by_cases h1l : 1 < ls.length
      · rw [if_pos (by omega)]
        refine draw gk' (by omega) (by decide) (by decide) fun r F2 r0 r1 bt2 gk2 => ⟨rfl, ?_⟩
        have hF2 : WsAt F2 D ls := bt2 _ _ nDg hD
        by_cases hr : r = 0
        · subst hr
          rw [if_pos rfl]
          obtain ⟨l0, hl0⟩ : ∃ l, ls[0]? = some l := ⟨_, List.getElem?_eq_getElem (h := by omega)⟩
          obtain ⟨l1, hl1⟩ : ∃ l, ls[1]? = some l := ⟨_, List.getElem?_eq_getElem (h := by omega)⟩
          have g0 := hg' l0 (List.mem_of_getElem? hl0)
          have g1 := hg' l1 (List.mem_of_getElem? hl1)
          have a0 : atI (ls.map fun l => V.str (W l)) 0 = some (V.str (W l0)) := atI_nat (j := 0) (by rw [List.getElem?_map, hl0]; rfl)
          have a1 : atI (ls.map fun l => V.str (W l)) 1 = some (V.str (W l1)) := atI_nat (j := 1) (by rw [List.getElem?_map, hl1]; rfl)
          have lrd := len_red (l1 ++ l0)
          rw [List.length_append] at lrd
          refine ⟨D, rfl, _, hF2, _, a1, D, rfl, _, hF2, _, a0, _, rfl, _, rfl, by rw [W_len, W_len]; omega, ?_⟩
          rw [cat_W]
          refine ⟨_, rfl, fun ch hc => (List.mem_append.mp hc).elim (g1.1.sg ch) (g0.1.sg ch), by rw [List.length_append]; omega, fun F3 s3 => ?_⟩
          have hF3 : WsAt F3 D ls := s3 _ _ hF2
          refine ⟨D, rfl, _, hF3, 0, ?_, ?_⟩
          · rw [hxl]
            unfold ixN
            rw [if_pos (by decide), if_pos (by omega)]
            rfl
          · have eset : (ls.map fun l => V.str (W l)).set 0 (V.str (W (red (l1 ++ l0)))) = (ls.set 0 (red (l1 ++ l0))).map fun l => V.str (W l) := by rw [List.map_set]
            rw [eset]
            refine tail _ (ls.set 0 (red (l1 ++ l0))) upd_same (fun l hl => ?_) (by rw [List.length_set]; exact hdn) (fun b o nb e => by rw [upd_ne (ne_none e fD)]; exact s3 _ _ (bt2 b o nb (btH2 b o nb e))) (GenOk.le ((gk2.but s3).set nDg) (by omega))
            rcases List.mem_or_eq_of_mem_set hl with h | h
            · exact ⟨(hg' l h).1, by have := (hg' l h).2; omega⟩
            · subst h
              exact ⟨fun ch hc => (List.mem_append.mp (mem_red hc)).elim (g1.1 ch) (g0.1 ch), by omega⟩
        · rw [if_neg (fun z => hr (V.int.inj z))]
          exact tail F2 ls hF2 (fun l hl => ⟨(hg' l hl).1, by have := (hg' l hl).2; omega⟩) hdn (btH2.trans bt2) (gk2.le (by omega))
      · rw [if_neg (by omega)]
        exact tail H2 ls hD (fun l hl => ⟨(hg' l hl).1, by have := (hg' l hl).2; omega⟩) hdn btH2 (gk'.le (by omega))
end
end K16

namespace K16
open PySem PySem.Spec PyProof.Rows L2 G1 MW
abbrev s_law_said : Stmt := topS 45
theorem sc_law_said : FnScope ["_law_words_here", "_law_paper_here", "_law_known", "_law_word_here", "_law_step", "_law_told", "_law_number", "_law_side"] ["_law_words_here", "_law_paper_here"] (defScope s_law_said) := ⟨rfl, rfl, rfl, by decide +kernel, rfl, by decide +kernel, by decide +kernel⟩
local macro_rules | `(tactic| walk_at "rd") => `(tactic| simp only [L2.tPar3, L2.tSeq, L2.tAug, L2.tTup, G1.tCallK3b, G1.tMt, G1.tMinK, G1.rIsTu, L2.rIxT, G1.rTr, G1.rLtD, if_true, if_false, L2.rNotB, L2.rMax, L2.iRng2,L2.rIn, L2.tDNewK,  G1.iEnumS, L2.tDGet, L2.gTup, L2.gCons, L2.gNil, L2.tPar, L2.rIxS, G1.tRepU, L2.rSlS, L2.iStr, L2.tNotV, G1.rIsV, G1.mk_int, G1.mk_bool, G1.mk_str, G1.mk_list, G1.tCallX, V.ty.injEq, L2.tChain, L2.rIsB, G1.tRevS, L2.tM0, L2.tM1, L2.tCallS, G1.tCallK2, G1.tMkR, L2.rAll, L2.rPop, L2.tBM0, L2.tRevL, L2.tAsg, L2.tOp, L2.rI, L2.rI0, L2.tVar, L2.tC, L2.tCB, L2.tCons, L2.tNil, L2.tRet, L2.gName, L2.start, L2.tIf, L2.tIfS, L2.tTest, L2.tNext, L2.rIxL, L2.tSl, L2.rSlL, L2.tNoPart, L2.tPart, L2.tLst, L2.tTup, L2.rSum, L2.tBits, L2.gSub, L2.rSetL, L2.rCat, L2.tDrop, L2.tBM, L2.tBM0, L2.rAppend, L2.tYes, L2.tB, L2.tAnd, L2.tOr, L2.tNot, L2.tAndV, L2.tOrV, G1.tCallO, G1.tXm, G1.tXn, G1.tXv, HO.lst.injEq, HO.tup.injEq, Nat.reduceAdd, Nat.zero_add, List.set_cons_zero, List.set_cons_succ, G1.tFor_eq, G1.tLc_eq, G1.rIxM, G1.rLenM, G1.rSlM, G1.atI_0, G1.atI_1, G1.atI_2, G1.ixN_0, G1.ixN_2, L2.upd_same, L2.upd_upd, and_assoc, L2.iRng1, L2.iList, L2.tUn, L2.rU, G1.rRepS, L2.wipe, List.foldl, L2.rEq, L2.rNe, List.map, List.replicate, List.length, List.append, List.set, List.getElem?_cons_zero, List.getElem?_cons_succ, List.cons_append, List.nil_append, Option.some.injEq, V.int.injEq, V.bl.injEq, V.ref.injEq, V.str.injEq, List.cons.injEq, reduceCtorEq, false_and, and_false, exists_false, or_false, false_or, exists_and_left, exists_and_right, exists_eq_left', exists_eq_left, true_and, and_true, Nat.sub_self, decide_eq_true_eq])
section
variable {P : Program} {w : World} {K : PySem.W.Frag} {mg : Str → Option Value} {base : Heap} {c : Nat → Addr} {cF : Addr}
/-- a paper as it stands: each step right where it stands -/
def Steps (n : Nat) (ds : List PyData) : Prop := ∀ i d, ds[i]? = some d → stepB ((n + i : Nat) : Int) d = true
def spLSaid (K : PySem.W.Frag) : Sp := fun vs H Q _ => ∃ (a a1 : Addr) (ds : List PyData) (ws : List (List Nat)), vs = [.ref a, .ref a1] ∧ WsAt H a ws ∧ (∀ l ∈ ws, Sg l ∧ l.length ≤ 1000) ∧ ws.length ≤ 1000 ∧ De K H (.ref a1) (.list ds) ∧ Steps ws.length ds ∧ ds.length ≤ 1000 ∧ ∀ x H', Same H H' → (saidD ws (.list ds) = none → x = .non) → (∀ rs, saidD ws (.list ds) = some rs → ∃ p, x = .ref p ∧ H p = none ∧ WsAt H' p rs) → Q x H'
theorem ok_lsaid (S : Src K mg "_law_said" s_law_said) (T : Txt P w K mg base c cF) (C_law_plain : OkD P w K mg base 2 "_law_plain" ["_law_word_here"] spPlain) (C_law_opposite : OkD P w K mg base 2 "_law_opposite" ["_law_word_here"] spOther) : OkD P w K mg base 3 "_law_said" ["_law_words_here", "_law_paper_here"] (spLSaid K) := by
  refine okd S (fun f fd F => F.ok sc_law_said (fun vs H Q E h => ?_) (fun cdv A outer s H vs Q E hr h => ?_)) (fun _ _ _ _ _ _ us hl => match us, hl with | [_, _], _ => rfl)
  · obtain ⟨_, _, _, _, rfl, _⟩ := h
    rfl
  · obtain ⟨a, a1, ds, ws, rfl, ha, hws, hwl, hd, hst, hdl, q⟩ := h
    refine ⟨_, ((pss_cons (ps_setLc (i := 2) (own := [("_law_word_here", 3)]) (g := gName 3) (tt := tYes) (by rfl) sc_law_said.nd rfl rfl (sw_true rfl rfl rfl (by decide +kernel)) (pi_list (pv 0)) (blkOk_by (own := [("_law_word_here", 3)]) (N := ["_law_words_here", "_law_paper_here", "_law_known", "_law_word_here", "_law_step", "_law_told", "_law_number", "_law_side"]) (sc := defScope s_law_said) (by decide +kernel)) (fun _ _ _ _ _ => pg_name (i := 3) sc_law_said.nd rfl (Or.inl rfl)) (fun _ _ _ _ _ => pts_nil) (fun _ _ _ _ _ => (pe_callO C_law_plain (hr.mono (by decide)) (by rfl) (pa_cons (pv 3) pa_nil))))
      (pss_cons (ps_for PassesOwn.never rfl (pi_list (pv 1)) (pg_name (i := 4) sc_law_said.nd rfl (.inl rfl)) (pss_cons (ps_set (i := 5) sc_law_said.nd rfl (.inl rfl) pe_str)
      (pss_cons (ps_for PassesOwn.never rfl (pi_list (pv 4)) (pg_tup (by rfl) (pgs_cons (pg_name (i := 6) sc_law_said.nd rfl (.inl rfl)) (pgs_cons (pg_name (i := 7) sc_law_said.nd rfl (.inl rfl)) pgs_nil))) (pss_one (ps_set (i := 5) sc_law_said.nd rfl (.inl rfl) (pe_callO C_law_plain (hr.mono (by decide)) (by rfl) (pa_cons (pe_op op_add_str (pv 5) (pe_ifExp (pt_cmpR op_eq (pv 7) pe_int (nomark _)) (pe_ix ix_lM (pv 2) (pv 6) (fun _ _ => rfl)) (pe_callO C_law_opposite (hr.mono (by decide)) (by rfl) (pa_cons (pe_ix ix_lM (pv 2) (pv 6) (fun _ _ => rfl)) pa_nil)))) pa_nil)))))
      (pss_cons (ps_if (pt_cmpR op_gt (pe_callB call_len_str (by rfl) T.n_len PySem.boot_len (pa_cons (pv 5) pa_nil)) pe_int (nomark _)) (pss_one (ps_ret pe_non)) pss_nil)
      (pss_one (ps_expr (pe_bm PySem.F.plainAttrs_list PySem.F.slot_list_append PySem.F.type_list_append mt_append (pv 2) (pa_cons (pv 5) pa_nil))))))))
      (pss_one (ps_ret (pe_slice (sl_listK K rfl) (pv 2) (po_some (pe_callB call_lenM (by rfl) T.n_len PySem.boot_len (pa_cons (pv 0) pa_nil))) po_none)))))), ?_⟩
    walk_at "rd"
    cases hd with
    | @lst _ xs _ ht hall =>
      refine ⟨⟨_, SqL.of ha⟩, ?_⟩
      have hl := DeAll.length hall
      have hz := sizeLine_eq
      have hwl' : (ws.map fun l => V.str (W l)).length = ws.length := List.length_map ..
      refine comp_list (xs := ws.map fun l => V.str (W l)) (fun D i H' => Same H H' ∧ H' D = some (.lst ((ws.take i).map fun l => V.str (W (red l))))) (fun D nD => ⟨same_upd nD, upd_same⟩) (fun D i H' nD hi ⟨s', _⟩ => SqL.of (s' _ _ ha)) ?_ ?_
      · rintro D i x H' nD hi ⟨s', hD⟩
        rw [List.getElem?_map] at hi
        obtain ⟨l, hl', rfl⟩ := Option.map_eq_some_iff.mp hi
        obtain ⟨g1, g2⟩ := hws l (List.mem_of_getElem? hl')
        walk_at "rd"
        refine ⟨l, rfl, g1, by omega, fun H2 s2 => ⟨_, s2 _ _ hD, by rw [List.length_map, List.length_take]; omega, same_over (s'.trans s2) nD, ?_⟩⟩
        rw [take_step hl', List.map_append]
        rfl
      · rintro D H1 nD ⟨s1, hD⟩
        rw [hwl', List.take_length] at hD
        refine ⟨⟨_, SqL.of (s1 _ _ ht)⟩, ?_⟩
        have hD0 : WsAt H1 D (ws.map red) := by unfold WsAt; rw [hD, List.map_map]; rfl
        have hg0 : ∀ l ∈ ws.map red, Sg l ∧ l.length ≤ 10000 := by
          intro l hlm
          obtain ⟨u, hu, rfl⟩ := List.mem_map.mp hlm
          have := hws u hu
          have := len_red u
          exact ⟨(hws u hu).1.red, by omega⟩
        refine loop_list (xs := xs) (fun i σ H' => ∃ v4 v5 v6 v7 ks, σ = [some (.ref a), some (.ref a1), some (.ref D), none, v4, v5, v6, v7] ∧ Same H H' ∧ WsAt H' D ks ∧ (∀ l ∈ ks, Sg l ∧ l.length ≤ 10000) ∧ ks.length = ws.length + i ∧ saidW (ws.map red) ds = saidW ks (ds.drop i)) ⟨none, none, none, none, _, rfl, s1, hD0, hg0, by rw [List.length_map]; rfl, by rw [List.drop_zero]⟩ (fun i σ H' hi ⟨_, _, _, _, _, _, s', _⟩ => SqL.of (s' _ _ ht)) ?_ ?_
        · rintro i x σ H' hi ⟨v4, v5, v6, v7, ks, rfl, s2, hk, hg, hkl, he⟩
          obtain ⟨dx, hdx, ex⟩ := DeAll.get hall hi
          have hil : i < ds.length := (List.getElem?_eq_some_iff.mp hdx).1
          have hdrop : ds.drop i = dx :: ds.drop (i + 1) := by
            rw [List.drop_eq_getElem_cons hil]
            congr 1
            exact (List.getElem?_eq_some_iff.mp hdx).2
          have hsx : stepB (ks.length : Nat) dx = true := by rw [hkl]; exact hst i dx hdx
          rw [hdrop, saidW, hsx] at he
          have hlen := stepW_len hg hsx
          have hsg := stepW_sg hg hsx
          have hxl : (ks.map fun l => V.str (W l)).length = ks.length := List.length_map ..
          walk_at "rd"
          have no : saidW (ws.map red) ds = none → ∀ H', Same H H' → Q .non H' := fun e H' s' => q _ _ s' (fun _ => rfl) (fun rs z => by rw [show saidD ws (.list ds) = (saidW (ws.map red) ds).map fun r => r.drop ws.length from rfl, e] at z; cases z)
          cases ex with
          | @lst b ys es hb hall2 =>
            have hsx' : (decide (es.length ≤ 12) && es.all (itemB (ks.length : Nat))) = true := hsx
            rw [Bool.and_eq_true, decide_eq_true_eq, List.all_eq_true] at hsx'
            obtain ⟨hl12, hit⟩ := hsx'
            have hel := DeAll.length hall2
            have hitw : ∀ l ∈ es.map (itemW ks), Sg l ∧ l.length ≤ 10000 := by
              intro l hlm
              obtain ⟨dy, hdy, rfl⟩ := List.mem_map.mp hlm
              obtain ⟨n, sd, rfl, n0, n1, hs⟩ := item_of (hit dy hdy)
              obtain ⟨l, hkl2⟩ : ∃ l, ks[n.toNat]? = some l := ⟨_, List.getElem?_eq_getElem (h := by omega)⟩
              have hll := hg l (List.mem_of_getElem? hkl2)
              have hgl : ks.getD n.toNat [] = l := by rw [List.getD_eq_getElem?_getD, hkl2]; rfl
              show Sg (if sd = 1 then ks.getD n.toNat [] else opp (ks.getD n.toNat [])) ∧ (if sd = 1 then ks.getD n.toNat [] else opp (ks.getD n.toNat [])).length ≤ 10000
              rw [hgl]
              split
              · exact hll
              · exact ⟨hll.1.opp, by unfold opp; rw [List.length_reverse, List.length_map]; exact hll.2⟩
            refine ⟨b, rfl, ⟨_, SqL.of (s2 _ _ hb)⟩, ?_⟩
            refine loop_list (xs := ys) (fun j σ H3 => ∃ v6 v7, σ = [some (.ref a), some (.ref a1), some (.ref D), none, some (.ref b), some (.str (W (red ((es.take j).flatMap (itemW ks))))), v6, v7] ∧ Same H' H3) ⟨v6, v7, rfl, .refl _⟩ (fun j σ H3 hj ⟨_, _, _, s'⟩ => SqL.of (s' _ _ (s2 _ _ hb))) ?_ ?_
            · rintro j y σ H3 hj ⟨v6, v7, rfl, s3⟩
              obtain ⟨dy, hdy, ey⟩ := DeAll.get hall2 hj
              obtain ⟨n, sd, rfl, n0, n1, hs⟩ := item_of (hit dy (List.mem_of_getElem? hdy))
              obtain ⟨p, rfl, hp⟩ : ∃ p, y = .ref p ∧ H p = some (.tup [.int n, .int sd]) := by
                cases ey with
                | tup h t =>
                  cases t with
                  | cons a t =>
                    cases a
                    cases t with
                    | cons a t =>
                      cases a
                      cases t
                      exact ⟨_, rfl, h⟩
              walk_at "rd"
              refine ⟨_, SqT.of ((s2.trans s3) _ _ hp), rfl, _, _, rfl, _, _, rfl, rfl, ?_⟩
              obtain ⟨l, hkl2⟩ : ∃ l, ks[n.toNat]? = some l := ⟨_, List.getElem?_eq_getElem (h := by omega)⟩
              have hll := hg l (List.mem_of_getElem? hkl2)
              have hat : atI (ks.map fun l => V.str (W l)) n = some (V.str (W l)) := by
                rw [show n = ((n.toNat : Nat) : Int) by omega]
                exact atI_nat (by rw [List.getElem?_map, hkl2]; rfl)
              have hpl : ((es.take j).flatMap (itemW ks)).length ≤ 120000 := by
                rw [List.flatMap_def]
                have := flat_len (n := 10000) (ls := (es.take j).map (itemW ks)) fun l hl => hitw l (by rw [List.map_take] at hl; exact List.mem_of_mem_take hl)
                rw [List.length_map, List.length_take] at this
                omega
              have hps : Sg ((es.take j).flatMap (itemW ks)) := by
                intro ch hc
                obtain ⟨dz, hdz, hc⟩ := List.mem_flatMap.mp hc
                exact (hitw _ (List.mem_map.mpr ⟨dz, List.mem_of_mem_take hdz, rfl⟩)).1 ch hc
              have hrl := len_red ((es.take j).flatMap (itemW ks))
              have hstep : ∀ u, itemW ks (.tuple [.int n, .int sd]) = u → red (red ((es.take j).flatMap (itemW ks)) ++ u) = red ((es.take (j + 1)).flatMap (itemW ks)) := by
                intro u hu
                rw [red_left, take_step hdy, List.flatMap_append, ← hu]
                simp
              refine ⟨rfl, ?_⟩
              have hk3 : WsAt H3 D ks := s3 _ _ hk
              rcases hs with rfl | rfl
              · rw [if_pos rfl]
                refine ⟨_, _, rfl, hk3, _, hat, _, rfl, by rw [W_len, W_len]; omega, ?_⟩
                rw [cat_W]
                refine ⟨_, rfl, fun ch hc => (List.mem_append.mp hc).elim (hps.red ch) (hll.1 ch), by rw [List.length_append]; omega, fun H4 s4 => ⟨?_, ⟨_, rfl⟩, ⟨_, rfl⟩, s3.trans s4⟩⟩
                rw [hstep l (by simp [itemW, hkl2])]
              · rw [if_neg (by decide)]
                have lo : (opp l).length = l.length := by unfold opp; rw [List.length_reverse, List.length_map]
                refine ⟨_, _, rfl, hk3, _, hat, l, rfl, hll.1, by omega, fun H4 s4 => ⟨_, rfl, by rw [W_len, W_len, lo]; omega, ?_⟩⟩
                rw [cat_W]
                refine ⟨_, rfl, fun ch hc => (List.mem_append.mp hc).elim (hps.red ch) (hll.1.opp ch), by rw [List.length_append, lo]; omega, fun H5 s5 => ⟨?_, ⟨_, rfl⟩, ⟨_, rfl⟩, s3.trans (s4.trans s5)⟩⟩
                rw [hstep (opp l) (by simp [itemW, hkl2])]
            · rintro σ H3 ⟨v6, v7, rfl, s3⟩
              rw [hel, List.take_length]
              walk_at "rd"
              have hk3 : WsAt H3 D ks := s3 _ _ hk
              have hlen' : (red (es.flatMap (itemW ks))).length ≤ 120000 := hlen
              refine ⟨by rw [W_len]; omega, ?_⟩
              rw [W_len]
              by_cases hle : (stepW ks (.list es)).length ≤ 10000
              · have hle' : (red (es.flatMap (itemW ks))).length ≤ 10000 := hle
                rw [if_neg (by omega)]
                rw [if_pos ⟨rfl, hle⟩] at he
                refine ⟨.inl ⟨rfl, _, .inl (.inl hk3)⟩, _, hk3, by rw [hxl]; omega, ?_⟩
                refine ⟨⟨_, rfl⟩, ⟨_, rfl⟩, ⟨_, rfl⟩, ⟨_, rfl⟩, same_over (s2.trans s3) nD, ks ++ [stepW ks (.list es)], ?_, ?_, ?_, he⟩
                · unfold WsAt
                  rw [upd_same, List.map_append]
                  rfl
                · intro l hlm
                  rcases List.mem_append.mp hlm with h | h
                  · exact hg l h
                  · rw [List.mem_singleton.mp h]
                    exact ⟨hsg, hle⟩
                · rw [List.length_append, hkl]
                  show ws.length + i + 1 = _
                  omega
              · have hle' : ¬ (red (es.flatMap (itemW ks))).length ≤ 10000 := hle
                rw [if_pos (by omega)]
                rw [if_neg (fun z => hle z.2)] at he
                exact no he _ (s2.trans s3)
          | _ => cases hsx
        · rintro σ H' ⟨v4, v5, v6, v7, ks, rfl, s2, hk, hg, hkl, he⟩
          rw [hl, List.drop_length] at he
          walk_at "rd"
          refine ⟨_, s2 _ _ ha, _, SqL.of hk, fun p np => ?_⟩
          rw [hwl', cutV_from _ (by rw [List.length_map]; omega), ← List.map_drop]
          have e : saidD ws (.list ds) = some (ks.drop ws.length) := by
            rw [show saidD ws (.list ds) = (saidW (ws.map red) ds).map fun r => r.drop ws.length from rfl, he]
            rfl
          refine q _ _ (s2.trans (same_upd np)) (fun z => by rw [e] at z; cases z) (fun rs z => ?_)
          rw [e] at z
          cases z
          exact ⟨p, rfl, s2.free np, upd_same⟩
end
end K16

namespace K16
open PySem PySem.Spec PyProof.Rows L2 G1 MW
abbrev s_law_paper : Stmt := topS 44
theorem sc_law_paper : FnScope ["_law_generator_here", "_law_size", "_law_found", "_law_turn", "_law_known", "_law_lot", "_law_item"] ["_law_generator_here", "_law_size"] (defScope s_law_paper) := ⟨rfl, rfl, rfl, by decide +kernel, rfl, by decide +kernel, by decide +kernel⟩
local macro_rules | `(tactic| walk_at "rd") => `(tactic| simp only [L2.tPar3, L2.tSeq, L2.tAug, L2.tTup, G1.tCallK3b, G1.tMt, G1.tMinK, G1.rIsTu, L2.rIxT, G1.rTr, G1.rLtD, if_true, if_false, L2.rNotB, L2.rMax, L2.iRng2,L2.rIn, L2.tDNewK,  G1.iEnumS, L2.tDGet, L2.gTup, L2.gCons, L2.gNil, L2.tPar, L2.rIxS, G1.tRepU, L2.rSlS, L2.iStr, L2.tNotV, G1.rIsV, G1.mk_int, G1.mk_bool, G1.mk_str, G1.mk_list, G1.tCallX, V.ty.injEq, L2.tChain, L2.rIsB, G1.tRevS, L2.tM0, L2.tM1, L2.tCallS, G1.tCallK2, G1.tMkR, L2.rAll, L2.rPop, L2.tBM0, L2.tRevL, L2.tAsg, L2.tOp, L2.rI, L2.rI0, L2.tVar, L2.tC, L2.tCB, L2.tCons, L2.tNil, L2.tRet, L2.gName, L2.start, L2.tIf, L2.tIfS, L2.tTest, L2.tNext, L2.rIxL, L2.tSl, L2.rSlL, L2.tNoPart, L2.tPart, L2.tLst, L2.tTup, L2.rSum, L2.tBits, L2.gSub, L2.rSetL, L2.rCat, L2.tDrop, L2.tBM, L2.tBM0, L2.rAppend, L2.tYes, L2.tB, L2.tAnd, L2.tOr, L2.tNot, L2.tAndV, L2.tOrV, G1.tCallO, G1.tXm, G1.tXn, G1.tXv, HO.lst.injEq, HO.tup.injEq, Nat.reduceAdd, Nat.zero_add, List.set_cons_zero, List.set_cons_succ, G1.tFor_eq, G1.tLc_eq, G1.rIxM, G1.rLenM, G1.rSlM, G1.atI_0, G1.atI_1, G1.atI_2, G1.ixN_0, G1.ixN_2, L2.upd_same, L2.upd_upd, and_assoc, L2.iRng1, L2.iList, L2.tUn, L2.rU, G1.rRepS, L2.wipe, List.foldl, L2.rEq, L2.rNe, List.map, List.replicate, List.length, List.append, List.set, List.getElem?_cons_zero, List.getElem?_cons_succ, List.cons_append, List.nil_append, Option.some.injEq, V.int.injEq, V.bl.injEq, V.ref.injEq, V.str.injEq, List.cons.injEq, reduceCtorEq, false_and, and_false, exists_false, or_false, false_or, exists_and_left, exists_and_right, exists_eq_left', exists_eq_left, true_and, and_true, Nat.sub_self, decide_eq_true_eq])
section
variable {P : Program} {w : World} {K : PySem.W.Frag} {mg : Str → Option Value} {base : Heap} {c : Nat → Addr} {cF : Addr}
/-- a heap without some addresses -/
def hid (l : List Addr) (H : Hp) : Hp := fun b => if b ∈ l then none else H b
theorem hid_in {l : List Addr} {H : Hp} {b : Addr} (h : b ∉ l) : hid l H b = H b := if_neg h
theorem hid_sub (l : List Addr) (H : Hp) : Same (hid l H) H := fun b o e => by
  unfold hid at e
  split at e
  · cases e
  · exact e
theorem hid_but {l : List Addr} {H H' : Hp} (h : ∀ b o, b ∉ l → H b = some o → H' b = some o) : Same (hid l H) (hid l H') := fun b o e => by
  unfold hid at e
  split at e
  · cases e
  · rename_i n
    rw [hid_in n]
    exact h b o n e
theorem hid_mono {l l' : List Addr} {H : Hp} (h : ∀ b ∈ l', b ∈ l) : Same (hid l H) (hid l' H) := fun b o e => by
  unfold hid at e
  split at e
  · cases e
  · rename_i n
    rw [hid_in fun z => n (h b z)]
    exact e
theorem deAll_snoc {H : Hp} : ∀ {xs : List V} {ds : List PyData} {x : V} {d : PyData}, DeAll K H xs ds → De K H x d → DeAll K H (xs ++ [x]) (ds ++ [d])
  | _, _, _, _, .nil, h => .cons h .nil
  | _, _, _, _, .cons a t, h => .cons a (deAll_snoc t h)
theorem Steps.snoc {n : Nat} {ds : List PyData} {d : PyData} (h : Steps n ds) (k : stepB ((n + ds.length : Nat) : Int) d = true) : Steps n (ds ++ [d]) := fun i x hx => by
  rcases Nat.lt_or_ge i ds.length with hl | hl
  · rw [List.getElem?_append_left hl] at hx
    exact h i x hx
  · rw [List.getElem?_append_right hl] at hx
    have : i - ds.length = 0 := by
      have := (List.getElem?_eq_some_iff.mp hx).1
      simp at this
      omega
    rw [this] at hx
    cases hx
    rw [show i = ds.length by omega]
    exact k
def spLPaper (K : PySem.W.Frag) : Sp := fun vs H Q _ => ∃ (g : Addr) (n : Nat) (Z : Int), vs = [.ref g, .int n] ∧ n ≤ 12 ∧ GenOk H g Z ∧ Z + 300000 ≤ 100000000 ∧
  ∀ a ds H', H a = none → De K (hid [g] H') (.ref a) (.list ds) → Steps n ds → ds.length ≤ 12 → But g H H' → GenOk H' g (Z + 200000) → Q (.ref a) H'
theorem ok_lpaper (S : Src K mg "_law_paper" s_law_paper) (T : Txt P w K mg base c cF) (C_law_random : OkD P w K mg base 2 "_law_random" ["_law_generator_here", "_law_bound"] spRandom) : OkD P w K mg base 3 "_law_paper" ["_law_generator_here", "_law_size"] (spLPaper K) := by
  refine okd S (fun f fd F => F.ok sc_law_paper (fun vs H Q E h => ?_) (fun cdv A outer s H vs Q E hr h => ?_)) (fun _ _ _ _ _ _ us hl => match us, hl with | [_, _], _ => rfl)
  · obtain ⟨_, _, _, rfl, _⟩ := h
    rfl
  · obtain ⟨g, n, Z, rfl, hn, hg, hZ, q⟩ := h
    refine ⟨_, ((pss_cons (ps_set (i := 2) sc_law_paper.nd rfl (.inl rfl) (pe_lst pa_nil))
      (pss_cons (ps_for PassesOwn.never rfl (pi_range1 (by rfl) T.n_range (pa_cons (pe_callO C_law_random (hr.mono (by decide)) (by rfl) (pa_cons (pv 0) (pa_cons pe_int pa_nil))) pa_nil)) (pg_name (i := 3) sc_law_paper.nd rfl (.inl rfl)) (pss_cons (ps_par (i := 4) (j := 5) (by rfl) sc_law_paper.nd rfl rfl (by decide) rfl rfl (pa_cons (pe_op op_add (pv 1) (pe_callB call_lenM (by rfl) T.n_len PySem.boot_len (pa_cons (pv 2) pa_nil))) (pa_cons (pe_ix ix_lM (pe_lst (pa_cons pe_int (pa_cons pe_int pa_nil))) (pe_callTy call_int1 (by rfl) T.n_int PyProof.Rows.boot_int (pa_cons (pe_and (pe_cmpR op_eq (pe_callO C_law_random (hr.mono (by decide)) (by rfl) (pa_cons (pv 0) (pa_cons pe_int pa_nil))) pe_int (nomark _)) (pe_one (pe_cmpR op_lt (pv 3) pe_int (nomark _)))) pa_nil)) (fun _ _ => rfl)) pa_nil)) (by rfl))
      (pss_cons (ps_expr (pe_bm PySem.F.plainAttrs_list PySem.F.slot_list_append PySem.F.type_list_append mt_append (pv 2) (pa_cons (pe_lst pa_nil) pa_nil)))
      (pss_one (ps_for PassesOwn.never rfl (pi_range1 (by rfl) T.n_range (pa_cons (pe_op op_mulW (pe_callO C_law_random (hr.mono (by decide)) (by rfl) (pa_cons (pv 0) (pa_cons (pv 5) pa_nil))) (pe_callTy call_int1 (by rfl) T.n_int PyProof.Rows.boot_int (pa_cons (pe_cmpR op_gt (pv 4) pe_int (nomark _)) pa_nil))) pa_nil)) (pg_name (i := 6) sc_law_paper.nd rfl (.inl rfl)) (pss_one (ps_expr (pe_bm PySem.F.plainAttrs_list PySem.F.slot_list_append PySem.F.type_list_append mt_append (pe_ix ix_lM (pv 2) (pv 3) (fun _ _ => rfl)) (pa_cons (pe_tup (pa_cons (pe_callO C_law_random (hr.mono (by decide)) (by rfl) (pa_cons (pv 0) (pa_cons (pv 4) pa_nil))) (pa_cons (pe_op op_sub pe_int (pe_op op_mulW pe_int (pe_callO C_law_random (hr.mono (by decide)) (by rfl) (pa_cons (pv 0) (pa_cons pe_int pa_nil))))) pa_nil))) pa_nil)))))))))
      (pss_one (ps_ret (pv 2)))))), ?_⟩
    walk_at "rd"
    have hz := sizeLine_eq
    refine ⟨Nat.zero_le _, fun p np => ?_⟩
    have npg : p ≠ g := GenOk.ne hg np
    refine draw (hg.but (same_upd np)) (by omega) (by decide) (by decide) fun d H1 d0 d1 bt1 gk1 => ⟨d, rfl, by omega, by omega, ?_⟩
    have hp1 : H1 p = some (.lst []) := bt1 _ _ npg upd_same
    have inner : ∀ (i cnt : Nat) (lot Zi : Int) (F : Hp) (q : Addr) (qs : List V) (v6 : Option V) (D : Ends), qs.length = i → i < 12 → cnt ≤ 12 → (cnt = 0 ∨ 0 < n + i) → F p = some (.lst (qs ++ [V.ref q])) → F q = some (.lst []) → q ∉ [g, p] → GenOk F g Zi → Zi + 8000 ≤ 100000000 →
        (∀ v6 F' ts es, F' p = some (.lst (qs ++ [V.ref q])) → F' q = some (.lst ts) → DeAll K (hid [g, p, q] F') ts es → stepB ((n + i : Nat) : Int) (.list es) = true → (∀ b o, b ∉ [g, q] → F b = some o → F' b = some o) → GenOk F' g (Zi + 7200) → D.nx [some (.ref g), some (.int n), some (.ref p), some (.int (0 + (i : Nat))), some (.int ((n + i : Nat) : Int)), some (.int lot), v6] F') →
        LoopW (Itr 0 cnt) (gName 6) (tDrop (tBM K "list" rAppend (tOp rIxM (tVar 2) (tVar 3)) (tCons (tTup (tCons (tCallO spRandom (tCons (tVar 0) (tCons (tVar 4) tNil))) (tCons (tOp (rI0 fun i j => V.int (i - j)) (tC (V.int 1)) (tOp (rI CMulW fun i j => V.int (i * j)) (tC (V.int 2)) (tCallO spRandom (tCons (tVar 0) (tCons (tC (V.int 2)) tNil))))) tNil))) tNil))) D [some (.ref g), some (.int n), some (.ref p), some (.int (0 + (i : Nat))), some (.int ((n + i : Nat) : Int)), some (.int lot), v6] F := by
      intro i cnt lot Zi F q qs v6 D hql hi12 hc12 hkn hFp hFq hqn gkF hZi hD
      have nqg : q ≠ g := fun z => hqn (by simp [z])
      have nqp : q ≠ p := fun z => hqn (by simp [z])
      refine loop_range (n := cnt) (fun j σ F' => ∃ v6 ts es, σ = [some (.ref g), some (.int n), some (.ref p), some (.int (0 + (i : Nat))), some (.int ((n + i : Nat) : Int)), some (.int lot), v6] ∧ F' q = some (.lst ts) ∧ ts.length = j ∧ DeAll K (hid [g, p, q] F') ts es ∧ es.length = j ∧ (∀ e ∈ es, itemB ((n + i : Nat) : Int) e = true) ∧ (∀ b o, b ∉ [g, q] → F b = some o → F' b = some o) ∧ GenOk F' g (Zi + 600 * j)) ⟨v6, [], [], rfl, hFq, rfl, .nil, rfl, fun _ z => (nomatch z), fun b o _ e => e, gkF.le (by omega)⟩ ?_ ?_
      · rintro j σ F' hj ⟨v6, ts, es, rfl, hq, hts, hdA, hes, hit, bt, gk⟩
        have hp' : F' p = some (.lst (qs ++ [V.ref q])) := bt _ _ (by simp [npg, Ne.symm nqp]) hFp
        have hk0 : 0 < n + i := hkn.resolve_left (by omega)
        walk_at "rd"
        have hat : atI (qs ++ [V.ref q]) (0 + (i : Nat)) = some (V.ref q) := by
          rw [Int.zero_add, ← hql]
          exact atI_nat List.getElem?_concat_length
        refine ⟨_, hp', _, hat, .inl ⟨rfl, _, .inl (.inl hq)⟩, ?_⟩
        refine draw gk (by omega) (by omega) (by omega) fun r F2 r0 r1 bt2 gk2 => ?_
        refine draw gk2 (by omega) (by decide) (by decide) fun s F3 s0 s1 bt3 gk3 => ⟨s, rfl, cmul (by decide) (by omega), by omega, fun t nt => ?_⟩
        have bt23 := bt2.trans bt3
        have hq3 : F3 q = some (.lst ts) := bt23 _ _ nqg hq
        have hp3 : F3 p = some (.lst (qs ++ [V.ref q])) := bt23 _ _ npg hp'
        have tq : t ≠ q := (ne_none hq3 nt).symm
        have tp : t ≠ p := (ne_none hp3 nt).symm
        have tg : t ≠ g := GenOk.ne gk3 nt
        have keep : ∀ b o, b ≠ q → b ≠ g → F' b = some o → upd (upd F3 t (.tup [.int r, .int (1 - 2 * s)])) q (.lst (ts ++ [.ref t])) b = some o := fun b o nb nbg e => by
          have e3 := bt23 b o nbg e
          rw [upd_ne nb, upd_ne (ne_none e3 nt)]
          exact e3
        refine ⟨q, rfl, ts, same_upd nt _ _ hq3, by omega, ⟨_, rfl⟩, ts ++ [V.ref t], upd_same, by rw [List.length_append, hts]; rfl, es ++ [.tuple [.int r, .int (1 - 2 * s)]], ?_, by rw [List.length_append, hes]; rfl, ?_, ?_, ?_⟩
        · refine deAll_snoc (DeAll.same (hid_but fun b o nb e => ?_) _ _ hdA) (.tup (a := t) ?_ (.cons (.int _) (.cons (.int _) .nil)))
          · simp only [List.mem_cons, List.not_mem_nil, or_false, not_or] at nb
            exact keep b o nb.2.2 nb.1 e
          · rw [hid_in (by simp [tg, tp, tq]), upd_ne tq, upd_same]
        · intro e he
          rcases List.mem_append.mp he with h | h
          · exact hit e h
          · rw [List.mem_singleton.mp h]
            have : s = 0 ∨ s = 1 := by omega
            rcases this with rfl | rfl <;> simp [itemB] <;> omega
        · intro b o nb e
          simp only [List.mem_cons, List.not_mem_nil, or_false, not_or] at nb
          exact keep b o nb.2 nb.1 (bt b o (by simp [nb.1, nb.2]) e)
        · exact GenOk.le ((gk3.set tg).set nqg) (by omega)
      · rintro σ F' ⟨v6, ts, es, rfl, hq, hts, hdA, hes, hit, bt, gk⟩
        refine hD v6 F' ts es (bt _ _ (by simp [npg, Ne.symm nqp]) hFp) hq hdA ?_ bt (gk.le (by omega))
        show (decide (es.length ≤ 12) && es.all (itemB ((n + i : Nat) : Int))) = true
        rw [decide_eq_true (by omega), Bool.true_and, List.all_eq_true]
        exact hit
    refine loop_range (n := d.toNat) (fun i σ H' => ∃ v3 v4 v5 v6 qs ds, σ = [some (.ref g), some (.int n), some (.ref p), v3, v4, v5, v6] ∧ H' p = some (.lst qs) ∧ qs.length = i ∧ DeAll K (hid [g, p] H') qs ds ∧ Steps n ds ∧ (∀ b o, b ∉ [g, p] → H1 b = some o → H' b = some o) ∧ GenOk H' g (Z + 300 + 12000 * i)) ⟨none, none, none, none, [], [], rfl, hp1, rfl, .nil, fun i x hx => (by cases hx), fun b o _ e => e, gk1.le (by omega)⟩ ?_ ?_
    · rintro i σ H' hi ⟨v3, v4, v5, v6, qs, ds, rfl, hp, hql, hdA, hst, btp, gk⟩
      walk_at "rd"
      have hi12 : i < 12 := by omega
      refine ⟨_, hp, by omega, fun p1 np1 => ?_⟩
      have p1g : p1 ≠ g := GenOk.ne gk np1
      refine draw (gk.but (same_upd np1)) (by omega) (by decide) (by decide) fun r F2 r0 r1 bt2 gk2 => ⟨rfl, ?_⟩
      have hp1' : F2 p1 = some (.lst [V.int 5, V.int 13]) := bt2 _ _ p1g upd_same
      have hpF2 : F2 p = some (.lst qs) := bt2 _ _ npg (same_upd np1 _ _ hp)
      by_cases hr : r = 0
      · subst hr
        rw [if_pos rfl]
        by_cases h3 : 0 + (i : Int) < 3
        · rw [if_pos h3]
          refine ⟨_, hp1', V.int 13, (atI_nat (j := 1) rfl), .inl ⟨rfl, _, .inl (.inl hpF2)⟩, by omega, fun q' nq => ⟨qs, same_upd nq _ _ hpF2, by omega, ?_⟩⟩
          have q'p : q' ≠ p := (ne_none hpF2 nq).symm
          have q'g : q' ≠ g := GenOk.ne gk2 nq
          have gk3 : GenOk (upd (upd F2 q' (.lst [])) p (.lst (qs ++ [V.ref q']))) g (Z + 300 + 12000 * i + 300) := (gk2.but (same_upd nq)).set npg
          refine draw gk3 (by omega) (by decide) (by decide) fun c F4 c0 c1 bt4 gk4 => ?_
          have hFp : F4 p = some (.lst (qs ++ [V.ref q'])) := bt4 _ _ npg upd_same
          have hFq : F4 q' = some (.lst []) := bt4 _ _ q'g (by rw [upd_ne q'p]; exact upd_same)
          have fin : ∀ v6 F' ts es, F' p = some (.lst (qs ++ [V.ref q'])) → F' q' = some (.lst ts) → DeAll K (hid [g, p, q'] F') ts es → stepB ((n + i : Nat) : Int) (.list es) = true → (∀ b o, b ∉ [g, q'] → F4 b = some o → F' b = some o) → GenOk F' g (Z + 300 + 12000 * i + 300 + 300 + 7200) → (∃ x x_6 x_7 x_8, [some (V.ref g), some (V.int (n : Nat)), some (V.ref p), some (V.int (0 + (i : Nat))), some (V.int ((n + i : Nat) : Int)), some (V.int 13), v6] = [some (V.ref g), some (V.int (n : Nat)), some (V.ref p), x, x_6, x_7, x_8]) ∧ ∃ x, F' p = some (HO.lst x) ∧ x.length = i + 1 ∧ ∃ x_6, DeAll K (hid [g, p] F') x x_6 ∧ Steps n x_6 ∧ (∀ b o, b ∉ [g, p] → H1 b = some o → F' b = some o) ∧ GenOk F' g (Z + 300 + 12000 * ((i + 1 : Nat) : Int)) := by
            intro v6 F' ts es k1 k2 k3 k4 k5 k6
            have keep : ∀ b o, b ∉ [g, p] → H' b = some o → F' b = some o := fun b o nb e => by
              simp only [List.mem_cons, List.not_mem_nil, or_false, not_or] at nb
              have e2 := bt2 b o nb.1 (same_upd np1 _ _ e)
              have nbq := ne_none e2 nq
              have e4 := bt4 b o nb.1 (by rw [upd_ne nb.2, upd_ne nbq]; exact e2)
              exact k5 b o (by simp [nb.1, nbq]) e4
            have hdl := DeAll.length hdA
            refine ⟨⟨_, _, _, _, rfl⟩, qs ++ [V.ref q'], k1, by rw [List.length_append, hql]; rfl, ds ++ [.list es], deAll_snoc (DeAll.same (hid_but keep) _ _ hdA) (.lst (a := q') (by rw [hid_in (by simp [q'g, q'p])]; exact k2) (DeAll.same (hid_mono (by simp)) _ _ k3)), hst.snoc (by rw [← hdl, hql]; exact k4), fun b o nb e => keep b o nb (btp b o nb e), k6.le (by omega)⟩
          by_cases hk : 0 < n + i
          · rw [if_pos (show (0 : Int) < (n : Int) + (qs.length : Nat) by omega), show (n : Int) + (qs.length : Nat) = ((n + i : Nat) : Int) by omega]
            refine ⟨c, rfl, cmul (by omega) (by decide), by omega, by omega, ?_⟩
            rw [Int.mul_one]
            exact inner i c.toNat 13 _ F4 q' qs v6 _ hql (by omega) (by omega) (.inr hk) hFp hFq (by simp [q'g, q'p]) gk4 (by omega) fin
          · rw [if_neg (show ¬ (0 : Int) < (n : Int) + (qs.length : Nat) by omega), show (n : Int) + (qs.length : Nat) = ((n + i : Nat) : Int) by omega]
            refine ⟨c, rfl, cmul (by omega) (by decide), by omega, by omega, ?_⟩
            rw [Int.mul_zero]
            exact inner i 0 13 _ F4 q' qs v6 _ hql (by omega) (by omega) (.inl rfl) hFp hFq (by simp [q'g, q'p]) gk4 (by omega) fin
        · rw [if_neg h3]
          refine ⟨_, hp1', V.int 5, (atI_nat (j := 0) rfl), .inl ⟨rfl, _, .inl (.inl hpF2)⟩, by omega, fun q' nq => ⟨qs, same_upd nq _ _ hpF2, by omega, ?_⟩⟩
          have q'p : q' ≠ p := (ne_none hpF2 nq).symm
          have q'g : q' ≠ g := GenOk.ne gk2 nq
          have gk3 : GenOk (upd (upd F2 q' (.lst [])) p (.lst (qs ++ [V.ref q']))) g (Z + 300 + 12000 * i + 300) := (gk2.but (same_upd nq)).set npg
          refine draw gk3 (by omega) (by decide) (by decide) fun c F4 c0 c1 bt4 gk4 => ?_
          have hFp : F4 p = some (.lst (qs ++ [V.ref q'])) := bt4 _ _ npg upd_same
          have hFq : F4 q' = some (.lst []) := bt4 _ _ q'g (by rw [upd_ne q'p]; exact upd_same)
          have fin : ∀ v6 F' ts es, F' p = some (.lst (qs ++ [V.ref q'])) → F' q' = some (.lst ts) → DeAll K (hid [g, p, q'] F') ts es → stepB ((n + i : Nat) : Int) (.list es) = true → (∀ b o, b ∉ [g, q'] → F4 b = some o → F' b = some o) → GenOk F' g (Z + 300 + 12000 * i + 300 + 300 + 7200) → (∃ x x_6 x_7 x_8, [some (V.ref g), some (V.int (n : Nat)), some (V.ref p), some (V.int (0 + (i : Nat))), some (V.int ((n + i : Nat) : Int)), some (V.int 5), v6] = [some (V.ref g), some (V.int (n : Nat)), some (V.ref p), x, x_6, x_7, x_8]) ∧ ∃ x, F' p = some (HO.lst x) ∧ x.length = i + 1 ∧ ∃ x_6, DeAll K (hid [g, p] F') x x_6 ∧ Steps n x_6 ∧ (∀ b o, b ∉ [g, p] → H1 b = some o → F' b = some o) ∧ GenOk F' g (Z + 300 + 12000 * ((i + 1 : Nat) : Int)) := by
            intro v6 F' ts es k1 k2 k3 k4 k5 k6
            have keep : ∀ b o, b ∉ [g, p] → H' b = some o → F' b = some o := fun b o nb e => by
              simp only [List.mem_cons, List.not_mem_nil, or_false, not_or] at nb
              have e2 := bt2 b o nb.1 (same_upd np1 _ _ e)
              have nbq := ne_none e2 nq
              have e4 := bt4 b o nb.1 (by rw [upd_ne nb.2, upd_ne nbq]; exact e2)
              exact k5 b o (by simp [nb.1, nbq]) e4
            have hdl := DeAll.length hdA
            refine ⟨⟨_, _, _, _, rfl⟩, qs ++ [V.ref q'], k1, by rw [List.length_append, hql]; rfl, ds ++ [.list es], deAll_snoc (DeAll.same (hid_but keep) _ _ hdA) (.lst (a := q') (by rw [hid_in (by simp [q'g, q'p])]; exact k2) (DeAll.same (hid_mono (by simp)) _ _ k3)), hst.snoc (by rw [← hdl, hql]; exact k4), fun b o nb e => keep b o nb (btp b o nb e), k6.le (by omega)⟩
          by_cases hk : 0 < n + i
          · rw [if_pos (show (0 : Int) < (n : Int) + (qs.length : Nat) by omega), show (n : Int) + (qs.length : Nat) = ((n + i : Nat) : Int) by omega]
            refine ⟨c, rfl, cmul (by omega) (by decide), by omega, by omega, ?_⟩
            rw [Int.mul_one]
            exact inner i c.toNat 5 _ F4 q' qs v6 _ hql (by omega) (by omega) (.inr hk) hFp hFq (by simp [q'g, q'p]) gk4 (by omega) fin
          · rw [if_neg (show ¬ (0 : Int) < (n : Int) + (qs.length : Nat) by omega), show (n : Int) + (qs.length : Nat) = ((n + i : Nat) : Int) by omega]
            refine ⟨c, rfl, cmul (by omega) (by decide), by omega, by omega, ?_⟩
            rw [Int.mul_zero]
            exact inner i 0 5 _ F4 q' qs v6 _ hql (by omega) (by omega) (.inl rfl) hFp hFq (by simp [q'g, q'p]) gk4 (by omega) fin
      · rw [if_neg (fun z => hr (V.int.inj z))]
        refine ⟨_, hp1', V.int 5, (atI_nat (j := 0) rfl), .inl ⟨rfl, _, .inl (.inl hpF2)⟩, by omega, fun q' nq => ⟨qs, same_upd nq _ _ hpF2, by omega, ?_⟩⟩
        have q'p : q' ≠ p := (ne_none hpF2 nq).symm
        have q'g : q' ≠ g := GenOk.ne gk2 nq
        have gk3 : GenOk (upd (upd F2 q' (.lst [])) p (.lst (qs ++ [V.ref q']))) g (Z + 300 + 12000 * i + 300) := (gk2.but (same_upd nq)).set npg
        refine draw gk3 (by omega) (by decide) (by decide) fun c F4 c0 c1 bt4 gk4 => ?_
        have hFp : F4 p = some (.lst (qs ++ [V.ref q'])) := bt4 _ _ npg upd_same
        have hFq : F4 q' = some (.lst []) := bt4 _ _ q'g (by rw [upd_ne q'p]; exact upd_same)
        have fin : ∀ v6 F' ts es, F' p = some (.lst (qs ++ [V.ref q'])) → F' q' = some (.lst ts) → DeAll K (hid [g, p, q'] F') ts es → stepB ((n + i : Nat) : Int) (.list es) = true → (∀ b o, b ∉ [g, q'] → F4 b = some o → F' b = some o) → GenOk F' g (Z + 300 + 12000 * i + 300 + 300 + 7200) → (∃ x x_6 x_7 x_8, [some (V.ref g), some (V.int (n : Nat)), some (V.ref p), some (V.int (0 + (i : Nat))), some (V.int ((n + i : Nat) : Int)), some (V.int 5), v6] = [some (V.ref g), some (V.int (n : Nat)), some (V.ref p), x, x_6, x_7, x_8]) ∧ ∃ x, F' p = some (HO.lst x) ∧ x.length = i + 1 ∧ ∃ x_6, DeAll K (hid [g, p] F') x x_6 ∧ Steps n x_6 ∧ (∀ b o, b ∉ [g, p] → H1 b = some o → F' b = some o) ∧ GenOk F' g (Z + 300 + 12000 * ((i + 1 : Nat) : Int)) := by
          intro v6 F' ts es k1 k2 k3 k4 k5 k6
          have keep : ∀ b o, b ∉ [g, p] → H' b = some o → F' b = some o := fun b o nb e => by
            simp only [List.mem_cons, List.not_mem_nil, or_false, not_or] at nb
            have e2 := bt2 b o nb.1 (same_upd np1 _ _ e)
            have nbq := ne_none e2 nq
            have e4 := bt4 b o nb.1 (by rw [upd_ne nb.2, upd_ne nbq]; exact e2)
            exact k5 b o (by simp [nb.1, nbq]) e4
          have hdl := DeAll.length hdA
          refine ⟨⟨_, _, _, _, rfl⟩, qs ++ [V.ref q'], k1, by rw [List.length_append, hql]; rfl, ds ++ [.list es], deAll_snoc (DeAll.same (hid_but keep) _ _ hdA) (.lst (a := q') (by rw [hid_in (by simp [q'g, q'p])]; exact k2) (DeAll.same (hid_mono (by simp)) _ _ k3)), hst.snoc (by rw [← hdl, hql]; exact k4), fun b o nb e => keep b o nb (btp b o nb e), k6.le (by omega)⟩
        by_cases hk : 0 < n + i
        · rw [if_pos (show (0 : Int) < (n : Int) + (qs.length : Nat) by omega), show (n : Int) + (qs.length : Nat) = ((n + i : Nat) : Int) by omega]
          refine ⟨c, rfl, cmul (by omega) (by decide), by omega, by omega, ?_⟩
          rw [Int.mul_one]
          exact inner i c.toNat 5 _ F4 q' qs v6 _ hql (by omega) (by omega) (.inr hk) hFp hFq (by simp [q'g, q'p]) gk4 (by omega) fin
        · rw [if_neg (show ¬ (0 : Int) < (n : Int) + (qs.length : Nat) by omega), show (n : Int) + (qs.length : Nat) = ((n + i : Nat) : Int) by omega]
          refine ⟨c, rfl, cmul (by omega) (by decide), by omega, by omega, ?_⟩
          rw [Int.mul_zero]
          exact inner i 0 5 _ F4 q' qs v6 _ hql (by omega) (by omega) (.inl rfl) hFp hFq (by simp [q'g, q'p]) gk4 (by omega) fin
    · rintro σ H' ⟨v3, v4, v5, v6, qs, ds, rfl, hp, hql, hdA, hst, btp, gk⟩
      walk_at "rd"
      have hdl := DeAll.length hdA
      have fD : H p = none := np
      refine q p ds H' np (.lst (by rw [hid_in (by simp [npg])]; exact hp) (DeAll.same (hid_mono (by simp)) _ _ hdA)) hst (by omega) (fun b o nb e => ?_) (gk.le (by omega))
      exact btp b o (by simp [nb, ne_none e np]) (bt1 b o nb (same_upd np _ _ e))
end
end K16

namespace K16
open PySem PySem.Spec PyProof.Rows L2 G1 MW
abbrev s_law_refused : Stmt := topS 46
theorem sc_law_refused : FnScope ["_law_many", "_law_words_here", "_law_value", "_law_found", "error"] ["_law_many", "_law_words_here", "_law_value"] (defScope s_law_refused) := ⟨rfl, rfl, rfl, by decide +kernel, rfl, by decide +kernel, by decide +kernel⟩
local macro_rules | `(tactic| walk_at "rd") => `(tactic| simp only [L2.tPar3, L2.tSeq, L2.tAug, L2.tTup, G1.tCallK3b, G1.tMt, G1.tMinK, G1.rIsTu, L2.rIxT, G1.rTr, G1.rLtD, if_true, if_false, L2.rNotB, L2.rMax, L2.iRng2,L2.rIn, L2.tDNewK,  G1.iEnumS, L2.tDGet, L2.gTup, L2.gCons, L2.gNil, L2.tPar, L2.rIxS, G1.tRepU, L2.rSlS, L2.iStr, L2.tNotV, G1.rIsV, G1.mk_int, G1.mk_bool, G1.mk_str, G1.mk_list, G1.tCallX, V.ty.injEq, L2.tChain, L2.rIsB, G1.tRevS, L2.tM0, L2.tM1, L2.tCallS, G1.tCallK2, G1.tMkR, L2.rAll, L2.rPop, L2.tBM0, L2.tRevL, L2.tAsg, L2.tOp, L2.rI, L2.rI0, L2.tVar, L2.tC, L2.tCB, L2.tCons, L2.tNil, L2.tRet, L2.gName, L2.start, L2.tIf, L2.tIfS, L2.tTest, L2.tNext, L2.rIxL, L2.tSl, L2.rSlL, L2.tNoPart, L2.tPart, L2.tLst, L2.tTup, L2.rSum, L2.tBits, L2.gSub, L2.rSetL, L2.rCat, L2.tDrop, L2.tBM, L2.tBM0, L2.rAppend, L2.tYes, L2.tB, L2.tAnd, L2.tOr, L2.tNot, L2.tAndV, L2.tOrV, G1.tCallO, G1.tXm, G1.tXn, G1.tXv, HO.lst.injEq, HO.tup.injEq, Nat.reduceAdd, Nat.zero_add, List.set_cons_zero, List.set_cons_succ, G1.tFor_eq, G1.tLc_eq, G1.rIxM, G1.rLenM, G1.rSlM, G1.atI_0, G1.atI_1, G1.atI_2, G1.ixN_0, G1.ixN_2, L2.upd_same, L2.upd_upd, and_assoc, L2.iRng1, L2.iList, L2.tUn, L2.rU, G1.rRepS, L2.wipe, List.foldl, L2.rEq, L2.rNe, List.map, List.replicate, List.length, List.append, List.set, List.getElem?_cons_zero, List.getElem?_cons_succ, List.cons_append, List.nil_append, Option.some.injEq, V.int.injEq, V.bl.injEq, V.ref.injEq, V.str.injEq, List.cons.injEq, reduceCtorEq, false_and, and_false, exists_false, or_false, false_or, exists_and_left, exists_and_right, exists_eq_left', exists_eq_left, true_and, and_true, Nat.sub_self, decide_eq_true_eq])
section
variable {P : Program} {w : World} {K : PySem.W.Frag} {mg : Str → Option Value} {base : Heap} {c : Nat → Addr} {cF : Addr}
theorem Shows.same {H H' : Hp} (s : Same H H') {v : V} {d : PyData} (h : Shows K H v d) : Shows K H' v d := ⟨De.same s d v h.1, h.2⟩
def spRefd (K : PySem.W.Frag) : Sp := fun vs H Q _ => ∃ (m : Int) (a : Addr) (v : V) (d : PyData) (ws : List (List Nat)), vs = [.int m, .ref a, v] ∧ 1 ≤ m ∧ m ≤ 6 ∧ WsAt H a ws ∧ Short m ws ∧ Shows K H v d ∧ PyData.strOk d.shown = true ∧ sb d = true ∧ (∀ ds, d = .list ds → ds.length ≤ 100000) ∧ saidD ws d = none ∧ ∀ H', Same H H' → Q (.bl true) H'
theorem ok_refused (S : Src K mg "_law_refused" s_law_refused) (T : Txt P w K mg base c cF) (C_said : OkX3 P w K mg base 6 "said" "many" "words" "paper" (spSaidX K c)) : OkG P w K mg base 7 "_law_refused" ["_law_many", "_law_words_here", "_law_value"] (spRefd K) := by
  refine okg S (fun f fd F => fng_ofn F sc_law_refused (fun vs H Q E h => ?_) (fun cdv A outer s H vs Q E hg hr h => ?_)) (fun _ _ _ _ _ _ us hl => match us, hl with | [_, _, _], _ => rfl)
  · obtain ⟨_, _, _, _, _, rfl, _⟩ := h
    rfl
  · obtain ⟨m, a, v, d, ws, rfl, h1, h2, ha, hsh, hd, hdo, hb, hdl, hno, q⟩ := h
    refine ⟨_, ((pss_cons (ps_set (i := 3) sc_law_refused.nd rfl (.inl rfl) pe_non)
      (pss_cons (ps_try_val (i := 4) (tb := _) rfl rfl rfl sc_law_refused.nd rfl rfl ⟨rfl, by decide, .inl T.nF.g⟩ (fun W pn xe tk po => (pss_one (ps_expr (pe_callX tk C_said.okX (hr.mono (by decide)) (by rfl) (pa_cons (pv 0) (pa_cons (pv 1) (pa_cons (pv 2) pa_nil))))))) (fun a pn => (pss_one (ps_set (i := 3) sc_law_refused.nd rfl (.inl rfl) (pe_lst (pa_cons (pe_callB (call_isB K rfl) (by rfl) T.n_isinstance (by decide +kernel) (pa_cons (pv 4) (pa_cons (pe_gref (by rfl) (T.x 3 (by decide)).g) pa_nil))) (pa_cons (pe_callB (call_repr K rfl hg hr.units) (by rfl) T.n_repr (by decide +kernel) (pa_cons (pe_qv K rfl (pv 4) (by rfl)) pa_nil)) pa_nil)))))))
      (pss_one (ps_ret (pe_cmpR (op_eqDK K rfl hr.units) (pv 3) (pe_lst (pa_cons pe_bl (pa_cons (pe_callB (call_repr K rfl hg hr.units) (by rfl) T.n_repr (by decide +kernel) (pa_cons (pv 2) pa_nil)) pa_nil))) (nomark _))))))), ?_⟩
    walk_at "rd"
    refine ⟨m, a, v, d, ws, rfl, h1, h2, ha, hsh, hd.1, hb, hdl, fun _ H1 s1 dd H2 s2 ndd hdd => ?_, fun rs p H' e => by rw [hno] at e; cases e⟩
    refine ⟨T.exm 3 (by decide), c 3, dd, rfl, rfl, fun b nb => ?_⟩
    walk_at "rd"
    have X : XC K (c 3) := (T.x 3 (by decide)).xc
    have sA : Same H (upd H2 b (exq b (c 3) dd)) := s1.trans (s2.trans (same_upd nb))
    have hx : XQ (upd H2 b (exq b (c 3) dd)) b (c 3) v := ⟨dd, upd_same, by rw [upd_ne (ne_none hdd nb)]; exact hdd⟩
    refine .inl ⟨b, c 3, v, .ref (c 3), .ref (c 3), _, rfl, hx, X, .own _, T.kit 3 3 (by decide) (by decide), ?_⟩
    refine ⟨_, rfl, b, c 3, v, rfl, hx, X, v, d, rfl, Shows.same sA hd, by show 2 ≤ sizeLine; decide, fun p np => ⟨v, d, rfl, Shows.same (sA.trans (same_upd np)) hd, by show 2 ≤ sizeLine; decide, fun p1 np1 => ?_⟩⟩
    have sh : SeqAt.shaped (.list [.bool true, .str d.shown]) = true := by
      unfold SeqAt.shaped
      simp only [PyData.canLay0, PyData.canLayAll0, PyData.depth, PyData.depthAll, hdo]
      rfl
    refine ⟨.list [.bool true, .str d.shown], .list [.bool true, .str d.shown], .lst (SqL.of (same_upd np1 _ _ upd_same)) (.cons (.bl _) (.cons (.str _) .nil)), .lst (SqL.of upd_same) (.cons (.bl _) (.cons (.str _) .nil)), sh, sh, ?_⟩
    rw [SeqAt.eqv_refl _ (SeqAt.canLay_of_shaped sh)]
    exact q _ (sA.trans ((same_upd np).trans (same_upd np1)))
end
end K16

namespace K16
open PySem PySem.Spec PyProof.Rows L2 G1 MW
abbrev s_law_bent : Stmt := topS 47
theorem sc_law_bent : FnScope ["_law_size", "_law_paper_here", "_law_found", "_law_items", "_law_item", "_law_at"] ["_law_size", "_law_paper_here"] (defScope s_law_bent) := ⟨rfl, rfl, rfl, by decide +kernel, rfl, by decide +kernel, by decide +kernel⟩
local macro_rules | `(tactic| walk_at "rd") => `(tactic| simp only [L2.tPar3, L2.tSeq, L2.tAug, L2.tTup, G1.tCallK3b, G1.tMt, G1.tMinK, G1.rIsTu, L2.rIxT, G1.rTr, G1.rLtD, if_true, if_false, L2.rNotB, L2.rMax, L2.iRng2,L2.rIn, L2.tDNewK,  G1.iEnumS, L2.tDGet, L2.gTup, L2.gCons, L2.gNil, L2.tPar, L2.rIxS, G1.tRepU, L2.rSlS, L2.iStr, L2.tNotV, G1.rIsV, G1.mk_int, G1.mk_bool, G1.mk_str, G1.mk_list, G1.tCallX, V.ty.injEq, L2.tChain, L2.rIsB, G1.tRevS, L2.tM0, L2.tM1, L2.tCallS, G1.tCallK2, G1.tMkR, L2.rAll, L2.rPop, L2.tBM0, L2.tRevL, L2.tAsg, L2.tOp, L2.rI, L2.rI0, L2.tVar, L2.tC, L2.tCB, L2.tCons, L2.tNil, L2.tRet, L2.gName, L2.start, L2.tIf, L2.tIfS, L2.tTest, L2.tNext, L2.rIxL, L2.tSl, L2.rSlL, L2.tNoPart, L2.tPart, L2.tLst, L2.tTup, L2.rSum, L2.tBits, L2.gSub, L2.rSetL, L2.rCat, L2.tDrop, L2.tBM, L2.tBM0, L2.rAppend, L2.tYes, L2.tB, L2.tAnd, L2.tOr, L2.tNot, L2.tAndV, L2.tOrV, G1.tCallO, G1.tXm, G1.tXn, G1.tXv, HO.lst.injEq, HO.tup.injEq, Nat.reduceAdd, Nat.zero_add, List.set_cons_zero, List.set_cons_succ, G1.tFor_eq, G1.tLc_eq, G1.rIxM, G1.rLenM, G1.rSlM, G1.atI_0, G1.atI_1, G1.atI_2, G1.ixN_0, G1.ixN_2, L2.upd_same, L2.upd_upd, and_assoc, L2.iRng1, L2.iList, L2.tUn, L2.rU, G1.rRepS, L2.wipe, List.foldl, L2.rEq, L2.rNe, List.map, List.replicate, List.length, List.append, List.set, List.getElem?_cons_zero, List.getElem?_cons_succ, List.cons_append, List.nil_append, Option.some.injEq, V.int.injEq, V.bl.injEq, V.ref.injEq, V.str.injEq, List.cons.injEq, reduceCtorEq, false_and, and_false, exists_false, or_false, false_or, exists_and_left, exists_and_right, exists_eq_left', exists_eq_left, true_and, and_true, Nat.sub_self, decide_eq_true_eq])
local macro_rules | `(tactic| walk_at "ev") => `(tactic| repeat (first | exact Ev.int _ | exact Ev.str _ | exact Ev.bl _ | exact Ev.non | exact Ev.dict | exact EvA.nil | refine EvA.cons ?_ ?_ | refine Ev.lst ?_ (by first | decide | (simp; omega)) | refine Ev.tup ?_ (by first | decide | (simp; omega)) | refine Ev.tupOf ?_ | refine Ev.cat ?_ ?_ (by simp; omega) | refine Ev.op ?_ ?_ rfl | refine Ev.neg ?_ | refine Ev.len ?_ | exact Ev.var rfl (by assumption) | exact Ev.var rfl (.int _)))
section
variable {P : Program} {w : World} {K : PySem.W.Frag} {mg : Str → Option Value} {base : Heap} {c : Nat → Addr} {cF : Addr}
/-- a value that is no paper over n words, and may be shown -/
structure Bad (n : Nat) (e : PyData) : Prop where
  shw : ∀ (K : PySem.W.Frag) (H : Hp) (v : V), De K H v e → Shows K H v e
  ok : PyData.strOk e.shown = true
  sbt : sb e = true
  len : ∀ ds, e = .list ds → ds.length ≤ 100000
  no : ∀ ws : List (List Nat), ws.length = n → saidD ws e = none
theorem saidW_bad {b : PyData} {post : List PyData} : ∀ (pre : List PyData) (ks : List (List Nat)), stepB ((ks.length + pre.length : Nat) : Int) b = false → saidW ks (pre ++ b :: post) = none
  | [], ks, h => by
    rw [List.nil_append, saidW, if_neg]
    rintro ⟨z, _⟩
    rw [show ((ks.length + ([] : List PyData).length : Nat) : Int) = (ks.length : Nat) from rfl, z] at h
    cases h
  | d :: pre, ks, h => by
    rw [List.cons_append, saidW]
    split
    · refine saidW_bad pre _ ?_
      rw [List.length_append, List.length_singleton, show ks.length + 1 + pre.length = ks.length + (d :: pre).length by rw [List.length_cons]; omega]
      exact h
    · rfl
theorem Bad.of {n N B : Nat} {e : PyData} (f : Fine N B e) (hN : N ≤ 60) (hB : B ≤ 1000000) (hs : sb e = true) (hl : ∀ ds, e = .list ds → ds.length ≤ 100000) (no : ∀ ws : List (List Nat), ws.length = n → saidD ws e = none) : Bad n e :=
  ⟨fun K H v h => f.shows h hN (Nat.le_trans hB (by decide)), f.ok, hs, hl, no⟩
/-- a piece of a paper that may be shown -/
def Pc (d : PyData) : Prop := Fine 2 7000 d ∧ sb d = true
def Ic (d : PyData) : Prop := Fine 1 500 d ∧ sb d = true
theorem sbAll_of : ∀ {ds : List PyData}, (∀ d ∈ ds, sb d = true) → sbAll ds = true
  | [], _ => rfl
  | d :: ds, h => by rw [sbAll, h d List.mem_cons_self, sbAll_of fun x hx => h x (List.mem_cons_of_mem _ hx)]; rfl
theorem Pc.list {ds : List PyData} (h : ∀ d ∈ ds, Ic d) (hl : ds.length ≤ 13) : Pc (.list ds) :=
  ⟨(Fine.list fun d hd => (h d hd).1).mono (by decide) (by
    have := Nat.mul_le_mul_left 502 hl
    omega), sbAll_of fun d hd => (h d hd).2⟩
theorem Pc.tup {ds : List PyData} (h : ∀ d ∈ ds, Ic d) (hl : ds.length ≤ 13) : Pc (.tuple ds) :=
  ⟨(Fine.tuple fun d hd => (h d hd).1).mono (by decide) (by
    have := Nat.mul_le_mul_left 502 hl
    omega), sbAll_of fun d hd => (h d hd).2⟩
theorem Ic.int {i : Int} (h : i.natAbs < 10 ^ 100) : Ic (.int i) := ⟨(Fine.int h).mono (by decide) (by decide), rfl⟩
theorem Ic.non : Ic .none := ⟨Fine.none.mono (by decide) (by decide), rfl⟩
theorem Ic.tup {ds : List PyData} (h : ∀ d ∈ ds, Fine 0 150 d ∧ sb d = true) (hl : ds.length ≤ 3) : Ic (.tuple ds) :=
  ⟨(Fine.tuple fun d hd => (h d hd).1).mono (by decide) (by
    have := Nat.mul_le_mul_left 152 hl
    omega), sbAll_of fun d hd => (h d hd).2⟩
theorem Ic.lst {ds : List PyData} (h : ∀ d ∈ ds, Fine 0 150 d ∧ sb d = true) (hl : ds.length ≤ 3) : Ic (.list ds) :=
  ⟨(Fine.list fun d hd => (h d hd).1).mono (by decide) (by
    have := Nat.mul_le_mul_left 152 hl
    omega), sbAll_of fun d hd => (h d hd).2⟩
theorem Fine.small {i : Int} (h : i.natAbs < 10 ^ 40) : Fine 0 150 (.int i) := by
  refine ⟨?_, Nat.zero_le _, ?_, sOk_of _, rfl⟩
  · exact (Fine.int (Nat.lt_of_lt_of_le h (by decide +kernel))).sw
  · show (PySem.Str.ofString (toString i)).length ≤ 150
    rw [PySem.ofString_length]
    have := PySem.int_text_length_le10 (k := 40) (by decide) h
    omega
theorem Bad.mid {n : Nat} {pre post : List PyData} {b : PyData} (hp : ∀ d ∈ pre ++ b :: post, Pc d) (hl : (pre ++ b :: post).length ≤ 13) (h : stepB ((n + pre.length : Nat) : Int) b = false) : Bad n (.list (pre ++ b :: post)) := by
  refine Bad.of (N := 3) (Fine.list fun d hd => (hp d hd).1) (by decide) ?_ (sbAll_of fun d hd => (hp d hd).2) (fun ds e => by cases e; omega) fun ws hw => ?_
  · have := Nat.mul_le_mul_left 7002 hl
    omega
  · show ((saidW (ws.map red) (pre ++ b :: post)).map _) = none
    rw [saidW_bad pre (ws.map red) (by rw [List.length_map, hw]; exact h)]
    rfl
theorem Bad.last {n : Nat} {pre : List PyData} {b : PyData} (hp : ∀ d ∈ pre, Pc d) (hb : Pc b) (hl : pre.length ≤ 12) (h : stepB ((n + pre.length : Nat) : Int) b = false) : Bad n (.list (pre ++ [b])) := by
  refine Bad.mid (fun d hd => ?_) (by simp; omega) h
  rcases List.mem_append.mp hd with z | z
  · exact hp d z
  · rw [List.mem_singleton.mp z]; exact hb
theorem item_ic {k : Int} {d : PyData} (h : itemB k d = true) (hk : k ≤ 100) : Ic d := by
  obtain ⟨n, s, rfl, h0, h1, h2⟩ := item_of h
  refine Ic.tup (fun d hd => ?_) (by simp)
  simp only [List.mem_cons, List.not_mem_nil, or_false] at hd
  rcases hd with rfl | rfl
  · exact ⟨Fine.small (Nat.lt_of_lt_of_le (show n.natAbs < 1000 by omega) (by decide +kernel)), rfl⟩
  · exact ⟨Fine.small (Nat.lt_of_lt_of_le (show s.natAbs < 1000 by omega) (by decide +kernel)), rfl⟩
theorem step_pc {k : Int} {d : PyData} (h : stepB k d = true) (hk : k ≤ 100) : Pc d := by
  unfold stepB at h
  split at h
  · rw [Bool.and_eq_true, decide_eq_true_eq, List.all_eq_true] at h
    exact Pc.list (fun d hd => item_ic (h.2 d hd) hk) (by omega)
  · cases h
theorem Steps.pc {n : Nat} {ds : List PyData} (h : Steps n ds) (hn : n + ds.length ≤ 100) : ∀ d ∈ ds, Pc d := by
  intro d hd
  obtain ⟨i, hi, rfl⟩ := List.mem_iff_getElem.mp hd
  exact step_pc (h i _ (List.getElem?_eq_getElem hi)) (by omega)
theorem Fine.text {x : Str} (h : (PyData.str x).showable = true) (h1 : (PyData.str x).shown.length ≤ 150) (h2 : PyData.strOk (PyData.str x).shown = true) : Fine 0 150 (.str x) := ⟨h, Nat.zero_le _, h1, h2, rfl⟩
/-- the items that are none -/
def badItems (n l : Nat) : List PyData := [.tuple [.int ((n : Int) + (l : Nat)), .int 1], .tuple [.int (-1), .int 1], .tuple [.int 0, .int 0], .tuple [.int 0, .int 2], .tuple [.int 0, .int (-2)], .tuple [.int 0, .bool true], .tuple [.bool true, .int 1], .tuple [.int 0, .none],
  .tuple [.str "0", .int 1], .tuple [.int 0, .int 1, .int 1], .tuple [.int 0], .int 0, .str "ab"]
theorem bad_items {n l : Nat} (hn : n ≤ 12) (hl : l ≤ 12) : ∀ d ∈ badItems n l, Ic d ∧ itemB ((n + l : Nat) : Int) d = false := by
  have sm : ∀ i : Int, i.natAbs < 1000 → Fine 0 150 (.int i) ∧ sb (.int i) = true := fun i h => ⟨Fine.small (Nat.lt_of_lt_of_le h (by decide +kernel)), rfl⟩
  have bo : Fine 0 150 (.bool true) ∧ sb (.bool true) = true := ⟨(Fine.bool true).mono (by decide) (by decide), rfl⟩
  have no : Fine 0 150 .none ∧ sb .none = true := ⟨Fine.none.mono (by decide) (by decide), rfl⟩
  have st : ∀ x : Str, (x = PySem.Str.ofString "0" ∨ x = PySem.Str.ofString "ab") → Fine 0 150 (.str x) ∧ sb (.str x) = true := by
    rintro x (rfl | rfl)
    · exact ⟨Fine.text rfl (by decide +kernel) (by decide +kernel), by decide +kernel⟩
    · exact ⟨Fine.text rfl (by decide +kernel) (by decide +kernel), by decide +kernel⟩
  intro d hd
  simp only [badItems, List.mem_cons, List.not_mem_nil, or_false] at hd
  have t2 : ∀ a b : PyData, (Fine 0 150 a ∧ sb a = true) → (Fine 0 150 b ∧ sb b = true) → Ic (.tuple [a, b]) := fun a b ha hb => Ic.tup (fun d hd => by
    simp only [List.mem_cons, List.not_mem_nil, or_false] at hd
    rcases hd with rfl | rfl
    · exact ha
    · exact hb) (by simp)
  rcases hd with rfl | rfl | rfl | rfl | rfl | rfl | rfl | rfl | rfl | rfl | rfl | rfl | rfl
  · refine ⟨t2 _ _ (sm _ (by omega)) (sm _ (by decide)), ?_⟩
    simp [itemB]
  · exact ⟨t2 _ _ (sm _ (by decide)) (sm _ (by decide)), by simp [itemB]⟩
  · exact ⟨t2 _ _ (sm _ (by decide)) (sm _ (by decide)), by simp [itemB]⟩
  · exact ⟨t2 _ _ (sm _ (by decide)) (sm _ (by decide)), by simp [itemB]⟩
  · exact ⟨t2 _ _ (sm _ (by decide)) (sm _ (by decide)), by simp [itemB]⟩
  · exact ⟨t2 _ _ (sm _ (by decide)) bo, rfl⟩
  · exact ⟨t2 _ _ bo (sm _ (by decide)), rfl⟩
  · exact ⟨t2 _ _ (sm _ (by decide)) no, rfl⟩
  · exact ⟨t2 _ _ (st _ (.inl rfl)) (sm _ (by decide)), rfl⟩
  · refine ⟨Ic.tup (fun d hd => ?_) (by decide), rfl⟩
    simp only [List.mem_cons, List.not_mem_nil, or_false] at hd
    rcases hd with rfl | rfl | rfl <;> exact sm _ (by decide)
  · refine ⟨Ic.tup (fun d hd => ?_) (by decide), rfl⟩
    simp only [List.mem_cons, List.not_mem_nil, or_false] at hd
    subst hd
    exact sm _ (by decide)
  · exact ⟨⟨(sm 0 (by decide)).1.mono (by decide) (by decide), rfl⟩, rfl⟩
  · exact ⟨⟨(st _ (.inr rfl)).1.mono (by decide) (by decide), (st _ (.inr rfl)).2⟩, rfl⟩
def one0 : PyData := .tuple [.int 0, .int 1]
/-- what `_law_bent` makes -/
def bents (n : Nat) (ds : List PyData) : List PyData :=
  ([.none, .int 7, .tuple ds, .str "a", .dict [], .list (ds ++ [.none]), .list (ds ++ [.tuple []]), .list (ds ++ [.tuple [one0]]), .list (ds ++ [.list [.none]]), .list (ds ++ [.list [.list [.int 0, .int 1]]])]
    ++ (badItems n ds.length).map (fun d => .list (ds ++ [.list [d]])) ++ (badItems n ds.length).map (fun d => .list (ds ++ [.list [one0, d]]))) ++ [.list (ds ++ [.list (List.replicate 13 [one0]).flatten])]
    ++ (List.range ds.length).map fun k => .list (ds.take k ++ [.list [.tuple [.int ((n : Int) + (k : Nat)), .int 1]]] ++ ds.drop (k + 1))
theorem bents_bad {n : Nat} {ds : List PyData} (hn : n ≤ 12) (hl : ds.length ≤ 4) (hs : Steps n ds) : ∀ e ∈ bents n ds, Bad n e := by
  have hp := hs.pc (by omega)
  have sm : ∀ i : Int, i.natAbs < 1000 → Fine 0 150 (.int i) ∧ sb (.int i) = true := fun i h => ⟨Fine.small (Nat.lt_of_lt_of_le h (by decide +kernel)), rfl⟩
  have i0 : Ic one0 := item_ic (k := 1) rfl (by decide)
  have nl : ∀ e : PyData, (∀ ds, e ≠ .list ds) → ∀ ds, e = .list ds → ds.length ≤ 100000 := fun e h ds z => absurd z (h ds)
  intro e he
  unfold bents at he
  rw [List.mem_append, List.mem_append, List.mem_append, List.mem_append] at he
  rcases he with (((h | h) | h) | h) | h
  · simp only [List.mem_cons, List.not_mem_nil, or_false] at h
    rcases h with rfl | rfl | rfl | rfl | rfl | rfl | rfl | rfl | rfl | rfl
    · exact Bad.of Fine.none (by decide) (by decide) rfl (fun ds z => nomatch z) fun ws _ => rfl
    · exact Bad.of (sm 7 (by decide)).1 (by decide) (by decide) rfl (fun ds z => nomatch z) fun ws _ => rfl
    · refine Bad.of (Fine.tuple fun d hd => (hp d hd).1) (by decide) ?_ (sbAll_of fun d hd => (hp d hd).2) (fun ds z => nomatch z) fun ws _ => rfl
      have := Nat.mul_le_mul_left 7002 hl
      omega
    · exact Bad.of (Fine.text (x := "a") rfl (by decide +kernel) (by decide +kernel)) (by decide) (by decide) (by decide +kernel) (fun ds z => nomatch z) fun ws _ => rfl
    · exact ⟨fun K H v h => ⟨h, rfl, by decide, by decide +kernel, fun _ => rfl⟩, by decide +kernel, rfl, fun ds z => (nomatch z), fun ws _ => rfl⟩
    · exact Bad.last hp ⟨Fine.none.mono (by decide) (by decide), rfl⟩ (by omega) rfl
    · exact Bad.last hp (Pc.tup (fun _ z => nomatch z) (by decide)) (by omega) rfl
    · exact Bad.last hp (Pc.tup (fun d hd => by rw [List.mem_singleton.mp hd]; exact i0) (by decide)) (by omega) rfl
    · exact Bad.last hp (Pc.list (fun d hd => by rw [List.mem_singleton.mp hd]; exact Ic.non) (by decide)) (by omega) rfl
    · refine Bad.last hp (Pc.list (fun d hd => ?_) (by decide)) (by omega) rfl
      rw [List.mem_singleton.mp hd]
      refine Ic.lst (fun d hd => ?_) (by decide)
      simp only [List.mem_cons, List.not_mem_nil, or_false] at hd
      rcases hd with rfl | rfl <;> exact sm _ (by decide)
  · obtain ⟨d, hd, rfl⟩ := List.mem_map.mp h
    obtain ⟨h1, h2⟩ := bad_items hn (show ds.length ≤ 12 by omega) d hd
    refine Bad.last hp (Pc.list (fun x hx => by rw [List.mem_singleton.mp hx]; exact h1) (by simp)) (by omega) ?_
    simp only [stepB, List.all_cons, h2, Bool.false_and, Bool.and_false]
  · obtain ⟨d, hd, rfl⟩ := List.mem_map.mp h
    obtain ⟨h1, h2⟩ := bad_items hn (show ds.length ≤ 12 by omega) d hd
    refine Bad.last hp (Pc.list (fun x hx => ?_) (by simp)) (by omega) ?_
    · simp only [List.mem_cons, List.not_mem_nil, or_false] at hx
      rcases hx with rfl | rfl
      · exact i0
      · exact h1
    · simp only [stepB, List.all_cons, h2, Bool.false_and, Bool.and_false]
  · rw [List.mem_singleton.mp h]
    refine Bad.last hp (Pc.list (fun x hx => ?_) (by decide)) (by omega) rfl
    have : x = one0 := by simpa using hx
    rw [this]
    exact i0
  · obtain ⟨k, hk, rfl⟩ := List.mem_map.mp h
    rw [List.mem_range] at hk
    rw [List.append_assoc, List.singleton_append]
    refine Bad.mid (fun d hd => ?_) ?_ ?_
    · rcases List.mem_append.mp hd with z | z
      · exact hp d (List.mem_of_mem_take z)
      · rcases List.mem_cons.mp z with rfl | z
        · refine Pc.list (fun x hx => ?_) (by simp)
          rw [List.mem_singleton.mp hx]
          refine Ic.tup (fun d hd => ?_) (by simp)
          simp only [List.mem_cons, List.not_mem_nil, or_false] at hd
          rcases hd with rfl | rfl
          · exact sm _ (by omega)
          · exact sm _ (by decide)
        · exact hp d (List.mem_of_mem_drop z)
    · simp
      omega
    · rw [List.length_take, Nat.min_eq_left (by omega)]
      simp [stepB, itemB]
def spBent (K : PySem.W.Frag) : Sp := fun vs H Q _ => ∃ (n : Nat) (a : Addr) (ds : List PyData), vs = [.int n, .ref a] ∧ n ≤ 12 ∧ De K H (.ref a) (.list ds) ∧ ds.length ≤ 4 ∧ ∀ v H', Same H H' → De K H' v (.list (bents n ds)) → Q v H'
theorem ok_bent (S : Src K mg "_law_bent" s_law_bent) (T : Txt P w K mg base c cF) : OkD P w K mg base 1 "_law_bent" ["_law_size", "_law_paper_here"] (spBent K) := by
  refine okd S (fun f fd F => F.ok sc_law_bent (fun vs H Q E h => ?_) (fun cdv A outer s H vs Q E hr h => ?_)) (fun _ _ _ _ _ _ us hl => match us, hl with | [_, _], _ => rfl)
  · obtain ⟨_, _, _, rfl, _⟩ := h
    rfl
  · obtain ⟨n, a, ds, rfl, hn, hd, hl, q⟩ := h
    refine ⟨_, ((pss_cons (ps_set (i := 2) sc_law_bent.nd rfl (.inl rfl) (pe_lst (pa_cons pe_non (pa_cons pe_int (pa_cons (pe_callTy call_tuple_of (by rfl) T.n_tuple (by decide +kernel) (pa_cons (pv 1) pa_nil)) (pa_cons pe_str (pa_cons pe_dnewK (pa_cons (pe_op op_cat (pv 1) (pe_lst (pa_cons pe_non pa_nil))) (pa_cons (pe_op op_cat (pv 1) (pe_lst (pa_cons (pe_tup pa_nil) pa_nil))) (pa_cons (pe_op op_cat (pv 1) (pe_lst (pa_cons (pe_tup (pa_cons (pe_tup (pa_cons pe_int (pa_cons pe_int pa_nil))) pa_nil)) pa_nil))) (pa_cons (pe_op op_cat (pv 1) (pe_lst (pa_cons (pe_lst (pa_cons pe_non pa_nil)) pa_nil))) (pa_cons (pe_op op_cat (pv 1) (pe_lst (pa_cons (pe_lst (pa_cons (pe_lst (pa_cons pe_int (pa_cons pe_int pa_nil))) pa_nil)) pa_nil))) pa_nil))))))))))))
      (pss_cons (ps_set (i := 3) sc_law_bent.nd rfl (.inl rfl) (pe_lst (pa_cons (pe_tup (pa_cons (pe_op op_add (pv 0) (pe_callB call_lenM (by rfl) T.n_len PySem.boot_len (pa_cons (pv 1) pa_nil))) (pa_cons pe_int pa_nil))) (pa_cons (pe_tup (pa_cons (pe_un un_neg pe_int) (pa_cons pe_int pa_nil))) (pa_cons (pe_tup (pa_cons pe_int (pa_cons pe_int pa_nil))) (pa_cons (pe_tup (pa_cons pe_int (pa_cons pe_int pa_nil))) (pa_cons (pe_tup (pa_cons pe_int (pa_cons (pe_un un_neg pe_int) pa_nil))) (pa_cons (pe_tup (pa_cons pe_int (pa_cons pe_bl pa_nil))) (pa_cons (pe_tup (pa_cons pe_bl (pa_cons pe_int pa_nil))) (pa_cons (pe_tup (pa_cons pe_int (pa_cons pe_non pa_nil))) (pa_cons (pe_tup (pa_cons pe_str (pa_cons pe_int pa_nil))) (pa_cons (pe_tup (pa_cons pe_int (pa_cons pe_int (pa_cons pe_int pa_nil)))) (pa_cons (pe_tup (pa_cons pe_int pa_nil)) (pa_cons pe_int (pa_cons pe_str pa_nil)))))))))))))))
      (pss_cons (ps_set (i := 2) sc_law_bent.nd rfl (.inl rfl) (pe_op op_cat (pe_op op_cat (pv 2) (pe_lc (own := [("_law_item", 4)]) (g := gName 4) (tt := tYes) (by rfl) sc_law_bent.nd (pi_list (pv 3)) (blkOk_by (own := [("_law_item", 4)]) (N := ["_law_size", "_law_paper_here", "_law_found", "_law_items", "_law_item", "_law_at"]) (sc := defScope s_law_bent) (by decide +kernel)) (fun _ _ _ _ _ => pg_name (i := 4) sc_law_bent.nd rfl (Or.inl rfl)) (fun _ _ _ _ _ => pts_nil) (fun _ _ _ _ _ => (pe_op op_cat (pv 1) (pe_lst (pa_cons (pe_lst (pa_cons (pv 4) pa_nil)) pa_nil)))))) (pe_lc (own := [("_law_item", 4)]) (g := gName 4) (tt := tYes) (by rfl) sc_law_bent.nd (pi_list (pv 3)) (blkOk_by (own := [("_law_item", 4)]) (N := ["_law_size", "_law_paper_here", "_law_found", "_law_items", "_law_item", "_law_at"]) (sc := defScope s_law_bent) (by decide +kernel)) (fun _ _ _ _ _ => pg_name (i := 4) sc_law_bent.nd rfl (Or.inl rfl)) (fun _ _ _ _ _ => pts_nil) (fun _ _ _ _ _ => (pe_op op_cat (pv 1) (pe_lst (pa_cons (pe_lst (pa_cons (pe_tup (pa_cons pe_int (pa_cons pe_int pa_nil))) (pa_cons (pv 4) pa_nil))) pa_nil)))))))
      (pss_one (ps_ret (pe_op op_cat (pe_op op_cat (pv 2) (pe_lst (pa_cons (pe_op op_cat (pv 1) (pe_lst (pa_cons (pe_op op_rep (pe_lst (pa_cons (pe_tup (pa_cons pe_int (pa_cons pe_int pa_nil))) pa_nil)) pe_int) pa_nil))) pa_nil))) (pe_lc (own := [("_law_at", 5)]) (g := gName 5) (tt := tYes) (by rfl) sc_law_bent.nd (pi_range1 (by rfl) T.n_range (pa_cons (pe_callB call_lenM (by rfl) T.n_len PySem.boot_len (pa_cons (pv 1) pa_nil)) pa_nil)) (blkOk_by (own := [("_law_at", 5)]) (N := ["_law_size", "_law_paper_here", "_law_found", "_law_items", "_law_item", "_law_at"]) (sc := defScope s_law_bent) (by decide +kernel)) (fun _ _ _ _ _ => pg_name (i := 5) sc_law_bent.nd rfl (Or.inl rfl)) (fun _ _ _ _ _ => pts_nil) (fun _ _ _ _ _ => (pe_op op_cat (pe_op op_cat (pe_slice (sl_listK K rfl) (pv 1) po_none (po_some (pv 5))) (pe_lst (pa_cons (pe_lst (pa_cons (pe_tup (pa_cons (pe_op op_add (pv 0) (pv 5)) (pa_cons pe_int pa_nil))) pa_nil)) pa_nil))) (pe_slice (sl_listK K rfl) (pv 1) (po_some (pe_op op_add (pv 5) pe_int)) po_none))))))))))), ?_⟩
    have hz := sizeLine_eq
    refine ev_store (K := K) (d := .list [.none, .int 7, .tuple ds, .str "a", .dict [], .list (ds ++ [.none]), .list (ds ++ [.tuple []]), .list (ds ++ [.tuple [one0]]), .list (ds ++ [.list [.none]]), .list (ds ++ [.list [.list [.int 0, .int 1]]])]) ?_ fun v1 H1 s1 e1 => ?_
    · walk_at "ev"
    have hd1 := De.same s1 _ _ hd
    refine ev_store (K := K) (d := .list (badItems n ds.length)) ?_ fun v2 H2 s2 e2 => ?_
    · unfold badItems
      walk_at "ev"
    have hd2 := De.same s2 _ _ hd1
    have e1 := De.same s2 _ _ e1
    have hbl : (badItems n ds.length).length = 13 := rfl
    refine ev_store (K := K) (Ev.cat (Ev.cat (Ev.var rfl e1) (Ev.list (f := fun d => .list (ds ++ [.list [d]])) (Ev.var rfl e2) (by rw [hbl]; decide) fun x v H3 hx s3 ex => ?_) ?_) (Ev.list (f := fun d => .list (ds ++ [.list [one0, d]])) (Ev.var rfl e2) (by rw [hbl]; decide) fun x v H3 hx s3 ex => ?_) ?_) fun v3 H3 s3 e3 => ?_
    · have hd3 := De.same s3 _ _ hd2
      walk_at "ev"
    · simp only [List.length_map, hbl]
      simp
      omega
    · have hd3 := De.same s3 _ _ hd2
      walk_at "ev"
    · simp only [List.length_map, List.length_append, hbl]
      simp
      omega
    have hd3 := De.same s3 _ _ hd2
    refine ev_ret (K := K) (Ev.cat (Ev.cat (Ev.var rfl e3) (ys := [.list (ds ++ [.list (List.replicate 13 [one0]).flatten])]) ?_ ?_) (Ev.rng (f := fun k => .list (ds.take k ++ [.list [.tuple [.int ((n : Int) + (k : Nat)), .int 1]]] ++ ds.drop (k + 1))) (Ev.len (Ev.var rfl hd3)) (by omega) fun k H4 hk s4 => ?_) ?_) fun v H' s' e' => ?_
    · refine Ev.lst (EvA.cons (Ev.cat (Ev.var rfl hd3) (Ev.lst (EvA.cons (Ev.rep (k := 13) ?_ ?_ (by decide) (by decide) (by simp; omega)) .nil) (by simp; omega)) (by simp; omega)) .nil) (by simp; omega) <;> walk_at "ev"
    · simp only [List.length_map, List.length_append, hbl]
      simp
      omega
    · have hd4 := De.same s4 _ _ hd3
      refine Ev.cat (Ev.cat (Ev.take (Ev.var rfl hd4) (Ev.var rfl (.int _)) (by omega)) ?_ ?_) (Ev.drop (k := k + 1) (Ev.var rfl hd4) (Ev.op (Ev.var rfl (.int _)) (Ev.int 1) rfl) (by omega)) ?_
      · walk_at "ev"
      · simp
        omega
      · simp
        omega
    · simp only [List.length_map, List.length_append, hbl]
      simp
      omega
    · exact q v H' (s1.trans (s2.trans (s3.trans s'))) e'
end
end K16

namespace K16
open PySem PySem.Spec PyProof.Rows L2 G1 MW
abbrev s_law_right : Stmt := topS 48
theorem sc_law_right : FnScope ["_law_generator_here", "_law_many", "_law_words_here", "_law_paper_here", "_law_due", "_law_kept", "_law_word_here", "_law_last", "_law_value"] ["_law_generator_here"] (defScope s_law_right) := ⟨rfl, rfl, rfl, by decide +kernel, rfl, by decide +kernel, by decide +kernel⟩
local macro_rules | `(tactic| walk_at "rd") => `(tactic| simp only [L2.tPar3, L2.tSeq, L2.tAug, L2.tTup, G1.tCallK3b, G1.tMt, G1.tMinK, G1.rIsTu, L2.rIxT, G1.rTr, G1.rLtD, if_true, if_false, L2.rNotB, L2.rMax, L2.iRng2,L2.rIn, L2.tDNewK, G1.tCallK3, G1.tCallK4, G1.iEnumS, L2.tDGet, L2.gTup, L2.gCons, L2.gNil, L2.tPar, L2.rIxS, G1.tRepU, L2.rSlS, L2.iStr, L2.tNotV, G1.rIsV, G1.mk_int, G1.mk_bool, G1.mk_str, G1.mk_list, G1.tCallX, V.ty.injEq, L2.tChain, L2.rIsB, G1.tRevS, L2.tM0, L2.tM1, L2.tCallS, G1.tCallK2, G1.tMkR, L2.rAll, L2.rPop, L2.tBM0, L2.tRevL, L2.tAsg, L2.tOp, L2.rI, L2.rI0, L2.tVar, L2.tC, L2.tCB, L2.tCons, L2.tNil, L2.tRet, L2.gName, L2.start, L2.tIf, L2.tIfS, L2.tTest, L2.tNext, L2.rIxL, L2.tSl, L2.rSlL, L2.tNoPart, L2.tPart, L2.tLst, L2.tTup, L2.rSum, L2.tBits, L2.gSub, L2.rSetL, L2.rCat, L2.tDrop, L2.tBM, L2.tBM0, L2.rAppend, L2.tYes, L2.tB, L2.tAnd, L2.tOr, L2.tNot, L2.tAndV, L2.tOrV, G1.tCallO, G1.tXm, G1.tXn, G1.tXv, HO.lst.injEq, HO.tup.injEq, Nat.reduceAdd, Nat.zero_add, List.set_cons_zero, List.set_cons_succ, G1.tFor_eq, G1.tLc_eq, G1.rIxM, G1.rLenM, G1.rSlM, G1.atI_0, G1.atI_1, G1.atI_2, G1.ixN_0, G1.ixN_2, L2.upd_same, L2.upd_upd, and_assoc, L2.iRng1, L2.iList, L2.tUn, L2.rU, G1.rRepS, L2.wipe, List.foldl, L2.rEq, L2.rNe, List.map, List.replicate, List.length, List.append, List.set, List.getElem?_cons_zero, List.getElem?_cons_succ, List.cons_append, List.nil_append, Option.some.injEq, V.int.injEq, V.bl.injEq, V.ref.injEq, V.str.injEq, List.cons.injEq, reduceCtorEq, false_and, and_false, exists_false, or_false, false_or, exists_and_left, exists_and_right, exists_eq_left', exists_eq_left, true_and, and_true, Nat.sub_self, decide_eq_true_eq])
section
variable {P : Program} {w : World} {K : PySem.W.Frag} {mg : Str → Option Value} {base : Heap} {c : Nat → Addr} {cF : Addr}
theorem step_par (st : List Nat) (x : Nat) : (MW.step st x).length % 2 = (st.length + 1) % 2 := by
  unfold MW.step
  split
  · rfl
  · split
    · simp only [List.length_cons]
      omega
    · rfl
theorem stk_par : ∀ (l st : List Nat), (stk st l).length % 2 = (st.length + l.length) % 2
  | [], st => rfl
  | x :: l, st => by
    show (stk (MW.step st x) l).length % 2 = _
    rw [stk_par l, List.length_cons]
    have := step_par st x
    omega
theorem red_par (l : List Nat) : (red l).length % 2 = l.length % 2 := by
  unfold red
  rw [List.length_reverse, stk_par]
  simp
theorem red_more (l : List Nat) (x : Nat) : red (l ++ [x]) ≠ l := fun h => by
  have := red_par (l ++ [x])
  rw [h, List.length_append, List.length_singleton] at this
  omega
theorem Sm.red {m : Int} {l : List Nat} (h : Sm m l) : Sm m (red l) := fun ch hc => h ch (mem_red hc)
/-- what steps say: letters of the words, plain, not too long -/
structure Rs (m : Int) (l : List Nat) : Prop where
  sm : Sm m l
  rd : red l = l
  ln : l.length ≤ 10000
theorem stepW_rs {m : Int} (h1 : 1 ≤ m) (h2 : m ≤ 6) {ks : List (List Nat)} {d : PyData} (hk : ∀ l ∈ ks, Rs m l) (hs : stepB (ks.length : Nat) d = true) : Sm m (stepW ks d) := by
  unfold stepB at hs
  split at hs
  · rename_i ds
    rw [Bool.and_eq_true, List.all_eq_true] at hs
    refine Sm.red fun ch hc => ?_
    obtain ⟨it, hit, hch⟩ := List.mem_flatMap.mp hc
    obtain ⟨n, s, rfl, n0, n1, hs2⟩ := item_of (hs.2 it hit)
    have hg : Sm m (ks.getD n.toNat []) := by
      rw [List.getD_eq_getElem?_getD]
      cases e : ks[n.toNat]? with
      | none => exact fun _ z => nomatch z
      | some l => exact (hk l (List.mem_of_getElem? e)).sm
    simp only [itemW] at hch
    split at hch
    · exact hg ch hch
    · exact sm_opp h1 h2 hg ch hch
  · cases hs
theorem saidW_rs {m : Int} (h1 : 1 ≤ m) (h2 : m ≤ 6) : ∀ (ds : List PyData) (ks r : List (List Nat)), (∀ l ∈ ks, Rs m l) → saidW ks ds = some r → (∀ l ∈ r, Rs m l) ∧ r.length = ks.length + ds.length
  | [], ks, r, hk, h => by
    rw [saidW] at h
    cases h
    exact ⟨hk, rfl⟩
  | d :: ds, ks, r, hk, h => by
    rw [saidW] at h
    split at h
    · rename_i hc
      obtain ⟨a, b⟩ := saidW_rs h1 h2 ds (ks ++ [stepW ks d]) r (fun l hl => by
        rcases List.mem_append.mp hl with z | z
        · exact hk l z
        · rw [List.mem_singleton.mp z]
          refine ⟨stepW_rs h1 h2 hk hc.1, ?_, hc.2⟩
          unfold stepW
          split
          · exact red_red _
          · rfl) h
      refine ⟨a, ?_⟩
      rw [b, List.length_append, List.length_singleton, List.length_cons]
      omega
    · cases h
theorem saidD_rs {m : Int} (h1 : 1 ≤ m) (h2 : m ≤ 6) {ws rs : List (List Nat)} {ds : List PyData} (hw : ∀ l ∈ ws, Sm m l ∧ l.length ≤ 1000) (h : saidD ws (.list ds) = some rs) : (∀ l ∈ rs, Rs m l) ∧ rs.length = ds.length := by
  unfold saidD at h
  obtain ⟨r, hr, rfl⟩ := Option.map_eq_some_iff.mp h
  obtain ⟨a, b⟩ := saidW_rs h1 h2 ds _ r (fun l hl => by
    obtain ⟨u, hu, rfl⟩ := List.mem_map.mp hl
    have := len_red u
    have := (hw u hu).2
    exact ⟨(hw u hu).1.red, red_red u, by omega⟩) hr
  rw [List.length_map] at b
  exact ⟨fun l hl => a l (List.mem_of_mem_drop hl), by rw [List.length_drop, b]; omega⟩
theorem ws_ne {H : Hp} {p q : Addr} {ls : List (List Nat)} (h1 : WsAt H p ls) (h2 : WsAt H q ls) (hs : ∀ l ∈ ls, Sg l) {Q : VK} (h : Q (.bl false) H) : rNeD K (.ref p) (.ref q) H Q := by
  have sh := strs_shaped ls hs
  refine ⟨_, _, .lst (SqL.of h1) (dp_strs ls), .lst (SqL.of h2) (dp_strs ls), sh, sh, ?_⟩
  rw [SeqAt.eqv_refl _ (SeqAt.canLay_of_shaped sh)]
  exact h
theorem ws_eq {H : Hp} {p q : Addr} {ls : List (List Nat)} (h1 : WsAt H p ls) (h2 : WsAt H q ls) (hs : ∀ l ∈ ls, Sg l) {Q : VK} (h : Q (.bl true) H) : rEqD K (.ref p) (.ref q) H Q := by
  have sh := strs_shaped ls hs
  refine ⟨_, _, .lst (SqL.of h1) (dp_strs ls), .lst (SqL.of h2) (dp_strs ls), sh, sh, ?_⟩
  rw [SeqAt.eqv_refl _ (SeqAt.canLay_of_shaped sh)]
  exact h
theorem de_words {H : Hp} : ∀ ls : List (List Nat), DeAll K H (ls.map fun l => V.str (W l)) (ls.map fun l => PyData.str (W l))
  | [] => .nil
  | l :: ls => .cons (.str _) (de_words ls)
theorem last_at (rs : List (List Nat)) : (V.str (PySem.Str.ofString "") :: rs.map fun l => V.str (W l))[rs.length]? = some (V.str (W (rs.getLastD []))) := by
  cases rs with
  | nil => rfl
  | cons r rs =>
    rw [List.length_cons, List.getElem?_cons_succ, List.getElem?_map]
    have : (r :: rs)[rs.length]? = some ((r :: rs).getLastD []) := by
      rw [List.getLastD_eq_getLast?, List.getLast?_eq_getElem?]
      simp
    rw [this]
    rfl
theorem cutV_to (xs : List V) : cutV xs none (some 4) = xs.take 4 := by
  unfold cutV
  rw [show (4 : Int) = ((4 : Nat) : Int) from rfl, HT.sIx_nat, HT.sIx_none, List.drop_zero, Nat.sub_zero]
  rcases Nat.lt_or_ge xs.length 4 with h | h
  · rw [Nat.min_eq_right (by omega), List.take_length, List.take_of_length_le (by omega)]
  · rw [Nat.min_eq_left h]
/-- what stands: the words, the paper, what it says -/
structure Kp (K : PySem.W.Frag) (g a ap p0 : Addr) (ws : List (List Nat)) (ds : List PyData) (rs : List (List Nat)) (H : Hp) : Prop where
  hw : WsAt H a ws
  hp : De K (hid [g] H) (.ref ap) (.list ds)
  hr : WsAt H p0 rs
  ag : a ≠ g
  pg : p0 ≠ g
theorem Kp.but {g a ap p0 : Addr} {ws rs : List (List Nat)} {ds : List PyData} {H H' : Hp} (k : Kp K g a ap p0 ws ds rs H) (b : But g H H') : Kp K g a ap p0 ws ds rs H' :=
  ⟨b _ _ k.ag k.hw, De.same (hid_but fun x o n e => b x o (by simpa using n) e) _ _ k.hp, b _ _ k.pg k.hr, k.ag, k.pg⟩
theorem Kp.same {g a ap p0 : Addr} {ws rs : List (List Nat)} {ds : List PyData} {H H' : Hp} (k : Kp K g a ap p0 ws ds rs H) (s : Same H H') : Kp K g a ap p0 ws ds rs H' := k.but (.of s)
theorem Kp.pap {g a ap p0 : Addr} {ws rs : List (List Nat)} {ds : List PyData} {H : Hp} (k : Kp K g a ap p0 ws ds rs H) : De K H (.ref ap) (.list ds) := De.same (hid_sub _ _) _ _ k.hp
def spRight : Sp := fun vs H Q _ => ∃ (g : Addr) (Z : Int), vs = [.ref g] ∧ GenOk H g Z ∧ Z + 1000000 ≤ 100000000 ∧ ∀ H', But g H H' → Q (.bl true) H'
theorem ok_right (S : Src K mg "_law_right" s_law_right) (T : Txt P w K mg base c cF) (C_law_random : OkD P w K mg base 2 "_law_random" ["_law_generator_here", "_law_bound"] spRandom) (C_law_words : OkD P w K mg base 4 "_law_words" ["_law_generator_here", "_law_many", "_law_size", "_law_most"] spWords) (C_law_paper : OkD P w K mg base 3 "_law_paper" ["_law_generator_here", "_law_size"] (spLPaper K)) (C_law_said : OkD P w K mg base 3 "_law_said" ["_law_words_here", "_law_paper_here"] (spLSaid K)) (C_law_loose : OkD P w K mg base 3 "_law_loose" ["_law_generator_here", "_law_many", "_law_word_here"] spLoose) (C_law_bent : OkD P w K mg base 1 "_law_bent" ["_law_size", "_law_paper_here"] (spBent K)) (C_law_refused : OkG P w K mg base 7 "_law_refused" ["_law_many", "_law_words_here", "_law_value"] (spRefd K)) (C_said : OkX3 P w K mg base 6 "said" "many" "words" "paper" (spSaidX K c)) (C_is_paper : OkX4 P w K mg base 6 "is_paper" "many" "words" "word" "value" (spPaper K)) : OkG P w K mg base 8 "_law_right" ["_law_generator_here"] spRight := by
  refine okg S (fun f fd F => fng_ofn F sc_law_right (fun vs H Q E h => ?_) (fun cdv A outer s H vs Q E hg hr h => ?_)) (fun _ _ _ _ _ _ us hl => match us, hl with | [_], _ => rfl)
  · obtain ⟨_, _, rfl, _⟩ := h
    rfl
  · obtain ⟨g, Z, rfl, gk, hZ, q⟩ := h
    refine ⟨_, ((pss_cons (ps_set (i := 1) sc_law_right.nd rfl (.inl rfl) (pe_op op_add pe_int (pe_callO C_law_random (hr.mono (by decide)) (by rfl) (pa_cons (pv 0) (pa_cons pe_int pa_nil)))))
      (pss_cons (ps_set (i := 2) sc_law_right.nd rfl (.inl rfl) (pe_callO C_law_words (hr.mono (by decide)) (by rfl) (pa_cons (pv 0) (pa_cons (pv 1) (pa_cons pe_int (pa_cons pe_int pa_nil))))))
      (pss_cons (ps_set (i := 3) sc_law_right.nd rfl (.inl rfl) (pe_callO C_law_paper (hr.mono (by decide)) (by rfl) (pa_cons (pv 0) (pa_cons (pe_callB call_lenM (by rfl) T.n_len PySem.boot_len (pa_cons (pv 2) pa_nil)) pa_nil))))
      (pss_cons (ps_par (i := 4) (j := 5) (by rfl) sc_law_right.nd rfl rfl (by decide) rfl rfl (pa_cons (pe_callO C_law_said (hr.mono (by decide)) (by rfl) (pa_cons (pv 2) (pa_cons (pv 3) pa_nil))) (pa_cons (pe_callB (call_repr K rfl hg hr.units) (by rfl) T.n_repr (by decide +kernel) (pa_cons (pe_tup (pa_cons (pv 2) (pa_cons (pv 3) pa_nil))) pa_nil)) pa_nil)) (by rfl))
      (pss_cons (ps_if (pt_cmpR op_isN (pv 4) pe_non (nomark _)) (pss_one (ps_ret (pe_and (pe_callG hg C_law_refused (hr.mono (by decide)) (by rfl) (pa_cons (pv 1) (pa_cons (pv 2) (pa_cons (pv 3) pa_nil)))) (pe_one (pe_cmpR op_isBl (pe_callC C_is_paper.okX (hr.mono (by decide)) (by rfl) (pa_cons (pv 1) (pa_cons (pv 2) (pa_cons pe_str (pa_cons (pv 3) pa_nil))))) pe_bl (nomark _)))))) pss_nil)
      (pss_cons (ps_if (PW.pt (pw_or (pt_cmpR (op_neDK K rfl hr.units) (pe_callC C_said.okX (hr.mono (by decide)) (by rfl) (pa_cons (pv 1) (pa_cons (pv 2) (pa_cons (pv 3) pa_nil)))) (pv 4) (nomark _)) (pw_or1 (pt_cmpR op_ne (pe_callB (call_repr K rfl hg hr.units) (by rfl) T.n_repr (by decide +kernel) (pa_cons (pe_tup (pa_cons (pv 2) (pa_cons (pv 3) pa_nil))) pa_nil)) (pv 5) (nomark _))))) (pss_one (ps_ret pe_bl)) pss_nil)
      (pss_cons (ps_if (pt_cmpR op_gt (pe_callB (cr_sum rfl) (by rfl) T.n_sum (by decide +kernel) (pa_cons (pe_lc (own := [("_law_word_here", 6)]) (g := gName 6) (tt := tYes) (by rfl) sc_law_right.nd (pi_list (pv 4)) (blkOk_by (own := [("_law_word_here", 6)]) (N := ["_law_generator_here", "_law_many", "_law_words_here", "_law_paper_here", "_law_due", "_law_kept", "_law_word_here", "_law_last", "_law_value"]) (sc := defScope s_law_right) (by decide +kernel)) (fun _ _ _ _ _ => pg_name (i := 6) sc_law_right.nd rfl (Or.inl rfl)) (fun _ _ _ _ _ => pts_nil) (fun _ _ _ _ _ => (pe_callB call_len_str (by rfl) T.n_len PySem.boot_len (pa_cons (pv 6) pa_nil)))) pa_nil)) pe_int (nomark _)) (pss_one (ps_ret pe_bl)) pss_nil)
      (pss_cons (ps_if (pt_cmpR (op_neDK K rfl hr.units) (pe_callK3 C_said (hr.mono (by decide)) (by rfl) (pk_cons (pv 3) (pk_cons (pv 2) (pk_cons (pv 1) pk_nil)))) (pv 4) (nomark _)) (pss_one (ps_ret pe_bl)) pss_nil)
      (pss_cons (ps_set (i := 7) sc_law_right.nd rfl (.inl rfl) (pe_ix ix_lM (pe_op op_cat (pe_lst (pa_cons pe_str pa_nil)) (pv 4)) (pe_callB call_lenM (by rfl) T.n_len PySem.boot_len (pa_cons (pv 4) pa_nil)) (fun _ _ => rfl)))
      (pss_cons (ps_if (pt_cmpR op_le (pe_callB call_len_str (by rfl) T.n_len PySem.boot_len (pa_cons (pv 7) pa_nil)) pe_int (nomark _)) (pss_cons (ps_if (pt_cmpR op_notBl (pe_callC C_is_paper.okX (hr.mono (by decide)) (by rfl) (pa_cons (pv 1) (pa_cons (pv 2) (pa_cons (pe_callO C_law_loose (hr.mono (by decide)) (by rfl) (pa_cons (pv 0) (pa_cons (pv 1) (pa_cons (pv 7) pa_nil)))) (pa_cons (pv 3) pa_nil))))) pe_bl (nomark _)) (pss_one (ps_ret pe_bl)) pss_nil)
      (pss_cons (ps_if (pt_cmpR op_notBl (pe_callK4 C_is_paper (hr.mono (by decide)) (by rfl) (pk_cons (pv 3) (pk_cons (pv 7) (pk_cons (pv 2) (pk_cons (pv 1) pk_nil))))) pe_bl (nomark _)) (pss_one (ps_ret pe_bl)) pss_nil)
      (pss_one (ps_if (pt_cmpR op_notBl (pe_callC C_is_paper.okX (hr.mono (by decide)) (by rfl) (pa_cons (pv 1) (pa_cons (pv 2) (pa_cons (pe_op op_add_str (pv 7) pe_str) (pa_cons (pv 3) pa_nil))))) pe_bl (nomark _)) (pss_one (ps_ret pe_bl)) pss_nil)))) pss_nil)
      (pss_cons (ps_expr (pe_bm PySem.F.plainAttrs_list PySem.F.slot_list_append PySem.F.type_list_append mt_append (pe_callC C_said.okX (hr.mono (by decide)) (by rfl) (pa_cons (pv 1) (pa_cons (pv 2) (pa_cons (pv 3) pa_nil)))) (pa_cons pe_non pa_nil)))
      (pss_cons (ps_for PassesOwn.never rfl (pi_list (pe_callO C_law_bent (hr.mono (by decide)) (by rfl) (pa_cons (pe_callB call_lenM (by rfl) T.n_len PySem.boot_len (pa_cons (pv 2) pa_nil)) (pa_cons (pe_slice (sl_listK K rfl) (pv 3) po_none (po_some pe_int)) pa_nil)))) (pg_name (i := 8) sc_law_right.nd rfl (.inl rfl)) (pss_one (ps_if (PW.pt (pw_or (pt_cmpR op_notBl (pe_callC C_is_paper.okX (hr.mono (by decide)) (by rfl) (pa_cons (pv 1) (pa_cons (pv 2) (pa_cons pe_str (pa_cons (pv 8) pa_nil))))) pe_bl (nomark _)) (pw_or1 (pt_not (pt_val (pe_callG hg C_law_refused (hr.mono (by decide)) (by rfl) (pa_cons (pv 1) (pa_cons (pv 2) (pa_cons (pv 8) pa_nil))))))))) (pss_one (ps_ret pe_bl)) pss_nil)))
      (pss_one (ps_ret (pe_cmpR op_eq (pe_callB (call_repr K rfl hg hr.units) (by rfl) T.n_repr (by decide +kernel) (pa_cons (pe_tup (pa_cons (pv 2) (pa_cons (pv 3) pa_nil))) pa_nil)) (pv 5) (nomark _))))))))))))))))), ?_⟩
    walk_at "rd"
    have hz := sizeLine_eq
    refine draw gk (by omega) (by decide) (by decide) fun d1 H1 d0 d1' bt1 gk1 => ⟨d1, rfl, ?_⟩
    have m1 : 1 ≤ 1 + d1 := by omega
    have m2 : 1 + d1 ≤ 6 := by omega
    refine ⟨g, 1 + d1, 5, 6, _, rfl, m1, m2, by decide, by decide, by decide, by decide, gk1, by omega, fun a ws H2 na ha hwl hws bt2 gk2 => ⟨a, rfl, _, ha, ?_⟩⟩
    have nag : a ≠ g := GenOk.ne gk1 na
    have hsh : Short (1 + d1) ws := ⟨by omega, fun l hl => ⟨(hws l hl).1, by have := (hws l hl).2; omega⟩⟩
    refine ⟨g, ws.length, _, by rw [List.length_map], by omega, gk2, by omega, fun ap ds H3 nap hap hst hdl bt3 gk3 => ?_⟩
    have ha3 : WsAt H3 a ws := bt3 _ _ nag ha
    have hw1 : ∀ l ∈ ws, Sm (1 + d1) l ∧ l.length ≤ 1000 := fun l hl => ⟨(hws l hl).1, by have := (hws l hl).2; omega⟩
    refine ⟨a, ap, ds, ws, rfl, ha3, fun l hl => ⟨(hw1 l hl).1.sg, (hw1 l hl).2⟩, by omega, De.same (hid_sub _ _) _ _ hap, hst, by omega, fun x H4 s4 x1 x2 => ?_⟩
    have ha4 : WsAt H4 a ws := s4 _ _ ha3
    have hap4 : De K (hid [g] H4) (.ref ap) (.list ds) := De.same (hid_but fun b o n e => s4 b o e) _ _ hap
    have bt4 : But g H H4 := bt1.trans (bt2.trans (bt3.trans (.of s4)))
    have gk4 := gk3.but s4
    have fW : Fine 1 2600 (.list (ws.map fun l => PyData.str (W l))) := by
      refine (Fine.list (n := 0) (B := 362) fun d hd => ?_).mono (by decide) ?_
      · obtain ⟨l, hl, rfl⟩ := List.mem_map.mp hd
        exact (Fine.word fun ch hc => (hw1 l hl).1.sg ch hc).mono (by decide) (by have := (hws l hl).2; omega)
      · rw [List.length_map]
        have : ws.length ≤ 6 := by omega
        have := Nat.mul_le_mul_left 364 this
        omega
    have fP : Fine 3 90000 (.list ds) := by
      refine (Fine.list (n := 2) (B := 7000) fun d hd => (hst.pc (by omega) d hd).1).mono (by decide) ?_
      have := Nat.mul_le_mul_left 7002 hdl
      omega
    have sP : sb (.list ds) = true := sbAll_of fun d hd => (hst.pc (by omega) d hd).2
    have fK : Fine 4 200000 (.tuple [.list (ws.map fun l => PyData.str (W l)), .list ds]) := by
      refine (Fine.tuple (n := 3) (B := 90000) fun d hd => ?_).mono (by decide) (by simp)
      simp only [List.mem_cons, List.not_mem_nil, or_false] at hd
      rcases hd with rfl | rfl
      · exact fW.mono (by decide) (by decide)
      · exact fP
    have shK : ∀ (HH : Hp) (p : Addr), HH p = none → WsAt HH a ws → De K HH (.ref ap) (.list ds) → Shows K (upd HH p (.tup [.ref a, .ref ap])) (.ref p) (.tuple [.list (ws.map fun l => PyData.str (W l)), .list ds]) := fun HH p np k1 k2 =>
      fK.shows (.tup upd_same (.cons (.lst (same_upd np _ _ k1) (de_words ws)) (.cons (De.same (same_upd np) _ _ k2) .nil))) (by decide) (by omega)
    have shP : ∀ HH : Hp, De K HH (.ref ap) (.list ds) → Shows K HH (.ref ap) (.list ds) := fun HH k => fP.shows k (by decide) (by omega)
    have lnP : ∀ es, PyData.list ds = .list es → es.length ≤ 100000 := fun es e => by cases e; omega
    refine ⟨by decide, fun p np => ⟨_, _, rfl, shK H4 p np ha4 (De.same (hid_sub _ _) _ _ hap4), ?_⟩⟩
    cases hsd : saidD ws (.list ds) with
    | none =>
      rw [x1 hsd, if_pos rfl]
      have ha5 := same_upd np (o := .tup [.ref a, .ref ap]) _ _ ha4
      have hp5 := De.same (same_upd np (o := .tup [.ref a, .ref ap])) _ _ (De.same (hid_sub _ _) _ _ hap4)
      refine ⟨1 + d1, a, .ref ap, .list ds, ws, rfl, m1, m2, ha5, hsh, shP _ hp5, fP.ok, sP, lnP, hsd, fun H5 s5 => ⟨true, rfl, ?_⟩⟩
      rw [if_pos rfl]
      refine ⟨1 + d1, a, [], .ref ap, .list ds, ws, rfl, m1, m2, s5 _ _ ha5, hsh, (fun _ z => nomatch z), by decide, De.same s5 _ _ hp5, sP, lnP, fun H6 s6 => ⟨_, rfl, ?_⟩⟩
      have e : paperB ws [] (.list ds) = false := by unfold paperB; rw [hsd]
      rw [e]
      exact q _ (bt4.trans ((But.of (same_upd np)).trans ((But.of s5).trans (.of s6))))
    | some rs =>
      obtain ⟨p0, rfl, n0, hp0⟩ := x2 rs hsd
      rw [if_neg (by simp)]
      obtain ⟨hrs, hrl⟩ := saidD_rs m1 m2 hw1 hsd
      have hrg : ∀ l ∈ rs, Sg l := fun l hl => (hrs l hl).sm.sg
      have p0g : p0 ≠ g := GenOk.ne gk3 n0
      have k4 : Kp K g a ap p0 ws ds rs H4 := ⟨ha4, hap4, hp0, nag, p0g⟩
      have k5 := k4.same (same_upd np (o := .tup [.ref a, .ref ap]))
      have callS : ∀ (HH : Hp) (Q2 : VK) (E2 : XK), Kp K g a ap p0 ws ds rs HH → (∀ p1 H5, Same HH H5 → HH p1 = none → WsAt H5 p1 rs → Q2 (.ref p1) H5) → spSaidX K c [.int (1 + d1), .ref a, .ref ap] HH Q2 E2 := fun HH Q2 E2 k q2 =>
        ⟨1 + d1, a, .ref ap, .list ds, ws, rfl, m1, m2, k.hw, hsh, k.pap, sP, lnP, (fun e => absurd (hsd.symm.trans e) (by simp)), fun rs' p1 H5 e s5 n5 hp1 => by rw [hsd] at e; cases e; exact q2 p1 H5 s5 n5 hp1⟩
      refine callS _ _ _ k5 fun p1 H5 s5 n5 hp1 => ?_
      have k6 := k5.same s5
      refine ws_ne hp1 k6.hr hrg ⟨false, rfl, ?_⟩
      rw [if_neg (by decide)]
      refine ⟨by decide, fun p2 np2 => ⟨_, _, rfl, shK H5 p2 np2 k6.hw k6.pap, rfl, ?_⟩⟩
      rw [if_neg (by simp)]
      have k7 := k6.same (same_upd np2 (o := .tup [.ref a, .ref ap]))
      have sE : Same H4 (upd H5 p2 (.tup [.ref a, .ref ap])) := (same_upd np).trans (s5.trans (same_upd np2))
      generalize upd H5 p2 (.tup [.ref a, .ref ap]) = H6 at k7 sE ⊢
      refine ⟨p0, rfl, ⟨_, SqL.of k7.hr⟩, ?_⟩
      have hmw : (rs.map fun l => V.str (W l)).length = rs.length := List.length_map ..
      refine comp_list (xs := rs.map fun l => V.str (W l)) (fun D i H' => Same H6 H' ∧ H' D = some (.lst ((rs.take i).map fun l => V.int (l.length : Nat)))) (fun D nD => ⟨same_upd nD, upd_same⟩) (fun D i H' nD hi ⟨s', _⟩ => SqL.of (s' _ _ k7.hr)) ?_ ?_
      · rintro D i y H' nD hi ⟨s', hD⟩
        rw [List.getElem?_map] at hi
        obtain ⟨l, hl', rfl⟩ := Option.map_eq_some_iff.mp hi
        walk_at "rd"
        have := (hrs l (List.mem_of_getElem? hl')).ln
        refine ⟨by rw [W_len]; omega, ?_⟩
        rw [W_len]
        refine ⟨_, hD, by rw [List.length_map, List.length_take]; omega, same_over s' nD, ?_⟩
        rw [take_step hl', List.map_append]
        rfl
      rintro D H7 nD ⟨s7, hD⟩
      rw [hmw, List.take_length] at hD
      refine ⟨D, rfl, rs.map fun l => ((l.length : Nat) : Int), SqL.of (by rw [hD, List.map_map]; rfl), ?_⟩
      have k8 := k7.same s7
      have bt8 : But g H H7 := bt4.trans ((But.of sE).trans (.of s7))
      have gk8 : GenOk H7 g (Z + 300 + 150000 + 200000) := (gk4.but sE).but s7
      split
      · exact q _ bt8
      refine callS _ _ _ k8 fun p3 H9 s9 n9 hp3 => ?_
      have k9 := k8.same s9
      refine ws_ne hp3 k9.hr hrg ⟨false, rfl, ?_⟩
      rw [if_neg (by decide)]
      refine ⟨by decide, fun q1 nq1 => ⟨p0, rfl, _, same_upd nq1 _ _ k9.hr, by rw [List.length_map]; omega, fun q2 nq2 => ⟨p0, rfl, _, same_upd nq2 _ _ (same_upd nq1 _ _ k9.hr), ?_⟩⟩⟩
      have sA : Same H7 (upd (upd H9 q1 (.lst [V.str (PySem.Str.ofString "")])) q2 (.lst (V.str (PySem.Str.ofString "") :: rs.map fun l => V.str (W l)))) := s9.trans ((same_upd nq1).trans (same_upd nq2))
      generalize upd (upd H9 q1 (.lst [V.str (PySem.Str.ofString "")])) q2 (.lst (V.str (PySem.Str.ofString "") :: rs.map fun l => V.str (W l))) = HA at sA ⊢
      have kA := k8.same sA
      have btA := bt8.trans (.of sA)
      have gkA := gk8.but sA
      have hLast : Rs (1 + d1) (rs.getLastD []) := by
        rw [List.getLastD_eq_getLast?]
        cases e : rs.getLast? with
        | none => exact ⟨(fun _ z => nomatch z), rfl, by decide⟩
        | some l => exact hrs l (List.mem_of_getLast? e)
      refine ⟨V.str (W (rs.getLastD [])), atI_nat (by rw [List.length_map]; exact last_at rs), _, rfl, by rw [W_len]; have := hLast.ln; omega, ?_⟩
      have callP : ∀ (HH : Hp) (l : List Nat) (Q2 : VK) (E2 : XK), Kp K g a ap p0 ws ds rs HH → Sm (1 + d1) l → l.length ≤ 1000 → (∀ H5, Same HH H5 → Q2 (.bl (decide (red l = rs.getLastD []))) H5) → spPaper K [.int (1 + d1), .ref a, .str (W l), .ref ap] HH Q2 E2 := fun HH l Q2 E2 k hl1 hl2 q2 =>
        ⟨1 + d1, a, l, .ref ap, .list ds, ws, rfl, m1, m2, k.hw, hsh, hl1, hl2, k.pap, sP, lnP, fun H5 s5 => by
          have := q2 H5 s5
          have e : paperB ws l (.list ds) = decide (red l = rs.getLastD []) := by unfold paperB; rw [hsd]
          rw [e]
          exact this⟩
      split
      rename_i h9
      rw [W_len] at h9
      have hl9 : (rs.getLastD []).length ≤ 900 := by omega
      refine ⟨g, 1 + d1, _, _, rfl, m1, m2, hLast.sm, by omega, gkA, by omega, fun l' HB hsm hlen hred btB gkB => ?_⟩
      have kB := kA.but btB
      refine callP _ l' _ _ kB hsm (by omega) fun HC sC => ⟨_, rfl, ?_⟩
      rw [hred, hLast.rd, decide_eq_true rfl, if_neg (by decide)]
      have kC := kB.same sC
      refine callP _ _ _ _ kC hLast.sm (by omega) fun HD sD => ⟨_, rfl, ?_⟩
      rw [hLast.rd, decide_eq_true rfl, if_neg (by decide)]
      refine ⟨_, rfl, by rw [W_len]; have := hLast.ln; show _ + 1 ≤ _; omega, ?_⟩
      have kD := kC.same sD
      have eW : W (rs.getLastD []) ++ (PySem.Str.ofString "a") = W (rs.getLastD [] ++ [97]) := cat_W _ _
      rw [eW]
      refine callP _ _ _ _ kD (fun ch hc => (List.mem_append.mp hc).elim (hLast.sm ch) fun z => ?_) (by rw [List.length_append, List.length_singleton]; omega) fun HE sE => ⟨_, rfl, ?_⟩
      · rw [List.mem_singleton.mp z]
        exact sg_mem (k := 0) m2 (by omega)
      rw [decide_eq_false (red_more _ _), if_neg (by decide)]
      have kE := kD.same sE
      have btE := btA.trans (btB.trans ((But.of sC).trans ((But.of sD).trans (.of sE))))
      rotate_left
      have kE := kA
      have btE := btA
      all_goals
        refine callS _ _ _ kE fun p5 HF sF nF hp5 => ?_
        have kF := kE.same sF
        refine ⟨.inl ⟨rfl, _, .inl (.inl hp5)⟩, p5, rfl, _, hp5, by rw [List.length_map]; omega, ?_⟩
        have sU := same_over (o := .lst (List.map (fun l => V.str (W l)) rs ++ [V.non])) sF nF
        generalize upd HF p5 (.lst (List.map (fun l => V.str (W l)) rs ++ [V.non])) = HU at sU ⊢
        have kU := kE.same sU
        obtain ⟨xs, hxs, hall⟩ : ∃ xs, HU ap = some (.lst xs) ∧ DeAll K HU xs ds := by
          cases kU.pap with
          | lst h k => exact ⟨_, h, k⟩
        refine ⟨a, rfl, _, kU.hw, ap, rfl, xs, SqL.of hxs, fun pS npS => ?_⟩
        rw [cutV_to]
        refine ⟨ws.length, pS, ds.take 4, by rw [List.length_map], by omega, .lst upd_same (DeAll.same (same_upd npS) _ _ (deAll_take 4 hall)), by rw [List.length_take]; omega, fun v H6' s6 e6 => ?_⟩
        obtain ⟨b, ys, rfl, hb, hys⟩ : ∃ b ys, v = .ref b ∧ H6' b = some (.lst ys) ∧ DeAll K H6' ys (bents ws.length (ds.take 4)) := by
          cases e6 with
          | lst h k => exact ⟨_, _, rfl, h, k⟩
        refine ⟨b, rfl, ⟨_, SqL.of hb⟩, ?_⟩
        have sL := sU.trans ((same_upd npS).trans s6)
        have kL := kE.same sL
        have hst4 : Steps ws.length (ds.take 4) := fun i d hd => hst i d (by
          rw [List.getElem?_take] at hd
          split at hd
          · exact hd
          · cases hd)
        refine loop_list (xs := ys) (fun i σ H' => ∃ v8, σ = [some (.ref g), some (.int (1 + d1)), some (.ref a), some (.ref ap), some (.ref p0), some (.str _), none, some (.str (W (rs.getLastD []))), v8] ∧ Same H6' H') ⟨none, rfl, .refl _⟩ (fun i σ H' hi ⟨_, _, s'⟩ => SqL.of (s' _ _ hb)) ?_ ?_
        · rintro i x σ H' hi ⟨v8, rfl, s'⟩
          obtain ⟨e, he, ex⟩ := DeAll.get hys hi
          have bad := bents_bad (by omega) (by rw [List.length_take]; omega) hst4 e (List.mem_of_getElem? he)
          walk_at "rd"
          have k' := kL.same s'
          refine ⟨1 + d1, a, [], x, e, ws, rfl, m1, m2, k'.hw, hsh, (fun _ z => nomatch z), by decide, De.same s' _ _ ex, bad.sbt, bad.len, fun H7 s7 => ⟨_, rfl, ?_⟩⟩
          have ep : paperB ws [] e = false := by unfold paperB; rw [bad.no ws rfl]
          rw [ep, if_neg (by decide)]
          refine ⟨1 + d1, a, x, e, ws, rfl, m1, m2, s7 _ _ k'.hw, hsh, bad.shw _ _ _ (De.same s7 _ _ (De.same s' _ _ ex)), bad.ok, bad.sbt, bad.len, bad.no ws rfl, fun H8 s8 => ⟨true, rfl, ?_⟩⟩
          rw [if_neg (by decide)]
          exact ⟨⟨_, rfl⟩, s'.trans (s7.trans s8)⟩
        · rintro σ H' ⟨v8, rfl, s'⟩
          walk_at "rd"
          have k' := kL.same s'
          refine ⟨by decide, fun pz npz => ⟨_, _, rfl, shK H' pz npz k'.hw k'.pap, ?_⟩⟩
          refine ⟨rfl, ?_⟩
          rw [decide_eq_true rfl]
          exact q _ (btE.trans ((But.of sL).trans ((But.of s').trans (.of (same_upd npz)))))
end
end K16

namespace K16
open PySem PySem.Spec PyProof.Rows L2 G1 MW
abbrev s_law : Stmt := topS 49
theorem sc_law : FnScope ["_law_script", "_law_index", "_law_double", "_law_number"] ["_law_script"] (defScope s_law) := ⟨rfl, rfl, rfl, by decide +kernel, rfl, by decide +kernel, by decide +kernel⟩
local macro_rules | `(tactic| walk_at "rd") => `(tactic| simp only [L2.tPar3, L2.tSeq, L2.tAug, L2.tTup, G1.tCallK3b, G1.tMt, G1.tMinK, G1.rIsTu, L2.rIxT, G1.rTr, G1.rLtD, if_true, if_false, L2.rNotB, L2.rMax, L2.iRng2,L2.rIn, L2.tDNewK, G1.tCallK3, G1.tCallK4, G1.iEnumS, L2.tDGet, L2.gTup, L2.gCons, L2.gNil, L2.tPar, L2.rIxS, G1.tRepU, L2.rSlS, L2.iStr, L2.tNotV, G1.rIsV, G1.mk_int, G1.mk_bool, G1.mk_str, G1.mk_list, G1.tCallX, V.ty.injEq, L2.tChain, L2.rIsB, G1.tRevS, L2.tM0, L2.tM1, L2.tCallS, G1.tCallK2, G1.tMkR, L2.rAll, L2.rPop, L2.tBM0, L2.tRevL, L2.tAsg, L2.tOp, L2.rI, L2.rI0, L2.tVar, L2.tC, L2.tCB, L2.tCons, L2.tNil, L2.tRet, L2.gName, L2.start, L2.tIf, L2.tIfS, L2.tTest, L2.tNext, L2.rIxL, L2.tSl, L2.rSlL, L2.tNoPart, L2.tPart, L2.tLst, L2.tTup, L2.rSum, L2.tBits, L2.gSub, L2.rSetL, L2.rCat, L2.tDrop, L2.tBM, L2.tBM0, L2.rAppend, L2.tYes, L2.tB, L2.tAnd, L2.tOr, L2.tNot, L2.tAndV, L2.tOrV, G1.tCallO, G1.tXm, G1.tXn, G1.tXv, HO.lst.injEq, HO.tup.injEq, Nat.reduceAdd, Nat.zero_add, List.set_cons_zero, List.set_cons_succ, G1.tFor_eq, G1.tLc_eq, G1.rIxM, G1.rLenM, G1.rSlM, G1.atI_0, G1.atI_1, G1.atI_2, G1.ixN_0, G1.ixN_2, L2.upd_same, L2.upd_upd, and_assoc, L2.iRng1, L2.iList, L2.tUn, L2.rU, G1.rRepS, L2.wipe, List.foldl, L2.rEq, L2.rNe, List.map, List.replicate, List.length, List.append, List.set, List.getElem?_cons_zero, List.getElem?_cons_succ, List.cons_append, List.nil_append, Option.some.injEq, V.int.injEq, V.bl.injEq, V.ref.injEq, V.str.injEq, List.cons.injEq, reduceCtorEq, false_and, and_false, exists_false, or_false, false_or, exists_and_left, exists_and_right, exists_eq_left', exists_eq_left, true_and, and_true, Nat.sub_self, decide_eq_true_eq])
section
variable {P : Program} {w : World} {K : PySem.W.Frag} {mg : Str → Option Value} {base : Heap} {c : Nat → Addr} {cF : Addr}
theorem SqL.sameH {H H' : Hp} (s : Same H H') {a : Addr} {xs : List V} (h : SqL K H a xs) : SqL K H' a xs := by
  rcases h with (h | ⟨o, h⟩) | h
  · exact .inl (.inl (s _ _ h))
  · exact .inl (.inr ⟨o, s _ _ h⟩)
  · exact .inr h
theorem But.same {g : Addr} {H1 H2 H' : Hp} (t : Same H1 H2) (n : H1 g = none) (b : But g H2 H') : Same H1 H' := fun x o e => b x o (ne_none e n) (t x o e)
theorem mulW {s : Str} {n : Int} {k ch : Nat} (h1 : (Txt.mul s n).length = k) (h2 : (Txt.mul s n).cps.toList.all (fun c => decide (c = ch)) = true) : Txt.mul s n = W (List.replicate k ch) := by
  have e : (Txt.mul s n).cps.toList = List.replicate k ch := by
    refine List.eq_replicate_iff.mpr ⟨?_, fun c hc => ?_⟩
    · rw [Array.length_toList]
      exact h1
    · have := List.all_eq_true.mp h2 c hc
      simpa using this
  show (⟨(Txt.mul s n).cps⟩ : Str) = ⟨(List.replicate k ch).toArray⟩
  congr 1
  rw [← e]
theorem plain_rep {ch : Nat} (h : ch ∈ sgs) : ∀ n, Plain (List.replicate n ch)
  | 0 => trivial
  | 1 => trivial
  | n + 2 => ⟨by
      have : ∀ ch ∈ sgs, ch ≠ inv ch := by decide
      exact this ch h, plain_rep h (n + 1)⟩
def dbl (n : Nat) : PyData := .list [.tuple [.int (n : Nat), .int 1], .tuple [.int (n : Nat), .int 1]]
def dbls : Nat → Nat → List PyData
  | _, 0 => []
  | k, n + 1 => dbl k :: dbls (k + 1) n
def pows (k : Nat) : List (List Nat) := (List.range k).map fun i => List.replicate (2 ^ i) 97
theorem pows_get {k i : Nat} (h : i < k) : (pows k).getD i [] = List.replicate (2 ^ i) 97 := by
  unfold pows
  rw [List.getD_eq_getElem?_getD, List.getElem?_map, List.getElem?_range h]
  rfl
theorem pows_len (k : Nat) : (pows k).length = k := by
  unfold pows
  rw [List.length_map, List.length_range]
theorem red_rep (n : Nat) : red (List.replicate n 97) = List.replicate n 97 := red_of_plain (plain_rep (by decide) n)
theorem stepW_dbl (k : Nat) : stepW (pows (k + 1)) (dbl k) = List.replicate (2 ^ (k + 1)) 97 := by
  show red ([_, _].flatMap (itemW (pows (k + 1)))) = _
  rw [List.flatMap_cons, List.flatMap_cons, List.flatMap_nil, List.append_nil]
  have e : itemW (pows (k + 1)) (.tuple [.int (k : Nat), .int 1]) = List.replicate (2 ^ k) 97 := by
    rw [itemW, if_pos rfl, Int.toNat_natCast, pows_get (by omega)]
  rw [e, List.replicate_append_replicate, red_rep]
  congr 1
  rw [Nat.pow_succ]
  omega
theorem dbl_step (k : Nat) : stepB ((pows (k + 1)).length : Nat) (dbl k) = true := by
  rw [pows_len]
  simp only [dbl, stepB, itemB, List.all_cons, List.all_nil, List.length_cons, List.length_nil]
  simp
  omega
theorem saidW_dbls : ∀ (n k : Nat) (rest : List PyData), k + n ≤ 13 → saidW (pows (k + 1)) (dbls k n ++ rest) = saidW (pows (k + n + 1)) rest
  | 0, k, rest, h => rfl
  | n + 1, k, rest, h => by
    have hlen : (stepW (pows (k + 1)) (dbl k)).length ≤ 10000 := by
      rw [stepW_dbl, List.length_replicate]
      have : 2 ^ (k + 1) ≤ 2 ^ 13 := Nat.pow_le_pow_right (by decide) (by omega)
      omega
    rw [dbls, List.cons_append, saidW, if_pos ⟨dbl_step k, hlen⟩]
    · have e : pows (k + 1) ++ [stepW (pows (k + 1)) (dbl k)] = pows (k + 1 + 1) := by
        rw [stepW_dbl]
        unfold pows
        rw [List.range_succ (n := k + 1), List.map_append]
        rfl
      rw [e, saidW_dbls n (k + 1) rest (by omega), show k + 1 + n = k + (n + 1) by omega]
theorem said13 (rest : List PyData) : saidD [[97]] (.list (dbls 0 13 ++ rest)) = (saidW (pows 14) rest).map fun r => r.drop 1 := by
  show (saidW ([[97]].map red) (dbls 0 13 ++ rest)).map _ = _
  rw [show [[97]].map red = pows (0 + 1) by decide +kernel, saidW_dbls 13 0 rest (by decide)]
  rfl
theorem said14 (rest : List PyData) : saidD [[97]] (.list (dbls 0 13 ++ dbl 13 :: rest)) = none := by
  rw [said13, saidW, if_neg]
  · rfl
  · rintro ⟨_, h⟩
    rw [stepW_dbl, List.length_replicate] at h
    exact absurd h (by decide)
def trip : PyData := .list [.tuple [.int 13, .int 1], .tuple [.int 13, .int 1], .tuple [.int 13, .int (-1)]]
theorem said_trip : saidD [[97]] (.list (dbls 0 13 ++ [trip])) = some ((pows 14 ++ [List.replicate 8192 97]).drop 1) := by
  have e1 : itemW (pows 14) (.tuple [.int 13, .int 1]) = List.replicate 8192 97 := by
    rw [itemW, if_pos rfl]
    exact pows_get (by decide)
  have e2 : itemW (pows 14) (.tuple [.int 13, .int (-1)]) = opp (List.replicate 8192 97) := by
    rw [itemW, if_neg (by decide)]
    exact congrArg opp (pows_get (by decide))
  have e : stepW (pows 14) trip = List.replicate 8192 97 := by
    show red ([_, _, _].flatMap (itemW (pows 14))) = _
    rw [List.flatMap_cons, List.flatMap_cons, List.flatMap_cons, List.flatMap_nil, List.append_nil, e1, e2]
    have := red_mid (List.replicate 8192 97) (List.replicate 8192 97) []
    rw [List.append_nil, List.append_nil] at this
    rw [this, red_rep]
  have c1 : stepB ((pows 14).length : Nat) trip = true := by
    rw [pows_len]
    rfl
  have c2 : (stepW (pows 14) trip).length ≤ 10000 := by
    rw [e, List.length_replicate]
    decide
  rw [said13, saidW, if_pos ⟨c1, c2⟩, e]
  rfl
def spLaw (K : PySem.W.Frag) : Sp := fun vs H Q _ => ∃ (a : Addr) (ns : List Int), vs = [.ref a] ∧ SqL K H a (ns.map V.int) ∧ ns.length ≤ 63 ∧ ∀ H', Q (.bl true) H'
theorem ok_law {f : Addr} {fd : FuncData} (F : Fun K "law" "law" s_law f fd) (T : Txt P w K mg base c cF) (C_law_generator : OkD P w K mg base 2 "_law_generator" ["_law_script", "_law_index"] (spGen K)) (C_law_right : OkG P w K mg base 8 "_law_right" ["_law_generator_here"] spRight) (C_law_refused : OkG P w K mg base 7 "_law_refused" ["_law_many", "_law_words_here", "_law_value"] (spRefd K)) (C_said : OkX3 P w K mg base 6 "said" "many" "words" "paper" (spSaidX K c)) (C_is_paper : OkX4 P w K mg base 6 "is_paper" "many" "words" "word" "value" (spPaper K)) :
    FnG P w K mg base CX0 9 f fd ["_law_script"] (spLaw K) := by
  refine fng_ofn F sc_law (fun vs H Q E h => ?_) (fun cdv A outer s H vs Q E hg hr h => ?_)
  · obtain ⟨_, _, rfl, _⟩ := h
    rfl
  · obtain ⟨a, ns, rfl, hS, hl, q⟩ := h
    refine ⟨_, ((pss_cons (ps_for PassesOwn.never rfl (pi_range1 (by rfl) T.n_range (pa_cons pe_int pa_nil)) (pg_name (i := 1) sc_law.nd rfl (.inl rfl)) (pss_one (ps_if (pt_not (pt_val (pe_callG hg C_law_right (hr.mono (by decide)) (by rfl) (pa_cons (pe_callO C_law_generator (hr.mono (by decide)) (by rfl) (pa_cons (pv 0) (pa_cons (pv 1) pa_nil))) pa_nil)))) (pss_one (ps_ret pe_bl)) pss_nil)))
      (pss_cons (ps_set (i := 2) sc_law.nd rfl (.inl rfl) (pe_op op_cat (pe_lst (pa_cons (pe_lst (pa_cons (pe_tup (pa_cons pe_int (pa_cons pe_int pa_nil))) (pa_cons (pe_tup (pa_cons pe_int (pa_cons pe_int pa_nil))) pa_nil))) pa_nil)) (pe_lc (own := [("_law_number", 3)]) (g := gName 3) (tt := tYes) (by rfl) sc_law.nd (pi_range2 (by rfl) T.n_range (pa_cons pe_int (pa_cons pe_int pa_nil))) (blkOk_by (own := [("_law_number", 3)]) (N := ["_law_script", "_law_index", "_law_double", "_law_number"]) (sc := defScope s_law) (by decide +kernel)) (fun _ _ _ _ _ => pg_name (i := 3) sc_law.nd rfl (Or.inl rfl)) (fun _ _ _ _ _ => pts_nil) (fun _ _ _ _ _ => (pe_lst (pa_cons (pe_tup (pa_cons (pv 3) (pa_cons pe_int pa_nil))) (pa_cons (pe_tup (pa_cons (pv 3) (pa_cons pe_int pa_nil))) pa_nil)))))))
      (pss_cons (ps_if (PW.pt (pw_or (pt_cmpR op_ne (pe_ix ix_lM (pe_callC C_said.okX (hr.mono (by decide)) (by rfl) (pa_cons pe_int (pa_cons (pe_lst (pa_cons pe_str pa_nil)) (pa_cons (pe_slice (sl_listK K rfl) (pv 2) po_none (po_some pe_int)) pa_nil)))) pe_int (fun _ _ => rfl)) (pe_op op_repS pe_str pe_int) (nomark _)) (pw_or (pt_not (pt_val (pe_callG hg C_law_refused (hr.mono (by decide)) (by rfl) (pa_cons pe_int (pa_cons (pe_lst (pa_cons pe_str pa_nil)) (pa_cons (pv 2) pa_nil)))))) (pw_or1 (pt_cmpR op_notBl (pe_callC C_is_paper.okX (hr.mono (by decide)) (by rfl) (pa_cons pe_int (pa_cons (pe_lst (pa_cons pe_str pa_nil)) (pa_cons pe_str (pa_cons (pv 2) pa_nil))))) pe_bl (nomark _)))))) (pss_one (ps_ret pe_bl)) pss_nil)
      (pss_cons (ps_if (pt_cmpR op_ne (pe_ix ix_lM (pe_callC C_said.okX (hr.mono (by decide)) (by rfl) (pa_cons pe_int (pa_cons (pe_lst (pa_cons pe_str pa_nil)) (pa_cons (pe_op op_cat (pe_slice (sl_listK K rfl) (pv 2) po_none (po_some pe_int)) (pe_lst (pa_cons (pe_lst (pa_cons (pe_tup (pa_cons pe_int (pa_cons pe_int pa_nil))) (pa_cons (pe_tup (pa_cons pe_int (pa_cons pe_int pa_nil))) (pa_cons (pe_tup (pa_cons pe_int (pa_cons (pe_un un_neg pe_int) pa_nil))) pa_nil)))) pa_nil))) pa_nil)))) pe_int (fun _ _ => rfl)) (pe_op op_repS pe_str pe_int) (nomark _)) (pss_one (ps_ret pe_bl)) pss_nil)
      (pss_cons (ps_if (PW.pt (pw_or (pt_not (pt_val (pe_callG hg C_law_refused (hr.mono (by decide)) (by rfl) (pa_cons pe_int (pa_cons (pe_lst (pa_cons pe_str pa_nil)) (pa_cons (pe_op op_cat (pv 2) (pe_lst (pa_cons (pe_lst (pa_cons (pe_tup (pa_cons pe_int (pa_cons pe_int pa_nil))) pa_nil)) pa_nil))) pa_nil)))))) (pw_or1 (pt_cmpR op_notBl (pe_callC C_is_paper.okX (hr.mono (by decide)) (by rfl) (pa_cons pe_int (pa_cons (pe_lst (pa_cons pe_str pa_nil)) (pa_cons pe_str (pa_cons (pe_op op_cat (pv 2) (pe_op op_rep (pe_lst (pa_cons (pe_lst (pa_cons (pe_tup (pa_cons pe_int (pa_cons pe_int pa_nil))) pa_nil)) pa_nil)) pe_int)) pa_nil))))) pe_bl (nomark _))))) (pss_one (ps_ret pe_bl)) pss_nil)
      (pss_one (ps_ret (pe_and (pe_cmpR (op_eqDK K rfl hr.units) (pe_callC C_said.okX (hr.mono (by decide)) (by rfl) (pa_cons pe_int (pa_cons (pe_lst pa_nil) (pa_cons (pe_lst pa_nil) pa_nil)))) (pe_lst pa_nil) (nomark _)) (pe_and (pe_cmpR (op_eqDK K rfl hr.units) (pe_callC C_said.okX (hr.mono (by decide)) (by rfl) (pa_cons pe_int (pa_cons (pe_lst pa_nil) (pa_cons (pe_lst (pa_cons (pe_lst pa_nil) (pa_cons (pe_lst pa_nil) pa_nil))) pa_nil)))) (pe_lst (pa_cons pe_str (pa_cons pe_str pa_nil))) (nomark _)) (pe_and (pe_cmpR op_isBl (pe_callC C_is_paper.okX (hr.mono (by decide)) (by rfl) (pa_cons pe_int (pa_cons (pe_lst pa_nil) (pa_cons pe_str (pa_cons (pe_lst (pa_cons (pe_lst pa_nil) pa_nil)) pa_nil))))) pe_bl (nomark _)) (pe_one (pe_cmpR op_isBl (pe_callC C_is_paper.okX (hr.mono (by decide)) (by rfl) (pa_cons pe_int (pa_cons (pe_lst (pa_cons pe_str pa_nil)) (pa_cons pe_str (pa_cons (pe_lst pa_nil) pa_nil))))) pe_bl (nomark _)))))))))))))), ?_⟩
    walk_at "rd"
    have hz := sizeLine_eq
    refine ⟨by decide, by decide, ?_⟩
    refine loop_range (n := 3) (fun i σ H' => ∃ v1, σ = [some (V.ref a), v1, none, none] ∧ Same H H') ⟨none, rfl, .refl H⟩ ?_ ?_
    · rintro i σ H1 hi ⟨v1, rfl, s1⟩
      walk_at "rd"
      refine ⟨a, ns, 0 + (i : Int), rfl, SqL.sameH s1 hS, hl, by omega, by omega, fun g H2 gx gy t2 ng hgA x0 x1 y0 y1 => ?_⟩
      have gk0 : GenOk H2 g 3000 := ⟨gx, gy, _, hgA, x0, x1, y0, y1, by omega, by omega⟩
      refine ⟨g, 3000, rfl, gk0, by decide, fun H3 bt => ⟨true, rfl, ?_⟩⟩
      rw [if_neg (by decide)]
      exact ⟨⟨_, rfl⟩, s1.trans (But.same t2 ng bt)⟩
    · rintro σ H1 ⟨v1, rfl, s1⟩
      dsimp only
      refine ev_store (K := K) (d := .list (dbls 0 13 ++ [dbl 13])) ?_ fun v H2 s2 e2 => ?_
      · have e : dbls 0 13 ++ [dbl 13] = [.list [.tuple [.int 0, .int 1], .tuple [.int 0, .int 1]]] ++ (List.range (14 - 1 : Int).toNat).map fun k => .list [.tuple [.int (1 + (k : Nat)), .int 1], .tuple [.int (1 + (k : Nat)), .int 1]] := rfl
        rw [e]
        refine Ev.cat (Ev.lst (EvA.cons (Ev.lst (EvA.cons (Ev.tup (EvA.cons (Ev.int _) (EvA.cons (Ev.int _) .nil)) (by decide)) (EvA.cons (Ev.tup (EvA.cons (Ev.int _) (EvA.cons (Ev.int _) .nil)) (by decide)) .nil)) (by decide)) .nil) (by decide)) (Ev.rng2 (Ev.int _) (Ev.int _) (by decide) (by decide) (by decide) (by decide) fun k H3 hk s3 => ?_) (by decide)
        refine Ev.lst (EvA.cons (Ev.tup (EvA.cons (Ev.var rfl (.int _)) (EvA.cons (Ev.int _) .nil)) (by simp; omega)) (EvA.cons (Ev.tup (EvA.cons (Ev.var rfl (.int _)) (EvA.cons (Ev.int _) .nil)) (by simp; omega)) .nil)) (by simp; omega)
      obtain ⟨b, xs, rfl, hb, hall⟩ : ∃ b xs, v = .ref b ∧ H2 b = some (.lst xs) ∧ DeAll K H2 xs (dbls 0 13 ++ [dbl 13]) := by
        cases e2 with
        | lst h k => exact ⟨_, _, rfl, h, k⟩
      have sm97 : Sm 1 [97] := fun x hx => by rw [List.mem_singleton.mp hx]; decide
      have sw : Short 1 [[97]] := ⟨by decide, fun l hl => by rw [List.mem_singleton.mp hl]; exact ⟨sm97, by decide⟩⟩
      have sw0 : Short 2 [] := ⟨by decide, fun _ z => nomatch z⟩
      have l14 : ∀ es, PyData.list (dbls 0 13 ++ [dbl 13]) = PyData.list es → es.length ≤ 100000 := fun es e => by cases e; decide
      have cut13 : ∀ xs : List V, xs.length = 14 → cutV xs none (some 13) = xs.take 13 := fun xs hx => by
        unfold cutV
        rw [show (13 : Int) = ((13 : Nat) : Int) from rfl, HT.sIx_nat, HT.sIx_none, List.drop_zero, Nat.sub_zero, hx]
        rfl
      have hxl : xs.length = 14 := deAll_len hall
      have e13 : (dbls 0 13 ++ [dbl 13]).take 13 = dbls 0 13 ++ [] := rfl
      have pc : ∀ k, k ≤ 50 → Pc (dbl k) := fun k hk => step_pc (k := 100) (by
        simp only [dbl, stepB, itemB, List.all_cons, List.all_nil, List.length_cons, List.length_nil]
        simp
        omega) (by decide)
      have hd13 : ∀ d ∈ dbls 0 13, Pc d := by
        intro d hd
        simp only [dbls, List.mem_cons, List.not_mem_nil, or_false] at hd
        rcases hd with rfl | rfl | rfl | rfl | rfl | rfl | rfl | rfl | rfl | rfl | rfl | rfl | rfl <;> exact pc _ (by decide)
      have fD : ∀ post, (∀ d ∈ post, Pc d) → post.length ≤ 3 → Fine 3 150000 (.list (dbls 0 13 ++ dbl 13 :: post)) ∧ sb (.list (dbls 0 13 ++ dbl 13 :: post)) = true := fun post hp hl => by
        have hall : ∀ d ∈ dbls 0 13 ++ dbl 13 :: post, Pc d := fun d hd => by
          rcases List.mem_append.mp hd with z | z
          · exact hd13 d z
          · rcases List.mem_cons.mp z with rfl | z
            · exact pc 13 (by decide)
            · exact hp d z
        refine ⟨(Fine.list fun d hd => (hall d hd).1).mono (by decide) ?_, sbAll_of fun d hd => (hall d hd).2⟩
        have e : (dbls 0 13 ++ dbl 13 :: post).length = 14 + post.length := by
          rw [List.length_append, List.length_cons]
          show 13 + _ = _
          omega
        rw [e]
        omega
      have mul8 : Txt.mul (PySem.Str.ofString "a") 8192 = W (List.replicate 8192 97) := mulW (by decide +kernel) (by decide +kernel)
      have callS : ∀ (HH : Hp) (p pb : Addr) (ds : List PyData) (rs : List (List Nat)) (Q2 : VK) (E2 : XK), WsAt HH p [[97]] → De K HH (.ref pb) (.list ds) → sb (.list ds) = true → ds.length ≤ 1000 → saidD [[97]] (.list ds) = some rs → (∀ p1 H5, Same HH H5 → HH p1 = none → WsAt H5 p1 rs → Q2 (.ref p1) H5) → spSaidX K c [.int 1, .ref p, .ref pb] HH Q2 E2 := fun HH p pb ds rs Q2 E2 k1 k2 k3 k4 k5 q2 =>
        ⟨1, p, .ref pb, .list ds, [[97]], rfl, by decide, by decide, k1, sw, k2, k3, (fun es e => by cases e; omega), (fun e => absurd (k5.symm.trans e) (by simp)), fun rs' p1 H5 e s5 n5 hp1 => by rw [k5] at e; cases e; exact q2 p1 H5 s5 n5 hp1⟩
      have callR : ∀ (HH : Hp) (p pb : Addr) (ds : List PyData) (Q2 : VK) (E2 : XK), WsAt HH p [[97]] → De K HH (.ref pb) (.list ds) → Fine 3 300000 (.list ds) → sb (.list ds) = true → ds.length ≤ 1000 → saidD [[97]] (.list ds) = none → (∀ H5, Same HH H5 → Q2 (.bl true) H5) → spRefd K [.int 1, .ref p, .ref pb] HH Q2 E2 := fun HH p pb ds Q2 E2 k1 k2 k3 k3b k4 k5 q2 =>
        ⟨1, p, .ref pb, .list ds, [[97]], rfl, by decide, by decide, k1, sw, k3.shows k2 (by decide) (by omega), k3.ok, k3b, (fun es e => by cases e; omega), k5, q2⟩
      have callP : ∀ (HH : Hp) (p pb : Addr) (l : List Nat) (ds : List PyData) (Q2 : VK) (E2 : XK), WsAt HH p [[97]] → De K HH (.ref pb) (.list ds) → sb (.list ds) = true → ds.length ≤ 1000 → Sm 1 l → l.length ≤ 1000 → saidD [[97]] (.list ds) = none → (∀ H5, Same HH H5 → Q2 (.bl false) H5) → spPaper K [.int 1, .ref p, .str (W l), .ref pb] HH Q2 E2 := fun HH p pb l ds Q2 E2 k1 k2 k3 k4 k6 k7 k5 q2 =>
        ⟨1, p, l, .ref pb, .list ds, [[97]], rfl, by decide, by decide, k1, sw, k6, k7, k2, k3, (fun es e => by cases e; omega), fun H5 s5 => by
          have e : paperB [[97]] l (.list ds) = false := by unfold paperB; rw [k5]
          rw [e]
          exact q2 H5 s5⟩
      have sb13 : sb (.list (dbls 0 13 ++ [])) = true := sbAll_of fun d hd => (hd13 d (by simpa using hd)).2
      have at8 : ∀ (rs : List (List Nat)) (j : Nat), rs[j]? = some (List.replicate 8192 97) → atI (rs.map fun l => V.str (W l)) (j : Nat) = some (V.str (W (List.replicate 8192 97))) := fun rs j h => atI_nat (by rw [List.getElem?_map, h]; rfl)
      have mok : MulOk (PySem.Str.ofString "a") 8192 := by unfold MulOk; decide +kernel
      have t14 : saidD [[97]] (.list (dbls 0 13 ++ [dbl 13])) = none := said14 []
      have f14 := fD [] (fun _ z => nomatch z) (by decide)
      walk_at "rd"
      refine ⟨by decide, fun p1 n1 => ⟨xs, SqL.of (same_upd n1 _ _ hb), fun p2 n2 => ?_⟩⟩
      have t1 := (same_upd n1 (o := .lst [.str (PySem.Str.ofString "a")]))
      have t2 := same_upd n2 (o := .lst (cutV xs none (some 13)))
      have d2 : De K (upd (upd H2 p1 (.lst [.str (PySem.Str.ofString "a")])) p2 (.lst (cutV xs none (some 13)))) (.ref p2) (.list (dbls 0 13 ++ [])) := by
        have k := deAll_take 13 (DeAll.same (t1.trans t2) _ _ hall)
        rw [e13] at k
        rw [cut13 xs hxl] at k ⊢
        exact .lst upd_same k
      refine callS _ _ _ _ _ _ _ (t2 _ _ upd_same) d2 sb13 (by decide) (said13 []) fun p3 H3 s3 n3 hp3 => ?_
      refine ⟨p3, rfl, _, hp3, _, at8 _ 12 rfl, mok, rfl, ?_⟩
      rw [mul8, if_neg (by simp)]
      have u3 := (t1.trans t2).trans s3
      refine ⟨by decide, fun p4 n4 => callR _ _ _ _ _ _ upd_same (De.same (u3.trans (same_upd n4)) _ _ (.lst hb hall)) (f14.1.mono (by decide) (by decide)) f14.2 (by decide) t14 fun H5 s5 => ⟨true, rfl, ?_⟩⟩
      rw [if_neg (by decide)]
      have u5 := (u3.trans (same_upd n4)).trans s5
      refine ⟨by decide, fun p6 n6 => callP _ _ _ [] _ _ _ upd_same (De.same (u5.trans (same_upd n6)) _ _ (.lst hb hall)) f14.2 (by decide) (fun _ z => nomatch z) (by decide) t14 fun H7 s7 => ⟨false, rfl, ?_⟩⟩
      rw [if_neg (by decide)]
      have u7 := (u5.trans (same_upd n6)).trans s7
      have hb7 := u7 _ _ hb
      have hall7 := DeAll.same u7 _ _ hall
      refine ⟨by decide, fun p8 n8 => ?_⟩
      have a8 := same_upd n8 (o := (.lst [.str (PySem.Str.ofString "a")]))
      have b8 : upd H7 p8 (.lst [.str (PySem.Str.ofString "a")]) p8 = some (.lst [.str (PySem.Str.ofString "a")]) := upd_same
      generalize upd H7 p8 (.lst [.str (PySem.Str.ofString "a")]) = G8 at a8 b8 ⊢
      refine ⟨xs, SqL.of (a8 _ _ hb7), fun p9 n9 => ?_⟩
      have a9 := same_upd n9 (o := (.lst (cutV xs none (some 13))))
      have b9 : upd G8 p9 (.lst (cutV xs none (some 13))) p9 = some (.lst (cutV xs none (some 13))) := upd_same
      generalize upd G8 p9 (.lst (cutV xs none (some 13))) = G9 at a9 b9 ⊢
      refine ⟨by decide, fun p10 n10 => ?_⟩
      have a10 := same_upd n10 (o := (.tup [.int 13, .int 1]))
      have b10 : upd G9 p10 (.tup [.int 13, .int 1]) p10 = some (.tup [.int 13, .int 1]) := upd_same
      generalize upd G9 p10 (.tup [.int 13, .int 1]) = G10 at a10 b10 ⊢
      refine ⟨by decide, fun p11 n11 => ?_⟩
      have a11 := same_upd n11 (o := (.tup [.int 13, .int 1]))
      have b11 : upd G10 p11 (.tup [.int 13, .int 1]) p11 = some (.tup [.int 13, .int 1]) := upd_same
      generalize upd G10 p11 (.tup [.int 13, .int 1]) = G11 at a11 b11 ⊢
      refine ⟨by decide, fun p12 n12 => ?_⟩
      have a12 := same_upd n12 (o := (.tup [.int 13, .int (-1)]))
      have b12 : upd G11 p12 (.tup [.int 13, .int (-1)]) p12 = some (.tup [.int 13, .int (-1)]) := upd_same
      generalize upd G11 p12 (.tup [.int 13, .int (-1)]) = G12 at a12 b12 ⊢
      refine ⟨by decide, fun p13 n13 => ?_⟩
      have a13 := same_upd n13 (o := (.lst [.ref p10, .ref p11, .ref p12]))
      have b13 : upd G12 p13 (.lst [.ref p10, .ref p11, .ref p12]) p13 = some (.lst [.ref p10, .ref p11, .ref p12]) := upd_same
      generalize upd G12 p13 (.lst [.ref p10, .ref p11, .ref p12]) = G13 at a13 b13 ⊢
      refine ⟨by decide, fun p14 n14 => ?_⟩
      have a14 := same_upd n14 (o := (.lst [.ref p13]))
      have b14 : upd G13 p14 (.lst [.ref p13]) p14 = some (.lst [.ref p13]) := upd_same
      generalize upd G13 p14 (.lst [.ref p13]) = G14 at a14 b14 ⊢
      have s9 := a10.trans (a11.trans (a12.trans (a13.trans a14)))
      have hcl : (cutV xs none (some 13)).length = 13 := by rw [cut13 xs hxl, List.length_take, hxl]; rfl
      refine ⟨_, s9 _ _ b9, by rw [hcl]; decide, fun p15 n15 => ?_⟩
      have a15 := same_upd n15 (o := (.lst (cutV xs none (some 13) ++ [.ref p13])))
      have b15 : upd G14 p15 (.lst (cutV xs none (some 13) ++ [.ref p13])) p15 = some (.lst (cutV xs none (some 13) ++ [.ref p13])) := upd_same
      generalize upd G14 p15 (.lst (cutV xs none (some 13) ++ [.ref p13])) = G15 at a15 b15 ⊢
      have s10 := a11.trans (a12.trans (a13.trans (a14.trans a15)))
      have s11 := a12.trans (a13.trans (a14.trans a15))
      have s12 := a13.trans (a14.trans a15)
      have s13 := a14.trans a15
      have e15 : De K G15 (.ref p15) (.list (dbls 0 13 ++ [trip])) := by
        have k := deAll_take 13 (DeAll.same (a8.trans (a9.trans (s9.trans a15))) _ _ hall7)
        rw [e13, List.append_nil] at k
        rw [cut13 xs hxl] at b15
        exact .lst b15 (deAll_app k (.cons (.lst (s13 _ _ b13) (.cons (.tup (s10 _ _ b10) (.cons (.int _) (.cons (.int _) .nil))) (.cons (.tup (s11 _ _ b11) (.cons (.int _) (.cons (.int _) .nil))) (.cons (.tup (s12 _ _ b12) (.cons (.int _) (.cons (.int _) .nil))) .nil)))) .nil))
      have pT : Pc trip := step_pc (k := 100) rfl (by decide)
      have sbT : sb (.list (dbls 0 13 ++ [trip])) = true := sbAll_of fun d hd => by
        rcases List.mem_append.mp hd with z | z
        · exact (hd13 d z).2
        · rw [List.mem_singleton.mp z]
          exact pT.2
      have u15 := u7.trans (a8.trans (a9.trans (s9.trans a15)))
      refine callS _ _ _ _ _ _ _ ((a9.trans (s9.trans a15)) _ _ b8) e15 sbT (by decide) said_trip fun p16 H16 s16 n16 hp16 => ?_
      refine ⟨p16, rfl, _, hp16, _, at8 _ 13 rfl, mok, rfl, ?_⟩
      rw [if_neg (by simp)]
      have u16 := u15.trans s16
      have hb16 := u16 _ _ hb
      refine ⟨by decide, fun p17 n17 => ?_⟩
      have a17 := same_upd n17 (o := (.lst [.str (PySem.Str.ofString "a")]))
      have b17 : upd H16 p17 (.lst [.str (PySem.Str.ofString "a")]) p17 = some (.lst [.str (PySem.Str.ofString "a")]) := upd_same
      generalize upd H16 p17 (.lst [.str (PySem.Str.ofString "a")]) = G17 at a17 b17 ⊢
      refine ⟨by decide, fun p18 n18 => ?_⟩
      have a18 := same_upd n18 (o := (.tup [.int 99, .int 1]))
      have b18 : upd G17 p18 (.tup [.int 99, .int 1]) p18 = some (.tup [.int 99, .int 1]) := upd_same
      generalize upd G17 p18 (.tup [.int 99, .int 1]) = G18 at a18 b18 ⊢
      refine ⟨by decide, fun p19 n19 => ?_⟩
      have a19 := same_upd n19 (o := (.lst [.ref p18]))
      have b19 : upd G18 p19 (.lst [.ref p18]) p19 = some (.lst [.ref p18]) := upd_same
      generalize upd G18 p19 (.lst [.ref p18]) = G19 at a19 b19 ⊢
      refine ⟨by decide, fun p20 n20 => ?_⟩
      have a20 := same_upd n20 (o := (.lst [.ref p19]))
      have b20 : upd G19 p20 (.lst [.ref p19]) p20 = some (.lst [.ref p19]) := upd_same
      generalize upd G19 p20 (.lst [.ref p19]) = G20 at a20 b20 ⊢
      have s17 := a17.trans (a18.trans (a19.trans a20))
      refine ⟨_, s17 _ _ hb16, by omega, fun p21 n21 => ?_⟩
      have a21 := same_upd n21 (o := (.lst (xs ++ [.ref p19])))
      have b21 : upd G20 p21 (.lst (xs ++ [.ref p19])) p21 = some (.lst (xs ++ [.ref p19])) := upd_same
      generalize upd G20 p21 (.lst (xs ++ [.ref p19])) = G21 at a21 b21 ⊢
      have u21 := u16.trans (s17.trans a21)
      have pN : Pc (.list [.tuple [.int 99, .int 1]]) := step_pc (k := 100) rfl (by decide)
      have f99 := fD [.list [.tuple [.int 99, .int 1]]] (fun d hd => by rw [List.mem_singleton.mp hd]; exact pN) (by decide)
      refine callR _ _ _ _ _ _ ((a18.trans (a19.trans (a20.trans a21))) _ _ b17) (.lst b21 (deAll_app (DeAll.same u21 _ _ hall) (.cons (.lst ((a20.trans a21) _ _ b19) (.cons (.tup ((a19.trans (a20.trans a21)) _ _ b18) (.cons (.int _) (.cons (.int _) .nil))) .nil)) .nil))) (f99.1.mono (by decide) (by decide)) f99.2 (by decide) (said14 _) fun H22 s22 => ⟨true, rfl, ?_⟩
      rw [if_neg (by decide)]
      have u22 := u21.trans s22
      have hb22 := u22 _ _ hb
      refine ⟨by decide, fun p23 n23 => ?_⟩
      have a23 := same_upd n23 (o := (.lst [.str (PySem.Str.ofString "a")]))
      have b23 : upd H22 p23 (.lst [.str (PySem.Str.ofString "a")]) p23 = some (.lst [.str (PySem.Str.ofString "a")]) := upd_same
      generalize upd H22 p23 (.lst [.str (PySem.Str.ofString "a")]) = G23 at a23 b23 ⊢
      refine ⟨by decide, fun p24 n24 => ?_⟩
      have a24 := same_upd n24 (o := (.tup [.int 0, .int 1]))
      have b24 : upd G23 p24 (.tup [.int 0, .int 1]) p24 = some (.tup [.int 0, .int 1]) := upd_same
      generalize upd G23 p24 (.tup [.int 0, .int 1]) = G24 at a24 b24 ⊢
      refine ⟨by decide, fun p25 n25 => ?_⟩
      have a25 := same_upd n25 (o := (.lst [.ref p24]))
      have b25 : upd G24 p25 (.lst [.ref p24]) p25 = some (.lst [.ref p24]) := upd_same
      generalize upd G24 p25 (.lst [.ref p24]) = G25 at a25 b25 ⊢
      refine ⟨by decide, fun p26 n26 => ?_⟩
      have a26 := same_upd n26 (o := (.lst [.ref p25]))
      have b26 : upd G25 p26 (.lst [.ref p25]) p26 = some (.lst [.ref p25]) := upd_same
      generalize upd G25 p26 (.lst [.ref p25]) = G26 at a26 b26 ⊢
      refine ⟨p26, 40, _, rfl, rfl, b26, by decide, by decide, by show 1 * 40 ≤ sizeLine; decide, fun p27 n27 => ⟨p27, rfl, ?_⟩⟩
      have a27 := same_upd n27 (o := (.lst (List.replicate (40 : Int).toNat [V.ref p25]).flatten))
      have b27 : upd G26 p27 (.lst (List.replicate (40 : Int).toNat [V.ref p25]).flatten) p27 = some (.lst (List.replicate (40 : Int).toNat [V.ref p25]).flatten) := upd_same
      generalize upd G26 p27 (.lst (List.replicate (40 : Int).toNat [V.ref p25]).flatten) = G27 at a27 b27 ⊢
      have s23 := a24.trans (a25.trans (a26.trans a27))
      have hl40 : (List.replicate (40 : Int).toNat [V.ref p25]).flatten.length = 40 := rfl
      refine ⟨_, (a23.trans s23) _ _ hb22, _, b27, by rw [hl40, hxl]; decide, fun p28 n28 => ?_⟩
      have a28 := same_upd n28 (o := (.lst (xs ++ (List.replicate (40 : Int).toNat [V.ref p25]).flatten)))
      have b28 : upd G27 p28 (.lst (xs ++ (List.replicate (40 : Int).toNat [V.ref p25]).flatten)) p28 = some (.lst (xs ++ (List.replicate (40 : Int).toNat [V.ref p25]).flatten)) := upd_same
      generalize upd G27 p28 (.lst (xs ++ (List.replicate (40 : Int).toNat [V.ref p25]).flatten)) = G28 at a28 b28 ⊢
      have u28 := u22.trans (a23.trans (s23.trans a28))
      have d25 : De K G28 (.ref p25) (.list [one0]) := .lst ((a26.trans (a27.trans a28)) _ _ b25) (.cons (.tup ((a25.trans (a26.trans (a27.trans a28))) _ _ b24) (.cons (.int _) (.cons (.int _) .nil))) .nil)
      have r40 : ∀ n : Nat, DeAll K G28 (List.replicate n [V.ref p25]).flatten (List.replicate n [PyData.list [one0]]).flatten := by
        intro n
        induction n with
        | zero => exact .nil
        | succ n ih =>
          rw [List.replicate_succ, List.replicate_succ, List.flatten_cons, List.flatten_cons]
          exact .cons d25 ih
      have p00 : Pc (.list [one0]) := step_pc (k := 100) rfl (by decide)
      have sb40 : sb (.list ((dbls 0 13 ++ [dbl 13]) ++ (List.replicate (40 : Int).toNat [PyData.list [one0]]).flatten)) = true := sbAll_of fun d hd => by
        rcases List.mem_append.mp hd with z | z
        · rcases List.mem_append.mp z with z | z
          · exact (hd13 d z).2
          · rw [List.mem_singleton.mp z]
            exact (pc 13 (by decide)).2
        · have : d = .list [one0] := by simpa using z
          rw [this]
          exact p00.2
      refine callP _ _ _ [97] _ _ _ ((s23.trans a28) _ _ b23) (.lst b28 (deAll_app (DeAll.same u28 _ _ hall) (r40 _))) sb40 (by decide) sm97 (by decide) (by rw [List.append_assoc]; exact said14 _) fun H29 s29 => ⟨false, rfl, ?_⟩
      rw [if_neg (by decide)]
      have callE : ∀ (HH : Hp) (p pb : Addr) (ds : List PyData) (rs : List (List Nat)) (Q2 : VK) (E2 : XK), WsAt HH p [] → De K HH (.ref pb) (.list ds) → sb (.list ds) = true → ds.length ≤ 1000 → saidD [] (.list ds) = some rs → (∀ p1 H5, Same HH H5 → HH p1 = none → WsAt H5 p1 rs → Q2 (.ref p1) H5) → spSaidX K c [.int 2, .ref p, .ref pb] HH Q2 E2 := fun HH p pb ds rs Q2 E2 k1 k2 k3 k4 k5 q2 =>
        ⟨2, p, .ref pb, .list ds, [], rfl, by decide, by decide, k1, sw0, k2, k3, (fun es e => by cases e; omega), (fun e => absurd (k5.symm.trans e) (by simp)), fun rs' p1 H5 e s5 n5 hp1 => by rw [k5] at e; cases e; exact q2 p1 H5 s5 n5 hp1⟩
      refine ⟨by decide, fun p30 n30 => ?_⟩
      have a30 := same_upd n30 (o := (.lst []))
      have b30 : upd H29 p30 (.lst []) p30 = some (.lst []) := upd_same
      generalize upd H29 p30 (.lst []) = G30 at a30 b30 ⊢
      refine ⟨by decide, fun p31 n31 => ?_⟩
      have a31 := same_upd n31 (o := (.lst []))
      have b31 : upd G30 p31 (.lst []) p31 = some (.lst []) := upd_same
      generalize upd G30 p31 (.lst []) = G31 at a31 b31 ⊢
      refine callE _ _ _ [] [] _ _ (a31 _ _ b30) (.lst b31 .nil) rfl (by decide) rfl fun p32 H32 s32 n32 hp32 => ?_
      refine ⟨by decide, fun p33 n33 => ?_⟩
      refine ws_eq (ls := []) (same_upd n33 _ _ hp32) upd_same (fun _ z => nomatch z) ⟨true, rfl, ?_⟩
      rw [if_pos rfl]
      generalize upd H32 p33 _ = H33
      refine ⟨by decide, fun p34 n34 => ?_⟩
      have a34 := same_upd n34 (o := (.lst []))
      have b34 : upd H33 p34 (.lst []) p34 = some (.lst []) := upd_same
      generalize upd H33 p34 (.lst []) = G34 at a34 b34 ⊢
      refine ⟨by decide, fun p35 n35 => ?_⟩
      have a35 := same_upd n35 (o := (.lst []))
      have b35 : upd G34 p35 (.lst []) p35 = some (.lst []) := upd_same
      generalize upd G34 p35 (.lst []) = G35 at a35 b35 ⊢
      refine ⟨by decide, fun p36 n36 => ?_⟩
      have a36 := same_upd n36 (o := (.lst []))
      have b36 : upd G35 p36 (.lst []) p36 = some (.lst []) := upd_same
      generalize upd G35 p36 (.lst []) = G36 at a36 b36 ⊢
      refine ⟨by decide, fun p37 n37 => ?_⟩
      have a37 := same_upd n37 (o := (.lst [.ref p35, .ref p36]))
      have b37 : upd G36 p37 (.lst [.ref p35, .ref p36]) p37 = some (.lst [.ref p35, .ref p36]) := upd_same
      generalize upd G36 p37 (.lst [.ref p35, .ref p36]) = G37 at a37 b37 ⊢
      refine callE _ _ _ [.list [], .list []] [[], []] _ _ ((a35.trans (a36.trans a37)) _ _ b34) (.lst b37 (.cons (.lst ((a36.trans a37) _ _ b35) .nil) (.cons (.lst (a37 _ _ b36) .nil) .nil))) rfl (by decide) rfl fun p38 H38 s38 n38 hp38 => ?_
      refine ⟨by decide, fun p39 n39 => ?_⟩
      refine ws_eq (ls := [[], []]) (same_upd n39 _ _ hp38) upd_same (fun l hl => by have e : l = [] := (by simpa using hl); rw [e]; exact fun _ z => nomatch z) ⟨true, rfl, ?_⟩
      rw [if_pos rfl]
      generalize upd H38 p39 _ = H39
      refine ⟨by decide, fun p40 n40 => ?_⟩
      have a40 := same_upd n40 (o := (.lst []))
      have b40 : upd H39 p40 (.lst []) p40 = some (.lst []) := upd_same
      generalize upd H39 p40 (.lst []) = G40 at a40 b40 ⊢
      refine ⟨by decide, fun p41 n41 => ?_⟩
      have a41 := same_upd n41 (o := (.lst []))
      have b41 : upd G40 p41 (.lst []) p41 = some (.lst []) := upd_same
      generalize upd G40 p41 (.lst []) = G41 at a41 b41 ⊢
      refine ⟨by decide, fun p42 n42 => ?_⟩
      have a42 := same_upd n42 (o := (.lst [.ref p41]))
      have b42 : upd G41 p42 (.lst [.ref p41]) p42 = some (.lst [.ref p41]) := upd_same
      generalize upd G41 p42 (.lst [.ref p41]) = G42 at a42 b42 ⊢
      have sm2 : Sm 2 [97, 65] := fun x hx => by
        simp only [List.mem_cons, List.not_mem_nil, or_false] at hx
        rcases hx with rfl | rfl <;> decide
      refine ⟨2, p40, [97, 65], .ref p42, .list [.list []], [], rfl, by decide, by decide, (a41.trans a42) _ _ b40, sw0, sm2, by decide, .lst b42 (.cons (.lst (a42 _ _ b41) .nil) .nil), rfl, (fun es e => by cases e; decide), fun H43 s43 => ⟨_, rfl, ?_⟩⟩
      rw [show paperB [] [97, 65] (.list [.list []]) = true by decide +kernel]
      refine ⟨by decide, fun p44 n44 => ?_⟩
      have a44 := same_upd n44 (o := (.lst [.str (PySem.Str.ofString "a")]))
      have b44 : upd H43 p44 (.lst [.str (PySem.Str.ofString "a")]) p44 = some (.lst [.str (PySem.Str.ofString "a")]) := upd_same
      generalize upd H43 p44 (.lst [.str (PySem.Str.ofString "a")]) = G44 at a44 b44 ⊢
      refine ⟨by decide, fun p45 n45 => ?_⟩
      have a45 := same_upd n45 (o := (.lst []))
      have b45 : upd G44 p45 (.lst []) p45 = some (.lst []) := upd_same
      generalize upd G44 p45 (.lst []) = G45 at a45 b45 ⊢
      refine ⟨2, p44, [], .ref p45, .list [], [[97]], rfl, by decide, by decide, a45 _ _ b44, ⟨by decide, fun l hl => by rw [List.mem_singleton.mp hl]; exact ⟨fun x hx => by rw [List.mem_singleton.mp hx]; decide, by decide⟩⟩, (fun _ z => nomatch z), by decide, .lst b45 .nil, rfl, (fun es e => by cases e; decide), fun H46 s46 => ⟨_, rfl, ?_⟩⟩
      rw [show paperB [[97]] [] (.list []) = true by decide +kernel]
      exact q _
end
end K16

namespace K16
open PySem PySem.Spec PyProof.Rows L2 G1 MW
/-- what the top says of an exception class -/
structure XF (K : PySem.W.Frag) (x : Str) (C : Addr) : Prop where
  a0 : PySem.W.nsIn K mainGlobals x = some (some (.ref C))
  sa : PySem.W.findIn K (.ref C) "__setattr__" = some (some (.builtin "object.__setattr__"))
  eC : PySem.W.subIn K (.ref C) (.type "BaseException") = some true
  tC : PySem.W.typeIn K (.ref C) = some (.type "type")
  kC : PySem.W.keepIn K (.ref C) = true
  ga : PySem.W.findIn K (.ref C) "__getattribute__" = some (some (.builtin "BaseException.__getattribute__"))
  gg : PySem.W.findIn K (.ref C) "__getattr__" = some none
  cc : PySem.W.findIn K (.ref C) "__class__" = some (some (.builtin "object.__class__"))
  cm : PySem.W.mroIn K C (.type "object") = some true
  hd : PySem.W.hasDictIn K C = true
  nv : PySem.W.findIn K (.ref C) "value" = some none
theorem XF.xc {K : PySem.W.Frag} {x : Str} {C : Addr} (F : XF K x C) (cn : PySem.W.specialIn K (.builtin "object.__class__") "__get__" = some (some (.builtin "getset_descriptor.__get__"))) (ct : PySem.W.takesIn K (.builtin "object.__class__") = some true)
    {nm q : Str} {N : Addr} {bs bm : List Value} {sn : List Str} {sub : List Value} {ab : Bool} {col : Option Bool} {dd : Option Addr} {m0 m1 m2 m3 m5 : Option Value}
    (xL : K.lookup C = some (excClassObj nm q C N bs bm true sn sub ab col dd m0 m1 m2 m3 m5 "ValueError.__new__")) (hbm : PySem.HandSPX.refsVE bm = true) : XC K C :=
  ⟨⟨⟨nm, q, N, bs, bm, sn, sub, ab, col, dd, m0, m1, m2, m3, m5, xL, hbm⟩, F.sa, F.eC, F.tC, F.kC⟩, F.ga, F.gg, F.cc, cn, ct, F.cm, F.hd, F.nv⟩
theorem xok_mk {P : Program} {w : World} {K : PySem.W.Frag} {h : Heap} {mg : Str → Option Value} {base : Heap} {x qual : Str} {C fI T : Addr} {p1 p2 p3 q1 q2 q3 q4 : Pos} (X : K.In h) (G : h.Ns mainGlobals mg) (F : XF K x C) (T0 : XC K C)
    {oc doc pm cdv ct kV : Value} {od an : Option Addr} {osl : Array (Option Value)} {o : Obj} {n : Nat}
    (iC : PySem.W.findIn K (.ref C) "__init__" = some (some (.ref fI))) (tI : PySem.W.typeIn K (.ref fI) = some (.type "function"))
    (l : K.lookup fI = some ⟨oc, od, .func (PySem.W.fnOf "__init__" qual (xA p1 p2 p3) (xB q1 q2 q3 q4) xS (.ref T) kV doc pm an cdv ct), osl⟩) (c : PySem.W.codeIn K cdv qual = true) (kp : PySem.W.keepIn K (.ref fI) = true)
    (lT : K.lookup T = some o) (oT : o.data = .seq #[.none] n) : XOk P w K mg base x C :=
  x_ok T0 (PySem.W.mg_of X G F.a0) iC tI ⟨⟨oc, od, .ref T, kV, doc, pm, an, cdv, ct, osl, rfl, l, c, .inr ⟨by simp, T, o, [.none], n, rfl, lT, oT, .cons rfl .nil⟩, .inl rfl⟩, kp⟩
theorem xnk_mk {K : PySem.W.Frag} {h : Heap} {mg : Str → Option Value} {x : Str} {C : Addr} (X : K.In h) (G : h.Ns mainGlobals mg) (F : XF K x C) (T0 : XC K C) (i : PySem.W.findIn K (.ref C) "__init__" = some (some (.builtin "ValueError.__init__"))) : XNk K mg x C := ⟨T0, PySem.W.mg_of X G F.a0, i⟩

def kitM (K : PySem.W.Frag) (cs : List Addr) : Bool := (List.range 4).all fun i => (List.range 4).all fun j => PySem.W.kitOne K (.ref (cs.getD i 0)) (.ref (cs.getD j 0)) == some (decide (j = i))
def exmM (K : PySem.W.Frag) (cs : List Addr) (v : Value) : Bool := (List.range 4).all fun i => PySem.W.exmOne K (.ref (cs.getD i 0)) v == some true
theorem kitM_of {K : PySem.W.Frag} {cs : List Addr} (h : kitM K cs = true) (i j : Nat) (hi : i < 4) (hj : j < 4) : PySem.W.kitOne K (.ref (cs.getD i 0)) (.ref (cs.getD j 0)) = some (decide (j = i)) := by
  unfold kitM at h
  rw [List.all_eq_true] at h
  have h1 := h i (List.mem_range.mpr hi)
  rw [List.all_eq_true] at h1
  exact beq_iff_eq.mp (h1 j (List.mem_range.mpr hj))
theorem exmM_of {K : PySem.W.Frag} {cs : List Addr} {v : Value} (h : exmM K cs v = true) (i : Nat) (hi : i < 4) : PySem.W.exmOne K (.ref (cs.getD i 0)) v = some true := by
  unfold exmM at h
  rw [List.all_eq_true] at h
  exact beq_iff_eq.mp (h i (List.mem_range.mpr hi))
theorem all_mk {l : PySem.W.OpenLaw} {w : World} {K : PySem.W.Frag} {h : Heap} {mg : Str → Option Value} {fa : Addr} (X : K.In h) (G : h.Ns mainGlobals mg) (hfa : mg "law" = some (.ref fa)) {c0 c1 c2 c3 cF : Addr}
    (S_is_whole : Src K mg "is_whole" s_is_whole)
    (S_is_spelled : Src K mg "is_spelled" s_is_spelled)
    (S_reduced : Src K mg "reduced" s_reduced)
    (S_undone : Src K mg "undone" s_undone)
    (S_check_many : Src K mg "check_many" s_check_many)
    (S_check_word : Src K mg "check_word" s_check_word)
    (S_is_count : Src K mg "is_count" s_is_count)
    (S_is_word_list : Src K mg "is_word_list" s_is_word_list)
    (S_is_short_list : Src K mg "is_short_list" s_is_short_list)
    (S_check_short_list : Src K mg "check_short_list" s_check_short_list)
    (S_is_item : Src K mg "is_item" s_is_item)
    (S_is_step : Src K mg "is_step" s_is_step)
    (S_step_word : Src K mg "step_word" s_step_word)
    (S_said_words : Src K mg "said_words" s_said_words)
    (S_said : Src K mg "said" s_said)
    (S_is_paper : Src K mg "is_paper" s_is_paper)
    (S_law_hash : Src K mg "_law_hash" s_law_hash)
    (S_law_cell : Src K mg "_law_cell" s_law_cell)
    (S_law_generator : Src K mg "_law_generator" s_law_generator)
    (S_law_random : Src K mg "_law_random" s_law_random)
    (S_law_text : Src K mg "_law_text" s_law_text)
    (S_law_word : Src K mg "_law_word" s_law_word)
    (S_law_numbers : Src K mg "_law_numbers" s_law_numbers)
    (S_law_plain : Src K mg "_law_plain" s_law_plain)
    (S_law_opposite : Src K mg "_law_opposite" s_law_opposite)
    (S_law_loose : Src K mg "_law_loose" s_law_loose)
    (S_law_words : Src K mg "_law_words" s_law_words)
    (S_law_said : Src K mg "_law_said" s_law_said)
    (S_law_paper : Src K mg "_law_paper" s_law_paper)
    (S_law_refused : Src K mg "_law_refused" s_law_refused)
    (S_law_bent : Src K mg "_law_bent" s_law_bent)
    (S_law_right : Src K mg "_law_right" s_law_right)
    (S_law : Src K mg "law" s_law)
    (x0 : ∀ base, XOk l.prog w K mg base "InvalidNumber" c0)
    (x1 : ∀ base, XOk l.prog w K mg base "InvalidWord" c1)
    (x2 : ∀ base, XOk l.prog w K mg base "InvalidList" c2)
    (x3 : ∀ base, XOk l.prog w K mg base "InvalidPaper" c3)
    (nF : XNk K mg "FoldError" cF)
    (z_int : PySem.W.nsIn K mainGlobals "int" = some none)
    (z_len : PySem.W.nsIn K mainGlobals "len" = some none)
    (z_sum : PySem.W.nsIn K mainGlobals "sum" = some none)
    (z_max : PySem.W.nsIn K mainGlobals "max" = some none)
    (z_range : PySem.W.nsIn K mainGlobals "range" = some none)
    (z_isinstance : PySem.W.nsIn K mainGlobals "isinstance" = some none)
    (z_list : PySem.W.nsIn K mainGlobals "list" = some none)
    (z_bool : PySem.W.nsIn K mainGlobals "bool" = some none)
    (z_str : PySem.W.nsIn K mainGlobals "str" = some none)
    (z_all : PySem.W.nsIn K mainGlobals "all" = some none)
    (z_dict : PySem.W.nsIn K mainGlobals "dict" = some none)
    (z_enumerate : PySem.W.nsIn K mainGlobals "enumerate" = some none)
    (z_abs : PySem.W.nsIn K mainGlobals "abs" = some none)
    (z_min : PySem.W.nsIn K mainGlobals "min" = some none)
    (z_tuple : PySem.W.nsIn K mainGlobals "tuple" = some none)
    (z_repr : PySem.W.nsIn K mainGlobals "repr" = some none)
    {t_SIGNS : Tok} (a_SIGNS : PySem.W.nsIn K mainGlobals "SIGNS" = some (some (.str (PySem.Str.ofString "aAbBcCdDeEfF") t_SIGNS)))
    {t_MOST_SIGNS : Tok} (a_MOST_SIGNS : PySem.W.nsIn K mainGlobals "MOST_SIGNS" = some (some (.int 1000 t_MOST_SIGNS)))
    {t_MOST_LETTERS : Tok} (a_MOST_LETTERS : PySem.W.nsIn K mainGlobals "MOST_LETTERS" = some (some (.int 6 t_MOST_LETTERS)))
    {t_MOST_WORDS : Tok} (a_MOST_WORDS : PySem.W.nsIn K mainGlobals "MOST_WORDS" = some (some (.int 12 t_MOST_WORDS)))
    {t_MOST_WORD_SIGNS : Tok} (a_MOST_WORD_SIGNS : PySem.W.nsIn K mainGlobals "MOST_WORD_SIGNS" = some (some (.int 200 t_MOST_WORD_SIGNS)))
    {t_MOST_SAID : Tok} (a_MOST_SAID : PySem.W.nsIn K mainGlobals "MOST_SAID" = some (some (.int 10000 t_MOST_SAID)))
    {t_MOST_ITEMS : Tok} (a_MOST_ITEMS : PySem.W.nsIn K mainGlobals "MOST_ITEMS" = some (some (.int 12 t_MOST_ITEMS)))
    (km : kitM K [c0, c1, c2, c3] = true)
    (em : exmM K [c0, c1, c2, c3] (.ref cF) = true)
    : ∃ fd : FuncData, (∀ (s : Shared) (v : Value), BindsTo s fd ⟨[v], []⟩ [("_law_script", v)]) ∧ ∀ base : Heap, K.In base → base.Ns mainGlobals mg → FnG l.prog w K mg base CX0 9 fa fd ["_law_script"] (spLaw K) := by
  have T : ∀ base, Txt l.prog w K mg base (fun i => ([c0, c1, c2, c3] : List Addr).getD i 0) cF := fun base => {
    n_int := PySem.W.mg_none_of X G z_int
    n_len := PySem.W.mg_none_of X G z_len
    n_sum := PySem.W.mg_none_of X G z_sum
    n_max := PySem.W.mg_none_of X G z_max
    n_range := PySem.W.mg_none_of X G z_range
    n_isinstance := PySem.W.mg_none_of X G z_isinstance
    n_list := PySem.W.mg_none_of X G z_list
    n_bool := PySem.W.mg_none_of X G z_bool
    n_str := PySem.W.mg_none_of X G z_str
    n_all := PySem.W.mg_none_of X G z_all
    n_dict := PySem.W.mg_none_of X G z_dict
    n_enumerate := PySem.W.mg_none_of X G z_enumerate
    n_abs := PySem.W.mg_none_of X G z_abs
    n_min := PySem.W.mg_none_of X G z_min
    n_tuple := PySem.W.mg_none_of X G z_tuple
    n_repr := PySem.W.mg_none_of X G z_repr
    c_SIGNS := ⟨_, PySem.W.mg_of X G a_SIGNS, t_SIGNS, by rw [show SG = (PySem.Str.ofString "aAbBcCdDeEfF") from by decide +kernel]⟩
    c_MOST_SIGNS := ⟨_, PySem.W.mg_of X G a_MOST_SIGNS, t_MOST_SIGNS, by rfl⟩
    c_MOST_LETTERS := ⟨_, PySem.W.mg_of X G a_MOST_LETTERS, t_MOST_LETTERS, by rfl⟩
    c_MOST_WORDS := ⟨_, PySem.W.mg_of X G a_MOST_WORDS, t_MOST_WORDS, by rfl⟩
    c_MOST_WORD_SIGNS := ⟨_, PySem.W.mg_of X G a_MOST_WORD_SIGNS, t_MOST_WORD_SIGNS, by rfl⟩
    c_MOST_SAID := ⟨_, PySem.W.mg_of X G a_MOST_SAID, t_MOST_SAID, by rfl⟩
    c_MOST_ITEMS := ⟨_, PySem.W.mg_of X G a_MOST_ITEMS, t_MOST_ITEMS, by rfl⟩
    nF := nF
    exm := fun i hi => exmM_of em i hi
    kit := fun i j hi hj => kitM_of km i j hi hj
    x := fun i hi => by
      match i, hi with
      | 0, _ => exact x0 base
      | 1, _ => exact x1 base
      | 2, _ => exact x2 base
      | 3, _ => exact x3 base
      | n + 4, hn => exact absurd hn (by omega) }
  obtain ⟨f, fd, F, g⟩ := S_law
  have e := hfa.symm.trans g
  cases e
  refine ⟨fd, ?_, fun base _ _ => ?_⟩
  · obtain ⟨oc, od, kV, doc, pm, an, cdv, ct, osl, rfl, _⟩ := F.ex
    exact fun s v => .of_eq rfl
  · have T := T base
    have i0 := ok_is_whole (P := l.prog) (w := w) (base := base) S_is_whole T
    have i1 := ok_is_spelled (P := l.prog) (w := w) (base := base) S_is_spelled T
    have i2 := ok_reduced (P := l.prog) (w := w) (base := base) S_reduced T
    have i3 := ok_undone (P := l.prog) (w := w) (base := base) S_undone T
    have i4 := ok_check_many (P := l.prog) (w := w) (base := base) S_check_many T i0
    have i5 := ok_check_word (P := l.prog) (w := w) (base := base) S_check_word T i1
    have i6 := ok_is_count (P := l.prog) (w := w) (base := base) S_is_count T i0
    have i7 := ok_is_word_list (P := l.prog) (w := w) (base := base) S_is_word_list T i1
    have i8 := ok_is_short_list (P := l.prog) (w := w) (base := base) S_is_short_list T i7
    have i9 := ok_check_short_list (P := l.prog) (w := w) (base := base) S_check_short_list T i8
    have i10 := ok_is_item (P := l.prog) (w := w) (base := base) S_is_item T i0 i6
    have i11 := ok_is_step (P := l.prog) (w := w) (base := base) S_is_step T i10
    have i12 := ok_step_word (P := l.prog) (w := w) (base := base) S_step_word T i2 i3
    have i13 := ok_said_words (P := l.prog) (w := w) (base := base) S_said_words T i2 i11 i12
    have i14 := ok_said (P := l.prog) (w := w) (base := base) S_said T i4 i9 i13
    have i15 := ok_is_paper (P := l.prog) (w := w) (base := base) S_is_paper T i4 i5 i9 i2 i13
    have i16 := ok_hash (P := l.prog) (w := w) (base := base) S_law_hash T
    have i17 := ok_cell (P := l.prog) (w := w) (base := base) S_law_cell T
    have i18 := ok_gen (P := l.prog) (w := w) (base := base) S_law_generator T i17
    have i19 := ok_random (P := l.prog) (w := w) (base := base) S_law_random T i16
    have i20 := ok_text (P := l.prog) (w := w) (base := base) S_law_text T
    have i21 := ok_word (P := l.prog) (w := w) (base := base) S_law_word T i19 i20
    have i22 := ok_numbers (P := l.prog) (w := w) (base := base) S_law_numbers T
    have i23 := ok_plain (P := l.prog) (w := w) (base := base) S_law_plain T i22 i20
    have i24 := ok_other (P := l.prog) (w := w) (base := base) S_law_opposite T i22 i20
    have i25 := ok_loose (P := l.prog) (w := w) (base := base) S_law_loose T i19 i20
    have i26 := ok_words (P := l.prog) (w := w) (base := base) S_law_words T i19 i21 i23 i24
    have i27 := ok_lsaid (P := l.prog) (w := w) (base := base) S_law_said T i23 i24
    have i28 := ok_lpaper (P := l.prog) (w := w) (base := base) S_law_paper T i19
    have i29 := ok_refused (P := l.prog) (w := w) (base := base) S_law_refused T i14
    have i30 := ok_bent (P := l.prog) (w := w) (base := base) S_law_bent T
    have i31 := ok_right (P := l.prog) (w := w) (base := base) S_law_right T i19 i26 i28 i27 i25 i30 i29 i14 i15
    exact ok_law F T i18 i31 i29 i14 i15
end K16
open PySem PySem.W PyProof.Rows
set_option maxHeartbeats 0 in
theorem PySem.Challenge.cw_signlanes_k16_papers_and_what_they_say_holds : PySem.Challenge.rw_signlanes_k16_papers_and_what_they_say.Holds := by
  w_on; o_law; k_head; (case hw => w_witness2)
  k_fill
  refine G1.walk_ofG (l := PySem.Challenge.rw_signlanes_k16_papers_and_what_they_say) (n := 63) (k := 9) (x := "_law_script") (sp := fun w => K16.spLaw _) rfl (by decide) rfl ⟨rfl, by decide, by decide⟩ (fun w h Y => PySem.W.kIn_of Y) ?F (fun _ _ a ns hl hS => ⟨a, ns, rfl, hS, hl, fun _ => rfl⟩)
  case F =>
    intro w mg fa h KX G hmg
    refine' K16.all_mk KX G hmg ?S_is_whole ?S_is_spelled ?S_reduced ?S_undone ?S_check_many ?S_check_word ?S_is_count ?S_is_word_list ?S_is_short_list ?S_check_short_list ?S_is_item ?S_is_step ?S_step_word ?S_said_words ?S_said ?S_is_paper ?S_law_hash ?S_law_cell ?S_law_generator ?S_law_random ?S_law_text ?S_law_word ?S_law_numbers ?S_law_plain ?S_law_opposite ?S_law_loose ?S_law_words ?S_law_said ?S_law_paper ?S_law_refused ?S_law_bent ?S_law_right ?S_law ?x0 ?x1 ?x2 ?x3 ?nF ?z_int ?z_len ?z_sum ?z_max ?z_range ?z_isinstance ?z_list ?z_bool ?z_str ?z_all ?z_dict ?z_enumerate ?z_abs ?z_min ?z_tuple ?z_repr ?a_SIGNS ?a_MOST_SIGNS ?a_MOST_LETTERS ?a_MOST_WORDS ?a_MOST_WORD_SIGNS ?a_MOST_SAID ?a_MOST_ITEMS ?km ?em
    (case S_is_whole => (refine' G1.src_mk KX G ?a ?l ?c ?k; (case a => k_is); (case l => k_is); (case c => k_is); (case k => k_is)))
    (case S_is_spelled => (refine' G1.src_mk KX G ?a ?l ?c ?k; (case a => k_is); (case l => k_is); (case c => k_is); (case k => k_is)))
    (case S_reduced => (refine' G1.src_mk KX G ?a ?l ?c ?k; (case a => k_is); (case l => k_is); (case c => k_is); (case k => k_is)))
    (case S_undone => (refine' G1.src_mk KX G ?a ?l ?c ?k; (case a => k_is); (case l => k_is); (case c => k_is); (case k => k_is)))
    (case S_check_many => (refine' G1.src_mk KX G ?a ?l ?c ?k; (case a => k_is); (case l => k_is); (case c => k_is); (case k => k_is)))
    (case S_check_word => (refine' G1.src_mk KX G ?a ?l ?c ?k; (case a => k_is); (case l => k_is); (case c => k_is); (case k => k_is)))
    (case S_is_count => (refine' G1.src_mk KX G ?a ?l ?c ?k; (case a => k_is); (case l => k_is); (case c => k_is); (case k => k_is)))
    (case S_is_word_list => (refine' G1.src_mk KX G ?a ?l ?c ?k; (case a => k_is); (case l => k_is); (case c => k_is); (case k => k_is)))
    (case S_is_short_list => (refine' G1.src_mk KX G ?a ?l ?c ?k; (case a => k_is); (case l => k_is); (case c => k_is); (case k => k_is)))
    (case S_check_short_list => (refine' G1.src_mk KX G ?a ?l ?c ?k; (case a => k_is); (case l => k_is); (case c => k_is); (case k => k_is)))
    (case S_is_item => (refine' G1.src_mk KX G ?a ?l ?c ?k; (case a => k_is); (case l => k_is); (case c => k_is); (case k => k_is)))
    (case S_is_step => (refine' G1.src_mk KX G ?a ?l ?c ?k; (case a => k_is); (case l => k_is); (case c => k_is); (case k => k_is)))
    (case S_step_word => (refine' G1.src_mk KX G ?a ?l ?c ?k; (case a => k_is); (case l => k_is); (case c => k_is); (case k => k_is)))
    (case S_said_words => (refine' G1.src_mk KX G ?a ?l ?c ?k; (case a => k_is); (case l => k_is); (case c => k_is); (case k => k_is)))
    (case S_said => (refine' G1.src_mk KX G ?a ?l ?c ?k; (case a => k_is); (case l => k_is); (case c => k_is); (case k => k_is)))
    (case S_is_paper => (refine' G1.src_mk KX G ?a ?l ?c ?k; (case a => k_is); (case l => k_is); (case c => k_is); (case k => k_is)))
    (case S_law_hash => (refine' G1.src_mk KX G ?a ?l ?c ?k; (case a => k_is); (case l => k_is); (case c => k_is); (case k => k_is)))
    (case S_law_cell => (refine' G1.src_mk KX G ?a ?l ?c ?k; (case a => k_is); (case l => k_is); (case c => k_is); (case k => k_is)))
    (case S_law_generator => (refine' G1.src_mk KX G ?a ?l ?c ?k; (case a => k_is); (case l => k_is); (case c => k_is); (case k => k_is)))
    (case S_law_random => (refine' G1.src_mk KX G ?a ?l ?c ?k; (case a => k_is); (case l => k_is); (case c => k_is); (case k => k_is)))
    (case S_law_text => (refine' G1.src_mk KX G ?a ?l ?c ?k; (case a => k_is); (case l => k_is); (case c => k_is); (case k => k_is)))
    (case S_law_word => (refine' G1.src_mk KX G ?a ?l ?c ?k; (case a => k_is); (case l => k_is); (case c => k_is); (case k => k_is)))
    (case S_law_numbers => (refine' G1.src_mk KX G ?a ?l ?c ?k; (case a => k_is); (case l => k_is); (case c => k_is); (case k => k_is)))
    (case S_law_plain => (refine' G1.src_mk KX G ?a ?l ?c ?k; (case a => k_is); (case l => k_is); (case c => k_is); (case k => k_is)))
    (case S_law_opposite => (refine' G1.src_mk KX G ?a ?l ?c ?k; (case a => k_is); (case l => k_is); (case c => k_is); (case k => k_is)))
    (case S_law_loose => (refine' G1.src_mk KX G ?a ?l ?c ?k; (case a => k_is); (case l => k_is); (case c => k_is); (case k => k_is)))
    (case S_law_words => (refine' G1.src_mk KX G ?a ?l ?c ?k; (case a => k_is); (case l => k_is); (case c => k_is); (case k => k_is)))
    (case S_law_said => (refine' G1.src_mk KX G ?a ?l ?c ?k; (case a => k_is); (case l => k_is); (case c => k_is); (case k => k_is)))
    (case S_law_paper => (refine' G1.src_mk KX G ?a ?l ?c ?k; (case a => k_is); (case l => k_is); (case c => k_is); (case k => k_is)))
    (case S_law_refused => (refine' G1.src_mk KX G ?a ?l ?c ?k; (case a => k_is); (case l => k_is); (case c => k_is); (case k => k_is)))
    (case S_law_bent => (refine' G1.src_mk KX G ?a ?l ?c ?k; (case a => k_is); (case l => k_is); (case c => k_is); (case k => k_is)))
    (case S_law_right => (refine' G1.src_mk KX G ?a ?l ?c ?k; (case a => k_is); (case l => k_is); (case c => k_is); (case k => k_is)))
    (case S_law => (refine' G1.src_mk KX G ?a ?l ?c ?k; (case a => k_is); (case l => k_is); (case c => k_is); (case k => k_is)))
    (case x0 => (intro base; refine' K16.xok_mk (qual := "InvalidNumber.__init__") (p1 := ⟨6, 17, 6, 21⟩) (p2 := ⟨6, 23, 6, 28⟩) (p3 := ⟨6, 29, 6, 33⟩) (q1 := ⟨7, 8, 7, 12⟩) (q2 := ⟨7, 8, 7, 18⟩) (q3 := ⟨7, 21, 7, 26⟩) (q4 := ⟨7, 8, 7, 26⟩) KX G ?F (K16.XF.xc ?F ?cn ?ct ?xL ?bm) ?iC ?tI ?l ?c ?kp ?lT ?oT; (case F => (constructor <;> k_is)); (case cn => k_is); (case ct => k_is); (case xL => k_is); (case bm => decide +kernel); (case iC => k_is); (case tI => k_is); (case l => k_is); (case c => k_is); (case kp => k_is); (case lT => k_is); (case oT => rfl)))
    (case x1 => (intro base; refine' K16.xok_mk (qual := "InvalidWord.__init__") (p1 := ⟨10, 17, 10, 21⟩) (p2 := ⟨10, 23, 10, 28⟩) (p3 := ⟨10, 29, 10, 33⟩) (q1 := ⟨11, 8, 11, 12⟩) (q2 := ⟨11, 8, 11, 18⟩) (q3 := ⟨11, 21, 11, 26⟩) (q4 := ⟨11, 8, 11, 26⟩) KX G ?F (K16.XF.xc ?F ?cn ?ct ?xL ?bm) ?iC ?tI ?l ?c ?kp ?lT ?oT; (case F => (constructor <;> k_is)); (case cn => k_is); (case ct => k_is); (case xL => k_is); (case bm => decide +kernel); (case iC => k_is); (case tI => k_is); (case l => k_is); (case c => k_is); (case kp => k_is); (case lT => k_is); (case oT => rfl)))
    (case x2 => (intro base; refine' K16.xok_mk (qual := "InvalidList.__init__") (p1 := ⟨14, 17, 14, 21⟩) (p2 := ⟨14, 23, 14, 28⟩) (p3 := ⟨14, 29, 14, 33⟩) (q1 := ⟨15, 8, 15, 12⟩) (q2 := ⟨15, 8, 15, 18⟩) (q3 := ⟨15, 21, 15, 26⟩) (q4 := ⟨15, 8, 15, 26⟩) KX G ?F (K16.XF.xc ?F ?cn ?ct ?xL ?bm) ?iC ?tI ?l ?c ?kp ?lT ?oT; (case F => (constructor <;> k_is)); (case cn => k_is); (case ct => k_is); (case xL => k_is); (case bm => decide +kernel); (case iC => k_is); (case tI => k_is); (case l => k_is); (case c => k_is); (case kp => k_is); (case lT => k_is); (case oT => rfl)))
    (case x3 => (intro base; refine' K16.xok_mk (qual := "InvalidPaper.__init__") (p1 := ⟨18, 17, 18, 21⟩) (p2 := ⟨18, 23, 18, 28⟩) (p3 := ⟨18, 29, 18, 33⟩) (q1 := ⟨19, 8, 19, 12⟩) (q2 := ⟨19, 8, 19, 18⟩) (q3 := ⟨19, 21, 19, 26⟩) (q4 := ⟨19, 8, 19, 26⟩) KX G ?F (K16.XF.xc ?F ?cn ?ct ?xL ?bm) ?iC ?tI ?l ?c ?kp ?lT ?oT; (case F => (constructor <;> k_is)); (case cn => k_is); (case ct => k_is); (case xL => k_is); (case bm => decide +kernel); (case iC => k_is); (case tI => k_is); (case l => k_is); (case c => k_is); (case kp => k_is); (case lT => k_is); (case oT => rfl)))
    (case nF => (refine' K16.xnk_mk KX G ?F (K16.XF.xc ?F ?cn ?ct ?xL ?bm) ?i; (case F => (constructor <;> k_is)); (case cn => k_is); (case ct => k_is); (case xL => k_is); (case bm => decide +kernel); (case i => k_is)))
    (case z_int => k_is)
    (case z_len => k_is)
    (case z_sum => k_is)
    (case z_max => k_is)
    (case z_range => k_is)
    (case z_isinstance => k_is)
    (case z_list => k_is)
    (case z_bool => k_is)
    (case z_str => k_is)
    (case z_all => k_is)
    (case z_dict => k_is)
    (case z_enumerate => k_is)
    (case z_abs => k_is)
    (case z_min => k_is)
    (case z_tuple => k_is)
    (case z_repr => k_is)
    (case a_SIGNS => k_is)
    (case a_MOST_SIGNS => k_is)
    (case a_MOST_LETTERS => k_is)
    (case a_MOST_WORDS => k_is)
    (case a_MOST_WORD_SIGNS => k_is)
    (case a_MOST_SAID => k_is)
    (case a_MOST_ITEMS => k_is)
    (case km => kernel_rfl)
    (case em => kernel_rfl)
