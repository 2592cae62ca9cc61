import PyProof.Rows.All
import Wide.All
import OpenK.AllK
import Wide.FinOn
import KE.KStateDown
import Lean
import HandS.Base
import HandS.Call
import HandS.List
import HandS.Comp
import HandS.Ends
import HandS.Dict
import HandS.Iter
import HandS.Text
import HandS.More
import HandS.Words
import HandS.WordsList
import HandS.WordsDict
import HandS.Exc
import HandS.ExcOwn
import HandS.TryOnly
import HandS.WordsExc
import HandS.ExcCtx
import HandS.HotCalls
import KE.KExcIs
import HandS.Defaults
import HandS.Codes
import HandS.CallSlots
import HandS.Steps
import HandS.Style
import HandS.Wide
import HandS.WideMore
import HandS.WideBits
import HandS.IsInst
import HandS.ExcInit
import HandS.ExcField
import HandS.ExcIs
import HandS.Gcd
import HandS.FStr
import HandS.RaiseMore
import HandS.Head0
import HandS.Head1
import HandS.Head2
import HandS.Head3
import HandS.HeadEnd
import HandS.HeadHook1
import HandS.HeadHook2
import HandS.HeadHook3
import HandS.HeadHook4
import HandS.ClsMeth
import HandS.Strs
import PyProof.Rows.StrRev
import HandS.Evl
import HandS.Walk
import HandS.Deep
import PyProof.Rows.StrFit
import OpenK.KMeth
import PyProof.InstNe
import KE.KParD
import HandS.Star
import KE.KIntText
import PyProof.FitsInt
import PyProof.StrLawsFirst
import PyProof.StrLawsAffix
import PyProof.ReprRoads
import PyProof.Rows.NestFoldShow
import PyProof.CallFns
import HandS.StrMore
import PyProof.StrBlock2
import KE.KxIndex
import PyProof.ReprLen
import HandS.DictComp
import HandS.Conv
import HandS.Small
import HandS.HeadNt
import PySem.Challenge.RW_mendrounds_k07_fillings
set_option Elab.async false
set_option linter.all false
set_option maxRecDepth 100000
set_option maxHeartbeats 4000000
namespace Md
open PySem PySem.Spec PyProof.Rows PySem.Calls L2

/-! ### where the classes and tables of the program stand -/
structure Ads where
  cMendroundsError : Addr := 0
  cBadNumber : Addr := 0
  cBadLayout : Addr := 0
  cBadField : Addr := 0
  cBadValue : Addr := 0
  cBadFilling : Addr := 0
  cBadCondition : Addr := 0
  cBadCheck : Addr := 0
  cBadForm : Addr := 0
  cBadPattern : Addr := 0
  cNoFilling : Addr := 0
  cUnlike : Addr := 0
  cTooMany : Addr := 0
  cBadTelling : Addr := 0
  cBadChange : Addr := 0
  cBadBatch : Addr := 0
  cNoCheck : Addr := 0
  cNotTold : Addr := 0
  cRefused : Addr := 0
  cLocked : Addr := 0
  cUnmet : Addr := 0
  cClosed : Addr := 0
  cStarted : Addr := 0
  cLayout : Addr := 0
  cSpace : Addr := 0
  gRESERVED : Addr := 0

/-! ### readings by short names -/
abbrev rAdd : R2 := rI0 fun i j => .int (i + j)
abbrev rSub : R2 := rI0 fun i j => .int (i - j)
abbrev rMulW : R2 := rI CMulW fun i j => .int (i * j)
abbrev rMul : R2 := rI CMul fun i j => .int (i * j)
abbrev rFdvW : R2 := rI CDivW fun i j => .int (i / j)
abbrev rMod : R2 := rI (fun _ j => 0 < j) fun i j => .int (i % j)
abbrev rPow : R2 := rI CPow fun i j => .int (i ^ j.toNat)
abbrev rLt : R2 := rI0 fun i j => .bl (decide (i < j))
abbrev rLe : R2 := rI0 fun i j => .bl (decide (i ≤ j))
abbrev rGt : R2 := rI0 fun i j => .bl (decide (j < i))
abbrev rGe : R2 := rI0 fun i j => .bl (decide (j ≤ i))
abbrev rNeg : V → Hp → VK → Prop := rU fun i => .int (-i)
abbrev rAbs : List V → Hp → VK → Prop := fun xs H Q => ∃ i, xs = [.int i] ∧ Q (.int (if i < 0 then -i else i)) H
abbrev rMax2 : List V → Hp → VK → Prop := fun xs H Q => ∃ i j, xs = [.int i, .int j] ∧ Q (.int (if j > i then j else i)) H
abbrev rMin2 : List V → Hp → VK → Prop := fun xs H Q => ∃ i j, xs = [.int i, .int j] ∧ Q (.int (if j < i then j else i)) H
abbrev rInt1 : List V → Hp → VK → Prop := fun xs H Q => (∃ i, xs = [.int i] ∧ Q (.int i) H) ∨ ∃ k, xs = [.bl k] ∧ Q (.int (if k then 1 else 0)) H
abbrev rStrI : List V → Hp → VK → Prop := fun xs H Q => ∃ i : Int, xs = [.int i] ∧ i.natAbs.log2 < 1920 ∧ Q (.str (toString i)) H
abbrev rAddS : R2 := fun x y H Q => ∃ i j, x = .str i ∧ y = .str j ∧ i.length + j.length ≤ sizeLine ∧ Q (.str (i ++ j)) H
abbrev tRaise (E : XK) (t : L2.St → Hp → XK → Prop) : TS := fun _ σ H => t σ H fun cls d H' => E cls d H'
abbrev tTru (K : PySem.W.Frag) (ta : TE) : TT := fun σ H Q => ta σ H fun x H' => ∃ k, TruV K x H' k ∧ Q k H'
/-- // by any divisor but 0 -/
def CDivG (_ j : Int) : Prop := j ≠ 0 ∧ j.natAbs.log2 < 9000
abbrev rFdvG : R2 := rI CDivG fun i j => .int (i.fdiv j)
theorem op_fdivG {X : Cx} : OpR X (binaryOp .FloorDiv) rFdvG := opI fun i j _ _ _ _ _ hc q => floordiv_int hc.1 q (.inl (PyProof.noPylong_of_log2 hc.2))
theorem gStr {mg : Str → Option Value} {x z : Str} (h : ∃ t, mg x = some (.str z t)) : ∃ u, mg x = some u ∧ RelV (.str z) u := by
  obtain ⟨t, e⟩ := h
  exact ⟨_, e, t, rfl⟩
theorem gInt {mg : Str → Option Value} {x : Str} {i : Int} (h : ∃ t, mg x = some (.int i t)) : ∃ u, mg x = some u ∧ RelV (.int i) u := by
  obtain ⟨t, e⟩ := h
  exact ⟨_, e, t, rfl⟩

theorem passN {X : Cx} : Passes (L2N.CX X.prog X.w) X E0 := fun _ _ _ _ _ _ _ h => by
  obtain ⟨_, _, _, _, _, _, _, _, _, _, _, _, z⟩ := h
  exact z.elim
/-- around a body nothing is let out -/
theorem takesN {X : Cx} : L2N.Takes X (fun _ _ _ _ => False) := fun _ _ x => by
  obtain ⟨_, _, _, _, _, _, _, _, _, _, _, _, _, _, _, _, z⟩ := x
  exact z.elim
theorem mk_endN {X : Cx} {pins : List (Addr × Obj)} {σ : L2.St} {H1 H2 : Hp} {Q : XK} {hp hp2 h2 : Heap} {g1 g2 : Array GenState} {d1 d2 : Drawn} {t1 t2 : Nat} {os1 os2 : OsState} {a C d : Addr} {fs : List (Str × V)} (T : Raises X (.ref C)) (I1 : Inv X pins σ H1 ⟨hp, g1, d1, t1, os1⟩)
    (ha : hp.objs.size ≤ a) (k : ∀ b o, hp.get? b = some o → hp2.get? b = some o) (un : Un (frs X.stack) [] (upd H1 a (exo a C none)) H2 hp2 h2) (hok : HOk X.prog X.w H2 h2) (ho : os2 = os1) (hb : AllBare g2)
    (ea : H2 a = some (exo a C (some d))) (ed : H2 d = some (exd d fs)) (hd1 : H1 d = none) (q : Q (.ref C) (some d) (upd (del H2 a) d (.xd fs))) : L2N.MkP X pins σ Q (.ref a) ⟨h2, g2, d2, t2, os2⟩ := by
  obtain ⟨t0, G, J, kG, ge, hoe, na⟩ := mk_end0 (d2 := d2) (t2 := t2) I1 ha k un hok ho hb ea ed hd1
  exact ⟨a, _, _, ⟨G, g2, d2, t2, os2⟩, _, .ref C, some d, rfl, J, kG, ge, hoe, ⟨rfl, rfl, fun vs e => by cases e; rfl⟩, rfl, rfl, na, rfl, hb, T, q⟩
theorem pmk_oexN {X : Cx} {e : Expr} {es : List Expr} {ta : TA} {p pos : Pos} {CX : CXT} {x : Str} {C fI : Addr} {k : Nat} {fd : FuncData} {ps : List Str} {sp : Sp} {ds : List Value} {dvs : List V} (T : OexC X.K C) (iC : PySem.W.findIn X.K (.ref C) "__init__" = some (some (.ref fI))) (tI : PySem.W.typeIn X.K (.ref fI) = some (.type "function"))
    (F1 : FnOk X.prog X.w X.K X.mg X.base CX k fI fd ps sp) (hr : Room (k + 1) X.A) (hb : Binds X.K fd ps ds) (hd : Vals dvs ds) (hx : Passes CX X (fun _ _ _ => False)) (hg : Gl X x) (hm : X.mg x = some (.ref C)) (ha : PA X (e :: es) ta)
    (hdb : (x == ("__debug__" : Str)) = false := by decide) (he : starEach (e :: es) X.env = (false, eval e X.env) :: starEach es X.env := by rfl) (hpl : (backTo pos (starEach es X.env)).any (·.1) = false := by rfl) :
    L2N.PMk X (.Call (.Name x p) (e :: es) [] pos) (tMkO C sp dvs ta) := by
  intro pins s σ H Q I h
  obtain ⟨nm, q, N, bs, bm, sn, sub, ab, col, dd, k0, k1, k2, k3, k5, hC, hbm⟩ := T.cls
  refine wpAny_Call_Name_kw (ld_glob I hg hm ?_ hdb)
  refine PySem.W.callWith_K (h₀ := X.base) I.ok.mod.kin T.kC (thn (ha.run pos pins s σ H _ I h) fun us s1 ⟨vs, H1, I1, r1, hz, q1⟩ => ⟨I1.kIn, ?_⟩) he hpl
  show wpAny _ _ (call (.ref C) us) _ _ _
  obtain ⟨hp, g, dr, tk, os⟩ := s1
  have hsz : hp.objs.size ≤ hp.objs.size + 1 := Nat.le_succ _
  have hn : H1 (hp.objs.size + 1) = none := I1.hok.fresh hsz
  have hq := q1 (hp.objs.size + 1) hn
  have kk : ∀ b o, hp.get? b = some o → ((hp.push (PySem.W.kdv_tup us)).push (PySem.HandSPX.excO C hp.objs.size)).get? b = some o := fun b o e => Heap.get?_push_of_some _ (Heap.get?_push_of_some _ e)
  have hget : ((hp.push (PySem.W.kdv_tup us)).push (PySem.HandSPX.excO C hp.objs.size)).get? (hp.objs.size + 1) = some (PySem.HandSPX.excO C hp.objs.size) := by heap_get
  have I2 : Inv X pins σ (upd H1 (hp.objs.size + 1) (exo (hp.objs.size + 1) C none)) ⟨(hp.push (PySem.W.kdv_tup us)).push (PySem.HandSPX.excO C hp.objs.size), g, dr, tk, os⟩ :=
    I1.laid (t' := tk) (a := hp.objs.size + 1) (o := exo (hp.objs.size + 1) C none) (h' := (hp.push (PySem.W.kdv_tup us)).push (PySem.HandSPX.excO C hp.objs.size)) kk hsz (exo_ok hget)
  have r2 : Vals (V.ref (hp.objs.size + 1) :: (vs ++ dvs)) (Value.ref (hp.objs.size + 1) :: (us ++ ds)) := .cons rfl (r1.append hd)
  have hl : (Value.ref (hp.objs.size + 1) :: us ++ ds).length = ps.length := by
    have e := r2.length
    rw [F1.len _ _ _ _ hq] at e
    exact e.symm
  have hus : us.length ≤ sizeLine := by
    rw [← Paired.length r1, sizeLine_eq]
    omega
  refine wpAny_call (PySem.HandSPX.call_own F.excBase_ValueError (fun Y => PySem.HandSPX.refsVE_contains Y bm hbm) (I1.kIn _ _ hC) (PySem.W.looks_findIn I1.kIn iC) (fun self => PySem.W.bind_fn I1.kIn self tI) hus
    (codeAny_mono (F1.run _ X.stack _ _ ⟨Value.ref (hp.objs.size + 1) :: us, []⟩ (Value.ref (hp.objs.size + 1) :: (us ++ ds)) _ _ (fun _ _ _ => False) (hr.make C us []) (I2.env0.make C us []) (hb _ (Value.ref (hp.objs.size + 1) :: us) I2.kIn hl) r2 hq) fun r s' hq' => ?_))
  cases r with
  | error er => exact (hx pins σ _ _ er s' I2 hq')
  | ok fl =>
    cases fl with
    | ret u =>
      obtain ⟨v, H2, os2, bare2, un2, hok2, rv, ev, d, fs, ea, ed, hd1, q2⟩ := hq'
      subst ev
      obtain ⟨h2, g2, d2, t2, os'⟩ := s'
      exact ⟨rv, mk_endN (raises_own T.exC T.tyC) I1 hsz kk un2 hok2 os2 bare2 ea ed hd1 q2⟩
    | next => exact False.elim hq'
    | brk => exact False.elim hq'
    | cont => exact False.elim hq'

/-! ### isinstance of the error that a suite holds, whatever its dict -/
theorem kitx_excD {K : PySem.W.Frag} {x D : Addr} {ox : Obj} {od : Option Obj} (hga : PySem.W.findIn K (.ref D) "__getattribute__" = some (some (.builtin "BaseException.__getattribute__"))) (hgt : PySem.W.findIn K (.ref D) "__getattr__" = some none) (hsub : PySem.W.subIn K (.ref D) (.type "BaseException") = some true) (hdct : PySem.W.hasDictIn K D = true) (ha : PySem.W.findIn K (.ref D) "__class__" = some (some (.builtin "object.__class__")))
    (hn : PySem.W.specialIn K (.builtin "object.__class__") "__get__" = some (some (.builtin "getset_descriptor.__get__"))) (htk : PySem.W.takesIn K (.builtin "object.__class__") = some true) (hm : PySem.W.mroIn K D (.type "object") = some true) :
    PySem.W.KitX K (.ref x) (.ref D) (fun h => PySem.W.InstAt h x ox D od) where
  ty := fun _ _ _ I => I.type
  it := fun _ _ X _ => by
    obtain ⟨cdD, hcD, _⟩ := PySem.W.any_some hdct
    unfold PySem.W.clsIn at hcD
    split at hcD
    · rename_i c' d' cd' sl' ho
      intro A' Q' E' s' k q
      unfold isType loadHead
      exact wpAny_bind (wpAny_loadPart (k _ _ (X _ _ ho)) (wpAny_pure q))
    · cases hcD
  ne := fun h tp dd its n sl X htp => by
    obtain ⟨cdD, hcD, _⟩ := PySem.W.any_some hdct
    refine Bool.eq_false_iff.mpr fun q => ?_
    have e : D = tp := Value.ref.inj (beq_iff_eq.mp q)
    subst e
    unfold PySem.W.clsIn at hcD
    split at hcD
    · rename_i c' d' cd' sl' ho
      have z := (X _ _ ho).symm.trans htp
      cases z
    · cases hcD
  ca := fun X I k => PySem.W.kx_classE X I hga hgt hsub (PySem.W.findObj_dataE (by obtain ⟨cd, hc, _⟩ := PySem.W.any_some hdct; rw [hc]; rfl) ha hn htk) hm k
/-- isinstance(e, c), e the error that the suite holds -/
def rIsX (K : PySem.W.Frag) (a : Addr) (cls : Value) (d : Option Addr) : List V → Hp → VK → Prop := fun xs H Q => ∃ (D dd : Addr) (fs : List (Str × V)) (c : V) (cv : Value) (b : Bool), cls = .ref D ∧ d = some dd ∧ ExcC K D ∧ H dd = some (.xd fs) ∧ xs = [.ref a, c] ∧ ClsV c cv ∧ PySem.W.kitOne K (.ref D) cv = some b ∧ Q (.bl b) H
theorem call_isX {X : Cx} {a : Addr} {oe : Obj} {pn : List (Addr × Obj)} {cls : Value} {d : Option Addr} (hz : Zc cls d oe) (hf : ∃ vs, oe.data = .fields vs) : CallR (X.suite a ((a, oe) :: pn)) (.builtin "isinstance") (rIsX X.K a cls d) := by
  intro pins s σ H xs us Q I r h
  obtain ⟨D, dd, fs, c, cv, b, rfl, rfl, C, hdd, rfl, hcv, e, q⟩ := h
  cases r with
  | cons rx rr =>
    cases rr with
    | cons rt rr =>
      cases rr
      cases rx
      have ec := hcv.eq rt
      subst ec
      obtain ⟨hget, _⟩ := I.pin (a, oe) (List.mem_append.mpr (.inl List.mem_cons_self))
      obtain ⟨vs, hv⟩ := hf
      have hx : ObjOk X.prog X.w H s.heap dd (.xd fs) := I.hok dd _ hdd
      obtain ⟨mA, hns, hr⟩ := hx
      obtain ⟨od, ho, hl⟩ := lookIn_ns hns
      have J : PySem.W.InstAt s.heap a oe D (some od) := by
        obtain ⟨oc, od', oda, osl⟩ := oe
        obtain ⟨h1, h2⟩ := hz
        dsimp only at h1 h2 hv
        subst h1 h2 hv
        exact ⟨hget, rfl, rfl, ho⟩
      exact PySem.W.kia_one (kitx_excD C.hg C.hk C.hs C.hd C.ha C.hn C.ht C.hm) I.kIn J e (fun z => nomatch z) fun tk => ⟨.bl b, H, I.kept (t' := tk) fun _ _ z => z, rfl, q⟩
/-- what ExcC asks, as one Bool -/
def xcB (K : PySem.W.Frag) (D : Addr) : Bool := xfB K D && (decide (PySem.W.findIn K (.ref D) "__class__" = some (some (.builtin "object.__class__"))) && (decide (PySem.W.specialIn K (.builtin "object.__class__") "__get__" = some (some (.builtin "getset_descriptor.__get__"))) &&
  (decide (PySem.W.takesIn K (.builtin "object.__class__") = some true) && decide (PySem.W.mroIn K D (.type "object") = some true))))
theorem xcB_ok {K : PySem.W.Frag} {D : Addr} (h : xcB K D = true) : ExcC K D := by
  obtain ⟨h1, h⟩ := Bool.and_eq_true_iff.mp h
  obtain ⟨h2, h⟩ := Bool.and_eq_true_iff.mp h
  obtain ⟨h3, h⟩ := Bool.and_eq_true_iff.mp h
  obtain ⟨h4, h5⟩ := Bool.and_eq_true_iff.mp h
  have x := xfB_ok h1
  exact ⟨x.ga, x.gg, x.exC, x.hdC, of_decide_eq_true h2, of_decide_eq_true h3, of_decide_eq_true h4, of_decide_eq_true h5⟩
/-- what a law asks of an error class: which classes its errors are of, the clause that catches them -/
structure XcA (K : PySem.W.Frag) (D : Addr) : Prop where
  xc : ExcC K D
  me : PySem.W.exmOne K (.ref D) (.ref D) = some true

/-! ### a def as its callers see it -/
/-- the same where an error is handled -/
structure ClH (P : Program) (w : World) (K : PySem.W.Frag) (mg : Str → Option Value) (base : Heap) (k : Nat) (x : Str) (sp : Sp) : Prop where
  ex : ∃ (f : Addr) (fd : FuncData) (ps : List Str), L2H.FnH P w K mg base (L2N.CX P w) k f fd ps sp ∧ mg x = some (.ref f) ∧ PySem.W.keepIn K (.ref f) = true ∧ Binds K fd ps []
/-- as FunD.ok, where an error is handled -/
theorem funD_okH {P : Program} {w : World} {K : PySem.W.Frag} {mg : Str → Option Value} {base : Heap} {x qual : Str} {params : Arguments} {body : List Stmt} {scope : Scope} {dvs : List V} {kws : List (Str × V)} {f : Addr} {fd : FuncData} {CX : CXT} {N ps : List Str} {k : Nat} {sp : Sp} (F : FunD K x qual params body scope dvs kws f fd) (S : FnScope N ps scope) (len : ∀ vs H Q E, sp vs H Q E → vs.length = ps.length)
    (hbody : ∀ (cdv : Value) (A : Around) (outer : List Env) (s : Shared) (H : Hp) (vs : List V) (Q : VK) (E : XK) (p : Addr × Obj), L2H.Hot1 A p → L2H.RoomH k (A.deeper (envOfC qual scope s.heap.objs.size f cdv)) → sp vs H Q E →
      ∃ t, PSs (L2H.cxH CX P w K mg base N qual scope f cdv A outer s H E p) body t ∧ t { nx := fun _ H' => Q .non H', rt := Q } (L2.start N vs) H) : L2H.FnH P w K mg base CX (k + 1) f fd ps sp := by
  obtain ⟨oc, od, dV, kV, doc, pm, an, cdv, ct, osl, rfl, lk, hcd, _, _⟩ := F.ex
  exact L2H.fn_ofH lk hcd S len fun A outer s H vs Q E p hp hr hsp => hbody cdv A outer s H vs Q E p hp hr hsp
structure Cl (P : Program) (w : World) (K : PySem.W.Frag) (mg : Str → Option Value) (base : Heap) (k : Nat) (x : Str) (sp : Sp) (dvs : List V) : Prop where
  ex : ∃ (f : Addr) (fd : FuncData) (ps : List Str) (ds : List Value), FnOk P w K mg base (L2N.CX P w) k f fd ps sp ∧ mg x = some (.ref f) ∧ PySem.W.keepIn K (.ref f) = true ∧ Binds K fd ps ds ∧ Vals dvs ds
/-- a class over ValueError with an __init__ of its own, as it is raised -/
structure Kx (P : Program) (w : World) (K : PySem.W.Frag) (mg : Str → Option Value) (base : Heap) (k : Nat) (x : Str) (C : Addr) (sp : Sp) : Prop where
  T : OexC K C
  ex : ∃ (fI : Addr) (fd : FuncData) (ps : List Str), PySem.W.findIn K (.ref C) "__init__" = some (some (.ref fI)) ∧ PySem.W.typeIn K (.ref fI) = some (.type "function") ∧ FnOk P w K mg base (L2N.CX P w) k fI fd ps sp ∧ Binds K fd ps [] ∧ mg x = some (.ref C)
/-- a plain class, as it is made; a method of it -/
structure Km (P : Program) (w : World) (K : PySem.W.Frag) (mg : Str → Option Value) (base : Heap) (k : Nat) (x : Str) (C : Addr) (sp : Sp) : Prop where
  ex : ∃ (fI : Addr) (fd : FuncData) (ps : List Str), Mk K C fI ∧ FnOk P w K mg base (L2N.CX P w) k fI fd ps sp ∧ Binds K fd ps [] ∧ mg x = some (.ref C)
structure Mt (P : Program) (w : World) (K : PySem.W.Frag) (mg : Str → Option Value) (base : Heap) (k : Nat) (C : Addr) (m : Str) (sp : Sp) : Prop where
  ex : ∃ (f : Addr) (fd : FuncData) (ps : List Str), Cls K C ∧ Meth K C m f ∧ FnOk P w K mg base (L2N.CX P w) k f fd ps sp ∧ Binds K fd ps []
section
variable {X : Cx} {k j : Nat} {C : Addr} {sp : Sp} {dvs : List V} {E : XK} {W : WX} {x m : Str} {p pos apos : Pos} {e o : Expr} {es : List Expr} {ta : TE} {t : TA}
theorem pe_cl (c : Cl X.prog X.w X.K X.mg X.base k x sp dvs) (hr : Room j X.A) (hk : k ≤ j) (hg : Gl X x) (hx : Passes (L2N.CX X.prog X.w) X E) (ha : PA X (e :: es) t)
    (hdb : (x == ("__debug__" : Str)) = false := by decide) (he : starEach (e :: es) X.env = (false, eval e X.env) :: starEach es X.env := by rfl) (hpl : (backTo pos (starEach es X.env)).any (·.1) = false := by rfl) :
    PE X (.Call (.Name x p) (e :: es) [] pos) (tCall sp dvs E t) := by
  obtain ⟨f, fd, ps, ds, F, hm, kp, b, d⟩ := c.ex
  exact pe_call F (hr.mono hk) hg hm kp b d hx ha hdb he hpl
theorem pe_clS (c : Cl X.prog X.w X.K X.mg X.base k x sp dvs) (hr : Room j X.A) (hk : k ≤ j) (hg : Gl X x) (hx : ∀ σ, PassesAt (L2N.CX X.prog X.w) X σ (WE W σ)) (ha : PA X (e :: es) t)
    (hdb : (x == ("__debug__" : Str)) = false := by decide) (he : starEach (e :: es) X.env = (false, eval e X.env) :: starEach es X.env := by rfl) (hpl : (backTo pos (starEach es X.env)).any (·.1) = false := by rfl) :
    PE X (.Call (.Name x p) (e :: es) [] pos) (tCallSD sp dvs (WE W) t) := by
  obtain ⟨f, fd, ps, ds, F, hm, kp, b, d⟩ := c.ex
  exact pe_callSD F (hr.mono hk) hg hm kp b d hx ha hdb he hpl
theorem hot_of {X : Cx} {a : Addr} {oe : Obj} {pn : List (Addr × Obj)} {cls : Value} {d : Option Addr} (hz : L2N.Zn cls d oe) (hf : ∃ vs, oe.data = .fields vs) : L2H.HotC (X.suite a ((a, oe) :: pn)) := by
  obtain ⟨vs, hv⟩ := hf
  exact ⟨(a, oe), ⟨rfl, vs, hv, hz.2.2 vs hv⟩, List.mem_cons_self⟩
theorem roomH_suite {X : Cx} {a : Addr} {pn : List (Addr × Obj)} (hr : Room j X.A) : L2H.RoomH j (X.suite a pn).A := ⟨hr.dp, hr.un⟩
theorem passH {X : Cx} (σ : L2.St) : PassesAt (L2N.CX X.prog X.w) X σ E0 := fun _ _ _ _ _ _ h => by
  obtain ⟨_, _, _, _, _, _, _, _, _, _, _, _, z⟩ := h
  exact z.elim
theorem pe_clH (c : ClH X.prog X.w X.K X.mg X.base k x sp) (hr : L2H.RoomH j X.A) (hc : L2H.HotC X) (hk : k ≤ j) (hg : Gl X x) (ha : PA X (e :: es) t)
    (hdb : (x == ("__debug__" : Str)) = false := by decide) (he : starEach (e :: es) X.env = (false, eval e X.env) :: starEach es X.env := by rfl) (hpl : (backTo pos (starEach es X.env)).any (·.1) = false := by rfl) :
    PE X (.Call (.Name x p) (e :: es) [] pos) (tCallS sp (fun _ => E0) t) := by
  obtain ⟨f, fd, ps, F, hm, kp, b⟩ := c.ex
  exact L2H.pe_callH F (hr.mono hk) hc hg hm kp b (fun σ => passH σ) ha hdb he hpl
theorem pmk_cl (c : Kx X.prog X.w X.K X.mg X.base k x C sp) (hr : Room j X.A) (hk : k + 1 ≤ j) (hg : Gl X x) (ha : PA X (e :: es) t)
    (hdb : (x == ("__debug__" : Str)) = false := by decide) (he : starEach (e :: es) X.env = (false, eval e X.env) :: starEach es X.env := by rfl) (hpl : (backTo pos (starEach es X.env)).any (·.1) = false := by rfl) :
    L2N.PMk X (.Call (.Name x p) (e :: es) [] pos) (tMkO C sp [] t) := by
  obtain ⟨fI, fd, ps, h1, h2, F, b, hm⟩ := c.ex
  exact pmk_oexN c.T h1 h2 F (hr.mono hk) b .nil passN hg hm ha hdb he hpl
theorem pe_mk2 (c : Km X.prog X.w X.K X.mg X.base k x C sp) (hr : Room j X.A) (hk : k + 1 ≤ j) (hg : Gl X x) (hx : Passes (L2N.CX X.prog X.w) X E) (ha : PA X (e :: es) t)
    (hdb : (x == ("__debug__" : Str)) = false := by decide) (he : starEach (e :: es) X.env = (false, eval e X.env) :: starEach es X.env := by rfl) (hpl : (backTo pos (starEach es X.env)).any (·.1) = false := by rfl) :
    PE X (.Call (.Name x p) (e :: es) [] pos) (tMake C sp [] E t) := by
  obtain ⟨fI, fd, ps, M, F, b, hm⟩ := c.ex
  exact pe_make M F (hr.mono hk) hg hm b .nil hx ha hdb he hpl
end
/-! ### calls with keywords -/
structure ClK (P : Program) (w : World) (K : PySem.W.Frag) (mg : Str → Option Value) (base : Heap) (k : Nat) (x : Str) (sp : Sp) (n : Nat) (ks : List Str) (gV : List V → List V → List V) : Prop where
  ex : ∃ (f : Addr) (fd : FuncData) (ps : List Str) (g : List Value → List Value → List Value), FnOk P w K mg base (L2N.CX P w) k f fd ps sp ∧ mg x = some (.ref f) ∧ PySem.W.keepIn K (.ref f) = true ∧ KBn K fd ps n ks g gV
section
variable {X : Cx} {k j n m : Nat} {sp : Sp} {ks : List Str} {gV : List V → List V → List V} {E : XK} {x : Str} {p pos : Pos} {e : Expr} {es : List Expr} {kws : List Keyword} {t tk : TA}
theorem pe_clK (c : ClK X.prog X.w X.K X.mg X.base k x sp n ks gV) (hr : Room j X.A) (hk : k ≤ j) (hg : Gl X x) (hx : Passes (L2N.CX X.prog X.w) X E) (ha : PA X (e :: es) t) (hkw : PK X kws tk)
    (hall : (backToKw pos (keywordEach kws X.env)).all (·.1.isSome) = true := by rfl) (hks : (backToKw pos (keywordEach kws X.env)).filterMap (·.1) = ks := by rfl)
    (hdb : (x == ("__debug__" : Str)) = false := by decide) (he : starEach (e :: es) X.env = (false, eval e X.env) :: starEach es X.env := by rfl)
    (hpl : ((backTo pos (starEach (e :: es) X.env)).any (·.1) || (backToKw pos (keywordEach kws X.env)).any (·.1.isNone)) = false := by rfl)
    (hlen : ks.length = m := by rfl) : PE X (.Call (.Name x p) (e :: es) kws pos) (tCallN n m sp gV E t tk) := by
  subst hlen
  obtain ⟨f, fd, ps, g, F, hm, kp, b⟩ := c.ex
  exact pe_callN F (hr.mono hk) hg hm kp b hx ha hkw hall hks hdb he hpl
theorem pe_clK0 (c : ClK X.prog X.w X.K X.mg X.base k x sp 0 ks gV) (hr : Room j X.A) (hk : k ≤ j) (hg : Gl X x) (hx : Passes (L2N.CX X.prog X.w) X E) (hkw : PK X kws tk)
    (hall : (backToKw pos (keywordEach kws X.env)).all (·.1.isSome) = true := by rfl) (hks : (backToKw pos (keywordEach kws X.env)).filterMap (·.1) = ks := by rfl)
    (hdb : (x == ("__debug__" : Str)) = false := by decide)
    (hpl : ((backTo pos (starEach [] X.env)).any (·.1) || (backToKw pos (keywordEach kws X.env)).any (·.1.isNone)) = false := by rfl)
    (hlen : ks.length = m := by rfl) : PE X (.Call (.Name x p) [] kws pos) (tCallN 0 m sp gV E tNil tk) := by
  subst hlen
  obtain ⟨f, fd, ps, g, F, hm, kp, b⟩ := c.ex
  refine ⟨fun pins s σ H Q I h => ?_⟩
  refine wpAny_Call_Name_kw (ld_glob I hg hm ?_ hdb)
  refine PySem.W.callWith_KW0 (h₀ := X.base) I.ok.mod.kin kp hall (thn (hkw.run pos pins s σ H _ I h) fun ws s2 ⟨zs, H2, I2, rz, l1, l2, q2⟩ => ⟨I2.kIn, ?_⟩) hpl
  rw [hks]
  exact run_fnN (us := []) F (hr.mono hk) b hx I2 .nil rz l1 l2 q2
end
def srcOf {α : Type} (us its ws : List α) : Nat → List α
  | 0 => us
  | 1 => its
  | _ + 2 => ws
/-- the parameters' values: from the positional ones (0), the defaults (1), the keywords' (2) -/
def pick {α : Type} (idx : List (Nat × Nat)) (us its ws : List α) : List α := idx.filterMap fun p => (srcOf us its ws p.1)[p.2]?
theorem src_rel {vs ds zs : List V} {us its ws : List Value} (r1 : Vals vs us) (r2 : Vals ds its) (r3 : Vals zs ws) : ∀ s, Vals (srcOf vs ds zs s) (srcOf us its ws s)
  | 0 => r1
  | 1 => r2
  | _ + 2 => r3
theorem pick_rel {vs ds zs : List V} {us its ws : List Value} (r1 : Vals vs us) (r2 : Vals ds its) (r3 : Vals zs ws) : ∀ idx : List (Nat × Nat), Vals (pick idx vs ds zs) (pick idx us its ws)
  | [] => .nil
  | (s, i) :: r => by
    have ih := pick_rel r1 r2 r3 r
    have rr := src_rel r1 r2 r3 s
    unfold pick at ih ⊢
    rw [List.filterMap_cons, List.filterMap_cons]
    cases e : (srcOf vs ds zs s)[i]? with
    | some v =>
      obtain ⟨u, h1, h2⟩ := Vals.get rr e
      rw [h1]
      exact .cons h2 ih
    | none =>
      rw [Vals.none_of rr e]
      exact ih
/-- n positional values and keywords ks for a def with defaults dvs -/
theorem funD_kb1 {K : PySem.W.Frag} {x qual : Str} {params : Arguments} {body : List Stmt} {scope : Scope} {dvs : List V} {f : Addr} {fd : FuncData} {ps : List Str} (F : FunD K x qual params body scope dvs [] f fd) (n : Nat) (ks : List Str) (g : {α : Type} → List α → List α → List α → List α) (hd : dvs ≠ [])
    (hrel : ∀ {vs ds zs : List V} {us its ws : List Value}, Vals vs us → Vals ds its → Vals zs ws → Vals (g vs ds zs) (g us its ws))
    (h : ∀ (T : Addr) (kV doc pm : Value) (an : Option Addr) (cdv ct : Value) (us its ws : List Value), us.length = n → its.length = dvs.length → ws.length = ks.length →
      ∃ k, bindArgs (PySem.W.fnOf x qual params body scope (.ref T) kV doc pm an cdv ct) ⟨us, ks.zip ws⟩ = seqItems? (.ref T) >>= k ∧ k (some its.toArray) = pure (ps.zip (g us its ws))) :
    ∃ its : List Value, KBn K fd ps n ks (fun us ws => g us its ws) (fun vs zs => g vs dvs zs) := by
  obtain ⟨oc, od, dV, kV, doc, pm, an, cdv, ct, osl, rfl, lk, hcd, hD, hK⟩ := F.ex
  rcases hD with ⟨e, _⟩ | ⟨_, T, o, its, m, rfl, lT, oT, rT⟩
  · exact absurd e hd
  · refine ⟨its, ⟨fun s us ws X l1 l2 => ?_, fun r1 r2 => hrel r1 rT r2⟩⟩
    obtain ⟨k, e1, e2⟩ := h T kV doc pm an cdv ct us its ws l1 rT.length.symm l2
    refine BindsTo.of_looks fun M => ?_
    rw [e1]
    exact looks_items X lT oT (.of_pure e2)
/-- the same of a def without defaults -/
theorem funD_kb0 {K : PySem.W.Frag} {x qual : Str} {params : Arguments} {body : List Stmt} {scope : Scope} {f : Addr} {fd : FuncData} {ps : List Str} (F : FunD K x qual params body scope [] [] f fd) (n : Nat) (ks : List Str) (g : {α : Type} → List α → List α → List α)
    (hrel : ∀ {vs zs : List V} {us ws : List Value}, Vals vs us → Vals zs ws → Vals (g vs zs) (g us ws))
    (h : ∀ (kV doc pm : Value) (an : Option Addr) (cdv ct : Value) (us ws : List Value), us.length = n → ws.length = ks.length → bindArgs (PySem.W.fnOf x qual params body scope .none kV doc pm an cdv ct) ⟨us, ks.zip ws⟩ = pure (ps.zip (g us ws))) :
    KBn K fd ps n ks (fun us ws => g us ws) (fun vs zs => g vs zs) := by
  obtain ⟨oc, od, dV, kV, doc, pm, an, cdv, ct, osl, rfl, lk, hcd, hD, hK⟩ := F.ex
  rcases hD with ⟨_, rfl⟩ | ⟨e, _⟩
  · exact ⟨fun s us ws X l1 l2 => .of_eq (h kV doc pm an cdv ct us ws l1 l2), fun r1 r2 => hrel r1 r2⟩
  · exact absurd rfl e
/-! ### the end of a def's row -/
theorem cl_of {P : Program} {w : World} {K : PySem.W.Frag} {mg : Str → Option Value} {base : Heap} {k : Nat} {x : Str} {f : Addr} {fd : FuncData} {ps : List Str} {sp : Sp}
    (G : FnOk P w K mg base (L2N.CX P w) k f fd ps sp) (g : mg x = some (.ref f)) (kp : PySem.W.keepIn K (.ref f) = true) (b : Binds K fd ps []) : Cl P w K mg base k x sp [] := ⟨_, _, _, _, G, g, kp, b, .nil⟩
/-- what the written part says of such a class, as one Bool -/
def clsB (K : PySem.W.Frag) (C : Addr) : Bool := match K.lookup C with
  | some ⟨.type "type", _, .cls cd, sl⟩ => (match cd.mro, sl.toList with
    | .ref C' :: bm, [_, _, _, _, some (.builtin n), _] => C' == C && (n == "ValueError.__new__" && (!cd.hasDel && (cd.hasDict && PySem.HandSPX.refsVE bm)))
    | _, _ => false)
  | _ => false
theorem clsB_ok {K : PySem.W.Frag} {C : Addr} (h : clsB K C = true) : ∃ nm q N bs bm sn sub ab col dd k0 k1 k2 k3 k5, K.lookup C = some (excClassObj nm q C N bs bm true sn sub ab col dd k0 k1 k2 k3 k5 "ValueError.__new__") ∧ PySem.HandSPX.refsVE bm = true := by
  unfold clsB at h
  split at h
  · rename_i dd cd sl e
    split at h
    · rename_i C' bm a b c d n f e1 e2
      obtain ⟨nm, bs, mro, ns, qn, hd, sn, sb, ab, col, del⟩ := cd
      obtain ⟨h1, h⟩ := Bool.and_eq_true_iff.mp h
      obtain ⟨h2, h⟩ := Bool.and_eq_true_iff.mp h
      obtain ⟨h3, h⟩ := Bool.and_eq_true_iff.mp h
      obtain ⟨h4, h5⟩ := Bool.and_eq_true_iff.mp h
      have e3 : C' = C := eq_of_beq h1
      have e4 : n = "ValueError.__new__" := eq_of_beq h2
      have e5 : del = false := by
        cases del with
        | false => rfl
        | true => cases h3
      have e6 : hd = true := h4
      have e7 : mro = .ref C' :: bm := e1
      have e8 : sl = #[a, b, c, d, some (.builtin n), f] := by
        have := congrArg List.toArray e2
        simpa using this
      subst e3 e4 e5 e6 e7 e8
      exact ⟨nm, qn, ns, bs, bm, sn, sb, ab, col, dd, a, b, c, d, f, e, h5⟩
    · cases h
  · cases h
def oexB (K : PySem.W.Frag) (C : Addr) : Bool := clsB K C && (decide (PySem.W.findIn K (.ref C) "__setattr__" = some (some (.builtin "object.__setattr__"))) && (decide (PySem.W.subIn K (.ref C) (.type "BaseException") = some true) &&
  (decide (PySem.W.typeIn K (.ref C) = some (.type "type")) && PySem.W.keepIn K (.ref C))))
theorem oexB_ok {K : PySem.W.Frag} {C : Addr} (h : oexB K C = true) : OexC K C := by
  obtain ⟨h1, h⟩ := Bool.and_eq_true_iff.mp h
  obtain ⟨h2, h⟩ := Bool.and_eq_true_iff.mp h
  obtain ⟨h3, h⟩ := Bool.and_eq_true_iff.mp h
  obtain ⟨h4, h5⟩ := Bool.and_eq_true_iff.mp h
  exact ⟨clsB_ok h1, of_decide_eq_true h2, of_decide_eq_true h3, of_decide_eq_true h4, h5⟩
/-- __init__ of such a class is the def at ma -/
def inoB (K : PySem.W.Frag) (C : Addr) : Bool := decide (PySem.W.findIn K (.ref C) "__init__" = some (some (.ref (He.ma K C "__init__")))) && decide (PySem.W.typeIn K (.ref (He.ma K C "__init__")) = some (.type "function"))
theorem inoB_ok {K : PySem.W.Frag} {C : Addr} (h : inoB K C = true) : PySem.W.findIn K (.ref C) "__init__" = some (some (.ref (He.ma K C "__init__"))) ∧ PySem.W.typeIn K (.ref (He.ma K C "__init__")) = some (.type "function") := by
  obtain ⟨h1, h2⟩ := Bool.and_eq_true_iff.mp h
  exact ⟨of_decide_eq_true h1, of_decide_eq_true h2⟩
def noB (K : PySem.W.Frag) (C : Addr) (f : Str) : Bool := decide (PySem.W.findIn K (.ref C) f = some none)
theorem noB_ok {K : PySem.W.Frag} {C : Addr} {f : Str} (h : noB K C f = true) : PySem.W.findIn K (.ref C) f = some none := of_decide_eq_true h
end Md

set_option Elab.async false
set_option linter.all false
set_option maxRecDepth 100000
set_option maxHeartbeats 4000000
/-! plain classes: methods called, instances made in a try, len by an own __len__, constants read off a class -/
namespace Md
open PySem PySem.Spec PyProof.Rows PySem.Calls L2
section
variable {X : Cx} {k j : Nat} {C : Addr} {sp : Sp} {E : XK} {W : WX} {x m : Str} {p pos apos : Pos} {e o : Expr} {es : List Expr} {ta : TE} {t : TA}
theorem pe_gc {v : V} (hg : Gl X x) (h : ∃ u, X.mg x = some u ∧ RelV v u) (hd : (x == ("__debug__" : Str)) = false := by decide) : PE X (.Name x pos) (tC v) := C8.pe_gc hg h hd
theorem pe_cl0 {dvs : List V} (c : Cl X.prog X.w X.K X.mg X.base k x sp dvs) (hr : Room j X.A) (hk : k ≤ j) (hg : Gl X x) (hx : Passes (L2N.CX X.prog X.w) X E) (hdb : (x == ("__debug__" : Str)) = false := by decide) :
    PE X (.Call (.Name x p) [] [] pos) (tCall sp dvs E tNil) := by
  obtain ⟨f, fd, ps, ds, F, hm, kp, b, d⟩ := c.ex
  exact pe_call0 F (hr.mono hk) hg hm kp b d hx hdb
theorem pe_mt2 {pl : Sem Bool} (c : Mt X.prog X.w X.K X.mg X.base k C m sp) (hr : Room j X.A) (hk : k ≤ j) (hx : Passes (L2N.CX X.prog X.w) X E) (he : PE X o ta) (ha : PA X (e :: es) t)
    (hst : starEach (e :: es) X.env = (false, eval e X.env) :: starEach es X.env := by rfl) (hpl : (backTo pos (starEach es X.env)).any (·.1) = false := by rfl)
    (ht : eval (.Call (.Attribute o m apos) (e :: es) [] pos) X.env = (do
      let ov ← eval o X.env
      standAt apos.atName
      let (f, first) ← holding [ov] (getMethod ov m pl)
      callWith pos f first (backTo pos (starEach (e :: es) X.env)) (backToKw pos (keywordEach [] X.env))) := by rfl) :
    PE X (.Call (.Attribute o m apos) (e :: es) [] pos) (tMeth C m sp [] E ta t) := by
  obtain ⟨f, fd, ps, c1, hm, F, b⟩ := c.ex
  exact pe_meth he c1 hm F (hr.mono hk) b .nil hx ha hst hpl ht
theorem pe_mt20 {pl : Sem Bool} (c : Mt X.prog X.w X.K X.mg X.base k C m sp) (hr : Room j X.A) (hk : k ≤ j) (hx : Passes (L2N.CX X.prog X.w) X E) (he : PE X o ta)
    (ht : eval (.Call (.Attribute o m apos) [] [] pos) X.env = (do
      let ov ← eval o X.env
      standAt apos.atName
      let (f, first) ← holding [ov] (getMethod ov m pl)
      callWith pos f first (backTo pos (starEach [] X.env)) (backToKw pos (keywordEach [] X.env))) := by rfl) :
    PE X (.Call (.Attribute o m apos) [] [] pos) (tMeth C m sp [] E ta tNil) := by
  obtain ⟨f, fd, ps, c1, hm, F, b⟩ := c.ex
  exact pe_meth0 he c1 hm F (hr.mono hk) b .nil hx ht
/-- C(..) in a try: what __init__ raises, the try takes -/
def tMakeS (C : Addr) (sp : Sp) (E : L2.St → XK) (t : TA) : TE := fun σ H Q => t σ H fun vs H1 => ∀ x dx, H1 x = none → H1 dx = none → dx ≠ x →
  sp (.ref x :: (vs ++ [])) (upd (upd H1 dx (.own x)) x (.ins C dx [])) (fun v H2 => v = .non ∧ Q (.ref x) H2) (E σ)
theorem run_makeS {pins : List (Addr × Obj)} {σ : L2.St} {H : Hp} {s : Shared} {Q : VK} {us : List Value} {vs : List V} {f : Addr} {fd : FuncData} {ps : List Str} (M : Mk X.K C f) (F : FnOk X.prog X.w X.K X.mg X.base (L2N.CX X.prog X.w) k f fd ps sp) (hr : Room (k + 1) X.A)
    (hb : Binds X.K fd ps []) (hx : PassesAt (L2N.CX X.prog X.w) X σ E) (I : Inv X pins σ H s) (r : Vals vs us)
    (h : ∀ x dx, H x = none → H dx = none → dx ≠ x → sp (.ref x :: (vs ++ [])) (upd (upd H dx (.own x)) x (.ins C dx [])) (fun v H2 => v = .non ∧ Q (.ref x) H2) E) :
    wpAny (model X.prog X.w) X.A (call (.ref C) us) (EP X pins σ Q) X.xe s := by
  have hq := h (s.heap.objs.size + 1) s.heap.objs.size (I.hok.fresh (Nat.le_succ _)) (I.hok.fresh (Nat.le_refl _)) (Nat.ne_of_lt (Nat.lt_succ_self _))
  have I2 := Inv.made (C := C) I
  have r2 : Vals (V.ref (s.heap.objs.size + 1) :: (vs ++ [])) (Value.ref (s.heap.objs.size + 1) :: (us ++ [])) := .cons rfl (r.append .nil)
  have hl : (Value.ref (s.heap.objs.size + 1) :: us ++ []).length = ps.length := by
    have e := r2.length
    rw [F.len _ _ _ _ hq] at e
    exact e.symm
  refine wpAny_call (make_map (f := f) I.kIn M.makes M.init (beq_iff_eq.mp M.fn) (codeAny_mono (F.run _ X.stack _ _ ⟨Value.ref (s.heap.objs.size + 1) :: us, []⟩ (Value.ref (s.heap.objs.size + 1) :: (us ++ [])) _ _ E (hr.make C us [])
    (I2.env0.make C us []) (by
      have z := hb _ (Value.ref (s.heap.objs.size + 1) :: us) I2.kIn hl
      rw [List.cons_append] at z
      exact z) r2 hq) fun r s' hq' => ?_))
  cases r with
  | error e => exact hx pins _ _ e s' I2 hq'
  | ok fl =>
    cases fl with
    | ret u =>
      obtain ⟨v, H', I3, rv, ev, q3⟩ := I2.after hq'
      subst ev
      exact ⟨rv, ⟨V.ref (s.heap.objs.size + 1), H', I3, rfl, q3⟩⟩
    | next => exact False.elim hq'
    | brk => exact False.elim hq'
    | cont => exact False.elim hq'
theorem pe_mkS (c : Km X.prog X.w X.K X.mg X.base k x C sp) (hr : Room j X.A) (hk : k + 1 ≤ j) (hg : Gl X x) (hx : ∀ σ, PassesAt (L2N.CX X.prog X.w) X σ (WE W σ)) (ha : PA X (e :: es) t)
    (hdb : (x == ("__debug__" : Str)) = false := by decide) (he : starEach (e :: es) X.env = (false, eval e X.env) :: starEach es X.env := by rfl) (hpl : (backTo pos (starEach es X.env)).any (·.1) = false := by rfl) :
    PE X (.Call (.Name x p) (e :: es) [] pos) (tMakeS C sp (WE W) t) := by
  obtain ⟨fI, fd, ps, M, F, b, hm⟩ := c.ex
  refine ⟨fun pins s σ H Q I h => ?_⟩
  refine wpAny_Call_Name_kw (ld_glob I hg hm ?_ hdb)
  refine PySem.W.callWith_K (h₀ := X.base) I.ok.mod.kin M.kp (thn (ha.run pos pins s σ H _ I h) fun us s1 ⟨vs, H1, I1, r, q⟩ => ⟨I1.kIn, ?_⟩) he hpl
  exact run_makeS M F (hr.mono hk) b (hx σ) I1 r q
/-- len(o) by the class's own __len__ -/
def rLenO (C : Addr) (sp : Sp) (E : XK) : List V → Hp → VK → Prop := fun xs H Q => ∃ a dx fs, xs = [.ref a] ∧ H a = some (.ins C dx fs) ∧ sp [.ref a] H (fun v H1 => ∃ n : Int, v = .int n ∧ 0 ≤ n ∧ n < 2 ^ 63 ∧ Q (.int n) H1) E
theorem call_lenO (c : Mt X.prog X.w X.K X.mg X.base k C "__len__" sp) (hr : Room j X.A) (hk : k + 1 ≤ j) (hx : Passes (L2N.CX X.prog X.w) X E) : CallR X (.builtin "len") (rLenO C sp E) := by
  intro pins s σ H xs us Q I r h
  obtain ⟨a, dx, fs, rfl, ha, q⟩ := h
  obtain ⟨u, rfl, rx⟩ := vals1 r
  obtain rfl : u = .ref a := rx
  obtain ⟨f, fd, ps, c1, hm, F, b⟩ := c.ex
  obtain ⟨mA, O, _, _, _, _⟩ := ins_get I.hok ha
  obtain ⟨od, J, _⟩ := O.look
  obtain ⟨m, Fr⟩ := I.fr
  refine PySem.W.len_K Fr I.ok.mod.kin J hm.at_ hm.fn ?_
  have hl : ([Value.ref a] ++ []).length = ps.length := by
    have e := F.len _ _ _ _ q
    rw [← e]
    rfl
  refine wpAny_call (codeAny_mono (F.run X.A.in1 X.stack s H ⟨[.ref a], []⟩ [.ref a] [.ref a] _ E (hr.mono hk).in1 I.env0.in1 (b s [.ref a] I.kIn hl) (.cons rfl .nil) q) fun r s' hq => ?_)
  cases r with
  | error e => exact hx pins σ H s e s' I hq
  | ok fl =>
    cases fl with
    | ret u =>
      obtain ⟨v, H', I3, rv, n, rfl, h0, h1, q3⟩ := I.after hq
      obtain ⟨t, rfl⟩ := (show ∃ t, u = Value.int n t from rv)
      exact ⟨⟨h0, h1⟩, ⟨.int n, H', I3.tok _, ⟨_, rfl⟩, q3⟩⟩
    | next => exact False.elim hq
    | brk => exact False.elim hq
    | cont => exact False.elim hq
/-- C.f, a constant of the class -/
structure CCon (K : PySem.W.Frag) (C : Addr) (f : Str) (v : V) : Prop where
  ex : ∃ mc u, ClX.CRead K C mc ∧ ClX.CVal K C mc f v u
theorem pe_ccon {f : Str} {v : V} (h : CCon X.K C f v) (he : PE X e (tC (.ref C))) (hb : attributeBase e f X.env (eval e X.env) = eval e X.env := by rfl) : PE X (.Attribute e f pos) (tC v) := by
  obtain ⟨mc, u, h1, h2⟩ := h.ex
  exact ⟨fun pins s σ H Q I q => (ClX.pe_cval he hb).run pins s σ H Q I ⟨C, mc, v, u, rfl, h1, h2, q⟩⟩
end
def cconB (K : PySem.W.Frag) (C : Addr) (f : Str) (v : V) : Bool := match K.lookup C with
  | some o => PySem.W.readsIn K C o.cls && (He.eqO (PySem.W.specialIn K (.ref C) "__getattribute__") (some (some (.builtin "type.__getattribute__"))) && match PySem.W.findCls K (.ref C) o.cls f with
    | some (.val u) => He.relB v u
    | _ => false)
  | none => false
theorem cconB_ok {K : PySem.W.Frag} {C : Addr} {f : Str} {v : V} (h : cconB K C f v = true) : CCon K C f v := by
  unfold cconB at h
  split at h
  · rename_i o _
    obtain ⟨h1, h⟩ := Bool.and_eq_true_iff.mp h
    obtain ⟨h2, h⟩ := Bool.and_eq_true_iff.mp h
    split at h
    · rename_i u hu
      exact ⟨_, u, ⟨h1, He.eqO_ok h2⟩, ⟨hu, He.relB_ok h⟩⟩
    · cases h
  · cases h
end Md

set_option Elab.async false
set_option linter.all false
set_option maxRecDepth 100000
set_option maxHeartbeats 4000000
/-! texts: z[::-1]; readings by name -/
namespace Md
open PySem PySem.Spec PyProof.Rows PySem.Calls L2
def revS (z : Str) : Str := ⟨z.cps.toList.reverse.toArray⟩
theorem revS_picked (z : Str) : (Builtin.Str.strSliceIndices none none (-1) z.length).filterMap (z.cps[·]?) = z.cps.toList.reverse := by
  rw [PyProof.Rows.picked_rev, PyProof.Rows.filterMap_get, List.map_map]
  · refine List.ext_getElem (by simp [Str.length]) fun i h1 h2 => ?_
    simp only [List.getElem_map, List.getElem_range, Function.comp, List.getElem_reverse, Array.getElem_toList, Array.length_toList]
    have h3 : i < z.cps.size := by simpa using h2
    have e : z.length - 1 - i = z.cps.size - 1 - i := rfl
    rw [e, Array.getD, dif_pos (by omega)]
    rfl
  · intro i hi
    obtain ⟨k, hk, rfl⟩ := List.mem_map.mp hi
    have hk' : k < z.length := List.mem_range.mp hk
    show z.length - 1 - k < z.length
    omega
def tRevS (te : TE) : TE := fun σ H Q => te σ H fun x H1 => ∃ z, x = .str z ∧ z.length ≤ sizeLine ∧ Q (.str (revS z)) H1
section
variable {X : Cx}
theorem pe_revS {e : Expr} {te : TE} {k : Nat} {p1 p2 p3 pos : Pos} (he : PE X e te) : PE X (.Subscript e (.Slice none none (some (.UnaryOp .USub (.Constant (.int 1) k p1) p2)) p3) pos) (tRevS te) := by
  refine ⟨fun pins s σ H Q I h => ?_⟩
  refine Subscript_ (thn (he.run pins s σ H _ I h) fun v s1 ⟨x, H1, I1, r1, q1⟩ => ?_)
  obtain ⟨z, ex, hz, q⟩ := q1
  subst ex
  obtain ⟨t, rfl⟩ := r1
  have hst : PO X (some (.UnaryOp .USub (.Constant (.int 1) k p1) p2)) (tPart (tUn (rU fun i => .int (-i)) (tC (.int 1)))) := po_some (pe_un un_neg pe_int)
  refine wpAny_Slice (thn (po_none.run pins s1 σ H1 (fun o H2 => o = none ∧ H2 = H1) I1 ⟨rfl, rfl⟩) fun vl s2 ⟨l, H2, I2, pl, el, e2⟩ => ?_)
  subst el e2
  refine thn (po_none.run pins s2 σ H2 (fun o H3 => o = none ∧ H3 = H2) I2 ⟨rfl, rfl⟩) fun vu s3 ⟨u, H3, I3, pu, eu, e3⟩ => ?_
  subst eu e3
  refine thn (hst.run pins s3 σ H3 (fun o H4 => o = some (-1) ∧ H4 = H3) I3 ⟨1, rfl, -1, rfl, rfl, rfl⟩) fun vs s4 ⟨o, H4, I4, ps, eo, e4⟩ => ?_
  subst eo e4
  have I5 : Inv X pins σ H4 { s4 with heap := s4.heap.push { cls := .type "slice", data := .fields #[vl, vu, vs] } } := I4.kept (t' := s4.toks) fun b ob q => Heap.get?_push_of_some _ q
  obtain ⟨l, rfl, el⟩ := IsPart.raw pl
  obtain ⟨u, rfl, eu⟩ := IsPart.raw pu
  obtain ⟨w, rfl, ew⟩ := IsPart.raw ps
  obtain rfl : l = none := by cases l <;> first | rfl | cases el
  obtain rfl : u = none := by cases u <;> first | rfl | cases eu
  obtain ⟨wt, rfl⟩ : ∃ wt, w = some (-1, wt) := by
    cases w with
    | none => cases ew
    | some p =>
      obtain ⟨i, wt⟩ := p
      cases ew
      exact ⟨wt, rfl⟩
  refine tail_any (ops := [.str z t, .ref s4.heap.objs.size]) (typeIs_str _ _ _) (PySem.F.slot_str_getitem.lookup) ?_ (by with_unfolding_all rfl)
  refine wpAny_getItem_str_slice (l := none) (u := none) (st := some (-1, wt)) (Heap.IsSliceOf.new _ _ _ _) rfl ?_
  show Made.post (if ((-1 : Int) == 1 && (Builtin.Str.strSliceIndices none none (-1) z.length).length == z.length) = true then Made.val (.str z t)
    else Made.str ⟨((Builtin.Str.strSliceIndices none none (-1) z.length).filterMap (z.cps[·]?)).toArray⟩) (EP X pins σ Q) _
  rw [if_neg (by simp), revS_picked]
  refine ⟨?_, .str _, H4, I5.tok _, ⟨_, rfl⟩, q⟩
  show z.cps.toList.reverse.toArray.size ≤ sizeLine
  rw [List.size_toArray, List.length_reverse, Array.length_toList]
  exact hz
def rTIdx (K : PySem.W.Frag) : V → List V → Hp → VK → Prop := fun x xs H Q => ∃ p, ∃ ys : List Str, ∃ z j, x = .ref p ∧ xs = [.str z] ∧ SqT K H p (ys.map V.str) ∧ ys[j]? = some z ∧ (∀ m, m < j → ys[m]? ≠ some z) ∧ Q (.int (j : Nat)) H
theorem mt_tidx : MtR X "tuple.index" (rTIdx X.K) := mt_tup_index
/-- a tuple made by tuple(x) or displayed: of no dict -/
def TupF (H : Hp) (a : Addr) (ys : List V) : Prop := ∃ o, H a = some (.frz o (.tup ys)) ∧ o.cls = .type "tuple" ∧ o.dict = none
theorem TupF.seq {K : PySem.W.Frag} {H : Hp} {a : Addr} {ys : List V} (h : TupF H a ys) : SqT K H a ys := by
  obtain ⟨o, h, _⟩ := h
  exact .inl (.inr ⟨o, h⟩)
def rTupF (K : PySem.W.Frag) : List V → Hp → VK → Prop := fun xs H Q => ∃ p ys, xs = [.ref p] ∧ SqL K H p ys ∧ ∀ l (o : Obj), H l = none → o.cls = .type "tuple" → o.dict = none → Q (.ref l) (upd H l (.frz o (.tup ys)))
theorem call_tupF : CallR X (.type "tuple") (rTupF X.K) := by
  intro pins s σ H xs us Q I r h
  obtain ⟨p, ys, rfl, hq, q⟩ := h
  obtain ⟨u, rfl, rx⟩ := vals1 r
  cases rx
  obtain ⟨its, r', pl, hz⟩ := I.list hq
  have hlen := r'.length
  refine call_tuple_list pl.isList (fun h' kp => ?_) (by simp only [List.size_toArray] <;> omega)
  have I1 : Inv X pins σ H { s with heap := h' } := I.kept (t' := s.toks) kp
  have I2 : Inv X pins σ (upd H h'.objs.size (.frz { cls := .type "tuple", data := .seq its.toArray } (.tup ys))) { s with heap := h'.push { cls := .type "tuple", data := .seq its.toArray } } :=
    I1.laid (t' := s.toks) (fun b o e => Heap.get?_push_of_some _ e) (Nat.le_refl _) (show ObjOk X.prog X.w _ _ _ (.frz _ (.tup ys)) from ⟨Heap.get?_push_size _ rfl, hz, its, r', IsTup.new _ _⟩)
  exact ⟨.ref h'.objs.size, _, I2, rfl, q _ _ (I1.hok.fresh (Nat.le_refl _)) rfl rfl⟩
def tBMF (r : V → List V → Hp → VK → Prop) (to : TE) (t : TA) : TE := fun σ H Q => to σ H fun x H1 => (∃ p ys, x = .ref p ∧ TupF H1 p ys) ∧ t σ H1 fun xs H2 => r x xs H2 Q
theorem pe_bmF {o e : Expr} {es : List Expr} {to : TE} {t : TA} {name : Str} {apos cpos : Pos} {id : String} {r : V → List V → Hp → VK → Prop} (pa : PlainAttrs "tuple") (slot : Slot "tuple" name id) (hty : typeOf (.builtin id) = pure (.type "method_descriptor")) (hm : MtR X id r) (ho : PE X o to) (ha : PA X (e :: es) t)
    (hbase : attributeBase o name X.env (eval o X.env) = eval o X.env := by rfl)
    (hfew : ((backTo cpos (starEach (e :: es) X.env)).all (fun x => !x.1) && (backToKw cpos (keywordEach [] X.env)).all (fun x => x.1.isSome)
      && decide ((e :: es).length + ([] : List Keyword).length + (if ([] : List Keyword).isEmpty then 0 else 1) < 30)) = true := by rfl)
    (hline : (apos.endLine == cpos.line) = true := by rfl) (hs : starEach (e :: es) X.env = (false, eval e X.env) :: starEach es X.env := by rfl) (hplain : (backTo cpos (starEach es X.env)).any (·.1) = false := by rfl) :
    PE X (.Call (.Attribute o name apos) (e :: es) [] cpos) (tBMF r to t) := by
  refine ⟨fun pins s σ H Q I h => ?_⟩
  refine wpAny_Call_method_late hbase hfew hline rfl (thn (ho.run pins s σ H _ I h) fun v s1 ⟨x, H1, I1, r1, ty, q1⟩ => ?_)
  have h12 : s1.TypeIs v "tuple" ∧ ∀ a, v = .ref a → ∃ ob, s1.heap.get? a = some ob ∧ ob.dict = none := by
    obtain ⟨p, ys, rfl, ob, hp, hc, hd⟩ := ty
    cases r1
    have g := (show ObjOk X.prog X.w H1 s1.heap p (.frz ob (.tup ys)) from I1.hok p _ hp).1
    refine ⟨⟨ob, g, hc⟩, fun a e2 => ?_⟩
    cases e2
    exact ⟨ob, g, hd⟩
  refine ⟨"tuple", id, pa, slot, hty, h12.1, h12.2, ?_⟩
  have hA := ha.run cpos pins s1 σ H1 _ I1 q1
  rw [hs] at hA ⊢
  refine Calls.callWith_builtin (by show (false || (backTo cpos (starEach es X.env)).any (·.1)) = false; rw [hplain] <;> rfl) (Calls.evalArgs_plain ?_)
  exact thn hA fun us s2 ⟨vs, H2, I2, r2, q2⟩ => hm pins s2 σ H2 x vs v us Q I2 r1 r2 q2
def rLenD : List V → Hp → VK → Prop := fun xs H Q => ∃ a kvs, xs = [V.ref a] ∧ H a = some (.dK kvs) ∧ Q (.int kvs.length) H
def rJoin (K : PySem.W.Frag) : V → List V → Hp → VK → Prop := fun x xs H Q => ∃ a p, ∃ ys : List Str, x = .str a ∧ xs = [.ref p] ∧ (SqL K H p (ys.map V.str) ∨ SqT K H p (ys.map V.str)) ∧ (ys.map (·.length)).sum + ys.length * a.length ≤ 16777216 ∧ Q (.str (Txt.join a ys)) H
def rSplitS : V → List V → Hp → VK → Prop := fun x xs H Q => ∃ a b, x = .str a ∧ xs = [.str b] ∧ (b.length == 0) = false ∧ a.length + 2 ≤ sizeLine ∧ rNewStrs (Txt.split a b) H Q
def rUpperS : V → List V → Hp → VK → Prop := fun x xs H Q => ∃ a, x = .str a ∧ xs = [] ∧ a.length ≤ 5592405 ∧ Q (.str (Txt.upper a)) H
end
end Md

set_option Elab.async false
set_option linter.all false
set_option maxRecDepth 100000
set_option maxHeartbeats 4000000
namespace Md
open PySem PySem.Spec PyProof.Rows PySem.Calls L2

/-! ### ways of a test -/
theorem iteD {p A B : Prop} [Decidable p] (h1 : p → A) (h2 : ¬ p → B) : if decide p = true then A else B := by
  by_cases h : p
  · rw [if_pos (decide_eq_true h)]; exact h1 h
  · rw [if_neg (by simp [h])]; exact h2 h
theorem iteN {p A B : Prop} [Decidable p] (h1 : p → B) (h2 : ¬ p → A) : if (!decide p) = true then A else B := by
  by_cases h : p
  · rw [if_neg (by simp [h])]; exact h1 h
  · rw [if_pos (by simp [h])]; exact h2 h
theorem iteB {b : Bool} {A B : Prop} (h1 : b = true → A) (h2 : b = false → B) : if b = true then A else B := by
  cases b with
  | true => rw [if_pos rfl]; exact h1 rfl
  | false => rw [if_neg (by decide)]; exact h2 rfl
theorem iteBN {b : Bool} {A B : Prop} (h1 : b = true → B) (h2 : b = false → A) : if (!b) = true then A else B := by
  cases b with
  | true => rw [if_neg (by decide)]; exact h1 rfl
  | false => rw [if_pos (by decide)]; exact h2 rfl
/-! ### heaps: all but the list at b stands -/
def Xb (b : Addr) (H H' : Hp) : Prop := ∀ a o, a ≠ b → H a = some o → H' a = some o
theorem Xb.refl {b : Addr} {H : Hp} : Xb b H H := fun _ _ _ h => h
theorem Xb.trans {b : Addr} {H H1 H2 : Hp} (x : Xb b H H1) (y : Xb b H1 H2) : Xb b H H2 := fun a o n h => y a o n (x a o n h)
theorem Xb.upd {b : Addr} {H H' : Hp} {o : HO} (x : Xb b H H') : Xb b H (upd H' b o) := fun a u n h => by
  rw [upd_ne n]
  exact x a u n h
theorem Xb.of {b : Addr} {H H' : Hp} (x : Same H H') : Xb b H H' := fun a o _ h => x a o h
theorem Same.new {H : Hp} {p : Addr} {o : HO} (h : H p = none) : Same H (L2.upd H p o) := fun a u e => by
  rw [upd_ne (ne_of_none e h)]
  exact e
theorem Xb.tup {b a : Addr} {H H' : Hp} {L xs : List V} (x : Xb b H H') (hb : H b = some (.lst L)) (h : H a = some (.tup xs)) : H' a = some (.tup xs) :=
  x a _ (ne_of h hb (by intro z; cases z)) h
/-- the draws' list: the digits, the seed, the count; n draws are left -/
def Bag (n : Nat) (H : Hp) (b : Addr) : Prop := ∃ L S C : Int, H b = some (.lst [.int L, .int S, .int C]) ∧ 0 ≤ L ∧ 0 ≤ S ∧ S < 16140901064496457664 ∧ 0 ≤ C ∧ C + n ≤ 549755813888
theorem Bag.mono {n m : Nat} {H : Hp} {b : Addr} (h : Bag n H b) (l : m ≤ n) : Bag m H b := by
  obtain ⟨L, S, C, e, h1, h2, h3, h4, h5⟩ := h
  exact ⟨L, S, C, e, h1, h2, h3, h4, by omega⟩
theorem Bag.same {n : Nat} {H H' : Hp} {b : Addr} (h : Bag n H b) (s : Same H H') : Bag n H' b := by
  obtain ⟨L, S, C, e, h⟩ := h
  exact ⟨L, S, C, s _ _ e, h⟩
theorem Bag.at_ {n : Nat} {H : Hp} {b : Addr} (h : Bag n H b) : ∃ L, H b = some (.lst L) := by
  obtain ⟨L, S, C, e, _⟩ := h
  exact ⟨_, e⟩
theorem Xb.tupB {n : Nat} {b a : Addr} {H H' : Hp} {xs : List V} (x : Xb b H H') (hb : Bag n H b) (h : H a = some (.tup xs)) : H' a = some (.tup xs) := by
  obtain ⟨L, e⟩ := hb.at_
  exact x.tup e h
theorem pow_lt {x : Int} {k : Nat} (h : x.natAbs < 2 ^ k) (hk : 0 < k) : x.natAbs.log2 < k := PySem.Flt.log2_lt_of hk h

theorem CMulW.small {i j : Int} (hi : i.natAbs < 2 ^ 64) (h0 : 0 ≤ j) (h1 : j < 2 ^ 64) : CMulW i j := wide_mul (a := 64) (b := 64) hi (by omega) (by decide) (by decide) (by decide)
/-! ### _law_take -/
def t__law_take (K : PySem.W.Frag) (A : Ads) (E : XK) : TS :=
    (tSeq (tIfS (tTest (tOp rGt (tOp (rIx K) (tVar 0) (tC (.int 0))) (tC (.int 0)))) (tSeq (tAsg (tOp rMod (tCB rInt1 (tCons (tOp (rIx K) (tVar 0) (tC (.int 0))) tNil)) (tVar 1)) (gName 3))
    (tSeq (tAsg (tOp rFdvW (tOp (rIx K) (tVar 0) (tC (.int 0))) (tVar 1)) (gSub (tVar 0) (tC (.int 0)) rSetL))
    (tRet (tVar 3)))) tNext)
    (tSeq (tAsg (tOp rAdd (tOp (rIx K) (tVar 0) (tC (.int 2))) (tC (.int 1))) (gSub (tVar 0) (tC (.int 2)) rSetL))
    (tSeq (tAsg (tOp rMod (tCB rInt1 (tCons (tOp rPow (tOp rAdd (tOp (rIx K) (tVar 0) (tC (.int 1))) (tOp rMulW (tC (.int 1000003)) (tOp (rIx K) (tVar 0) (tC (.int 2))))) (tC (.int 3))) tNil)) (tC (.int 2305843009213693921))) (gName 2))
    (tSeq (tAsg (tOp rMod (tCB rInt1 (tCons (tOp rPow (tOp rAdd (tVar 2) (tOp rMulW (tC (.int 15485863)) (tOp (rIx K) (tVar 0) (tC (.int 2))))) (tC (.int 2))) tNil)) (tC (.int 2305843009213693951))) (gName 2))
    (tRet (tOp rMod (tCB rInt1 (tCons (tOp rFdvW (tVar 2) (tC (.int 8192))) tNil)) (tVar 1)))))))
def n__law_take : List Str := ["_law_bag_here", "_law_many", "_law_mixed", "_law_digit"]
def sp__law_take (K : PySem.W.Frag) (A : Ads) : Sp := fun vs H Q _ => ∃ (b : Addr) (many : Int) (n : Nat), vs = [.ref b, .int many] ∧ Bag (n + 1) H b ∧ 0 < many ∧ many.natAbs < 2 ^ 9000 ∧
  ∀ d H', 0 ≤ d → d < many → Xb b H H' → Bag n H' b → Q (.int d) H'
theorem len__law_take {K : PySem.W.Frag} {A : Ads} {vs : List V} {H : Hp} {Q : VK} {E : XK} (h : sp__law_take K A vs H Q E) : vs.length = 2 := by
  obtain ⟨b, many, n, rfl, _⟩ := h
  rfl
local macro_rules | `(tactic| walk_at "v") => `(tactic| refine ⟨_, rfl, ?_⟩)
local macro_rules | `(tactic| walk_at "ii") => `(tactic| refine ⟨_, _, rfl, rfl, ?_⟩)
local macro_rules | `(tactic| walk_at "ixL") => `(tactic| refine Or.inl ⟨_, _, _, _, rfl, rfl, SqL.of (by assumption), rfl, ?_⟩)
set_option maxHeartbeats 400000 in
theorem pure__law_take {K : PySem.W.Frag} {A : Ads} {vs : List V} {H : Hp} {Q : VK} {E : XK} (h : sp__law_take K A vs H Q E) :
    t__law_take K A E { nx := fun _ H' => Q .non H', rt := Q } (start n__law_take vs) H := by
  obtain ⟨b, many, n, rfl, ⟨L, S, C, hb, hL, hS, hS2, hC, hCn⟩, hm, hm2, q⟩ := h
  have em : many.natAbs.log2 < 9000 := pow_lt hm2 (by decide)
  walk_at "v"; walk_at "ixL"; walk_at "ii"; walk_at "v"
  refine iteD (fun h0 => ?_) (fun h0 => ?_)
  · walk_at "v"; walk_at "ixL"; refine Or.inl ⟨_, rfl, ?_⟩; walk_at "v"; refine ⟨_, _, rfl, rfl, hm, ?_⟩
    walk_at "v"; walk_at "ixL"; walk_at "v"; refine ⟨_, _, rfl, rfl, ⟨hm, em⟩, ?_⟩
    walk_at "v"; refine ⟨_, _, _, _, rfl, rfl, hb, rfl, ?_⟩
    walk_at "v"
    refine q _ _ (Int.emod_nonneg _ (by omega)) (Int.emod_lt_of_pos _ hm) (Xb.upd Xb.refl) ⟨_, S, C, upd_same, Int.ediv_nonneg hL (by omega), hS, hS2, hC, by omega⟩
  · walk_at "v"; walk_at "ixL"; walk_at "ii"; walk_at "v"; refine ⟨_, _, _, _, rfl, rfl, hb, rfl, ?_⟩
    generalize e2 : upd H b _ = H2
    have hb2 : H2 b = some (.lst [V.int L, V.int S, V.int (C + 1)]) := by rw [← e2]; exact upd_same
    have x2 : Xb b H H2 := by rw [← e2]; exact Xb.upd Xb.refl
    walk_at "v"; walk_at "ixL"; walk_at "v"; walk_at "ixL"; refine ⟨_, _, rfl, rfl, CMulW.small (by decide) (by omega) (by omega), ?_⟩
    walk_at "ii"; refine ⟨_, _, rfl, rfl, ⟨by decide, by decide, by omega⟩, ?_⟩; refine Or.inl ⟨_, rfl, ?_⟩; refine ⟨_, _, rfl, rfl, (by decide : (0 : Int) < 2305843009213693921), ?_⟩
    have b1 := Int.emod_nonneg ((S + 1000003 * (C + 1)) ^ (3 : Int).toNat) (by decide : (2305843009213693921 : Int) ≠ 0)
    have b2 := Int.emod_lt_of_pos ((S + 1000003 * (C + 1)) ^ (3 : Int).toNat) (by decide : (0 : Int) < 2305843009213693921)
    generalize (S + 1000003 * (C + 1)) ^ (3 : Int).toNat % 2305843009213693921 = M at b1 b2 ⊢
    walk_at "v"; walk_at "v"; walk_at "ixL"; refine ⟨_, _, rfl, rfl, CMulW.small (by decide) (by omega) (by omega), ?_⟩
    walk_at "ii"; refine ⟨_, _, rfl, rfl, ⟨by decide, by decide, by omega⟩, ?_⟩; refine Or.inl ⟨_, rfl, ?_⟩; refine ⟨_, _, rfl, rfl, (by decide : (0 : Int) < 2305843009213693951), ?_⟩
    walk_at "v"; refine ⟨_, _, rfl, rfl, ⟨(by decide : (0 : Int) < 8192), by decide +kernel⟩, ?_⟩; refine Or.inl ⟨_, rfl, ?_⟩; walk_at "v"; refine ⟨_, _, rfl, rfl, hm, ?_⟩
    exact q _ _ (Int.emod_nonneg _ (by omega)) (Int.emod_lt_of_pos _ hm) x2 ⟨L, S, C + 1, hb2, hL, hS, hS2, by omega, by omega⟩
end Md

set_option Elab.async false
set_option linter.all false
set_option maxRecDepth 100000
set_option maxHeartbeats 4000000
namespace Md
/-! ### fractions in lowest terms (plain Lean) -/
/-- the greatest common divisor -/
def gI (p q : Int) : Int := ((Nat.gcd p.natAbs q.natAbs : Nat) : Int)
def lowN (p q : Int) : Int := p / gI p q
def lowD (p q : Int) : Int := q / gI p q
def Cop (p q : Int) : Prop := Nat.gcd p.natAbs q.natAbs = 1
theorem gI_pos {p q : Int} (h : q ≠ 0) : 0 < gI p q := by
  unfold gI
  have : 0 < Nat.gcd p.natAbs q.natAbs := Nat.gcd_pos_of_pos_right _ (by omega)
  omega
theorem gI_dvd_l (p q : Int) : gI p q ∣ p := Int.ofNat_dvd_left.mpr (Nat.gcd_dvd_left ..)
theorem gI_dvd_r (p q : Int) : gI p q ∣ q := Int.ofNat_dvd_left.mpr (Nat.gcd_dvd_right ..)
theorem low_l (p q : Int) : gI p q * lowN p q = p := Int.mul_ediv_cancel' (gI_dvd_l p q)
theorem low_r (p q : Int) : gI p q * lowD p q = q := Int.mul_ediv_cancel' (gI_dvd_r p q)
theorem lowD_pos {p q : Int} (h : 0 < q) : 0 < lowD p q := by
  have h1 := gI_pos (p := p) (q := q) (by omega)
  have h2 := low_r p q
  rcases Int.lt_or_le 0 (lowD p q) with h3 | h3
  · exact h3
  · have := Int.mul_nonpos_of_nonneg_of_nonpos (Int.le_of_lt h1) h3
    omega
theorem low_cop {p q : Int} (h : q ≠ 0) : Cop (lowN p q) (lowD p q) := by
  have h1 := gI_pos (p := p) (q := q) h
  have e1 : (gI p q).natAbs * (lowN p q).natAbs = p.natAbs := by rw [← Int.natAbs_mul, low_l]
  have e2 : (gI p q).natAbs * (lowD p q).natAbs = q.natAbs := by rw [← Int.natAbs_mul, low_r]
  have e3 : (gI p q).natAbs = Nat.gcd p.natAbs q.natAbs := by unfold gI; omega
  have e4 : Nat.gcd ((gI p q).natAbs * (lowN p q).natAbs) ((gI p q).natAbs * (lowD p q).natAbs) = (gI p q).natAbs * Nat.gcd (lowN p q).natAbs (lowD p q).natAbs := Nat.gcd_mul_left ..
  rw [e1, e2, ← e3] at e4
  have h5 : 0 < (gI p q).natAbs := by omega
  have e6 : (gI p q).natAbs * 1 = (gI p q).natAbs * Nat.gcd (lowN p q).natAbs (lowD p q).natAbs := by rw [Nat.mul_one]; exact e4
  exact (Nat.eq_of_mul_eq_mul_left h5 e6).symm
theorem low_cross {p q : Int} : lowN p q * q = p * lowD p q := by
  have h1 := low_l p q
  have h2 := low_r p q
  calc lowN p q * q = lowN p q * (gI p q * lowD p q) := by rw [h2]
    _ = (gI p q * lowN p q) * lowD p q := by rw [← Int.mul_assoc, Int.mul_comm (lowN p q)]
    _ = p * lowD p q := by rw [h1]
/-- two fractions in lowest terms of one value are one -/
theorem cop_uniq {p q p' q' : Int} (h : Cop p q) (h' : Cop p' q') (hq : 0 < q) (hq' : 0 < q') (e : p * q' = p' * q) : p = p' ∧ q = q' := by
  have e2 : p.natAbs * q'.natAbs = p'.natAbs * q.natAbs := by rw [← Int.natAbs_mul, ← Int.natAbs_mul, e]
  have d1 : q.natAbs ∣ q'.natAbs := by
    have : q.natAbs ∣ p.natAbs * q'.natAbs := by rw [e2]; exact Nat.dvd_mul_left ..
    exact (Nat.Coprime.symm h : Nat.Coprime q.natAbs p.natAbs).dvd_of_dvd_mul_left this
  have d2 : q'.natAbs ∣ q.natAbs := by
    have : q'.natAbs ∣ p'.natAbs * q.natAbs := by rw [← e2]; exact Nat.dvd_mul_left ..
    exact (Nat.Coprime.symm h' : Nat.Coprime q'.natAbs p'.natAbs).dvd_of_dvd_mul_left this
  have e3 : q.natAbs = q'.natAbs := Nat.dvd_antisymm d1 d2
  have e4 : q = q' := by omega
  subst e4
  exact ⟨Int.eq_of_mul_eq_mul_right (by omega) e, rfl⟩
theorem low_of_cop {p q : Int} (h : Cop p q) (hq : 0 < q) : lowN p q = p ∧ lowD p q = q := by
  have e : gI p q = 1 := by unfold gI; rw [h]; rfl
  unfold lowN lowD
  rw [e, Int.ediv_one, Int.ediv_one]
  exact ⟨rfl, rfl⟩
theorem low_mul {p q c : Int} (hq : 0 < q) (hc : 0 < c) : lowN (p * c) (q * c) = lowN p q ∧ lowD (p * c) (q * c) = lowD p q := by
  have hqc : 0 < q * c := Int.mul_pos hq hc
  refine cop_uniq (low_cop (by omega)) (low_cop (by omega)) (lowD_pos hqc) (lowD_pos hq) ?_
  have h1 : lowN (p * c) (q * c) * (q * c) = (p * c) * lowD (p * c) (q * c) := low_cross
  have h2 : lowN p q * q = p * lowD p q := low_cross
  -- cancel q * c
  refine Int.eq_of_mul_eq_mul_right (a := q * c) (by omega) ?_
  calc lowN (p * c) (q * c) * lowD p q * (q * c) = (lowN (p * c) (q * c) * (q * c)) * lowD p q := by rw [Int.mul_assoc, Int.mul_comm (lowD p q), ← Int.mul_assoc]
    _ = (p * c * lowD (p * c) (q * c)) * lowD p q := by rw [h1]
    _ = (p * lowD p q) * (c * lowD (p * c) (q * c)) := by
      rw [Int.mul_assoc p, Int.mul_assoc p, Int.mul_assoc p, Int.mul_comm (lowD p q)]
    _ = (lowN p q * q) * (c * lowD (p * c) (q * c)) := by rw [h2]
    _ = lowN p q * lowD (p * c) (q * c) * (q * c) := by
      rw [Int.mul_assoc, Int.mul_assoc, ← Int.mul_assoc q c, Int.mul_comm (q * c)]
theorem low_one (p : Int) : lowN p 1 = p ∧ lowD p 1 = 1 := low_of_cop (by unfold Cop; simp) (by decide)
theorem low_neg (p q : Int) : lowN (-p) q = -lowN p q ∧ lowD (-p) q = lowD p q := by
  have e : gI (-p) q = gI p q := by unfold gI; rw [Int.natAbs_neg]
  unfold lowN lowD
  rw [e]
  exact ⟨Int.neg_ediv_of_dvd (gI_dvd_l p q), rfl⟩
theorem lowN_le (p q : Int) (h : q ≠ 0) : (lowN p q).natAbs ≤ p.natAbs := by
  have e1 : (gI p q).natAbs * (lowN p q).natAbs = p.natAbs := by rw [← Int.natAbs_mul, low_l]
  have h1 := gI_pos (p := p) (q := q) h
  rw [← e1]
  exact Nat.le_mul_of_pos_left _ (by omega)
theorem lowD_le (p q : Int) (h : q ≠ 0) : (lowD p q).natAbs ≤ q.natAbs := by
  have e1 : (gI p q).natAbs * (lowD p q).natAbs = q.natAbs := by rw [← Int.natAbs_mul, low_r]
  have h1 := gI_pos (p := p) (q := q) h
  rw [← e1]
  exact Nat.le_mul_of_pos_left _ (by omega)
/-- the fraction top/bottom, bottom of either sign -/
def frN (p q : Int) : Int := if q < 0 then lowN (-p) (-q) else lowN p q
def frD (p q : Int) : Int := if q < 0 then lowD (-p) (-q) else lowD p q
theorem gI_neg (p q : Int) : gI (-p) (-q) = gI p q := by unfold gI; rw [Int.natAbs_neg, Int.natAbs_neg]
theorem frD_pos {p q : Int} (h : q ≠ 0) : 0 < frD p q := by
  unfold frD
  split
  · exact lowD_pos (by omega)
  · exact lowD_pos (by omega)
theorem fr_cop {p q : Int} (h : q ≠ 0) : Cop (frN p q) (frD p q) := by
  unfold frN frD
  split
  · exact low_cop (by omega)
  · exact low_cop h
/-! ### sizes -/
theorem nat_mul_lt {a b m n : Nat} (h1 : a < 2 ^ m) (h2 : b < 2 ^ n) : a * b < 2 ^ (m + n) := by
  rw [Nat.pow_add]
  exact Nat.mul_lt_mul'' h1 h2
theorem int_mul_lt {a b : Int} {m n : Nat} (h1 : a.natAbs < 2 ^ m) (h2 : b.natAbs < 2 ^ n) : (a * b).natAbs < 2 ^ (m + n) := by
  rw [Int.natAbs_mul]
  exact nat_mul_lt h1 h2
theorem pow_mono {m n : Nat} {a : Nat} (h : a < 2 ^ m) (l : m ≤ n) : a < 2 ^ n := Nat.lt_of_lt_of_le h (Nat.pow_le_pow_right (by decide) l)
end Md

set_option Elab.async false
set_option linter.all false
set_option maxRecDepth 100000
set_option maxHeartbeats 4000000
namespace Md
open PySem PySem.Spec PyProof.Rows PySem.Calls L2
local macro_rules | `(tactic| walk_at "v") => `(tactic| refine ⟨_, rfl, ?_⟩)
local macro_rules | `(tactic| walk_at "ii") => `(tactic| refine ⟨_, _, rfl, rfl, ?_⟩)
local macro_rules | `(tactic| walk_at "ixL") => `(tactic| refine Or.inl ⟨_, _, _, _, rfl, rfl, SqL.of (by assumption), rfl, ?_⟩)
local macro_rules | `(tactic| walk_at "ixT") => `(tactic| refine Or.inr (Or.inl ⟨_, _, _, _, rfl, rfl, SqT.of (by assumption), rfl, ?_⟩))

/-! ### types of values -/
def isIntV : V → Bool
  | .int _ => true
  | _ => false
def isBoolV : V → Bool
  | .bl _ => true
  | _ => false
theorem isi_of {K : PySem.W.Frag} {H : Hp} {x : V} {T C : String} {b : Bool} {Q : VK} (ty : TyX K H x (.type T)) (h : kitB T C = some b) (q : Q (.bl b) H) : rIsi K [x, .ty C] H Q := ⟨x, .ty C, _, _, b, rfl, .ty C, ty, kit_ty h, q⟩
theorem kit_int {K : PySem.W.Frag} {H : Hp} {x : V} {T : String} (ty : TyX K H x (.type T)) : kitB T "int" = some (isIntV x || isBoolV x) ∧ kitB T "bool" = some (isBoolV x) := by
  cases ty with
  | base b => cases b <;> (constructor <;> (simp only [isIntV, isBoolV, Bool.or_false, Bool.or_true, Bool.false_or, Bool.true_or]; decide +kernel))
  | _ => constructor <;> (simp only [isIntV, isBoolV, Bool.or_false, Bool.or_true, Bool.false_or, Bool.true_or]; decide +kernel)
theorem ty_int {K : PySem.W.Frag} {H : Hp} {i : Int} : TyX K H (.int i) (.type "int") := .base (.int i)
theorem ty_tup {K : PySem.W.Frag} {H : Hp} {a : Addr} {xs : List V} (h : H a = some (.tup xs)) : TyX K H (.ref a) (.type "tuple") := .base (.tup h)

/-! ### an error class of one field -/
def spXi (C : Addr) (f : Str) : Sp := fun vs H Q _ => ∃ (a : Addr) (x : V), vs = [.ref a, x] ∧ H a = some (exo a C none) ∧ ∀ d, H d = none → d ≠ a → Q .non (upd (upd H d (exd d [(f, x)])) a (exo a C (some d)))
theorem len_xi {C : Addr} {f : Str} {vs : List V} {H : Hp} {Q : VK} {E : XK} (h : spXi C f vs H Q E) : vs.length = 2 := by
  obtain ⟨a, x, rfl, _⟩ := h
  rfl
def t_xi (K : PySem.W.Frag) (f : Str) : TS := tOst K f (tVar 0) (tVar 1)
theorem pure_xi {K : PySem.W.Frag} {C : Addr} {f n : Str} (T : OexC K C) (hn : PySem.W.findIn K (.ref C) f = some none) {vs : List V} {H : Hp} {Q : VK} {E : XK} (h : spXi C f vs H Q E) :
    t_xi K f { nx := fun _ H' => Q .non H', rt := Q } (start ["self", n] vs) H := by
  obtain ⟨a, x, rfl, ha, q⟩ := h
  walk_at "v"; walk_at "v"
  exact ⟨a, C, rfl, T, hn, .inl ⟨ha, fun dx h1 h2 => q dx h1 h2⟩⟩
/-- such an error is made -/
theorem mk_xi {C : Addr} {f : Str} {x : V} {H : Hp} {Q : XK} (q : ∀ d H', Same H H' → H' d = some (.xd [(f, x)]) → Q (.ref C) (some d) H') :
    [x].length ≤ 1000 ∧ ∀ a, H a = none → spXi C f (.ref a :: ([x] ++ [])) (upd H a (exo a C none)) (fun v H2 => v = .non ∧ ∃ (d : Addr) (fs : List (Str × V)), H2 a = some (exo a C (some d)) ∧ H2 d = some (exd d fs) ∧ H d = none ∧ Q (.ref C) (some d) (upd (del H2 a) d (.xd fs))) (fun _ _ _ => False) := by
  refine ⟨by show 1 ≤ 1000; decide, fun a ha => ⟨a, x, rfl, upd_same, fun d hd hda => ⟨rfl, d, [(f, x)], upd_same, ?_, ?_, ?_⟩⟩⟩
  · rw [upd_ne hda, upd_same]
  · rw [upd_ne hda] at hd; exact hd
  · rw [upd_ne hda] at hd
    refine q d _ (fun b o e => ?_) upd_same
    have nb : b ≠ d := ne_of_none e hd
    have na : b ≠ a := ne_of_none e ha
    rw [upd_ne nb, del_ne na, upd_ne na, upd_ne nb, upd_ne na]
    exact e

/-! ### numbers in the heap -/
def NumAt (H : Hp) (x : V) (p q : Int) : Prop := (x = .int p ∧ q = 1) ∨ ∃ a, x = .ref a ∧ H a = some (.tup [.int p, .int q]) ∧ 2 ≤ q ∧ Cop p q
def PairAt (H : Hp) (x : V) (p q : Int) : Prop := ∃ a, x = .ref a ∧ H a = some (.tup [.int p, .int q])
theorem NumAt.same {H H' : Hp} {x : V} {p q : Int} (h : NumAt H x p q) (s : Same H H') : NumAt H' x p q := by
  rcases h with h | ⟨a, e, ha, h⟩
  · exact .inl h
  · exact .inr ⟨a, e, s _ _ ha, h⟩
theorem NumAt.xb {H H' : Hp} {x : V} {p q : Int} {b : Addr} {n : Nat} (h : NumAt H x p q) (hb : Bag n H b) (s : Xb b H H') : NumAt H' x p q := by
  rcases h with h | ⟨a, e, ha, h⟩
  · exact .inl h
  · exact .inr ⟨a, e, s.tupB hb ha, h⟩
theorem NumAt.pos {H : Hp} {x : V} {p q : Int} (h : NumAt H x p q) : 0 < q := by
  rcases h with ⟨_, h⟩ | ⟨a, e, ha, h, _⟩ <;> omega
theorem NumAt.cop {H : Hp} {x : V} {p q : Int} (h : NumAt H x p q) : Cop p q := by
  rcases h with ⟨_, h⟩ | ⟨a, e, ha, h, c⟩
  · subst h; unfold Cop; simp
  · exact c
theorem NumAt.ty {K : PySem.W.Frag} {H : Hp} {x : V} {p q : Int} (h : NumAt H x p q) : ∃ T, TyX K H x (.type T) := by
  rcases h with ⟨rfl, h⟩ | ⟨a, rfl, ha, h, _⟩
  · exact ⟨_, ty_int⟩
  · exact ⟨_, ty_tup ha⟩
theorem PairAt.same {H H' : Hp} {x : V} {p q : Int} (h : PairAt H x p q) (s : Same H H') : PairAt H' x p q := by
  obtain ⟨a, e, ha⟩ := h
  exact ⟨a, e, s _ _ ha⟩
theorem PairAt.xb {H H' : Hp} {x : V} {p q : Int} {b : Addr} {n : Nat} (h : PairAt H x p q) (hb : Bag n H b) (s : Xb b H H') : PairAt H' x p q := by
  obtain ⟨a, e, ha⟩ := h
  exact ⟨a, e, s.tupB hb ha⟩
theorem NumAt.int (H : Hp) (p : Int) : NumAt H (.int p) p 1 := .inl ⟨rfl, rfl⟩
/-- a fraction in lowest terms, laid as a number -/
theorem NumAt.eqv {H : Hp} {x : V} {p q p' q' : Int} (h : NumAt H x p q) (e1 : p = p') (e2 : q = q') : NumAt H x p' q' := by subst e1 e2; exact h

/-! ### is_whole, _law_is_int -/
def t_is_whole (K : PySem.W.Frag) (A : Ads) (E : XK) : TS :=
    (tRet (tAndV (tCB (rIsi K) (tCons (tVar 0) (tCons (tC (.ty "int")) tNil))) (tNotV (tCB (rIsi K) (tCons (tVar 0) (tCons (tC (.ty "bool")) tNil))))))
def n_is_whole : List Str := ["thing"]
def sp_is_whole (K : PySem.W.Frag) (A : Ads) : Sp := fun vs H Q _ => ∃ (x : V) (T : String), vs = [x] ∧ TyX K H x (.type T) ∧ Q (.bl (isIntV x)) H
theorem len_is_whole {K : PySem.W.Frag} {A : Ads} {vs : List V} {H : Hp} {Q : VK} {E : XK} (h : sp_is_whole K A vs H Q E) : vs.length = 1 := by
  obtain ⟨x, T, rfl, _⟩ := h
  rfl
theorem pure_is_whole {K : PySem.W.Frag} {A : Ads} {vs : List V} {H : Hp} {Q : VK} {E : XK} (h : sp_is_whole K A vs H Q E) : t_is_whole K A E { nx := fun _ H' => Q .non H', rt := Q } (start n_is_whole vs) H := by
  obtain ⟨x, T, rfl, ty, q⟩ := h
  obtain ⟨e1, e2⟩ := kit_int ty
  walk_at "v"
  refine ⟨_, _, _, _, _, rfl, .ty _, ty, kit_ty e1, ?_⟩
  refine ⟨_, rfl, ?_⟩
  refine iteB (fun h1 => ?_) (fun h1 => ?_)
  · walk_at "v"
    refine ⟨_, _, _, _, _, rfl, .ty _, ty, kit_ty e2, ?_⟩
    refine ⟨_, rfl, ?_⟩
    cases x <;> first | exact q | (simp [isIntV, isBoolV] at h1)
  · cases x <;> first | exact q | (simp [isIntV, isBoolV] at h1)
def t__law_is_int (K : PySem.W.Frag) (A : Ads) (E : XK) : TS :=
    (tRet (tAndV (tCB (rIsi K) (tCons (tVar 0) (tCons (tC (.ty "int")) tNil))) (tNotV (tCB (rIsi K) (tCons (tVar 0) (tCons (tC (.ty "bool")) tNil))))))
def n__law_is_int : List Str := ["_law_thing"]
def sp__law_is_int (K : PySem.W.Frag) (A : Ads) : Sp := sp_is_whole K A
theorem len__law_is_int {K : PySem.W.Frag} {A : Ads} {vs : List V} {H : Hp} {Q : VK} {E : XK} (h : sp__law_is_int K A vs H Q E) : vs.length = 1 := len_is_whole h
theorem pure__law_is_int {K : PySem.W.Frag} {A : Ads} {vs : List V} {H : Hp} {Q : VK} {E : XK} (h : sp__law_is_int K A vs H Q E) : t__law_is_int K A E { nx := fun _ H' => Q .non H', rt := Q } (start n__law_is_int vs) H := pure_is_whole h

/-! ### number -/
def sp_BadNumber___init__ (K : PySem.W.Frag) (A : Ads) : Sp := spXi A.cBadNumber "thing"
def t_number (K : PySem.W.Frag) (A : Ads) (E : XK) : TS :=
    (tSeq (tIfS (tTest (tOp rEq (tVar 1) (tC (.int 0)))) (tRaise E (tMkO A.cBadNumber (sp_BadNumber___init__ K A) [] (tCons (tVar 1) tNil))) tNext)
    (tSeq (tAsg (tCB rGcd (tCons (tVar 0) (tCons (tVar 1) tNil))) (gName 2))
    (tSeq (tIfS (tTest (tOp rLt (tVar 1) (tC (.int 0)))) (tAsg (tUn rNeg (tVar 2)) (gName 2)) tNext)
    (tSeq (tIfS (tTest (tOp rEq (tVar 1) (tVar 2))) (tRet (tOp rFdvG (tVar 0) (tVar 2))) tNext)
    (tRet (tTup (tCons (tOp rFdvG (tVar 0) (tVar 2)) (tCons (tOp rFdvG (tVar 1) (tVar 2)) tNil))))))))
def n_number : List Str := ["top", "bottom", "shared"]
def sp_number (K : PySem.W.Frag) (A : Ads) : Sp := fun vs H Q E => ∃ p q : Int, vs = [.int p, .int q] ∧ q.natAbs < 2 ^ 9000 ∧ (q ≠ 0 → ∀ x H', Same H H' → NumAt H' x (frN p q) (frD p q) → Q x H') ∧
  (q = 0 → ∀ d H', Same H H' → H' d = some (.xd [("thing", .int 0)]) → E (.ref A.cBadNumber) (some d) H')
theorem len_number {K : PySem.W.Frag} {A : Ads} {vs : List V} {H : Hp} {Q : VK} {E : XK} (h : sp_number K A vs H Q E) : vs.length = 2 := by
  obtain ⟨p, q, rfl, _⟩ := h
  rfl
theorem fdiv_exact {p s k : Int} (hs : s ≠ 0) (e : p = s * k) : p.fdiv s = k := by rw [e]; exact Int.mul_fdiv_cancel_left k hs
theorem gI_size {p q : Int} (h : q ≠ 0) : (gI p q).natAbs ≤ q.natAbs := by
  have e1 : (gI p q).natAbs * (lowD p q).natAbs = q.natAbs := by rw [← Int.natAbs_mul, low_r]
  have : 0 < (lowD p q).natAbs := by
    rcases Nat.eq_zero_or_pos (lowD p q).natAbs with z | z
    · rw [z] at e1; omega
    · exact z
  rw [← e1]
  exact Nat.le_mul_of_pos_right _ this
theorem pure_number {K : PySem.W.Frag} {A : Ads} {vs : List V} {H : Hp} {Q : VK} {E : XK} (h : sp_number K A vs H Q E) : t_number K A E { nx := fun _ H' => Q .non H', rt := Q } (start n_number vs) H := by
  obtain ⟨p, q, rfl, hz, kQ, kE⟩ := h
  walk_at "v"; refine ⟨rfl, ?_⟩; walk_at "v"
  refine iteD (fun h0 => ?_) (fun h0 => ?_)
  · have e0 : q = 0 := V.int.inj h0
    subst e0
    walk_at "v"
    exact mk_xi fun d H' s e => kE rfl d H' s e
  have hq : q ≠ 0 := fun z => h0 (by rw [z])
  have hg := gI_pos (p := p) (q := q) hq
  have hs := gI_size (p := p) hq
  walk_at "v"; walk_at "v"; refine ⟨_, _, rfl, ?_⟩
  have main : ∀ s : Int, (s = gI p q ∧ 0 < q ∨ s = -gI p q ∧ q < 0) → (tSeq (tIfS (tTest (tOp rEq (tVar 1) (tVar 2))) (tRet (tOp rFdvG (tVar 0) (tVar 2))) tNext) (tRet (tTup (tCons (tOp rFdvG (tVar 0) (tVar 2)) (tCons (tOp rFdvG (tVar 1) (tVar 2)) tNil)))))
      { nx := fun _ H' => Q .non H', rt := Q } [some (.int p), some (.int q), some (.int s)] H := by
    intro s hs2
    have s0 : s ≠ 0 := by omega
    have sz : s.natAbs.log2 < 9000 := pow_lt (Nat.lt_of_le_of_lt (by omega) hz) (by decide)
    obtain ⟨eN, eD⟩ : p.fdiv s = frN p q ∧ q.fdiv s = frD p q := by
      unfold frN frD
      rcases hs2 with ⟨e, h1⟩ | ⟨e, h1⟩
      · rw [if_neg (by omega), if_neg (by omega), e]
        exact ⟨fdiv_exact (by omega) (low_l p q).symm, fdiv_exact (by omega) (low_r p q).symm⟩
      · rw [if_pos h1, if_pos h1]
        have l1 := low_l (-p) (-q)
        have l2 := low_r (-p) (-q)
        rw [gI_neg] at l1 l2
        refine ⟨fdiv_exact s0 ?_, fdiv_exact s0 ?_⟩
        · rw [e, Int.neg_mul, l1, Int.neg_neg]
        · rw [e, Int.neg_mul, l2, Int.neg_neg]
    have hD := frD_pos (p := p) hq
    have hC := fr_cop (p := p) hq
    walk_at "v"; walk_at "v"; refine ⟨rfl, ?_⟩; walk_at "v"
    refine iteD (fun h1 => ?_) (fun h1 => ?_)
    · have e1 : q = s := V.int.inj h1
      walk_at "v"; walk_at "v"; refine ⟨_, _, rfl, rfl, ⟨s0, sz⟩, ?_⟩
      refine kQ hq _ _ (Same.refl H) (.inl ⟨congrArg V.int eN, ?_⟩)
      rw [← eD, ← e1]
      exact fdiv_exact hq (by omega)
    · walk_at "v"; walk_at "v"; refine ⟨_, _, rfl, rfl, ⟨s0, sz⟩, ?_⟩
      walk_at "v"; walk_at "v"; refine ⟨_, _, rfl, rfl, ⟨s0, sz⟩, ?_⟩
      refine ⟨by show 2 ≤ sizeLine; decide, fun a ha => ?_⟩
      refine kQ hq _ _ (Same.new ha) (.inr ⟨a, rfl, ?_, ?_, hC⟩)
      · exact upd_same.trans (by show some (HO.tup [V.int (p.fdiv s), V.int (q.fdiv s)]) = _; rw [eN, eD])
      · rcases Int.lt_or_le (frD p q) 2 with z | z
        · exfalso
          have z1 : frD p q = 1 := by omega
          apply h1
          have : q = s * frD p q := by
            rcases hs2 with ⟨e, h2⟩ | ⟨e, h2⟩
            · unfold frD; rw [if_neg (by omega), e, low_r]
            · unfold frD
              have l2 := low_r (-p) (-q)
              rw [gI_neg] at l2
              rw [if_pos h2, e, Int.neg_mul, l2, Int.neg_neg]
          rw [z1, Int.mul_one] at this
          rw [this]
        · exact z
  walk_at "v"; walk_at "ii"; walk_at "v"
  refine iteD (fun h1 => ?_) (fun h1 => ?_)
  · walk_at "v"; walk_at "v"
    exact main _ (.inr ⟨rfl, h1⟩)
  · exact main _ (.inl ⟨rfl, by omega⟩)
end Md

set_option Elab.async false
set_option linter.all false
set_option maxRecDepth 100000
set_option maxHeartbeats 4000000
namespace Md
open PySem PySem.Spec PyProof.Rows PySem.Calls L2
local macro_rules | `(tactic| walk_at "v") => `(tactic| refine ⟨_, rfl, ?_⟩)
local macro_rules | `(tactic| walk_at "ii") => `(tactic| refine ⟨_, _, rfl, rfl, ?_⟩)
local macro_rules | `(tactic| walk_at "ixL") => `(tactic| refine Or.inl ⟨_, _, _, _, rfl, rfl, SqL.of (by assumption), rfl, ?_⟩)
local macro_rules | `(tactic| walk_at "ixT") => `(tactic| refine Or.inr (Or.inl ⟨_, _, _, _, rfl, rfl, SqT.of (by assumption), rfl, ?_⟩))

/-! ### _over -/
def t__over (K : PySem.W.Frag) (A : Ads) (E : XK) : TS :=
    (tSeq (tIfS (tB (tCall (sp_is_whole K A) [] E0 (tCons (tVar 0) tNil))) (tRet (tTup (tCons (tVar 0) (tCons (tC (.int 1)) tNil)))) tNext)
    (tRet (tVar 0)))
def n__over : List Str := ["value"]
def sp__over (K : PySem.W.Frag) (A : Ads) : Sp := fun vs H Q _ => ∃ (x : V) (p q : Int), vs = [x] ∧ NumAt H x p q ∧ ∀ y H', Same H H' → PairAt H' y p q → Q y H'
theorem len__over {K : PySem.W.Frag} {A : Ads} {vs : List V} {H : Hp} {Q : VK} {E : XK} (h : sp__over K A vs H Q E) : vs.length = 1 := by
  obtain ⟨x, p, q, rfl, _⟩ := h
  rfl
theorem pure__over {K : PySem.W.Frag} {A : Ads} {vs : List V} {H : Hp} {Q : VK} {E : XK} (h : sp__over K A vs H Q E) : t__over K A E { nx := fun _ H' => Q .non H', rt := Q } (start n__over vs) H := by
  obtain ⟨x, p, q, rfl, hn, k⟩ := h
  rcases hn with ⟨rfl, rfl⟩ | ⟨a, rfl, ha, h2, hc⟩
  · walk_at "v"
    refine ⟨_, _, rfl, ty_int, ⟨_, rfl, ?_⟩⟩
    show (if true = true then _ else _)
    refine iteT ?_
    walk_at "v"
    refine ⟨by show 2 ≤ sizeLine; decide, fun t ht => ?_⟩
    exact k _ _ (Same.new ht) ⟨t, rfl, upd_same⟩
  · walk_at "v"
    refine ⟨_, _, rfl, ty_tup ha, ⟨_, rfl, ?_⟩⟩
    refine iteF ?_
    walk_at "v"
    exact k _ _ (Same.refl H) ⟨a, rfl, ha⟩
/-! ### compare -/
def cmpI (a b : Int) : Int := if a < b then -1 else if b < a then 1 else 0
def t_compare (K : PySem.W.Frag) (A : Ads) (E : XK) : TS :=
    (tSeq (tAsg (tCall (sp__over K A) [] E0 (tCons (tVar 0) tNil)) (gTup K 2 (gCons (gName 4) (gCons (gName 5) gNil))))
    (tSeq (tAsg (tCall (sp__over K A) [] E0 (tCons (tVar 1) tNil)) (gTup K 2 (gCons (gName 6) (gCons (gName 7) gNil))))
    (tSeq (tAsg (tOp rMulW (tVar 4) (tVar 7)) (gName 2))
    (tSeq (tAsg (tOp rMulW (tVar 6) (tVar 5)) (gName 3))
    (tSeq (tIfS (tTest (tOp rLt (tVar 2) (tVar 3))) (tRet (tUn rNeg (tC (.int 1)))) tNext)
    (tRet (tIf (tTest (tOp rGt (tVar 2) (tVar 3))) (tC (.int 1)) (tC (.int 0)))))))))
def n_compare : List Str := ["one", "other", "left", "right", "top", "bottom", "other_top", "other_bottom"]
def sp_compare (K : PySem.W.Frag) (A : Ads) : Sp := fun vs H Q _ => ∃ (x y : V) (p q p' q' : Int), vs = [x, y] ∧ NumAt H x p q ∧ NumAt H y p' q' ∧ (p.natAbs < 2 ^ 9000 ∧ q.natAbs < 2 ^ 9000 ∧ p'.natAbs < 2 ^ 9000 ∧ q'.natAbs < 2 ^ 9000) ∧
  ∀ H', Same H H' → Q (.int (cmpI (p * q') (p' * q))) H'
theorem len_compare {K : PySem.W.Frag} {A : Ads} {vs : List V} {H : Hp} {Q : VK} {E : XK} (h : sp_compare K A vs H Q E) : vs.length = 2 := by
  obtain ⟨x, y, p, q, p', q', rfl, _⟩ := h
  rfl
theorem mulW {i j : Int} (h1 : i.natAbs < 2 ^ 9001) (h2 : j.natAbs < 2 ^ 9001) : CMulW i j := wide_mul h1 h2 (by decide) (by decide) (by decide)
theorem mulW0 {i j : Int} (h1 : i.natAbs < 2 ^ 9000) (h2 : j.natAbs < 2 ^ 9000) : CMulW i j := mulW (pow_mono h1 (by decide)) (pow_mono h2 (by decide))
theorem pure_compare {K : PySem.W.Frag} {A : Ads} {vs : List V} {H : Hp} {Q : VK} {E : XK} (h : sp_compare K A vs H Q E) : t_compare K A E { nx := fun _ H' => Q .non H', rt := Q } (start n_compare vs) H := by
  obtain ⟨x, y, p, q, p', q', rfl, h1, h2, ⟨z1, z2, z3, z4⟩, k⟩ := h
  walk_at "v"
  refine ⟨_, _, _, rfl, h1, fun u H1 s1 hu => ?_⟩
  obtain ⟨a, rfl, ha⟩ := hu
  refine ⟨a, _, rfl, SqT.of ha, rfl, _, _, rfl, _, _, rfl, rfl, ?_⟩
  walk_at "v"
  refine ⟨_, _, _, rfl, h2.same s1, fun u2 H2 s2 hu2 => ?_⟩
  obtain ⟨a2, rfl, ha2⟩ := hu2
  refine ⟨a2, _, rfl, SqT.of ha2, rfl, _, _, rfl, _, _, rfl, rfl, ?_⟩
  have s3 := Same.trans s1 s2
  walk_at "v"; walk_at "v"; refine ⟨_, _, rfl, rfl, mulW0 z1 z4, ?_⟩
  walk_at "v"; walk_at "v"; refine ⟨_, _, rfl, rfl, mulW0 z3 z2, ?_⟩
  have kk := k H2 s3
  unfold cmpI at kk
  walk_at "v"; walk_at "v"; walk_at "ii"; walk_at "v"
  refine iteD (fun h0 => ?_) (fun h0 => ?_)
  · refine ⟨_, rfl, ?_⟩
    rw [if_pos h0] at kk
    exact kk
  · rw [if_neg h0] at kk
    walk_at "v"; walk_at "v"; walk_at "ii"; walk_at "v"
    refine iteD (fun h3 => ?_) (fun h3 => ?_)
    · rw [if_pos h3] at kk
      exact kk
    · rw [if_neg h3] at kk
      exact kk
/-! ### _negative -/
def t__negative (K : PySem.W.Frag) (A : Ads) (E : XK) : TS :=
    (tRet (tTup (tCons (tUn rNeg (tOp (rIx K) (tVar 0) (tC (.int 0)))) (tCons (tOp (rIx K) (tVar 0) (tC (.int 1))) tNil))))
def n__negative : List Str := ["over"]
def sp__negative (K : PySem.W.Frag) (A : Ads) : Sp := fun vs H Q _ => ∃ (x : V) (p q : Int), vs = [x] ∧ PairAt H x p q ∧ ∀ y H', Same H H' → PairAt H' y (-p) q → Q y H'
theorem len__negative {K : PySem.W.Frag} {A : Ads} {vs : List V} {H : Hp} {Q : VK} {E : XK} (h : sp__negative K A vs H Q E) : vs.length = 1 := by
  obtain ⟨x, p, q, rfl, _⟩ := h
  rfl
theorem pure__negative {K : PySem.W.Frag} {A : Ads} {vs : List V} {H : Hp} {Q : VK} {E : XK} (h : sp__negative K A vs H Q E) : t__negative K A E { nx := fun _ H' => Q .non H', rt := Q } (start n__negative vs) H := by
  obtain ⟨x, p, q, rfl, ⟨a, rfl, ha⟩, k⟩ := h
  walk_at "v"; walk_at "ixT"; walk_at "v"; walk_at "v"; walk_at "ixT"
  refine ⟨by show 2 ≤ sizeLine; decide, fun t ht => ?_⟩
  exact k _ _ (Same.new ht) ⟨t, rfl, upd_same⟩

/-! ### _law_bag -/
def t__law_bag (K : PySem.W.Frag) (A : Ads) (E : XK) : TS :=
    (tSeq (tAsg (tIf (tTest (tOp rLt (tVar 1) (tCB (rLen K) (tCons (tVar 0) tNil)))) (tOp (rIx K) (tVar 0) (tVar 1)) (tC (.int 0))) (gName 2))
    (tSeq (tAsg (tIf (tTest (tOp rGe (tCB rAbs (tCons (tVar 2) tNil)) (tOp rPow (tC (.int 10)) (tC (.int 18))))) (tCB rAbs (tCons (tVar 2) tNil)) (tC (.int 0))) (gName 3))
    (tRet (tLst (tCons (tVar 3) (tCons (tOp rAdd (tOp rAdd (tOp rMulW (tOp rMod (tCB rInt1 (tCons (tVar 2) tNil)) (tC (.int 2305843009213693951))) (tC (.int 7))) (tOp rMulW (tC (.int 9176)) (tVar 1))) (tC (.int 7001))) (tCons (tC (.int 0)) tNil)))))))
def n__law_bag : List Str := ["_law_script", "_law_at", "_law_cell", "_law_large"]
def sp__law_bag (K : PySem.W.Frag) (A : Ads) : Sp := fun vs H Q _ => ∃ (s : Addr) (ns : List Int) (at_ : Int), vs = [.ref s, .int at_] ∧ SqL K H s (ns.map V.int) ∧ ns.length ≤ 63 ∧ 0 ≤ at_ ∧ at_ ≤ 62 ∧ ∀ b H', H b = none → Same H H' → Bag 549755813888 H' b → Q (.ref b) H'
theorem len__law_bag {K : PySem.W.Frag} {A : Ads} {vs : List V} {H : Hp} {Q : VK} {E : XK} (h : sp__law_bag K A vs H Q E) : vs.length = 2 := by
  obtain ⟨x, p, q, rfl, _⟩ := h
  rfl
theorem atI_map {ns : List Int} {i : Int} (h0 : 0 ≤ i) (h1 : i < ns.length) : ∃ c, atI (ns.map V.int) i = some (.int c) := by
  have h2 : i.toNat < ns.length := by omega
  refine ⟨ns[i.toNat], ?_⟩
  unfold atI ixN
  rw [if_pos h0, List.length_map, if_pos h1]
  show (ns.map V.int)[i.toNat]? = _
  rw [List.getElem?_map, List.getElem?_eq_getElem h2]
  rfl
theorem pure__law_bag {K : PySem.W.Frag} {A : Ads} {vs : List V} {H : Hp} {Q : VK} {E : XK} (h : sp__law_bag K A vs H Q E) : t__law_bag K A E { nx := fun _ H' => Q .non H', rt := Q } (start n__law_bag vs) H := by
  obtain ⟨s, ns, i, rfl, hs, hn, h0, h1, k⟩ := h
  have main : ∀ c : Int, (tSeq (tAsg (tIf (tTest (tOp rGe (tCB rAbs (tCons (tVar 2) tNil)) (tOp rPow (tC (.int 10)) (tC (.int 18))))) (tCB rAbs (tCons (tVar 2) tNil)) (tC (.int 0))) (gName 3))
    (tRet (tLst (tCons (tVar 3) (tCons (tOp rAdd (tOp rAdd (tOp rMulW (tOp rMod (tCB rInt1 (tCons (tVar 2) tNil)) (tC (.int 2305843009213693951))) (tC (.int 7))) (tOp rMulW (tC (.int 9176)) (tVar 1))) (tC (.int 7001))) (tCons (tC (.int 0)) tNil))))))
     { nx := fun _ H' => Q .non H', rt := Q } [some (.ref s), some (.int i), some (.int c), none] H := by
    intro c
    have fin : ∀ L : Int, 0 ≤ L → (tRet (tLst (tCons (tVar 3) (tCons (tOp rAdd (tOp rAdd (tOp rMulW (tOp rMod (tCB rInt1 (tCons (tVar 2) tNil)) (tC (.int 2305843009213693951))) (tC (.int 7))) (tOp rMulW (tC (.int 9176)) (tVar 1))) (tC (.int 7001))) (tCons (tC (.int 0)) tNil)))))
     { nx := fun _ H' => Q .non H', rt := Q } [some (.ref s), some (.int i), some (.int c), some (.int L)] H := by
      intro L hL
      have b1 := Int.emod_nonneg c (by decide : (2305843009213693951 : Int) ≠ 0)
      have b2 := Int.emod_lt_of_pos c (by decide : (0 : Int) < 2305843009213693951)
      walk_at "v"; walk_at "v"; refine Or.inl ⟨_, rfl, ?_⟩; refine ⟨_, _, rfl, rfl, (by decide : (0 : Int) < 2305843009213693951), ?_⟩
      refine ⟨_, _, rfl, rfl, CMulW.small (by omega) (by decide) (by decide), ?_⟩
      walk_at "v"; refine ⟨_, _, rfl, rfl, CMulW.small (by decide) (by omega) (by omega), ?_⟩
      walk_at "ii"; walk_at "ii"
      refine ⟨by show 3 ≤ sizeLine; decide, fun t ht => ?_⟩
      refine k t _ ht (Same.new ht) ⟨L, _, 0, upd_same, hL, by omega, by omega, by omega, by omega⟩
    walk_at "v"; walk_at "v"; refine ⟨_, _, rfl, rfl, ⟨by decide, by decide, by decide⟩, ?_⟩; walk_at "ii"; walk_at "v"
    refine iteD (fun h2 => ?_) (fun h2 => ?_)
    · walk_at "v"; walk_at "v"
      refine fin _ ?_
      split <;> omega
    · exact fin 0 (by omega)
  walk_at "v"; walk_at "v"; refine ⟨_, _, rfl, Or.inl ⟨_, hs, rfl⟩, ?_⟩; walk_at "ii"; walk_at "v"
  refine iteD (fun h2 => ?_) (fun h2 => ?_)
  · rw [List.length_map] at h2
    obtain ⟨c, hc⟩ := atI_map h0 h2
    walk_at "v"; walk_at "v"
    refine Or.inl ⟨_, _, _, _, rfl, rfl, hs, hc, ?_⟩
    exact main c
  · exact main 0

/-! ### _law_value -/
def t__law_value (K : PySem.W.Frag) (A : Ads) (E : XK) : TS :=
    (tSeq (tPar 2 3 (tCons (tCB rAbs (tCons (tVar 0) tNil)) (tCons (tVar 1) tNil)))
    (tSeq (tWhile (tTest (tOp rGt (tVar 2) (tC (.int 0)))) (tPar 2 3 (tCons (tOp rMod (tCB rInt1 (tCons (tVar 3) tNil)) (tVar 2)) (tCons (tVar 2) tNil))))
    (tRet (tIf (tTest (tOp rEq (tVar 1) (tVar 3))) (tOp rFdvW (tVar 0) (tVar 3)) (tTup (tCons (tOp rFdvW (tVar 0) (tVar 3)) (tCons (tOp rFdvW (tVar 1) (tVar 3)) tNil)))))))
def n__law_value : List Str := ["_law_p", "_law_q", "_law_low", "_law_high"]
def sp__law_value (K : PySem.W.Frag) (A : Ads) : Sp := fun vs H Q _ => ∃ p q : Int, vs = [.int p, .int q] ∧ 0 < q ∧ q.natAbs < 2 ^ 9000 ∧ ∀ x H', Same H H' → NumAt H' x (lowN p q) (lowD p q) → Q x H'
theorem len__law_value {K : PySem.W.Frag} {A : Ads} {vs : List V} {H : Hp} {Q : VK} {E : XK} (h : sp__law_value K A vs H Q E) : vs.length = 2 := by
  obtain ⟨p, q, rfl, _⟩ := h
  rfl
theorem gI_step {l h : Int} (hl : 0 < l) (hh : 0 ≤ h) : gI (h % l) l = gI l h := by
  unfold gI
  obtain ⟨m, rfl⟩ := Int.eq_ofNat_of_zero_le (Int.le_of_lt hl)
  obtain ⟨n, rfl⟩ := Int.eq_ofNat_of_zero_le hh
  have e : ((n : Int) % (m : Int)).natAbs = n % m := by rw [← Int.natCast_emod]; rfl
  rw [e]
  show ((Nat.gcd (n % m) m : Nat) : Int) = ((Nat.gcd m n : Nat) : Int)
  rw [Nat.gcd_rec m n]
theorem pure__law_value {K : PySem.W.Frag} {A : Ads} {vs : List V} {H : Hp} {Q : VK} {E : XK} (h : sp__law_value K A vs H Q E) : t__law_value K A E { nx := fun _ H' => Q .non H', rt := Q } (start n__law_value vs) H := by
  obtain ⟨p, q, rfl, hq, hz, k⟩ := h
  walk_at "v"; walk_at "v"; walk_at "v"
  refine ⟨_, _, rfl, ?_⟩
  refine ⟨fun m σ H' => H' = H ∧ ∃ l h : Int, σ = [some (.int p), some (.int q), some (.int l), some (.int h)] ∧ 0 ≤ l ∧ 0 < h ∧ gI l h = gI p q ∧ m = l.toNat, ⟨_, rfl, _, _, rfl, ?_, hq, ?_, rfl⟩, ?_⟩
  · split <;> omega
  · show gI (if p < 0 then -p else p) q = gI p q
    unfold gI
    split
    · rw [Int.natAbs_neg]
    · rfl
  · rintro m σ H' ⟨rfl, l, h, rfl, h0, h1, hg, rfl⟩
    walk_at "v"; walk_at "ii"; walk_at "v"
    refine iteD (fun h2 => ?_) (fun h2 => ?_)
    · refine ⟨_, fun σ' H' z => z, ?_⟩
      · walk_at "v"; refine Or.inl ⟨_, rfl, ?_⟩; walk_at "v"; refine ⟨_, _, rfl, rfl, h2, ?_⟩; walk_at "v"
        refine ⟨_, _, rfl, ?_⟩
        have b1 := Int.emod_nonneg h (by omega : l ≠ 0)
        have b2 := Int.emod_lt_of_pos h h2
        exact ⟨(h % l).toNat, by omega, rfl, h % l, l, rfl, b1, h2, by rw [gI_step h2 (by omega), hg], rfl⟩
    · have e0 : l = 0 := by omega
      subst e0
      have eh : h = gI p q := by
        rw [← hg]
        unfold gI
        show h = ((Nat.gcd 0 h.natAbs : Nat) : Int)
        rw [Nat.gcd_zero_left]
        omega
      have hs := gI_size (p := p) (q := q) (by omega)
      have hd : CDivW p h := ⟨h1, pow_lt (Nat.lt_of_le_of_lt (by omega) hz) (by decide)⟩
      have hD := lowD_pos (p := p) hq
      walk_at "v"; walk_at "v"; refine ⟨rfl, ?_⟩; walk_at "v"
      refine iteD (fun h3 => ?_) (fun h3 => ?_)
      · have e3 : q = h := V.int.inj h3
        walk_at "v"; walk_at "v"; refine ⟨_, _, rfl, rfl, hd, ?_⟩
        refine k _ _ (Same.refl _) (.inl ⟨by unfold lowN; rw [← eh], ?_⟩)
        unfold lowD
        rw [← eh, e3, Int.ediv_self (by omega)]
      · walk_at "v"; walk_at "v"; refine ⟨_, _, rfl, rfl, hd, ?_⟩
        walk_at "v"; walk_at "v"; refine ⟨_, _, rfl, rfl, hd, ?_⟩
        refine ⟨by show 2 ≤ sizeLine; decide, fun a ha => ?_⟩
        refine k _ _ (Same.new ha) (.inr ⟨a, rfl, ?_, ?_, low_cop (by omega)⟩)
        · refine upd_same.trans ?_
          show some (HO.tup [V.int (p / h), V.int (q / h)]) = _
          rw [eh]; rfl
        · rcases Int.lt_or_le (lowD p q) 2 with z | z
          · exfalso
            apply h3
            have e1 : lowD p q = 1 := by omega
            have e2 := low_r p q
            rw [e1, Int.mul_one] at e2
            rw [eh, e2]
          · exact z
end Md

set_option Elab.async false
set_option linter.all false
set_option maxRecDepth 100000
set_option maxHeartbeats 4000000
set_option exponentiation.threshold 20000
namespace Md
open PySem PySem.Spec PyProof.Rows PySem.Calls L2
local macro_rules | `(tactic| walk_at "v") => `(tactic| refine ⟨_, rfl, ?_⟩)
local macro_rules | `(tactic| walk_at "ii") => `(tactic| refine ⟨_, _, rfl, rfl, ?_⟩)
local macro_rules | `(tactic| walk_at "ixL") => `(tactic| refine Or.inl ⟨_, _, _, _, rfl, rfl, SqL.of (by assumption), rfl, ?_⟩)
local macro_rules | `(tactic| walk_at "ixT") => `(tactic| refine Or.inr (Or.inl ⟨_, _, _, _, rfl, rfl, SqT.of (by assumption), rfl, ?_⟩))

/-! ### _law_number -/
def t__law_number (K : PySem.W.Frag) (A : Ads) (E : XK) : TS :=
    (tSeq (tIfS (tTest (tOp rGt (tCall (sp__law_take K A) [] E0 (tCons (tVar 0) (tCons (tC (.int 3)) tNil))) (tC (.int 0)))) (tRet (tCall (sp__law_value K A) [] E0 (tCons (tOp rSub (tCall (sp__law_take K A) [] E0 (tCons (tVar 0) (tCons (tC (.int 11)) tNil))) (tC (.int 5))) (tCons (tOp rAdd (tC (.int 1)) (tCall (sp__law_take K A) [] E0 (tCons (tVar 0) (tCons (tC (.int 3)) tNil)))) tNil)))) tNext)
    (tRet (tCall (sp__law_value K A) [] E0 (tCons (tOp rSub (tCall (sp__law_take K A) [] E0 (tCons (tVar 0) (tCons (tOp rAdd (tOp rMulW (tC (.int 2)) (tOp rPow (tC (.int 10)) (tC (.int 20)))) (tC (.int 1))) tNil))) (tOp rPow (tC (.int 10)) (tC (.int 20)))) (tCons (tOp rAdd (tC (.int 1)) (tCall (sp__law_take K A) [] E0 (tCons (tVar 0) (tCons (tOp rPow (tC (.int 10)) (tC (.int 9))) tNil)))) tNil)))))
def n__law_number : List Str := ["_law_bag_here"]
def sp__law_number (K : PySem.W.Frag) (A : Ads) : Sp := fun vs H Q _ => ∃ (b : Addr) (n : Nat), vs = [.ref b] ∧ Bag (n + 3) H b ∧ ∀ x p q H', Xb b H H' → Bag n H' b → NumAt H' x p q → p.natAbs ≤ 10 ^ 20 → q.natAbs ≤ 10 ^ 9 → Q x H'
theorem len__law_number {K : PySem.W.Frag} {A : Ads} {vs : List V} {H : Hp} {Q : VK} {E : XK} (h : sp__law_number K A vs H Q E) : vs.length = 1 := by
  obtain ⟨p, q, rfl, _⟩ := h
  rfl
theorem pure__law_number {K : PySem.W.Frag} {A : Ads} {vs : List V} {H : Hp} {Q : VK} {E : XK} (h : sp__law_number K A vs H Q E) : t__law_number K A E { nx := fun _ H' => Q .non H', rt := Q } (start n__law_number vs) H := by
  obtain ⟨b, n, rfl, hb, k⟩ := h
  walk_at "v"
  refine ⟨b, 3, n + 2, rfl, hb, by decide, by decide, fun d H1 d0 d1 x1 hb1 => ?_⟩
  walk_at "ii"; walk_at "v"
  refine iteD (fun h0 => ?_) (fun h0 => ?_)
  · walk_at "v"
    refine ⟨b, 11, n + 1, rfl, hb1, by decide, by decide, fun d2 H2 d3 d4 x2 hb2 => ?_⟩
    walk_at "ii"; walk_at "v"
    refine ⟨b, 3, n, rfl, hb2, by decide, by decide, fun d5 H3 d6 d7 x3 hb3 => ?_⟩
    walk_at "ii"
    refine ⟨d2 - 5, 1 + d5, rfl, by omega, by omega, fun x H4 s4 hn => ?_⟩
    have l1 := lowN_le (d2 - 5) (1 + d5) (by omega)
    have l2 := lowD_le (d2 - 5) (1 + d5) (by omega)
    exact k x _ _ H4 ((x1.trans x2).trans (x3.trans (Xb.of s4))) (hb3.same s4) hn (by omega) (by omega)
  · walk_at "v"; refine ⟨_, _, rfl, rfl, ⟨by decide, by decide, by decide⟩, ?_⟩
    refine ⟨_, _, rfl, rfl, wide_mul (a := 8) (b := 128) (by decide) (by decide) (by decide) (by decide) (by decide), ?_⟩
    walk_at "ii"
    refine ⟨b, _, n + 1, rfl, hb1, by decide, by decide, fun d2 H2 d3 d4 x2 hb2 => ?_⟩
    refine ⟨_, _, rfl, rfl, ⟨by decide, by decide, by decide⟩, ?_⟩
    walk_at "ii"; walk_at "v"
    refine ⟨_, _, rfl, rfl, ⟨by decide, by decide, by decide⟩, ?_⟩
    refine ⟨b, _, n, rfl, hb2, by decide, by decide, fun d5 H3 d6 d7 x3 hb3 => ?_⟩
    walk_at "ii"
    have e1 : (10 : Int) ^ (20 : Int).toNat = 100000000000000000000 := by decide
    have e2 : (10 : Int) ^ (9 : Int).toNat = 1000000000 := by decide
    rw [e1] at d4
    rw [e2] at d7
    refine ⟨d2 - 10 ^ (20 : Int).toNat, 1 + d5, rfl, by omega, by omega, fun x H4 s4 hn => ?_⟩
    rw [e1] at hn
    have l1 := lowN_le (d2 - 100000000000000000000) (1 + d5) (by omega)
    have l2 := lowD_le (d2 - 100000000000000000000) (1 + d5) (by omega)
    refine k x _ _ H4 ((x1.trans x2).trans (x3.trans (Xb.of s4))) (hb3.same s4) hn ?_ ?_
    · have : (10 : Nat) ^ 20 = 100000000000000000000 := by decide
      omega
    · have : (10 : Nat) ^ 9 = 1000000000 := by decide
      omega
/-! ### _law_pair, _law_order -/
def t__law_pair (K : PySem.W.Frag) (A : Ads) (E : XK) : TS :=
    (tRet (tIf (tB (tCB (rIsi K) (tCons (tVar 0) (tCons (tC (.ty "tuple")) tNil)))) (tVar 0) (tTup (tCons (tVar 0) (tCons (tC (.int 1)) tNil)))))
def n__law_pair : List Str := ["_law_value_here"]
def sp__law_pair (K : PySem.W.Frag) (A : Ads) : Sp := sp__over K A
theorem len__law_pair {K : PySem.W.Frag} {A : Ads} {vs : List V} {H : Hp} {Q : VK} {E : XK} (h : sp__law_pair K A vs H Q E) : vs.length = 1 := len__over h
theorem pure__law_pair {K : PySem.W.Frag} {A : Ads} {vs : List V} {H : Hp} {Q : VK} {E : XK} (h : sp__law_pair K A vs H Q E) : t__law_pair K A E { nx := fun _ H' => Q .non H', rt := Q } (start n__law_pair vs) H := by
  obtain ⟨x, p, q, rfl, hn, k⟩ := h
  rcases hn with ⟨rfl, rfl⟩ | ⟨a, rfl, ha, h2, hc⟩
  · walk_at "v"
    refine ⟨_, _, _, _, _, rfl, .ty _, ty_int, kit_ty (by decide +kernel : kitB "int" "tuple" = some false), ?_⟩
    walk_at "v"
    refine iteF ?_
    walk_at "v"
    refine ⟨by show 2 ≤ sizeLine; decide, fun t ht => ?_⟩
    exact k _ _ (Same.new ht) ⟨t, rfl, upd_same⟩
  · walk_at "v"
    refine ⟨_, _, _, _, _, rfl, .ty _, ty_tup ha, kit_ty (by decide +kernel : kitB "tuple" "tuple" = some true), ?_⟩
    walk_at "v"
    refine iteT ?_
    walk_at "v"
    exact k _ _ (Same.refl H) ⟨a, rfl, ha⟩
def t__law_order (K : PySem.W.Frag) (A : Ads) (E : XK) : TS :=
    (tSeq (tPar 2 3 (tCons (tCall (sp__law_pair K A) [] E0 (tCons (tVar 0) tNil)) (tCons (tCall (sp__law_pair K A) [] E0 (tCons (tVar 1) tNil)) tNil)))
    (tRet (tOp rSub (tOp rMulW (tOp (rIx K) (tVar 2) (tC (.int 0))) (tOp (rIx K) (tVar 3) (tC (.int 1)))) (tOp rMulW (tOp (rIx K) (tVar 3) (tC (.int 0))) (tOp (rIx K) (tVar 2) (tC (.int 1)))))))
def n__law_order : List Str := ["_law_one", "_law_other", "_law_left", "_law_right"]
def sp__law_order (K : PySem.W.Frag) (A : Ads) : Sp := fun vs H Q _ => ∃ (x y : V) (p q p' q' : Int), vs = [x, y] ∧ NumAt H x p q ∧ NumAt H y p' q' ∧ (p.natAbs < 2 ^ 9000 ∧ q.natAbs < 2 ^ 9000 ∧ p'.natAbs < 2 ^ 9000 ∧ q'.natAbs < 2 ^ 9000) ∧
  ∀ H', Same H H' → Q (.int (p * q' - p' * q)) H'
theorem len__law_order {K : PySem.W.Frag} {A : Ads} {vs : List V} {H : Hp} {Q : VK} {E : XK} (h : sp__law_order K A vs H Q E) : vs.length = 2 := by
  obtain ⟨x, y, p, q, p', q', rfl, _⟩ := h
  rfl
theorem pure__law_order {K : PySem.W.Frag} {A : Ads} {vs : List V} {H : Hp} {Q : VK} {E : XK} (h : sp__law_order K A vs H Q E) : t__law_order K A E { nx := fun _ H' => Q .non H', rt := Q } (start n__law_order vs) H := by
  obtain ⟨x, y, p, q, p', q', rfl, h1, h2, ⟨z1, z2, z3, z4⟩, k⟩ := h
  walk_at "v"
  refine ⟨_, _, _, rfl, h1, fun u H1 s1 hu => ?_⟩
  obtain ⟨a, rfl, ha⟩ := hu
  walk_at "v"
  refine ⟨_, _, _, rfl, h2.same s1, fun u2 H2 s2 hu2 => ?_⟩
  obtain ⟨a2, rfl, ha2⟩ := hu2
  have ha1 := s2 _ _ ha
  refine ⟨_, _, rfl, ?_⟩
  walk_at "v"; walk_at "ixT"; walk_at "v"; walk_at "ixT"; refine ⟨_, _, rfl, rfl, mulW0 z1 z4, ?_⟩
  walk_at "v"; walk_at "ixT"; walk_at "v"; walk_at "ixT"; refine ⟨_, _, rfl, rfl, mulW0 z3 z2, ?_⟩
  walk_at "ii"
  exact k H2 (Same.trans s1 s2)
/-! ### _law_same, _law_is_lowest -/
theorem dp_pair {K : PySem.W.Frag} {H : Hp} {a : Addr} {p q : Int} (h : H a = some (.tup [.int p, .int q])) : Dp K H (.ref a) (.tuple [.int p, .int q]) := .tup (SqT.of h) (.cons (.int p) (.cons (.int q) .nil))
theorem shaped_int (p : Int) : SeqAt.shaped (.int p) = true := rfl
theorem shaped_pair (p q : Int) : SeqAt.shaped (.tuple [.int p, .int q]) = true := by
  unfold SeqAt.shaped
  simp [PyData.canLay0, PyData.canLayAll0, PyData.depth, PyData.depthAll]
theorem NumAt.eqD {K : PySem.W.Frag} {H : Hp} {x y : V} {p q : Int} {Q : VK} (h1 : NumAt H x p q) (h2 : NumAt H y p q) (k : Q (.bl true) H) : rEqD K x y H Q := by
  rcases h1 with ⟨rfl, rfl⟩ | ⟨a, rfl, ha, h3, _⟩
  · rcases h2 with ⟨rfl, _⟩ | ⟨b, rfl, hb, h4, _⟩
    · refine ⟨_, _, .int p, .int p, shaped_int p, shaped_int p, ?_⟩
      have e : PyData.eqv (.int p) (.int p) = true := by simp [PyData.eqv]
      rw [e]; exact k
    · omega
  · rcases h2 with ⟨rfl, h4⟩ | ⟨b, rfl, hb, h4, _⟩
    · omega
    · refine ⟨_, _, dp_pair ha, dp_pair hb, shaped_pair p q, shaped_pair p q, ?_⟩
      have e : PyData.eqv (.tuple [.int p, .int q]) (.tuple [.int p, .int q]) = true := by simp [PyData.eqv, PyData.eqvAll]
      rw [e]; exact k
def t__law_same (K : PySem.W.Frag) (A : Ads) (E : XK) : TS :=
    (tSeq (tIfS (tNot (tB (tCB (rIsi K) (tCons (tVar 1) (tCons (tC (.ty "tuple")) tNil))))) (tRet (tAndV (tCall (sp__law_is_int K A) [] E0 (tCons (tVar 0) tNil)) (tOp (rEqD K) (tVar 0) (tVar 1)))) tNext)
    (tSeq (tIfS (tOr (tNot (tB (tCB (rIsi K) (tCons (tVar 0) (tCons (tC (.ty "tuple")) tNil))))) (tTest (tOp rNe (tCB (rLen K) (tCons (tVar 0) tNil)) (tC (.int 2))))) (tRet (tC (.bl false))) tNext)
    (tRet (tAndV (tCall (sp__law_is_int K A) [] E0 (tCons (tOp (rIx K) (tVar 0) (tC (.int 0))) tNil)) (tAndV (tCall (sp__law_is_int K A) [] E0 (tCons (tOp (rIx K) (tVar 0) (tC (.int 1))) tNil)) (tOp (rEqD K) (tVar 0) (tVar 1)))))))
def n__law_same : List Str := ["_law_actual", "_law_due"]
def sp__law_same (K : PySem.W.Frag) (A : Ads) : Sp := fun vs H Q _ => ∃ (x y : V) (p q : Int), vs = [x, y] ∧ NumAt H x p q ∧ NumAt H y p q ∧ ∀ H', Same H H' → Q (.bl true) H'
theorem len__law_same {K : PySem.W.Frag} {A : Ads} {vs : List V} {H : Hp} {Q : VK} {E : XK} (h : sp__law_same K A vs H Q E) : vs.length = 2 := by
  obtain ⟨x, y, p, q, rfl, _⟩ := h
  rfl
theorem pure__law_same {K : PySem.W.Frag} {A : Ads} {vs : List V} {H : Hp} {Q : VK} {E : XK} (h : sp__law_same K A vs H Q E) : t__law_same K A E { nx := fun _ H' => Q .non H', rt := Q } (start n__law_same vs) H := by
  obtain ⟨x, y, p, q, rfl, h1, h2, k⟩ := h
  have kk := k H (Same.refl H)
  have ee := fun {Q : VK} => NumAt.eqD (K := K) (Q := Q) h1 h2
  rcases h1 with ⟨rfl, rfl⟩ | ⟨a, rfl, ha, h3, _⟩
  · rcases h2 with ⟨rfl, _⟩ | ⟨b, rfl, hb, h4, _⟩
    · walk_at "v"
      refine ⟨_, _, _, _, _, rfl, .ty _, ty_int, kit_ty (by decide +kernel : kitB "int" "tuple" = some false), ?_⟩
      walk_at "v"
      show (if (!false) = true then _ else _)
      refine iteT ?_
      walk_at "v"
      refine ⟨_, _, rfl, ty_int, ⟨_, rfl, ?_⟩⟩
      refine iteT ?_
      walk_at "v"; walk_at "v"
      exact ee kk
    · omega
  · rcases h2 with ⟨rfl, h4⟩ | ⟨b, rfl, hb, h4, _⟩
    · omega
    · walk_at "v"
      refine ⟨_, _, _, _, _, rfl, .ty _, ty_tup hb, kit_ty (by decide +kernel : kitB "tuple" "tuple" = some true), ?_⟩
      walk_at "v"
      show (if (!true) = true then _ else _)
      refine iteF ?_
      walk_at "v"
      refine ⟨_, _, _, _, _, rfl, .ty _, ty_tup ha, kit_ty (by decide +kernel : kitB "tuple" "tuple" = some true), ?_⟩
      walk_at "v"
      show (if (!true) = true then _ else _)
      refine iteF ?_
      walk_at "v"
      refine ⟨_, _, rfl, .inr ⟨_, SqT.of ha, rfl⟩, ?_⟩
      refine ⟨rfl, ?_⟩
      walk_at "v"
      show (if (!decide (V.int 2 = V.int 2)) = true then _ else _)
      refine iteF ?_
      walk_at "v"; walk_at "ixT"
      refine ⟨_, _, rfl, ty_int, ⟨_, rfl, ?_⟩⟩
      refine iteT ?_
      walk_at "v"; walk_at "ixT"
      refine ⟨_, _, rfl, ty_int, ⟨_, rfl, ?_⟩⟩
      refine iteT ?_
      walk_at "v"; walk_at "v"
      exact ee kk
def t__law_is_lowest (K : PySem.W.Frag) (A : Ads) (E : XK) : TS :=
    (tSeq (tIfS (tB (tCall (sp__law_is_int K A) [] E0 (tCons (tVar 0) tNil))) (tRet (tC (.bl true))) tNext)
    (tSeq (tIfS (tOr (tNot (tB (tCB (rIsi K) (tCons (tVar 0) (tCons (tC (.ty "tuple")) tNil))))) (tOr (tTest (tOp rNe (tCB (rLen K) (tCons (tVar 0) tNil)) (tC (.int 2)))) (tOr (tNot (tB (tCall (sp__law_is_int K A) [] E0 (tCons (tOp (rIx K) (tVar 0) (tC (.int 0))) tNil)))) (tNot (tB (tCall (sp__law_is_int K A) [] E0 (tCons (tOp (rIx K) (tVar 0) (tC (.int 1))) tNil))))))) (tRet (tC (.bl false))) tNext)
    (tRet (tAndV (tOp rGt (tOp (rIx K) (tVar 0) (tC (.int 1))) (tC (.int 1))) (tOp (rEqD K) (tCall (sp__law_value K A) [] E0 (tCons (tOp (rIx K) (tVar 0) (tC (.int 0))) (tCons (tOp (rIx K) (tVar 0) (tC (.int 1))) tNil))) (tVar 0))))))
def n__law_is_lowest : List Str := ["_law_value_here"]
def sp__law_is_lowest (K : PySem.W.Frag) (A : Ads) : Sp := fun vs H Q _ => ∃ (x : V) (p q : Int), vs = [x] ∧ NumAt H x p q ∧ q.natAbs < 2 ^ 9000 ∧ ∀ H', Same H H' → Q (.bl true) H'
theorem len__law_is_lowest {K : PySem.W.Frag} {A : Ads} {vs : List V} {H : Hp} {Q : VK} {E : XK} (h : sp__law_is_lowest K A vs H Q E) : vs.length = 1 := by
  obtain ⟨x, p, q, rfl, _⟩ := h
  rfl
theorem pure__law_is_lowest {K : PySem.W.Frag} {A : Ads} {vs : List V} {H : Hp} {Q : VK} {E : XK} (h : sp__law_is_lowest K A vs H Q E) : t__law_is_lowest K A E { nx := fun _ H' => Q .non H', rt := Q } (start n__law_is_lowest vs) H := by
  obtain ⟨x, p, q, rfl, h1, hz, k⟩ := h
  have h0 := h1
  rcases h1 with ⟨rfl, rfl⟩ | ⟨a, rfl, ha, h3, hc⟩
  · walk_at "v"
    refine ⟨_, _, rfl, ty_int, ⟨_, rfl, ?_⟩⟩
    refine iteT ?_
    exact k H (Same.refl H)
  · walk_at "v"
    refine ⟨_, _, rfl, ty_tup ha, ⟨_, rfl, ?_⟩⟩
    refine iteF ?_
    walk_at "v"
    refine ⟨_, _, _, _, _, rfl, .ty _, ty_tup ha, kit_ty (by decide +kernel : kitB "tuple" "tuple" = some true), ?_⟩
    walk_at "v"
    show (if (!true) = true then _ else _)
    refine iteF ?_
    walk_at "v"
    refine ⟨_, _, rfl, .inr ⟨_, SqT.of ha, rfl⟩, ?_⟩
    refine ⟨rfl, ?_⟩
    walk_at "v"
    show (if (!decide (V.int 2 = V.int 2)) = true then _ else _)
    refine iteF ?_
    walk_at "v"; walk_at "ixT"
    refine ⟨_, _, rfl, ty_int, ⟨_, rfl, ?_⟩⟩
    show (if (!true) = true then _ else _)
    refine iteF ?_
    walk_at "v"; walk_at "ixT"
    refine ⟨_, _, rfl, ty_int, ⟨_, rfl, ?_⟩⟩
    show (if (!true) = true then _ else _)
    refine iteF ?_
    walk_at "v"; walk_at "ixT"; walk_at "ii"; walk_at "v"
    refine iteD (fun h5 => ?_) (fun h5 => absurd (by omega) h5)
    walk_at "v"; walk_at "ixT"; walk_at "v"; walk_at "ixT"
    obtain ⟨e1, e2⟩ := low_of_cop hc (by omega)
    refine ⟨p, q, rfl, by omega, hz, fun y H1 s1 hy => ?_⟩
    walk_at "v"
    rw [e1, e2] at hy
    exact NumAt.eqD hy (h0.same s1) (k H1 s1)
end Md

set_option Elab.async false
set_option linter.all false
set_option maxRecDepth 100000
set_option maxHeartbeats 4000000
set_option exponentiation.threshold 20000
namespace Md
open PySem PySem.Spec PyProof.Rows PySem.Calls L2
local macro_rules | `(tactic| walk_at "v") => `(tactic| refine ⟨_, rfl, ?_⟩)
local macro_rules | `(tactic| walk_at "fls") => `(tactic| (refine ⟨_, rfl, ?_⟩; show (if (!true) = true then _ else _); refine iteF ?_))
local macro_rules | `(tactic| walk_at "isnt") => `(tactic| (refine ⟨_, _, rfl, rfl, _, rfl, ?_⟩; refine iteN (fun _ => ?_) fun h => absurd rfl h))
local macro_rules | `(tactic| walk_at "ii") => `(tactic| refine ⟨_, _, rfl, rfl, ?_⟩)
local macro_rules | `(tactic| walk_at "ixL") => `(tactic| refine Or.inl ⟨_, _, _, _, rfl, rfl, SqL.of (by assumption), rfl, ?_⟩)
local macro_rules | `(tactic| walk_at "ixT") => `(tactic| refine Or.inr (Or.inl ⟨_, _, _, _, rfl, rfl, SqT.of (by assumption), rfl, ?_⟩))
/-! ### is_number -/
def pairB : V → V → Bool
  | .int p, .int q => decide (2 ≤ q) && decide (Nat.gcd p.natAbs q.natAbs = 1)
  | _, _ => false
def NumB (K : PySem.W.Frag) (H : Hp) (x : V) (r : Bool) : Prop := (∃ T, TyX K H x (.type T) ∧ T ≠ "tuple" ∧ r = isIntV x) ∨ (∃ a xs, x = .ref a ∧ H a = some (.tup xs) ∧ xs.length ≠ 2 ∧ r = false) ∨
  (∃ a u v T1 T2, x = .ref a ∧ H a = some (.tup [u, v]) ∧ TyX K H u (.type T1) ∧ TyX K H v (.type T2) ∧ r = pairB u v)
theorem kit_tup {K : PySem.W.Frag} {H : Hp} {x : V} {T : String} (ty : TyX K H x (.type T)) (hn : T ≠ "tuple") : kitB T "tuple" = some false := by
  cases ty with
  | base b => cases b <;> first | (exact absurd rfl hn) | decide +kernel
  | _ => first | (exact absurd rfl hn) | decide +kernel
theorem NumB.same {K : PySem.W.Frag} {H H' : Hp} {x : V} {r : Bool} (h : NumB K H x r) (s : Same H H') (ht : ∀ y T, TyX K H y (.type T) → TyX K H' y (.type T)) : NumB K H' x r := by
  rcases h with ⟨T, h1, h2⟩ | ⟨a, xs, e, ha, h⟩ | ⟨a, u, v, T1, T2, e, ha, h1, h2, h3⟩
  · exact .inl ⟨T, ht _ _ h1, h2⟩
  · exact .inr (.inl ⟨a, xs, e, s _ _ ha, h⟩)
  · exact .inr (.inr ⟨a, u, v, T1, T2, e, s _ _ ha, ht _ _ h1, ht _ _ h2, h3⟩)
theorem tyX_same {K : PySem.W.Frag} {H H' : Hp} {x : V} {T : String} (s : Same H H') (h : TyX K H x (.type T)) : TyX K H' x (.type T) := by
  cases h with
  | base b =>
    refine .base ?_
    cases b with
    | non => exact .non
    | bl b => exact .bl b
    | int b => exact .int b
    | str b => exact .str b
    | flt b => exact .flt b
    | lst e => exact .lst (s _ _ e)
    | frz e => exact .frz (s _ _ e)
    | tup e => exact .tup (s _ _ e)
    | dK e => exact .dK (s _ _ e)
    | dT e => exact .dT (s _ _ e)
  | byt b => exact .byt b
  | set e => exact .set (s _ _ e)
  | kList e c => exact .kList e c
  | kTuple e c => exact .kTuple e c
  | kDict e c => exact .kDict e c
  | fTuple e => exact .fTuple (s _ _ e)
  | fDict e => exact .fDict (s _ _ e)
theorem NumB.mono {K : PySem.W.Frag} {H H' : Hp} {x : V} {r : Bool} (h : NumB K H x r) (s : Same H H') : NumB K H' x r := h.same s fun _ _ t => tyX_same s t
def t_is_number (K : PySem.W.Frag) (A : Ads) (E : XK) : TS :=
    (tSeq (tIfS (tB (tCall (sp_is_whole K A) [] E0 (tCons (tVar 0) tNil))) (tRet (tC (.bl true))) tNext)
    (tSeq (tIfS (tOr (tNot (tB (tCB (rIsi K) (tCons (tVar 0) (tCons (tC (.ty "tuple")) tNil))))) (tTest (tOp rNe (tCB (rLen K) (tCons (tVar 0) tNil)) (tC (.int 2))))) (tRet (tC (.bl false))) tNext)
    (tSeq (tAsg (tVar 0) (gTup K 2 (gCons (gName 1) (gCons (gName 2) gNil))))
    (tRet (tAndV (tCall (sp_is_whole K A) [] E0 (tCons (tVar 1) tNil)) (tAndV (tCall (sp_is_whole K A) [] E0 (tCons (tVar 2) tNil)) (tAndV (tOp rGe (tVar 2) (tC (.int 2))) (tOp rEq (tCB rGcd (tCons (tVar 1) (tCons (tVar 2) tNil))) (tC (.int 1))))))))))
def n_is_number : List Str := ["thing", "top", "bottom"]
def sp_is_number (K : PySem.W.Frag) (A : Ads) : Sp := fun vs H Q _ => ∃ (x : V) (r : Bool), vs = [x] ∧ NumB K H x r ∧ Q (.bl r) H
theorem len_is_number {K : PySem.W.Frag} {A : Ads} {vs : List V} {H : Hp} {Q : VK} {E : XK} (h : sp_is_number K A vs H Q E) : vs.length = 1 := by
  obtain ⟨x, T, rfl, _⟩ := h
  rfl
theorem pure_is_number {K : PySem.W.Frag} {A : Ads} {vs : List V} {H : Hp} {Q : VK} {E : XK} (h : sp_is_number K A vs H Q E) : t_is_number K A E { nx := fun _ H' => Q .non H', rt := Q } (start n_is_number vs) H := by
  obtain ⟨x, r, rfl, hn, k⟩ := h
  rcases hn with ⟨T, ty, hT, rfl⟩ | ⟨a, xs, rfl, ha, hl, rfl⟩ | ⟨a, u, v, T1, T2, rfl, ha, t1, t2, rfl⟩
  · walk_at "v"
    refine ⟨_, _, rfl, ty, ⟨_, rfl, ?_⟩⟩
    refine iteB (fun h1 => ?_) (fun h1 => ?_)
    · rw [h1] at k
      exact k
    · walk_at "v"
      refine ⟨_, _, _, _, _, rfl, .ty _, ty, kit_ty (kit_tup ty hT), ?_⟩
      walk_at "v"
      show (if (!false) = true then _ else _)
      refine iteT ?_
      refine iteT ?_
      rw [h1] at k
      exact k
  · walk_at "v"
    refine ⟨_, _, rfl, ty_tup ha, ⟨_, rfl, ?_⟩⟩
    refine iteF ?_
    walk_at "v"
    refine ⟨_, _, _, _, _, rfl, .ty _, ty_tup ha, kit_ty (by decide +kernel : kitB "tuple" "tuple" = some true), ?_⟩
    walk_at "v"
    show (if (!true) = true then _ else _)
    refine iteF ?_
    walk_at "v"
    refine ⟨_, _, rfl, .inr ⟨_, SqT.of ha, rfl⟩, ?_⟩
    refine ⟨rfl, ?_⟩
    walk_at "v"
    refine iteN (fun h1 => ?_) (fun h1 => k)
    exact absurd (by have := V.int.inj h1; omega) hl
  · walk_at "v"
    refine ⟨_, _, rfl, ty_tup ha, ⟨_, rfl, ?_⟩⟩
    refine iteF ?_
    walk_at "v"
    refine ⟨_, _, _, _, _, rfl, .ty _, ty_tup ha, kit_ty (by decide +kernel : kitB "tuple" "tuple" = some true), ?_⟩
    walk_at "v"
    show (if (!true) = true then _ else _)
    refine iteF ?_
    walk_at "v"
    refine ⟨_, _, rfl, .inr ⟨_, SqT.of ha, rfl⟩, ?_⟩
    refine ⟨rfl, ?_⟩
    walk_at "v"
    refine iteN (fun _ => ?_) (fun h1 => absurd rfl h1)
    walk_at "v"
    refine ⟨a, _, rfl, SqT.of ha, rfl, _, _, rfl, _, _, rfl, rfl, ?_⟩
    walk_at "v"
    refine ⟨_, _, rfl, t1, ⟨_, rfl, ?_⟩⟩
    cases u with
    | int p =>
      refine iteT ?_
      walk_at "v"
      refine ⟨_, _, rfl, t2, ⟨_, rfl, ?_⟩⟩
      cases v with
      | int q =>
        refine iteT ?_
        walk_at "v"; walk_at "ii"; walk_at "v"
        refine iteD (fun h2 => ?_) (fun h2 => ?_)
        · walk_at "v"; walk_at "v"; refine ⟨_, _, rfl, ?_⟩; refine ⟨rfl, ?_⟩
          have e : decide (V.int ((Nat.gcd p.natAbs q.natAbs : Nat) : Int) = V.int 1) = pairB (.int p) (.int q) := by
            show _ = (decide (2 ≤ q) && decide (Nat.gcd p.natAbs q.natAbs = 1))
            rw [decide_eq_true h2, Bool.true_and]
            congr 1
            apply propext
            constructor
            · intro h; have := V.int.inj h; omega
            · intro h; rw [h]; rfl
          show Q (.bl (decide (V.int ((Nat.gcd p.natAbs q.natAbs : Nat) : Int) = V.int 1))) H
          rw [e]
          exact k
        · have e : pairB (.int p) (.int q) = false := by
            show (decide (2 ≤ q) && decide (Nat.gcd p.natAbs q.natAbs = 1)) = false
            rw [decide_eq_false (by omega)]
            rfl
          rw [e] at k
          exact k
      | _ => exact iteF k
    | _ => exact iteF k
/-! ### _law_of -/
def t__law_of (K : PySem.W.Frag) (A : Ads) (E : XK) : TS :=
    (tRet (tOp (rIx K) (tVar 1) (tCall (sp__law_take K A) [] E0 (tCons (tVar 0) (tCons (tCB (rLen K) (tCons (tVar 1) tNil)) tNil)))))
def n__law_of : List Str := ["_law_bag_here", "_law_some"]
def sp__law_of (K : PySem.W.Frag) (A : Ads) : Sp := fun vs H Q _ => ∃ (b : Addr) (n : Nat), Bag (n + 1) H b ∧
  ((∃ (l : Addr) (xs : List V), vs = [.ref b, .ref l] ∧ H l = some (.lst xs) ∧ l ≠ b ∧ 0 < xs.length ∧ xs.length ≤ 1000000 ∧ ∀ (i : Nat) x H', xs[i]? = some x → Xb b H H' → Bag n H' b → Q x H') ∨
   (∃ z : Str, vs = [.ref b, .str z] ∧ 0 < z.length ∧ z.length ≤ 1000000 ∧ ∀ c H', c ∈ z.cps.toList → Xb b H H' → Bag n H' b → Q (.str ⟨#[c]⟩) H'))
theorem len__law_of {K : PySem.W.Frag} {A : Ads} {vs : List V} {H : Hp} {Q : VK} {E : XK} (h : sp__law_of K A vs H Q E) : vs.length = 2 := by
  obtain ⟨b, n, _, h⟩ := h
  rcases h with ⟨l, xs, rfl, _⟩ | ⟨z, rfl, _⟩ <;> rfl
theorem atI_of {α : Type} {xs : List α} {d : Int} (h0 : 0 ≤ d) (h1 : d < xs.length) : ∃ x, atI xs d = some x ∧ xs[d.toNat]? = some x := by
  have h2 : d.toNat < xs.length := by omega
  refine ⟨xs[d.toNat], ?_, List.getElem?_eq_getElem h2⟩
  unfold atI ixN
  rw [if_pos h0, if_pos h1]
  exact List.getElem?_eq_getElem h2
theorem size_1e6 {n : Nat} (h : n ≤ 1000000) : n ≤ sizeLine := Nat.le_trans h (by decide)
theorem len_bits {n : Nat} (h : n ≤ 1000000) : ((n : Int)).natAbs < 2 ^ 9000 := Nat.lt_of_le_of_lt (show ((n : Int)).natAbs ≤ 1000000 by omega) (Nat.lt_of_lt_of_le (by decide : 1000000 < 2 ^ 20) (Nat.pow_le_pow_right (by decide) (by decide)))
theorem pure__law_of {K : PySem.W.Frag} {A : Ads} {vs : List V} {H : Hp} {Q : VK} {E : XK} (h : sp__law_of K A vs H Q E) : t__law_of K A E { nx := fun _ H' => Q .non H', rt := Q } (start n__law_of vs) H := by
  obtain ⟨b, n, hB, h⟩ := h
  rcases h with ⟨l, xs, rfl, hl, hn, h0, h1, k⟩ | ⟨z, rfl, h0, h1, k⟩
  · walk_at "v"; walk_at "v"; walk_at "v"
    refine ⟨_, _, rfl, .inl ⟨_, SqL.of hl, rfl⟩, ?_⟩
    refine ⟨b, _, n, rfl, hB, by omega, len_bits h1, fun d H1 d0 d1 x1 hB1 => ?_⟩
    obtain ⟨x, e1, e2⟩ := atI_of d0 d1
    refine Or.inl ⟨l, xs, d, x, rfl, rfl, SqL.of (x1 _ _ hn hl), e1, k _ x H1 e2 x1 hB1⟩
  · walk_at "v"; walk_at "v"; walk_at "v"
    refine ⟨.str z, _, rfl, ⟨size_1e6 h1, rfl⟩, ?_⟩
    refine ⟨b, _, n, rfl, hB, by omega, len_bits h1, fun d H1 d0 d1 x1 hB1 => ?_⟩
    have ez : z.length = z.cps.toList.length := by simp [Str.length]
    obtain ⟨x, e1, e2⟩ := atI_of (xs := z.cps.toList) d0 (by rw [← ez]; exact d1)
    refine Or.inr (Or.inr ⟨z, d, x, rfl, rfl, size_1e6 h1, e1, k x H1 (List.mem_of_getElem? e2) x1 hB1⟩)
theorem Same.sqL {K : PySem.W.Frag} {H H' : Hp} {a : Addr} {xs : List V} (e : Same H H') (h : SqL K H a xs) : SqL K H' a xs := Evl.ex_l e h
theorem SqL.xbN {K : PySem.W.Frag} {H H1 H2 : Hp} {a b : Addr} {xs : List V} (h : SqL K H a xs) (hb : H b = none) (s : Same H H1) (x : Xb b H1 H2) : SqL K H2 a xs := by
  rcases h with (h | ⟨o, h⟩) | h
  · exact .inl (.inl (x _ _ (ne_of_none h hb) (s _ _ h)))
  · exact .inl (.inr ⟨o, x _ _ (ne_of_none h hb) (s _ _ h)⟩)
  · exact .inr h
/-- the script, away from the draws' list -/
def ScrAt (K : PySem.W.Frag) (H : Hp) (a b : Addr) (xs : List V) : Prop := ∃ H0 H1, SqL K H0 a xs ∧ H0 b = none ∧ Same H0 H1 ∧ Xb b H1 H
theorem ScrAt.seq {K : PySem.W.Frag} {H : Hp} {a b : Addr} {xs : List V} (h : ScrAt K H a b xs) : SqL K H a xs := by
  obtain ⟨H0, H1, h1, h2, h3, h4⟩ := h
  exact SqL.xbN h1 h2 h3 h4
theorem ScrAt.xb {K : PySem.W.Frag} {H H' : Hp} {a b : Addr} {xs : List V} (h : ScrAt K H a b xs) (x : Xb b H H') : ScrAt K H' a b xs := by
  obtain ⟨H0, H1, h1, h2, h3, h4⟩ := h
  exact ⟨H0, H1, h1, h2, h3, h4.trans x⟩
end Md

set_option Elab.async false
set_option linter.all false
set_option maxRecDepth 100000
set_option maxHeartbeats 4000000
namespace Md
open PySem PySem.Spec PyProof.Rows PySem.Calls L2
local macro_rules | `(tactic| walk_at "v") => `(tactic| refine ⟨_, rfl, ?_⟩)
local macro_rules | `(tactic| walk_at "ii") => `(tactic| refine ⟨_, _, rfl, rfl, ?_⟩)
/-! ### words -/
def isL (c : Nat) : Bool := decide (c ∈ (Str.ofString "abcdefghijklmnopqrstuvwxyz").cps.toList)
def isWord (z : Str) : Bool := (decide (1 ≤ z.length) && decide (z.length ≤ 8)) && z.cps.toList.all isL
def WordB (K : PySem.W.Frag) (H : Hp) (x : V) (w : Bool) : Prop := (∃ T, TyX K H x (.type T) ∧ T ≠ "str" ∧ w = false) ∨ ∃ z : Str, x = .str z ∧ z.length ≤ 1000000 ∧ w = isWord z
theorem kit_str {K : PySem.W.Frag} {H : Hp} {x : V} {T : String} (ty : TyX K H x (.type T)) (hn : T ≠ "str") : kitB T "str" = some false := by
  cases ty with
  | base b => cases b <;> first | exact absurd rfl hn | decide +kernel
  | _ => first | exact absurd rfl hn | decide +kernel
def t_is_word (K : PySem.W.Frag) (A : Ads) (E : XK) : TS :=
    (tSeq (tIfS (tOr (tNot (tB (tCB (rIsi K) (tCons (tVar 0) (tCons (tC (.ty "str")) tNil))))) (tNot (tTest (tChain rLe rLe (tC (.int 1)) (tCB (rLen K) (tCons (tVar 0) tNil)) (tC (.int 8)))))) (tRet (tC (.bl false))) tNext)
    (tRet (tCB (rAll K) (tCons (tLc (iStr (tVar 0)) (gName 1) tYes (tOp rInS (tVar 1) (tC (.str "abcdefghijklmnopqrstuvwxyz"))) [1]) tNil))))
def n_is_word : List Str := ["thing", "letter"]
def sp_is_word (K : PySem.W.Frag) (A : Ads) : Sp := fun vs H Q _ => ∃ (x : V) (w : Bool), vs = [x] ∧ WordB K H x w ∧ ∀ H', Same H H' → Q (.bl w) H'
theorem len_is_word {K : PySem.W.Frag} {A : Ads} {vs : List V} {H : Hp} {Q : VK} {E : XK} (h : sp_is_word K A vs H Q E) : vs.length = 1 := by
  obtain ⟨x, w, rfl, _⟩ := h
  rfl
theorem pure_is_word {K : PySem.W.Frag} {A : Ads} {vs : List V} {H : Hp} {Q : VK} {E : XK} (h : sp_is_word K A vs H Q E) : t_is_word K A E { nx := fun _ H' => Q .non H', rt := Q } (start n_is_word vs) H := by
  obtain ⟨x, w, rfl, hw, k⟩ := h
  rcases hw with ⟨T, ty, hn, rfl⟩ | ⟨z, rfl, hz, rfl⟩
  · walk_at "v"
    refine ⟨_, _, _, _, _, rfl, .ty _, ty, kit_ty (kit_str ty hn), ?_⟩
    walk_at "v"
    show (if (!false) = true then _ else _)
    refine iteT ?_
    show (if true = true then _ else _)
    refine iteT ?_
    exact k H (Same.refl H)
  · have hz2 : z.length ≤ sizeLine := Nat.le_trans hz (by decide)
    walk_at "v"
    refine ⟨_, _, _, _, _, rfl, .ty _, .base (.str z), kit_ty (by decide +kernel : kitB "str" "str" = some true), ?_⟩
    walk_at "v"
    show (if (!true) = true then _ else _)
    refine iteF ?_
    walk_at "v"
    refine ⟨_, _, rfl, ⟨hz2, rfl⟩, ?_⟩
    refine ⟨_, _, rfl, rfl, ?_⟩
    refine ⟨_, rfl, ?_⟩
    refine iteD (fun h1 => ?_) (fun h1 => ?_)
    · walk_at "ii"
      refine ⟨_, rfl, ?_⟩
      refine iteN (fun h2 => ?_) (fun h2 => ?_)
      · walk_at "v"
        refine ⟨z, rfl, fun D hD => ?_⟩
        refine lc_it walk_str (fun i H' => Same H H' ∧ H' D = some (.lst ((z.cps.toList.take i).map fun c => V.bl (isL c)))) ⟨Same.new hD, upd_same⟩ (fun _ _ _ _ => True.intro) ?_ ?_
        · rintro i x H1 H1' hi ⟨s1, hl⟩ ⟨rfl, c, hc, rfl⟩
          refine ⟨rfl, ?_⟩
          walk_at "v"
          refine ⟨c, _, rfl, rfl, ?_⟩
          refine ⟨_, hl, ?_, ?_, ?_⟩
          · rw [List.length_map, List.length_take]
            have e : z.length = z.cps.size := rfl
            have e2 : z.cps.toList.length = z.cps.size := Array.length_toList
            omega
          · exact fun b o hb => by
              rw [upd_ne (ne_of_none hb hD)]
              exact s1 b o hb
          · rw [upd_same]
            have e : z.cps.toList[i]? = some c := by rw [Array.getElem?_toList]; exact hc
            rw [List.take_succ, e]
            simp [isL]
        · rintro H1 ⟨s1, hl⟩
          have e2 : z.cps.toList.take z.cps.size = z.cps.toList := List.take_of_length_le (by rw [Array.length_toList]; exact Nat.le_refl _)
          rw [e2] at hl
          refine ⟨D, z.cps.toList.map isL, rfl, SqL.of (by rw [List.map_map]; exact hl), ?_⟩
          have e3 : (z.cps.toList.map isL).all id = isWord z := by
            rw [List.all_map]
            unfold isWord
            rw [decide_eq_true (show 1 ≤ z.length by omega), decide_eq_true (show z.length ≤ 8 by omega)]
            simp
          rw [e3]
          exact k H1 s1
      · have e3 : isWord z = false := by
          unfold isWord
          rw [decide_eq_false (show ¬ z.length ≤ 8 by omega), Bool.and_false, Bool.false_and]
        rw [e3] at k
        exact k H (Same.refl H)
    · have e3 : isWord z = false := by
        unfold isWord
        rw [decide_eq_false (show ¬ 1 ≤ z.length by omega), Bool.false_and, Bool.false_and]
      rw [e3] at k
      refine ⟨_, rfl, ?_⟩
      show (if (!false) = true then _ else _)
      refine iteT ?_
      exact k H (Same.refl H)
/-! ### names -/
def kRES : List Str := ["and", "or", "not", "in", "given", "true", "false", "blank", "number", "word", "needs", "instead", "after", "blames", "check", "guard", "barrier", "repair", "default", "exit", "self"]
def kRESERVED : List V := kRES.map V.str
theorem inV_strs (z : Str) (xs : List Str) : inV (.str z) (xs.map V.str) = decide (z ∈ xs) := by
  unfold inV
  rw [List.any_map, Bool.eq_iff_iff, List.any_eq_true, decide_eq_true_eq]
  constructor
  · rintro ⟨y, hy, e⟩
    have e' : (y == z) = true := e
    rw [eq_of_beq e'] at hy
    exact hy
  · intro h
    exact ⟨z, h, (beq_self_eq_true z : (z == z) = true)⟩
theorem flat_strs (xs : List Str) : (xs.map V.str).all flatV = true := by
  rw [List.all_map, List.all_eq_true]
  intro x _
  rfl
theorem WordB.mono {K : PySem.W.Frag} {H H' : Hp} {x : V} {w : Bool} (h : WordB K H x w) (s : Same H H') : WordB K H' x w := by
  rcases h with ⟨T, ty, h⟩ | h
  · exact .inl ⟨T, tyX_same s ty, h⟩
  · exact .inr h
def NameW (K : PySem.W.Frag) (H : Hp) (u : V) (nm : Option Str) : Prop := (WordB K H u false ∧ nm = none) ∨ ∃ z : Str, u = .str z ∧ z.length ≤ 1000000 ∧ isWord z = true ∧ nm = if z ∈ kRES then none else some z
theorem NameW.mono {K : PySem.W.Frag} {H H' : Hp} {x : V} {w : Option Str} (h : NameW K H x w) (s : Same H H') : NameW K H' x w := by
  rcases h with ⟨h, e⟩ | h
  · exact .inl ⟨h.mono s, e⟩
  · exact .inr h
def t_is_name (K : PySem.W.Frag) (A : Ads) (E : XK) : TS :=
    (tRet (tAndV (tCall (sp_is_word K A) [] E0 (tCons (tVar 0) tNil)) (tOp (rIn K true) (tVar 0) (tC (.ref A.gRESERVED)))))
def n_is_name : List Str := ["thing"]
def sp_is_name (K : PySem.W.Frag) (A : Ads) : Sp := fun vs H Q _ => ∃ (x : V) (nm : Option Str), vs = [x] ∧ NameW K H x nm ∧ ∀ H', Same H H' → Q (.bl nm.isSome) H'
theorem len_is_name {K : PySem.W.Frag} {A : Ads} {vs : List V} {H : Hp} {Q : VK} {E : XK} (h : sp_is_name K A vs H Q E) : vs.length = 1 := by
  obtain ⟨x, w, rfl, _⟩ := h
  rfl
theorem pure_is_name {K : PySem.W.Frag} {A : Ads} (tb : ∀ H, SqT K H A.gRESERVED kRESERVED) {vs : List V} {H : Hp} {Q : VK} {E : XK} (h : sp_is_name K A vs H Q E) : t_is_name K A E { nx := fun _ H' => Q .non H', rt := Q } (start n_is_name vs) H := by
  obtain ⟨x, nm, rfl, hw, k⟩ := h
  walk_at "v"
  rcases hw with ⟨hw, rfl⟩ | ⟨z, rfl, hz, hw, rfl⟩
  · refine ⟨x, false, rfl, hw, fun H1 s1 => ?_⟩
    refine ⟨_, rfl, ?_⟩
    refine iteF ?_
    exact k H1 s1
  · refine ⟨.str z, true, rfl, .inr ⟨z, rfl, hz, hw.symm⟩, fun H1 s1 => ?_⟩
    refine ⟨_, rfl, ?_⟩
    refine iteT ?_
    walk_at "v"
    refine ⟨_, _, rfl, .inr (tb H1), rfl, flat_strs _, ?_⟩
    have e : (if true = true then !inV (V.str z) kRESERVED else inV (V.str z) kRESERVED) = (if z ∈ kRES then (none : Option Str) else some z).isSome := by
      rw [if_pos rfl]
      show (!inV (V.str z) (kRES.map V.str)) = _
      rw [inV_strs]
      by_cases c : z ∈ kRES
      · rw [decide_eq_true c, if_pos c]; rfl
      · rw [decide_eq_false c, if_neg c]; rfl
    rw [e]
    exact k H1 s1
/-! ### texts -/
def one (c : Nat) : Str := ⟨#[c]⟩
theorem glue_ones (a : Array Nat) : ∀ cs : List Nat, (cs.map one).foldl (fun acc p => acc ++ (#[] : Array Nat) ++ p.cps) a = a ++ cs.toArray
  | [] => by simp
  | c :: r => by
    rw [List.map_cons, List.foldl_cons, glue_ones]
    simp [one]
theorem join_ones (cs : List Nat) (h : cs ≠ []) : Txt.join "" (cs.map one) = ⟨cs.toArray⟩ := by
  cases cs with
  | nil => exact absurd rfl h
  | cons c r =>
    show (⟨(r.map one).foldl (fun acc p => acc ++ (#[] : Array Nat) ++ p.cps) (one c).cps⟩ : Str) = _
    rw [glue_ones]
    simp [one]
theorem ones_sum : ∀ cs : List Nat, ((cs.map one).map (·.length)).sum = cs.length
  | [] => rfl
  | c :: r => by
    rw [List.map_cons, List.map_cons, List.sum_cons, ones_sum r, List.length_cons]
    show 1 + r.length = _
    omega
theorem isWord_of {cs : List Nat} (h1 : 1 ≤ cs.length) (h8 : cs.length ≤ 8) (h : ∀ c ∈ cs, isL c = true) : isWord ⟨cs.toArray⟩ = true := by
  unfold isWord
  have e : (⟨cs.toArray⟩ : Str).length = cs.length := by show cs.toArray.size = _; simp
  rw [e, decide_eq_true h1, decide_eq_true h8]
  show cs.toArray.toList.all isL = true
  rw [List.toList_toArray]
  exact List.all_eq_true.mpr h
theorem word_all {z : Str} (h : isWord z = true) : 1 ≤ z.length ∧ z.length ≤ 8 ∧ ∀ c ∈ z.cps.toList, isL c = true := by
  unfold isWord at h
  obtain ⟨h1, h2⟩ := Bool.and_eq_true_iff.mp h
  obtain ⟨h3, h4⟩ := Bool.and_eq_true_iff.mp h1
  exact ⟨of_decide_eq_true h3, of_decide_eq_true h4, List.all_eq_true.mp h2⟩
theorem app_list (a b : Str) : (a ++ b).cps.toList = a.cps.toList ++ b.cps.toList := by
  show (a.cps ++ b.cps).toList = _
  exact Array.toList_append
theorem app_len (a b : Str) : (a ++ b).length = a.length + b.length := by
  show (a.cps ++ b.cps).size = _
  exact Array.size_append
theorem letters_small : ∀ c ∈ (Str.ofString "abcdefghijklmnopqrstuvwxyz").cps.toList, c < 0x110000 := by decide +kernel
theorem word_ok {z : Str} (h : isWord z = true) : PyData.strOk z = true := by
  have h3 := (word_all h).2.2
  show z.cps.all (· < 0x110000) = true
  rw [← Array.all_toList, List.all_eq_true]
  intro c hc
  exact decide_eq_true (letters_small c (of_decide_eq_true (h3 c hc)))
theorem dp_strs {K : PySem.W.Frag} {H : Hp} {a : Addr} {p q : Str} (h : SqT K H a [.str p, .str q]) : Dp K H (.ref a) (.tuple [.str p, .str q]) := .tup h (.cons (.str p) (.cons (.str q) .nil))
theorem shaped_strs {p q : Str} (hp : PyData.strOk p = true) (hq : PyData.strOk q = true) : SeqAt.shaped (.tuple [.str p, .str q]) = true := by
  unfold SeqAt.shaped
  simp [PyData.canLay0, PyData.canLayAll0, PyData.depth, PyData.depthAll, hp, hq]
theorem shaped_lst1 {p : Str} (hp : PyData.strOk p = true) : SeqAt.shaped (.list [.str p]) = true := by
  unfold SeqAt.shaped
  simp [PyData.canLay0, PyData.canLayAll0, PyData.depth, PyData.depthAll, hp]
theorem bad_app (z : Str) {w : Str} (h : w.cps.toList.all isL = false) : isWord (z ++ w) = false := by
  unfold isWord
  rw [app_list, List.all_append, h, Bool.and_false, Bool.and_false]
theorem bad_pre (z : Str) {w : Str} (h : w.cps.toList.all isL = false) : isWord (w ++ z) = false := by
  unfold isWord
  rw [app_list, List.all_append, h, Bool.false_and, Bool.and_false]
theorem bad_len {z : Str} (h : 8 < z.length) : isWord z = false := by
  unfold isWord
  rw [decide_eq_false (show ¬ z.length ≤ 8 by omega), Bool.and_false, Bool.false_and]
theorem upper_letters : ∀ c ∈ (Str.ofString "abcdefghijklmnopqrstuvwxyz").cps.toList, (Unicode.upperOf c).any (fun x => !isL x) = true := by decide +kernel
theorem bad_upper {z : Str} (h : isWord z = true) : isWord (Txt.upper z) = false := by
  obtain ⟨h1, h8, ha⟩ := word_all h
  cases hb : isWord (Txt.upper z) with
  | false => rfl
  | true =>
    obtain ⟨_, _, hu⟩ := word_all hb
    have h0 : 0 < z.cps.size := h1
    have hc := ha z.cps[0] (by simp)
    obtain ⟨x, hx, nx⟩ := List.any_eq_true.mp (upper_letters _ (of_decide_eq_true hc))
    have hm : x ∈ (Txt.upper z).cps.toList := by
      rw [Array.mem_toList_iff]
      show x ∈ (z.cps.mapIdx fun _ c => (Unicode.upperOf c).toArray).flatten
      refine Array.mem_flatten.mpr ⟨(Unicode.upperOf z.cps[0]).toArray, Array.mem_mapIdx.mpr ⟨0, h0, rfl⟩, by simpa using hx⟩
    have := hu x hm
    rw [this] at nx
    cases nx
theorem wordB_bad {K : PySem.W.Frag} {H : Hp} {z : Str} (hl : z.length ≤ 1000000) (h : isWord z = false) : WordB K H (.str z) false := .inr ⟨z, rfl, hl, h.symm⟩
theorem wordB_of {K : PySem.W.Frag} {H : Hp} {z : Str} (h : isWord z = true) : WordB K H (.str z) true := .inr ⟨z, rfl, by have := (word_all h).2.1; omega, h.symm⟩
theorem hu65 {A : Around} {k : Nat} (hr : Room k A) : A.units + 65 < cLine := by have := hr.un; omega
/-- x in a tuple, x a flat value, or any plain data -/
def rInT2 (K : PySem.W.Frag) : R2 := fun x y H Q => rIn K false x y H Q ∨ ∃ d ds, Dp K H x d ∧ Dp K H y (.tuple ds) ∧ SeqAt.shaped d = true ∧ SeqAt.shaped (.tuple ds) = true ∧ Q (.bl (ds.any fun z => PyData.eqv z d)) H
theorem op_inT2 {X : Cx} (hu : X.A.units + 65 < cLine) : OpR X (compareOp .In) (rInT2 X.K) := by
  intro pins s σ H x y v u Q I rx ry h
  rcases h with h | ⟨d, ds, hd, he, sd, se, q⟩
  · exact op_in_seq pins s σ H x y v u Q I rx ry h
  · obtain ⟨as, r1⟩ := Dp.reads I d x v hd rx
    obtain ⟨bs, r2⟩ := Dp.reads I (.tuple ds) y u he ry
    exact SeqAt.in_tuple_reads r2 r1 (SeqAt.canLay_of_shaped se) (SeqAt.canLay_of_shaped sd) (room_in_shaped sd hu) ⟨.bl _, H, I, rfl, q⟩
def rNotInT2 (K : PySem.W.Frag) : R2 := fun x y H Q => rIn K true x y H Q ∨ ∃ d ds, Dp K H x d ∧ Dp K H y (.tuple ds) ∧ SeqAt.shaped d = true ∧ SeqAt.shaped (.tuple ds) = true ∧ Q (.bl (!ds.any fun z => PyData.eqv z d)) H
theorem op_notInT2 {X : Cx} (hu : X.A.units + 65 < cLine) : OpR X (compareOp .NotIn) (rNotInT2 X.K) := by
  intro pins s σ H x y v u Q I rx ry h
  rcases h with h | ⟨d, ds, hd, he, sd, se, q⟩
  · exact op_notIn_seq pins s σ H x y v u Q I rx ry h
  · obtain ⟨as, r1⟩ := Dp.reads I d x v hd rx
    obtain ⟨bs, r2⟩ := Dp.reads I (.tuple ds) y u he ry
    exact SeqAt.notIn_tuple_reads r2 r1 (SeqAt.canLay_of_shaped se) (SeqAt.canLay_of_shaped sd) (room_in_shaped sd hu) ⟨.bl _, H, I, rfl, q⟩
/-- data among texts -/
def inD (ns : List Str) (d : PyData) : Bool := (ns.map PyData.str).any fun z => PyData.eqv z d
theorem inD_str (ns : List Str) (n : Str) : inD ns (.str n) = decide (n ∈ ns) := by
  unfold inD
  rw [List.any_map, Bool.eq_iff_iff, List.any_eq_true, decide_eq_true_eq]
  constructor
  · rintro ⟨y, hy, e⟩
    have e' : (y == n) = true := by simpa [PyData.eqv] using e
    rw [eq_of_beq e'] at hy
    exact hy
  · intro h
    exact ⟨n, h, by simp [PyData.eqv]⟩
theorem inD_true {ns : List Str} {d : PyData} (h : inD ns d = true) : ∃ n, d = .str n ∧ n ∈ ns := by
  unfold inD at h
  rw [List.any_map, List.any_eq_true] at h
  obtain ⟨y, hy, e⟩ := h
  cases d with
  | str z =>
    have e' : (y == z) = true := by simpa [PyData.eqv] using e
    rw [eq_of_beq e'] at hy
    exact ⟨z, rfl, hy⟩
  | _ => simp [PyData.eqv] at e
theorem dp_strAll {K : PySem.W.Frag} {H : Hp} : ∀ ns : List Str, DpAll K H (ns.map V.str) (ns.map PyData.str)
  | [] => .nil
  | n :: r => .cons (.str n) (dp_strAll r)
theorem dp_tupS {K : PySem.W.Frag} {H : Hp} {a : Addr} {ns : List Str} (h : SqT K H a (ns.map V.str)) : Dp K H (.ref a) (.tuple (ns.map PyData.str)) := .tup h (dp_strAll ns)
theorem dp_lstS {K : PySem.W.Frag} {H : Hp} {a : Addr} {ns : List Str} (h : SqL K H a (ns.map V.str)) : Dp K H (.ref a) (.list (ns.map PyData.str)) := .lst h (dp_strAll ns)
theorem lay_strs : ∀ ns : List Str, (∀ n ∈ ns, PyData.strOk n = true) → PyData.canLayAll0 (ns.map PyData.str) = true
  | [], _ => rfl
  | n :: r, h => by
    have h1 := h n List.mem_cons_self
    have h2 := lay_strs r fun m hm => h m (List.mem_cons_of_mem _ hm)
    simp [PyData.canLayAll0, PyData.canLay0, h1, h2]
theorem depth_strs : ∀ ns : List Str, PyData.depthAll (ns.map PyData.str) ≤ 1
  | [] => by simp [PyData.depthAll]
  | n :: r => by
    have := depth_strs r
    simp [PyData.depthAll, PyData.depth]
    try omega
theorem shaped_tupS {ns : List Str} (h : ∀ n ∈ ns, PyData.strOk n = true) : SeqAt.shaped (.tuple (ns.map PyData.str)) = true := by
  have h1 := lay_strs ns h
  have h2 := depth_strs ns
  unfold SeqAt.shaped
  simp [PyData.canLay0, PyData.depth, h1]
  try omega
theorem shaped_lstS {ns : List Str} (h : ∀ n ∈ ns, PyData.strOk n = true) : SeqAt.shaped (.list (ns.map PyData.str)) = true := by
  have h1 := lay_strs ns h
  have h2 := depth_strs ns
  unfold SeqAt.shaped
  simp [PyData.canLay0, PyData.depth, h1]
  try omega
theorem dp_str_inv {K : PySem.W.Frag} {H : Hp} {x : V} {n : Str} (h : Dp K H x (.str n)) : x = .str n := by
  cases h
  rfl
/-- a kind as it may be passed: a flat value, or a list of one word -/
def KindV (H : Hp) (v : V) : Prop := flatV v = true ∨ ∃ q w, v = .ref q ∧ H q = some (.lst [.str w]) ∧ isWord w = true
theorem KindV.mono {H H' : Hp} {v : V} (h : KindV H v) (s : Same H H') : KindV H' v := by
  rcases h with h | ⟨q, w, e, hq, hw⟩
  · exact .inl h
  · exact .inr ⟨q, w, e, s _ _ hq, hw⟩
/-! ### fields -/
def kindOf : V → Option Str
  | .str z => if z = "number" ∨ z = "word" then some z else none
  | _ => none
def FieldB (K : PySem.W.Frag) (H : Hp) (x : V) (r : Option (Str × Str)) : Prop := (∃ T, TyX K H x (.type T) ∧ T ≠ "tuple" ∧ r = none) ∨ (∃ a xs, x = .ref a ∧ H a = some (.tup xs) ∧ xs.length ≠ 2 ∧ r = none) ∨
  (∃ a u v nm, x = .ref a ∧ H a = some (.tup [u, v]) ∧ KindV H v ∧ NameW K H u nm ∧ r = nm.bind fun n => (kindOf v).map fun k => (n, k))
theorem FieldB.mono {K : PySem.W.Frag} {H H' : Hp} {x : V} {r : Option (Str × Str)} (h : FieldB K H x r) (s : Same H H') : FieldB K H' x r := by
  rcases h with ⟨T, ty, h⟩ | ⟨a, xs, e, ha, h⟩ | ⟨a, u, v, nm, e, ha, hf, hn, h⟩
  · exact .inl ⟨T, tyX_same s ty, h⟩
  · exact .inr (.inl ⟨a, xs, e, s _ _ ha, h⟩)
  · exact .inr (.inr ⟨a, u, v, nm, e, s _ _ ha, hf.mono s, hn.mono s, h⟩)
theorem in_kinds {v : V} (h : flatV v = true) : inV v [.str "number", .str "word"] = (kindOf v).isSome := by
  cases v with
  | str z =>
    show (inV (.str z) (([("number" : Str), "word"] : List Str).map V.str)) = _
    rw [inV_strs]
    show _ = (if z = "number" ∨ z = "word" then some z else none : Option Str).isSome
    by_cases c : z = "number" ∨ z = "word"
    · rw [if_pos c]; exact decide_eq_true (by simpa using c)
    · rw [if_neg c]; exact decide_eq_false (by simpa using c)
  | non => rfl
  | bl b => rfl
  | int i => rfl
  | _ => cases h
def t__is_field (K : PySem.W.Frag) (A : Ads) (E : XK) : TS :=
    (tRet (tAndV (tCB (rIsi K) (tCons (tVar 0) (tCons (tC (.ty "tuple")) tNil))) (tAndV (tOp rEq (tCB (rLen K) (tCons (tVar 0) tNil)) (tC (.int 2))) (tAndV (tCall (sp_is_name K A) [] E0 (tCons (tOp (rIx K) (tVar 0) (tC (.int 0))) tNil)) (tOp (rInT2 K) (tOp (rIx K) (tVar 0) (tC (.int 1))) (tTup (tCons (tC (.str "number")) (tCons (tC (.str "word")) tNil))))))))
def n__is_field : List Str := ["thing"]
def sp__is_field (K : PySem.W.Frag) (A : Ads) : Sp := fun vs H Q _ => ∃ (x : V) (r : Option (Str × Str)), vs = [x] ∧ FieldB K H x r ∧ ∀ H', Same H H' → Q (.bl r.isSome) H'
theorem len__is_field {K : PySem.W.Frag} {A : Ads} {vs : List V} {H : Hp} {Q : VK} {E : XK} (h : sp__is_field K A vs H Q E) : vs.length = 1 := by
  obtain ⟨x, w, rfl, _⟩ := h
  rfl
theorem pure__is_field {K : PySem.W.Frag} {A : Ads} {vs : List V} {H : Hp} {Q : VK} {E : XK} (h : sp__is_field K A vs H Q E) : t__is_field K A E { nx := fun _ H' => Q .non H', rt := Q } (start n__is_field vs) H := by
  obtain ⟨x, r, rfl, hf, k⟩ := h
  walk_at "v"
  rcases hf with ⟨T, ty, hn, rfl⟩ | ⟨a, xs, rfl, ha, hn, rfl⟩ | ⟨a, u, v, nm, rfl, ha, fv, hn, rfl⟩
  · refine ⟨_, _, _, _, _, rfl, .ty _, ty, kit_ty (kit_tup ty hn), ?_⟩
    refine ⟨_, rfl, ?_⟩
    exact iteF (k H (Same.refl H))
  · refine ⟨_, _, _, _, _, rfl, .ty _, ty_tup ha, kit_ty (by decide +kernel : kitB "tuple" "tuple" = some true), ?_⟩
    refine ⟨_, rfl, iteT ?_⟩
    walk_at "v"
    refine ⟨_, _, rfl, .inr ⟨xs, SqT.of ha, rfl⟩, ?_⟩
    refine ⟨rfl, ?_⟩
    refine ⟨_, rfl, ?_⟩
    refine iteD (fun h => ?_) (fun _ => k H (Same.refl H))
    exact absurd (by injection h with h; omega) hn
  · refine ⟨_, _, _, _, _, rfl, .ty _, ty_tup ha, kit_ty (by decide +kernel : kitB "tuple" "tuple" = some true), ?_⟩
    refine ⟨_, rfl, iteT ?_⟩
    walk_at "v"
    refine ⟨_, _, rfl, .inr ⟨_, SqT.of ha, rfl⟩, ?_⟩
    refine ⟨rfl, ?_⟩
    refine ⟨_, rfl, ?_⟩
    refine iteD (fun _ => ?_) (fun h => absurd rfl h)
    walk_at "v"
    refine Or.inr (Or.inl ⟨_, _, _, _, rfl, rfl, SqT.of ha, rfl, ?_⟩)
    refine ⟨u, nm, rfl, hn, fun H1 s1 => ?_⟩
    refine ⟨_, rfl, ?_⟩
    cases nm with
    | none =>
      refine iteF ?_
      exact k H1 s1
    | some n =>
      refine iteT ?_
      walk_at "v"
      refine Or.inr (Or.inl ⟨_, _, _, _, rfl, rfl, SqT.of (s1 _ _ ha), rfl, ?_⟩)
      refine ⟨by show 2 ≤ sizeLine; decide, fun t ht => ?_⟩
      rcases fv with fv | ⟨q, w, rfl, hq, hw⟩
      · refine .inl ⟨t, _, rfl, .inr (SqT.of upd_same), fv, rfl, ?_⟩
        show Q (.bl (inV v [.str "number", .str "word"])) _
        rw [in_kinds fv]
        have e : (kindOf v).isSome = ((some n).bind fun n => (kindOf v).map fun k => (n, k)).isSome := by cases kindOf v <;> rfl
        rw [e]
        exact k _ (Same.trans s1 (Same.new ht))
      · have st := Same.new (o := .tup [.str "number", .str "word"]) ht
        refine .inr ⟨.list [.str w], [.str "number", .str "word"], .lst (SqL.of (st _ _ (s1 _ _ hq))) (.cons (.str w) .nil), .tup (SqT.of upd_same) (.cons (.str _) (.cons (.str _) .nil)), shaped_lst1 (word_ok hw), by decide +kernel, ?_⟩
        have e : ([PyData.str "number", PyData.str "word"].any fun z => PyData.eqv z (.list [.str w])) = false := by simp [PyData.eqv]
        rw [e]
        exact k _ (Same.trans s1 st)
end Md

set_option Elab.async false
set_option linter.all false
set_option maxRecDepth 100000
set_option maxHeartbeats 4000000
/-! own operators: ==, !=, in, not in by the methods of a plain class -/
namespace Md
open PySem PySem.Spec PyProof.Rows PySem.Calls L2
/-- the type of a class's objects is found -/
structure TyC (K : PySem.W.Frag) (C : Addr) : Prop where
  ha : PySem.W.findIn K (.ref C) "__class__" = some (some (.builtin "object.__class__"))
  hn : PySem.W.specialIn K (.builtin "object.__class__") "__get__" = some (some (.builtin "getset_descriptor.__get__"))
  htk : PySem.W.takesIn K (.builtin "object.__class__") = some true
  hm : PySem.W.mroIn K C (.type "object") = some true
  kc : ((PySem.W.clsIn K C).isSome && PySem.W.typeIn K (.ref C) == some (.type "type")) = true
def tycB (K : PySem.W.Frag) (C : Addr) : Bool := decide (PySem.W.findIn K (.ref C) "__class__" = some (some (.builtin "object.__class__"))) && (decide (PySem.W.specialIn K (.builtin "object.__class__") "__get__" = some (some (.builtin "getset_descriptor.__get__"))) &&
  (decide (PySem.W.takesIn K (.builtin "object.__class__") = some true) && (decide (PySem.W.mroIn K C (.type "object") = some true) && ((PySem.W.clsIn K C).isSome && PySem.W.typeIn K (.ref C) == some (.type "type")))))
theorem tycB_ok {K : PySem.W.Frag} {C : Addr} (h : tycB K C = true) : TyC K C := by
  obtain ⟨h1, h⟩ := Bool.and_eq_true_iff.mp h
  obtain ⟨h2, h⟩ := Bool.and_eq_true_iff.mp h
  obtain ⟨h3, h⟩ := Bool.and_eq_true_iff.mp h
  obtain ⟨h4, h5⟩ := Bool.and_eq_true_iff.mp h
  exact ⟨of_decide_eq_true h1, of_decide_eq_true h2, of_decide_eq_true h3, of_decide_eq_true h4, h5⟩
def isTyV : Value → Bool
  | .type _ => true
  | _ => false
/-- a built-in type whose line holds built-in types alone -/
def offB (T : String) : Bool := match PySem.fastBuiltinMro T with
  | some l => l.all isTyV
  | none => false
theorem off_sub {K : PySem.W.Frag} {T : String} (h : offB T = true) (C : Addr) : PySem.W.subIn K (.type T) (.ref C) = some false := by
  unfold offB at h
  show (PySem.fastBuiltinMro T).map (·.contains (.ref C)) = some false
  split at h
  · rename_i l e
    rw [e]
    show some (l.contains (.ref C)) = some false
    congr 1
    cases c : l.contains (Value.ref C) with
    | false => rfl
    | true =>
      have hm := List.contains_iff_mem.mp c
      have := List.all_eq_true.mp h _ hm
      cases this
  · cases h
theorem TyC.off {K : PySem.W.Frag} {C : Addr} (t : TyC K C) {T : String} (h : offB T = true) : PySem.W.kitOne K (.type T) (.ref C) = some false := by
  unfold PySem.W.kitOne
  rw [if_neg (by simp)]
  show (if _ then PySem.W.subIn K (.type T) (.ref C) else none) = _
  rw [if_pos t.kc]
  exact off_sub h C
theorem TyC.self {K : PySem.W.Frag} {C : Addr} : PySem.W.kitOne K (.ref C) (.ref C) = some true := by
  unfold PySem.W.kitOne
  rw [if_pos (by simp)]
theorem nf_off {K : PySem.W.Frag} {C : Addr} {T : String} (h : offB T = true) : PySem.W.notFirst K C (.type T) = true := by
  unfold PySem.W.notFirst
  rw [off_sub h C]
  simp
theorem nf_self {K : PySem.W.Frag} {C : Addr} : PySem.W.notFirst K C (.ref C) = true := by
  unfold PySem.W.notFirst
  simp
theorem off_list : offB "list" = true := by decide +kernel
theorem off_tuple : offB "tuple" = true := by decide +kernel
theorem off_str : offB "str" = true := by decide +kernel
theorem off_none : offB "NoneType" = true := by decide +kernel
theorem off_dict : offB "dict" = true := by decide +kernel
theorem off_int : offB "int" = true := by decide +kernel
theorem off_bool : offB "bool" = true := by decide +kernel
theorem TyC.ty {K : PySem.W.Frag} {C a dx : Addr} {H : Hp} {fs : List (Str × V)} (t : TyC K C) (cl : Cls K C) (e : H a = some (.ins C dx fs)) : TyX K H (.ref a) (.ref C) := .base (.ins e cl t.ha t.hn t.htk t.hm)
/-- no __ne__ of its own -/
def NeC (K : PySem.W.Frag) (C : Addr) : Prop := PySem.W.findIn K (.ref C) "__ne__" = some (some (.builtin "object.__ne__"))
def necB (K : PySem.W.Frag) (C : Addr) : Bool := decide (PySem.W.findIn K (.ref C) "__ne__" = some (some (.builtin "object.__ne__"))) && decide (PySem.W.mroIn K C (.type "object") = some true)
theorem necB_ok {K : PySem.W.Frag} {C : Addr} (h : necB K C = true) : NeC K C := by
  unfold NeC
  exact of_decide_eq_true (Bool.and_eq_true_iff.mp h).1
def rEqO (K : PySem.W.Frag) (C : Addr) (sp : Sp) (E : XK) : R2 := fun x y H Q => ∃ a dx fs t, x = .ref a ∧ H a = some (.ins C dx fs) ∧ TyX K H y t ∧ PySem.W.notFirst K C t = true ∧ sp [.ref a, y] H (fun v H1 => ∃ b, v = .bl b ∧ Q (.bl b) H1) E
def rNeO (K : PySem.W.Frag) (C : Addr) (sp : Sp) (E : XK) : R2 := fun x y H Q => ∃ a dx fs t, x = .ref a ∧ H a = some (.ins C dx fs) ∧ TyX K H y t ∧ PySem.W.notFirst K C t = true ∧ sp [.ref a, y] H (fun v H1 => ∃ b, v = .bl b ∧ Q (.bl (!b)) H1) E
/-- x in o -/
def rInO (C : Addr) (sp : Sp) (E : XK) : R2 := fun x y H Q => ∃ a dx fs, y = .ref a ∧ H a = some (.ins C dx fs) ∧ sp [.ref a, x] H (fun v H1 => ∃ b, v = .bl b ∧ Q (.bl b) H1) E
def rNotInO (C : Addr) (sp : Sp) (E : XK) : R2 := fun x y H Q => ∃ a dx fs, y = .ref a ∧ H a = some (.ins C dx fs) ∧ sp [.ref a, x] H (fun v H1 => ∃ b, v = .bl b ∧ Q (.bl (!b)) H1) E
section
variable {X : Cx} {k j : Nat} {C : Addr} {sp : Sp} {E : XK}
theorem op_eqO (c : Mt X.prog X.w X.K X.mg X.base k C "__eq__" sp) (hr : Room j X.A) (hk : k ≤ j) (hx : Passes (L2N.CX X.prog X.w) X E) : OpR X (compareOp .Eq) (rEqO X.K C sp E) := by
  intro pins s σ H x y v u Q I rx ry h
  obtain ⟨a, dx, fs, t, rfl, ha, ty, hn, q⟩ := h
  obtain rfl : v = .ref a := rx
  obtain ⟨P, Z, p, _⟩ := kit_of I ry ty
  obtain ⟨f, fd, ps, c1, hm, F, b⟩ := c.ex
  obtain ⟨mA, O, _, _, _, _⟩ := ins_get I.hok ha
  obtain ⟨od, J, _⟩ := O.look
  obtain ⟨m, Fr⟩ := I.fr
  refine PySem.W.cmp_ofEq (PySem.W.cmp_K (by have := hr.un; omega) Fr I.ok.mod.kin J (Z.ty _ _ I.kIn p) hn hm.at_ hm.fn ?_)
  have hl : ([Value.ref a, u] ++ []).length = ps.length := by
    have e := F.len _ _ _ _ q
    rw [← e]
    rfl
  refine wpAny_call (codeAny_mono (F.run X.A X.stack s H ⟨[.ref a, u], []⟩ [.ref a, u] [.ref a, y] _ E (hr.mono hk) I.env0 (b s [.ref a, u] I.kIn hl) (.cons rfl (.cons ry .nil)) q) fun r s' hq => ?_)
  cases r with
  | error e => exact hx pins σ H s e s' I hq
  | ok fl =>
    cases fl with
    | ret u =>
      obtain ⟨v, H', I3, rv, b, rfl, q3⟩ := I.after hq
      obtain rfl : u = .bool b := rv
      exact ⟨.bl b, H', I3, rfl, q3⟩
    | next => exact False.elim hq
    | brk => exact False.elim hq
    | cont => exact False.elim hq
theorem ne_bind (self : Value) : bindSpecial (.builtin "object.__ne__") self = pure (.builtin "object.__ne__", [self]) :=
  (Slot.of (T := "object") (name := "__ne__") (owner := "object") (n := "__ne__") (by rw [typeLookup_type, builtinLookup_eq_fast]; kernel_rfl) (by decide +kernel) (by decide +kernel) (by decide +kernel)
    (.inl (by decide +kernel)) (by rw [isSubtype_type]; kernel_rfl)).bind self
theorem ne_plain : plainId "object.__ne__" = true := by decide +kernel
theorem ifBound_B {K : PySem.W.Frag} {M : Model} {A : Around} {E : Value → Shared → Prop} {s : Shared} {x C : Addr} {ox : Obj} {od : Option Obj} {name : Str} {id : String} {args : List Value} {Q : Option Value → Shared → Prop} (X : K.In s.heap) (I : PySem.W.InstAt s.heap x ox C od)
    (hs : PySem.W.findIn K (.ref C) name = some (some (.builtin id))) (hb : bindSpecial (.builtin id) (.ref x) = pure (.builtin id, [.ref x]))
    (h : wpAny M A (call (.builtin id) (.ref x :: args)) (fun v => Q (some v)) E s) : wpAny M A (callSpecialIfBound? (.ref x) name args) Q E s := by
  simp only [callSpecialIfBound?, bindSpecialIfBound?]
  refine wpAny_holding (wpAny_bind (wpAny_bind (wpAny_bind (I.type.here ((PySem.W.looks_findIn X hs).here ?_)))))
  refine wpAny_bind (wpAny_askSetting (wpAny_ite ?_))
  have fin : wpAny M A (call (.builtin id) ([.ref x] ++ args) >>= fun v => pure (some v)) Q E s := wpAny_bind (wpAny_mono h (fun v s' h' => wpAny_pure h') fun _ _ h' => h')
  rw [hb]
  split
  · exact wpAny_bind (wpAny_pure (wpAny_pure (by exact fin)))
  · exact wpAny_tryCatch (wpAny_bind (wpAny_pure (wpAny_pure (by exact fin))))
theorem ne_K {prog : Program} {w : World} {A : Around} {E : Value → Shared → Prop} {s : Shared} {K : PySem.W.Frag} {x C L f : Addr} {h₀ : Heap} {m : Str → Option Value} {ox : Obj} {od : Option Obj} {b tb : Value} {Q : Value → Shared → Prop}
    (hu : A.units + 1 < cLine) (Fr0 : Fr h₀ L s.heap m) (X₀ : K.In h₀) (I : PySem.W.InstAt s.heap x ox C od) (hb : PySem.W.Looks (model prog w) s.heap (typeOf b) tb) (hn : PySem.W.notFirst K C tb = true)
    (nc : NeC K C) (ho : PySem.W.mroIn K C (.type "object") = some true) (hs : PySem.W.findIn K (.ref C) "__eq__" = some (some (.ref f))) (hf : PySem.W.isFn K (.ref f) = true)
    (h : wpAny (model prog w) A.in1 (call (.ref f) [.ref x, b]) (fun v s' => ∃ r, v = .bool r ∧ Q (.bool (!r)) s') E s) : wpAny (model prog w) A (richCompare .NotEq (.ref x) b) Q E s := by
  have X := X₀.keeps Fr0.keep
  have one : wpAny (model prog w) A (tryCompare (.ref x) "__ne__" b) (fun r s' => ∃ v, r = some v ∧ Q v s') E s := by
    have hu1 : A.in1.units < cLine := hu
    unfold tryCompare
    refine wpAny_bind (ifBound_B X I nc (ne_bind _) (wpAny_call (codeAny_call_builtin ne_plain F.cmpEntry_ne
      (PySem.W.check_slot F.cmpKind_ne F.cmpSplit_ne (I.type.andThen (PySem.W.looks_subIn X ho)) (F.cmpArgs_ne _ _) ?_))))
    unfold Builtin.«object.__ne__»
    repeat (first
      | with_reducible refine wpAny_cRoomFor hu1 ?_
      | (refine wpAny_bind (m := callSpecialIfBound? (.ref x) (Str.ofString "__eq__") [b])
          (PySem.W.ifBound_K X I hs hf (wpAny_mono h (fun r s' hr => by
            obtain ⟨r, rfl, hq⟩ := hr
            repeat (first | exact wpAny_truthy_bool (wpAny_pure (wpAny_pure ⟨_, rfl, hq⟩)) | (refine wpAny_bind (m := truthy (.bool _)) (wpAny_truthy_bool ?_)) | exact wpAny_pure ⟨_, rfl, hq⟩ | exact ⟨_, rfl, hq⟩ | wp_step)) fun _ _ e => e)))
      | wp_step)
  unfold richCompare
  simp only [oneThing_ref]
  refine wpAny_holding (wpAny_bind (wpAny_cRoomFor (by omega) ?_))
  refine wpAny_bind (I.type.here (wpAny_bind (hb.here ?_)))
  split
  · rename_i q
    have e : PySem.W.subIn K tb (.ref C) = some false := by
      rcases Bool.or_eq_true_iff.mp hn with e | e
      · rw [beq_iff_eq.mp e] at q; simp at q
      · exact beq_iff_eq.mp e
    refine wpAny_bind ((PySem.W.looks_subIn X e).here ?_)
    simp only [Bool.false_eq_true, if_false]
    refine wpAny_bind (wpAny_mono one (fun r s' z => ?_) fun _ _ e => e)
    obtain ⟨v, rfl, hq⟩ := z
    exact wpAny_pure hq
  · refine wpAny_bind (wpAny_pure ?_)
    simp only [Bool.false_eq_true, if_false]
    refine wpAny_bind (wpAny_mono one (fun r s' z => ?_) fun _ _ e => e)
    obtain ⟨v, rfl, hq⟩ := z
    exact wpAny_pure hq
theorem op_neO (c : Mt X.prog X.w X.K X.mg X.base k C "__eq__" sp) (nc : NeC X.K C) (tc : TyC X.K C) (hr : Room j X.A) (hk : k + 1 ≤ j) (hx : Passes (L2N.CX X.prog X.w) X E) : OpR X (compareOp .NotEq) (rNeO X.K C sp E) := by
  intro pins s σ H x y v u Q I rx ry h
  obtain ⟨a, dx, fs, t, rfl, ha, ty, hn, q⟩ := h
  obtain rfl : v = .ref a := rx
  obtain ⟨P, Z, p, _⟩ := kit_of I ry ty
  obtain ⟨f, fd, ps, c1, hm, F, b⟩ := c.ex
  obtain ⟨mA, O, _, _, _, _⟩ := ins_get I.hok ha
  obtain ⟨od, J, _⟩ := O.look
  obtain ⟨m, Fr⟩ := I.fr
  refine PySem.W.cmp_ofNotEq (ne_K (by have := hr.un; omega) Fr I.ok.mod.kin J (Z.ty _ _ I.kIn p) hn nc tc.hm hm.at_ hm.fn ?_)
  have hl : ([Value.ref a, u] ++ []).length = ps.length := by
    have e := F.len _ _ _ _ q
    rw [← e]
    rfl
  refine wpAny_call (codeAny_mono (F.run X.A.in1 X.stack s H ⟨[.ref a, u], []⟩ [.ref a, u] [.ref a, y] _ E (hr.mono hk).in1 I.env0.in1 (b s [.ref a, u] I.kIn hl) (.cons rfl (.cons ry .nil)) q) fun r s' hq => ?_)
  cases r with
  | error e => exact hx pins σ H s e s' I hq
  | ok fl =>
    cases fl with
    | ret u =>
      obtain ⟨v, H', I3, rv, b, rfl, q3⟩ := I.after hq
      obtain rfl : u = .bool b := rv
      exact ⟨b, rfl, ⟨.bl (!b), H', I3, rfl, q3⟩⟩
    | next => exact False.elim hq
    | brk => exact False.elim hq
    | cont => exact False.elim hq
theorem op_inO (c : Mt X.prog X.w X.K X.mg X.base k C "__contains__" sp) (hr : Room j X.A) (hk : k ≤ j) (hx : Passes (L2N.CX X.prog X.w) X E) : OpR X (compareOp .In) (rInO C sp E) := by
  intro pins s σ H x y v u Q I rx ry h
  obtain ⟨a, dx, fs, rfl, ha, q⟩ := h
  obtain rfl : u = .ref a := ry
  obtain ⟨f, fd, ps, c1, hm, F, b⟩ := c.ex
  obtain ⟨mA, O, _, _, _, _⟩ := ins_get I.hok ha
  obtain ⟨od, J, _⟩ := O.look
  obtain ⟨m, Fr⟩ := I.fr
  refine PySem.W.in_K Fr I.ok.mod.kin J hm.at_ hm.fn ?_
  have hl : ([Value.ref a, v] ++ []).length = ps.length := by
    have e := F.len _ _ _ _ q
    rw [← e]
    rfl
  refine wpAny_call (codeAny_mono (F.run X.A X.stack s H ⟨[.ref a, v], []⟩ [.ref a, v] [.ref a, x] _ E (hr.mono hk) I.env0 (b s [.ref a, v] I.kIn hl) (.cons rfl (.cons rx .nil)) q) fun r s' hq => ?_)
  cases r with
  | error e => exact hx pins σ H s e s' I hq
  | ok fl =>
    cases fl with
    | ret u =>
      obtain ⟨v, H', I3, rv, b, rfl, q3⟩ := I.after hq
      obtain rfl : u = .bool b := rv
      exact wpAny_truthy_bool ⟨.bl b, H', I3, rfl, q3⟩
    | next => exact False.elim hq
    | brk => exact False.elim hq
    | cont => exact False.elim hq
theorem op_notInO (c : Mt X.prog X.w X.K X.mg X.base k C "__contains__" sp) (hr : Room j X.A) (hk : k ≤ j) (hx : Passes (L2N.CX X.prog X.w) X E) : OpR X (compareOp .NotIn) (rNotInO C sp E) := by
  intro pins s σ H x y v u Q I rx ry h
  obtain ⟨a, dx, fs, rfl, ha, q⟩ := h
  obtain rfl : u = .ref a := ry
  obtain ⟨f, fd, ps, c1, hm, F, b⟩ := c.ex
  obtain ⟨mA, O, _, _, _, _⟩ := ins_get I.hok ha
  obtain ⟨od, J, _⟩ := O.look
  obtain ⟨m, Fr⟩ := I.fr
  refine PySem.W.notIn_K Fr I.ok.mod.kin J hm.at_ hm.fn ?_
  have hl : ([Value.ref a, v] ++ []).length = ps.length := by
    have e := F.len _ _ _ _ q
    rw [← e]
    rfl
  refine wpAny_call (codeAny_mono (F.run X.A X.stack s H ⟨[.ref a, v], []⟩ [.ref a, v] [.ref a, x] _ E (hr.mono hk) I.env0 (b s [.ref a, v] I.kIn hl) (.cons rfl (.cons rx .nil)) q) fun r s' hq => ?_)
  cases r with
  | error e => exact hx pins σ H s e s' I hq
  | ok fl =>
    cases fl with
    | ret u =>
      obtain ⟨v, H', I3, rv, b, rfl, q3⟩ := I.after hq
      obtain rfl : u = .bool b := rv
      exact wpAny_truthy_bool ⟨.bl (!b), H', I3, rfl, q3⟩
    | next => exact False.elim hq
    | brk => exact False.elim hq
    | cont => exact False.elim hq
end
/-! methods called in a try -/
def tMethW (C : Addr) (m : Str) (sp : Sp) (E : L2.St → XK) (ta : TE) (t : TA) : TE := fun σ H Q => ta σ H fun x H1 => ∃ a dx fs, x = .ref a ∧ H1 a = some (.ins C dx fs) ∧ fs.lookup m = none ∧ t σ H1 fun vs H2 => sp (x :: (vs ++ [])) H2 Q (E σ)
theorem pe_mtS {X : Cx} {k j : Nat} {C : Addr} {sp : Sp} {W : WX} {m : Str} {pos apos : Pos} {e o : Expr} {es : List Expr} {ta : TE} {t : TA} {pl : Sem Bool} (c : Mt X.prog X.w X.K X.mg X.base k C m sp) (hr : Room j X.A) (hk : k ≤ j)
    (hx : ∀ σ, PassesAt (L2N.CX X.prog X.w) X σ (WE W σ)) (he : PE X o ta) (ha : PA X (e :: es) t) (hst : starEach (e :: es) X.env = (false, eval e X.env) :: starEach es X.env := by rfl) (hpl : (backTo pos (starEach es X.env)).any (·.1) = false := by rfl)
    (ht : eval (.Call (.Attribute o m apos) (e :: es) [] pos) X.env = (do
      let ov ← eval o X.env
      standAt apos.atName
      let (f, first) ← holding [ov] (getMethod ov m pl)
      callWith pos f first (backTo pos (starEach (e :: es) X.env)) (backToKw pos (keywordEach [] X.env))) := by rfl) :
    PE X (.Call (.Attribute o m apos) (e :: es) [] pos) (tMethW C m sp (WE W) ta t) := by
  obtain ⟨f, fd, ps, c1, hm, F, b⟩ := c.ex
  refine ⟨fun pins s σ H Q I h => PySem.W.methodCall_KW (pl := pl) (thn (he.run pins s σ H _ I h) ?_) ht⟩
  rintro u s1 ⟨x, H1, I1, rx, a, dx, fs, rfl, at_, l, q⟩
  obtain rfl : u = Value.ref a := rx
  refine getmeth_ok I1 at_ c1 hm l (PySem.W.callWith_K (first := [.ref a]) (h₀ := X.base) I.ok.mod.kin hm.kp (thn (ha.run pos pins s1 σ H1 _ I1 q) ?_) hst hpl)
  rintro us s2 ⟨vs, H2, I2, r, q2⟩
  exact ⟨I2.kIn, run_fnSD (us := .ref a :: us) (vs := .ref a :: vs) F (hr.mono hk) b .nil (hx σ) I2 (.cons rfl r) q2⟩
/-- list(x) -/
def rListOf (K : PySem.W.Frag) : List V → Hp → VK → Prop := fun xs H Q => ∃ p ys, xs = [.ref p] ∧ (SqL K H p ys ∨ SqT K H p ys) ∧ ∀ l, H l = none → Q (.ref l) (upd H l (.lst ys))
end Md

set_option Elab.async false
set_option linter.all false
set_option maxRecDepth 100000
set_option maxHeartbeats 4000000
namespace Md
open PySem PySem.Spec PyProof.Rows PySem.Calls L2
local macro_rules | `(tactic| walk_at "v") => `(tactic| refine ⟨_, rfl, ?_⟩)
local macro_rules | `(tactic| walk_at "ii") => `(tactic| refine ⟨_, _, rfl, rfl, ?_⟩)
/-! ### layouts in the heap -/
def LayOk (ns ks : List Str) : Prop := ∀ (i : Nat) n k, ns[i]? = some n → ks[i]? = some k → isWord n = true ∧ n ∉ kRES ∧ (k = "number" ∨ k = "word")
def LayAt (A : Ads) (H : Hp) (a : Addr) (ns ks : List Str) : Prop := ∃ dx tn tk, H a = some (.ins A.cLayout dx [("names", .ref tn), ("_kinds", .ref tk)]) ∧ TupF H tn (ns.map V.str) ∧ TupF H tk (ks.map V.str) ∧ ns.length = ks.length ∧
  ns.length ≤ 5 ∧ LayOk ns ks ∧ ∀ (i : Nat) n, ns[i]? = some n → ∀ j, j < i → ns[j]? ≠ some n
theorem TupF.same {H H' : Hp} {a : Addr} {ys : List V} (h : TupF H a ys) (s : Same H H') : TupF H' a ys := by
  obtain ⟨o, h, r⟩ := h
  exact ⟨o, s _ _ h, r⟩
theorem LayAt.same {A : Ads} {H H' : Hp} {a : Addr} {ns ks : List Str} (h : LayAt A H a ns ks) (s : Same H H') : LayAt A H' a ns ks := by
  obtain ⟨dx, tn, tk, h1, h2, h3, h⟩ := h
  exact ⟨dx, tn, tk, s _ _ h1, h2.same s, h3.same s, h⟩
theorem FieldB.some_ {K : PySem.W.Frag} {H : Hp} {x : V} {n k : Str} (h : FieldB K H x (some (n, k))) : ∃ t, x = .ref t ∧ H t = some (.tup [.str n, .str k]) := by
  rcases h with ⟨T, _, _, e⟩ | ⟨a, xs, _, _, _, e⟩ | ⟨a, u, v, nm, rfl, ha, hf, hn, e⟩
  · cases e
  · cases e
  · rcases hn with ⟨_, rfl⟩ | ⟨z, rfl, _, _, rfl⟩
    · cases e
    · by_cases c : z ∈ kRES
      · rw [if_pos c] at e; cases e
      · rw [if_neg c] at e
        cases v with
        | str w =>
          have e' : some (n, k) = (if w = "number" ∨ w = "word" then some w else none : Option Str).map fun k => (z, k) := e
          by_cases d : w = "number" ∨ w = "word"
          · rw [if_pos d] at e'
            cases e'
            exact ⟨a, rfl, ha⟩
          · rw [if_neg d] at e'; cases e'
        | _ => cases e
theorem FieldB.word {K : PySem.W.Frag} {H : Hp} {x : V} {n k : Str} (h : FieldB K H x (some (n, k))) : isWord n = true ∧ n ∉ kRES ∧ (k = "number" ∨ k = "word") := by
  rcases h with ⟨T, _, _, e⟩ | ⟨a, xs, _, _, _, e⟩ | ⟨a, u, v, nm, rfl, ha, hf, hn, e⟩
  · cases e
  · cases e
  · rcases hn with ⟨_, rfl⟩ | ⟨z, rfl, _, hw, rfl⟩
    · cases e
    · by_cases c : z ∈ kRES
      · rw [if_pos c] at e; cases e
      · rw [if_neg c] at e
        cases v with
        | str w =>
          have e' : some (n, k) = (if w = "number" ∨ w = "word" then some w else none : Option Str).map fun k => (z, k) := e
          by_cases d : w = "number" ∨ w = "word"
          · rw [if_pos d] at e'
            cases e'
            exact ⟨hw, c, d⟩
          · rw [if_neg d] at e'; cases e'
        | _ => cases e
theorem SqL.xbI {K : PySem.W.Frag} {H H2 H3 : Hp} {l a C dx : Addr} {xs : List V} {fs : List (Str × V)} (h : SqL K H l xs) (ha : H a = some (.ins C dx fs)) (s : Same H H2) (x : Xb a H2 H3) : SqL K H3 l xs := by
  rcases h with (h | ⟨o, h⟩) | h
  · exact .inl (.inl (x _ _ (ne_of h ha (by intro z; cases z)) (s _ _ h)))
  · exact .inl (.inr ⟨o, x _ _ (ne_of h ha (by intro z; cases z)) (s _ _ h)⟩)
  · exact .inr h
/-! ### Layout.__init__ -/
def t_BadLayout___init__ (K : PySem.W.Frag) (A : Ads) (E : XK) : TS :=
    (tOst K "at" (tVar 0) (tVar 1))
def n_BadLayout___init__ : List Str := ["self", "at"]
def sp_BadLayout___init__ (K : PySem.W.Frag) (A : Ads) : Sp := spXi A.cBadLayout "at"
def t_Layout___init__ (K : PySem.W.Frag) (A : Ads) (E : XK) : TS :=
    (tSeq (tIfS (tOr (tNot (tB (tCB (rIsi K) (tCons (tVar 1) (tCons (tC (.ty "list")) tNil))))) (tNot (tTest (tChain rLe rLe (tC (.int 1)) (tCB (rLen K) (tCons (tVar 1) tNil)) (tC (.int 5)))))) (tRaise E (tMkO A.cBadLayout (sp_BadLayout___init__ K A) [] (tCons (tUn rNeg (tC (.int 1))) tNil))) tNext)
    (tSeq (tAsg (tLst tNil) (gName 2))
    (tSeq (tFor (iEnum K (tCons (tVar 1) tNil)) (gTup K 2 (gCons (gName 3) (gCons (gName 4) gNil))) (tSeq (tIfS (tOr (tNot (tB (tCall (sp__is_field K A) [] E0 (tCons (tVar 4) tNil)))) (tTest (tOp (rIn K false) (tOp (rIx K) (tVar 4) (tC (.int 0))) (tVar 2)))) (tRaise E (tMkO A.cBadLayout (sp_BadLayout___init__ K A) [] (tCons (tVar 3) tNil))) tNext)
    (tDrop (tBM K "list" rAppend (tVar 2) (tCons (tOp (rIx K) (tVar 4) (tC (.int 0))) tNil)))))
    (tSeq (sFld K (tVar 0) (tCB (rTupF K) (tCons (tVar 2) tNil)) "names")
    (sFld K (tVar 0) (tCB (rTupF K) (tCons (tLc (iList K (tVar 1)) (gName 4) tYes (tOp (rIx K) (tVar 4) (tC (.int 1))) [4]) tNil)) "_kinds")))))
def n_Layout___init__ : List Str := ["self", "fields", "names", "at", "field"]
def NoLay (K : PySem.W.Frag) (H : Hp) (x : V) : Prop := (∃ T, TyX K H x (.type T) ∧ T ≠ "list") ∨ ∃ l xs, x = .ref l ∧ SqL K H l xs ∧ TyX K H x (.type "list") ∧ (xs.length = 0 ∨ 5 < xs.length)
theorem kit_list {K : PySem.W.Frag} {H : Hp} {x : V} {T : String} (ty : TyX K H x (.type T)) (hn : T ≠ "list") : kitB T "list" = some false := by
  cases ty with
  | base b => cases b <;> first | exact absurd rfl hn | decide +kernel
  | _ => first | exact absurd rfl hn | decide +kernel
def sp_Layout___init__ (K : PySem.W.Frag) (A : Ads) : Sp := fun vs H Q E => (∃ (a dx : Addr) (x : V), vs = [.ref a, x] ∧ H a = some (.ins A.cLayout dx []) ∧ NoLay K H x ∧ ∀ d H', Same H H' → H' d = some (.xd [("at", .int (-1))]) → E (.ref A.cBadLayout) (some d) H') ∨ ∃ (a dx l : Addr) (xs : List V) (rs : List (Option (Str × Str))) (ns ks : List Str), vs = [.ref a, .ref l] ∧ H a = some (.ins A.cLayout dx []) ∧ SqL K H l xs ∧ TyX K H (.ref l) (.type "list") ∧
  xs.length = rs.length ∧ 1 ≤ xs.length ∧ xs.length ≤ 5 ∧ (∀ (i : Nat) x r, xs[i]? = some x → rs[i]? = some r → FieldB K H x r) ∧ ns.length ≤ rs.length ∧ ks.length = ns.length ∧
  (∀ (i : Nat) n k, ns[i]? = some n → ks[i]? = some k → rs[i]? = some (some (n, k)) ∧ n ∉ ns.take i) ∧
  (ns.length = rs.length → ∀ H', Xb a H H' → LayAt A H' a ns ks → Q .non H') ∧
  (ns.length < rs.length → (∃ r, rs[ns.length]? = some r ∧ ∀ n k, r = some (n, k) → n ∈ ns) ∧ ∀ d H', Xb a H H' → H' d = some (.xd [("at", .int (ns.length : Nat))]) → E (.ref A.cBadLayout) (some d) H')
theorem len_Layout___init__ {K : PySem.W.Frag} {A : Ads} {vs : List V} {H : Hp} {Q : VK} {E : XK} (h : sp_Layout___init__ K A vs H Q E) : vs.length = 2 := by
  rcases h with ⟨a, dx, x, rfl, _⟩ | ⟨a, dx, l, xs, rs, ns, ks, rfl, _⟩ <;> rfl
theorem pure_Layout___init__ {K : PySem.W.Frag} {A : Ads} (cl : Cls K A.cLayout) (nk : NoAttr K A.cLayout "_kinds") (nn : NoAttr K A.cLayout "names") {vs : List V} {H : Hp} {Q : VK} {E : XK} (h : sp_Layout___init__ K A vs H Q E) :
    t_Layout___init__ K A E { nx := fun _ H' => Q .non H', rt := Q } (start n_Layout___init__ vs) H := by
  rcases h with ⟨a, dx, x, rfl, ha, hx, kb⟩ | ⟨a, dx, l, xs, rs, ns, ks, rfl, ha, hl, tl, hxr, h1, h5, hF, hnr, hkn, hG, kok, kbad⟩
  · walk_at "v"
    have fin : ∀ {D : Ends} {σ : L2.St}, tRaise E (tMkO A.cBadLayout (sp_BadLayout___init__ K A) [] (tCons (tUn rNeg (tC (.int 1))) tNil)) D σ H := fun {D σ} => by
      refine ⟨_, rfl, ?_⟩
      exact mk_xi fun d H' s h => kb d H' s h
    rcases hx with ⟨T, ty, hn⟩ | ⟨l, xs, rfl, hl, tl, hlen⟩
    · refine ⟨_, _, _, _, _, rfl, .ty _, ty, kit_ty (kit_list ty hn), ?_⟩
      refine ⟨_, rfl, ?_⟩
      show (if (!false) = true then _ else _)
      refine iteT ?_
      show (if true = true then _ else _)
      refine iteT ?_
      exact fin
    · refine ⟨_, _, _, _, _, rfl, .ty _, tl, kit_ty (by decide +kernel : kitB "list" "list" = some true), ?_⟩
      refine ⟨_, rfl, ?_⟩
      show (if (!true) = true then _ else _)
      refine iteF ?_
      walk_at "v"
      refine ⟨_, _, rfl, .inl ⟨_, hl, rfl⟩, ?_⟩
      walk_at "ii"
      refine ⟨_, rfl, ?_⟩
      refine iteD (fun h1 => ?_) (fun h1 => ?_)
      · walk_at "ii"
        refine ⟨_, rfl, ?_⟩
        refine iteN (fun h5 => absurd h5 (by omega)) (fun h5 => ?_)
        exact fin
      · refine ⟨_, rfl, ?_⟩
        show (if (!false) = true then _ else _)
        refine iteT ?_
        exact fin
  walk_at "v"
  refine ⟨_, _, _, _, _, rfl, .ty _, tl, kit_ty (by decide +kernel : kitB "list" "list" = some true), ?_⟩
  walk_at "v"
  show (if (!true) = true then _ else _)
  refine iteF ?_
  walk_at "v"
  refine ⟨_, _, rfl, .inl ⟨_, hl, rfl⟩, ?_⟩
  walk_at "ii"
  refine ⟨_, rfl, ?_⟩
  refine iteD (fun _ => ?_) (fun h => absurd (by omega) h)
  walk_at "ii"
  refine ⟨_, rfl, ?_⟩
  refine iteN (fun _ => ?_) (fun h => absurd (by omega) h)
  -- names = []
  refine ⟨by show 0 ≤ sizeLine; decide, fun nl hnl => ?_⟩
  have s0 := Same.new (o := .lst []) hnl
  walk_at "v"
  refine ⟨l, xs, rfl, Md.Same.sqL s0 hl, ?_⟩
  refine for_it (walk_enum (K := K) (a := l) (xs := xs)) (fun i σ H' => i ≤ ns.length ∧ Same H H' ∧ (∃ w3 w4, σ = [some (.ref a), some (.ref l), some (.ref nl), w3, w4]) ∧ H' nl = some (.lst ((ns.take i).map V.str)))
    ⟨Nat.zero_le _, s0, ⟨_, _, rfl⟩, upd_same⟩ (fun i σ H' _ z => Md.Same.sqL z.2.1 hl) ?_ ?_
  · rintro i x σ H1 H1' hi ⟨him, s1, ⟨w3, w4, rfl⟩, hnl1⟩ ⟨T, y0, y, rfl, hT, rfl, ey0, hy⟩
    cases ey0
    have sT := Same.new (o := .tup [.int (i : Nat), y]) hT
    have s2 := Same.trans s1 sT
    refine ⟨T, _, rfl, SqT.of upd_same, rfl, _, _, rfl, _, _, rfl, rfl, ?_⟩
    have hnl2 := sT _ _ hnl1
    generalize upd H1 T (.tup [.int (i : Nat), y]) = H2 at hnl2 s2 ⊢
    obtain ⟨r, hr⟩ : ∃ r, rs[i]? = some r := ⟨rs[i], List.getElem?_eq_getElem (by omega)⟩
    have hf := (hF i y r hy hr).mono s2
    walk_at "v"
    refine ⟨y, r, rfl, hf, fun H3 s3 => ?_⟩
    have hnl3 := s3 _ _ hnl2
    have s3' := Same.trans s2 s3
    refine ⟨_, rfl, ?_⟩
    rcases Nat.lt_or_ge i ns.length with hlt | hge
    · obtain ⟨n, en⟩ : ∃ n, ns[i]? = some n := ⟨ns[i], List.getElem?_eq_getElem hlt⟩
      obtain ⟨k, ek⟩ : ∃ k, ks[i]? = some k := ⟨ks[i], List.getElem?_eq_getElem (by omega)⟩
      obtain ⟨er, hni⟩ := hG i n k en ek
      rw [hr] at er
      cases er
      obtain ⟨t, rfl, ht⟩ := (hf.mono s3).some_
      show (if (!true) = true then _ else _)
      refine iteF ?_
      walk_at "v"
      refine Or.inr (Or.inl ⟨_, _, _, _, rfl, rfl, SqT.of ht, rfl, ?_⟩)
      walk_at "v"
      refine ⟨nl, _, rfl, .inl (SqL.of hnl3), rfl, flat_strs _, ?_⟩
      refine ⟨_, rfl, ?_⟩
      have e : inV (.str n) ((ns.take i).map V.str) = false := by rw [inV_strs]; exact decide_eq_false hni
      show (if inV (.str n) ((ns.take i).map V.str) = true then _ else _)
      rw [e]
      refine iteF ?_
      walk_at "v"
      refine ⟨.inl ⟨rfl, _, SqL.of hnl3⟩, ?_⟩
      walk_at "v"
      refine Or.inr (Or.inl ⟨_, _, _, _, rfl, rfl, SqT.of ht, rfl, ?_⟩)
      refine ⟨nl, _, _, rfl, rfl, hnl3, ?_, ?_⟩
      · rw [List.length_map, List.length_take]
        exact Nat.lt_of_le_of_lt (Nat.min_le_right _ _) (Nat.lt_of_lt_of_le (show ns.length < 6 by omega) (by decide))
      · refine ⟨hlt, fun b o hb => ?_, ⟨_, _, rfl⟩, ?_⟩
        · rw [upd_ne (ne_of_none hb hnl)]
          exact s3' b o hb
        · rw [upd_same, List.take_succ, en]
          simp
    · obtain ⟨⟨r', er', hr'⟩, kb⟩ := kbad (by omega)
      have ei : i = ns.length := by omega
      subst ei
      rw [hr] at er'
      cases er'
      cases r with
      | none =>
        show (if (!false) = true then _ else _)
        refine iteT ?_
        show (if true = true then _ else _)
        refine iteT ?_
        walk_at "v"
        exact mk_xi fun d H' s h => kb d H' (Xb.of (Same.trans s3' s)) h
      | some q =>
        obtain ⟨n, k⟩ := q
        have hin := hr' n k rfl
        obtain ⟨t, rfl, ht⟩ := (hf.mono s3).some_
        show (if (!true) = true then _ else _)
        refine iteF ?_
        walk_at "v"
        refine Or.inr (Or.inl ⟨_, _, _, _, rfl, rfl, SqT.of ht, rfl, ?_⟩)
        walk_at "v"
        refine ⟨nl, _, rfl, .inl (SqL.of hnl3), rfl, flat_strs _, ?_⟩
        refine ⟨_, rfl, ?_⟩
        have e : inV (.str n) ((ns.take ns.length).map V.str) = true := by rw [inV_strs, List.take_length]; exact decide_eq_true hin
        show (if inV (.str n) ((ns.take ns.length).map V.str) = true then _ else _)
        rw [e]
        refine iteT ?_
        walk_at "v"
        exact mk_xi fun d H' s h => kb d H' (Xb.of (Same.trans s3' s)) h
  · rintro σ H1 ⟨him, s1, ⟨w3, w4, rfl⟩, hnl1⟩
    have em : ns.length = rs.length := by omega
    have et : ns.take xs.length = ns := List.take_of_length_le (by omega)
    rw [et] at hnl1
    walk_at "v"
    refine ⟨nl, _, rfl, SqL.of hnl1, fun tn on htn hcn hdn => ?_⟩
    have sn := Same.new (o := .frz on (.tup (ns.map V.str))) htn
    have s2 := Same.trans s1 sn
    have gtn : TupF (upd H1 tn (.frz on (.tup (ns.map V.str)))) tn (ns.map V.str) := ⟨on, upd_same, hcn, hdn⟩
    generalize upd H1 tn (.frz on (.tup (ns.map V.str))) = H2 at gtn s2 ⊢
    walk_at "v"
    have ha2 := s2 _ _ ha
    refine ⟨a, A.cLayout, dx, [], rfl, ha2, cl, nn, by decide, ?_⟩
    have x3 : Xb a H2 (upd H2 a (.ins A.cLayout dx (putF "names" (.ref tn) []))) := Xb.upd Xb.refl
    have ha3 : (upd H2 a (.ins A.cLayout dx (putF "names" (.ref tn) []))) a = some (.ins A.cLayout dx [("names", .ref tn)]) := upd_same
    generalize upd H2 a (.ins A.cLayout dx (putF "names" (.ref tn) [])) = H3 at x3 ha3 ⊢
    have hl3 := SqL.xbI hl ha s2 x3
    have ntn : tn ≠ a := by
      obtain ⟨o, e, _⟩ := gtn
      exact ne_of e ha2 (by intro z; cases z)
    have gtn3 : TupF H3 tn (ns.map V.str) := by
      obtain ⟨o, e, r⟩ := gtn
      exact ⟨o, x3 _ _ ntn e, r⟩
    walk_at "v"
    refine ⟨l, rfl, ⟨xs, hl3⟩, fun D hD => ?_⟩
    refine lc_list (K := K) (a := l) (xs := xs) (fun i H' => Same H3 H' ∧ H' D = some (.lst ((ks.take i).map V.str))) ⟨Same.new hD, upd_same⟩ (fun i H' _ z => Same.sqL z.1 hl3) ?_ ?_
    · rintro i x H4 hx ⟨s4, hD4⟩
      have hi : i < ns.length := by
        have := (List.getElem?_eq_some_iff.mp hx).1
        omega
      obtain ⟨n, en⟩ : ∃ n, ns[i]? = some n := ⟨ns[i], List.getElem?_eq_getElem hi⟩
      obtain ⟨k, ek⟩ : ∃ k, ks[i]? = some k := ⟨ks[i], List.getElem?_eq_getElem (by omega)⟩
      obtain ⟨t, rfl, ht⟩ := (hF i x _ hx (hG i n k en ek).1).some_
      have ht2 := s2 _ _ ht
      have ht4 := s4 _ _ (x3 t _ (ne_of ht2 ha2 (by intro z; cases z)) ht2)
      refine ⟨rfl, ?_⟩
      walk_at "v"
      refine Or.inr (Or.inl ⟨_, _, _, _, rfl, rfl, SqT.of ht4, rfl, ?_⟩)
      refine ⟨_, hD4, ?_, fun b o hb => ?_, ?_⟩
      · rw [List.length_map, List.length_take]
        exact Nat.lt_of_le_of_lt (Nat.min_le_right _ _) (Nat.lt_of_lt_of_le (show ks.length < 6 by omega) (by decide))
      · rw [upd_ne (ne_of_none hb hD)]
        exact s4 b o hb
      · rw [upd_same, List.take_succ, ek]
        simp
    · rintro H4 ⟨s4, hD4⟩
      have ek : ks.take xs.length = ks := List.take_of_length_le (by omega)
      rw [ek] at hD4
      refine ⟨D, _, rfl, SqL.of hD4, fun tk ok_ htk hck hdk => ?_⟩
      have s5 := Same.trans s4 (Same.new (o := .frz ok_ (.tup (ks.map V.str))) htk)
      have gtk : TupF (upd H4 tk (.frz ok_ (.tup (ks.map V.str)))) tk (ks.map V.str) := ⟨ok_, upd_same, hck, hdk⟩
      generalize upd H4 tk (.frz ok_ (.tup (ks.map V.str))) = H5 at gtk s5 ⊢
      have ha5 := s5 _ _ ha3
      walk_at "v"
      refine ⟨a, A.cLayout, dx, _, rfl, ha5, cl, nk, by show 1 < 1000; decide, ?_⟩
      have ntk : tk ≠ a := by
        obtain ⟨o, e, _⟩ := gtk
        exact ne_of e ha5 (by intro z; cases z)
      refine kok em _ (fun b o nb hb => ?_) ⟨dx, tn, tk, upd_same, ?_, ?_, hkn.symm, by omega, fun i n k e1 e2 => ?_, fun i n hn j hj hjn => ?_⟩
      · rw [upd_ne nb]
        exact s5 _ _ (x3 _ _ nb (s2 _ _ hb))
      · obtain ⟨o, e, r⟩ := gtn3
        exact ⟨o, by rw [upd_ne ntn]; exact s5 _ _ e, r⟩
      · obtain ⟨o, e, r⟩ := gtk
        exact ⟨o, by rw [upd_ne ntk]; exact e, r⟩
      · have er := (hG i n k e1 e2).1
        have hi : i < rs.length := (List.getElem?_eq_some_iff.mp er).1
        have hx : xs[i]? = some xs[i] := List.getElem?_eq_getElem (by omega)
        exact (hF i _ _ hx er).word
      · have hi : i < ns.length := (List.getElem?_eq_some_iff.mp hn).1
        obtain ⟨k, ek⟩ : ∃ k, ks[i]? = some k := ⟨ks[i], List.getElem?_eq_getElem (by omega)⟩
        refine (hG i n k hn ek).2 (List.mem_of_getElem? (i := j) ?_)
        rw [List.getElem?_take_of_lt hj]
        exact hjn
/-! ### its length, a field's kind -/
def t_Layout___len__ (K : PySem.W.Frag) (A : Ads) (E : XK) : TS :=
    (tRet (tCB (rLen K) (tCons (tFld K (tVar 0) "names") tNil)))
def n_Layout___len__ : List Str := ["self"]
def sp_Layout___len__ (K : PySem.W.Frag) (A : Ads) : Sp := fun vs H Q _ => ∃ (a : Addr) (ns ks : List Str), vs = [.ref a] ∧ LayAt A H a ns ks ∧ Q (.int (ns.length : Nat)) H
theorem len_Layout___len__ {K : PySem.W.Frag} {A : Ads} {vs : List V} {H : Hp} {Q : VK} {E : XK} (h : sp_Layout___len__ K A vs H Q E) : vs.length = 1 := by
  obtain ⟨a, _, _, rfl, _⟩ := h
  rfl
theorem pure_Layout___len__ {K : PySem.W.Frag} {A : Ads} (cl : Cls K A.cLayout) (nn : NoAttr K A.cLayout "names") {vs : List V} {H : Hp} {Q : VK} {E : XK} (h : sp_Layout___len__ K A vs H Q E) :
    t_Layout___len__ K A E { nx := fun _ H' => Q .non H', rt := Q } (start n_Layout___len__ vs) H := by
  obtain ⟨a, ns, ks, rfl, ⟨dx, tn, tk, ha, gn, gk, r⟩, k⟩ := h
  walk_at "v"
  refine ⟨a, _, dx, _, _, rfl, ha, cl, nn, rfl, ?_⟩
  refine ⟨_, _, rfl, .inr ⟨_, gn.seq, rfl⟩, ?_⟩
  rw [List.length_map]
  exact k
def t_BadField___init__ (K : PySem.W.Frag) (A : Ads) (E : XK) : TS :=
    (tOst K "name" (tVar 0) (tVar 1))
def n_BadField___init__ : List Str := ["self", "name"]
def sp_BadField___init__ (K : PySem.W.Frag) (A : Ads) : Sp := spXi A.cBadField "name"
def t_Layout_kind (K : PySem.W.Frag) (A : Ads) (E : XK) : TS :=
    (tSeq (tIfS (tTest (tOp (rNotInT2 K) (tVar 1) (tFld K (tVar 0) "names"))) (tRaise E (tMkO A.cBadField (sp_BadField___init__ K A) [] (tCons (tVar 1) tNil))) tNext)
    (tRet (tOp (rIx K) (tFld K (tVar 0) "_kinds") (tBMF (rTIdx K) (tFld K (tVar 0) "names") (tCons (tVar 1) tNil)))))
def n_Layout_kind : List Str := ["self", "name"]
def sp_Layout_kind (K : PySem.W.Frag) (A : Ads) : Sp := fun vs H Q E => ∃ (a : Addr) (x : V) (d : PyData) (ns ks : List Str), vs = [.ref a, x] ∧ LayAt A H a ns ks ∧ Dp K H x d ∧ SeqAt.shaped d = true ∧
  (∀ (i : Nat) n k, x = .str n → ns[i]? = some n → ks[i]? = some k → Q (.str k) H) ∧ (inD ns d = false → ∀ dd H', Same H H' → H' dd = some (.xd [("name", x)]) → E (.ref A.cBadField) (some dd) H')
theorem len_Layout_kind {K : PySem.W.Frag} {A : Ads} {vs : List V} {H : Hp} {Q : VK} {E : XK} (h : sp_Layout_kind K A vs H Q E) : vs.length = 2 := by
  obtain ⟨a, _, _, _, _, rfl, _⟩ := h
  rfl
theorem LayOk.strs {ns ks : List Str} (h : LayOk ns ks) (e : ns.length = ks.length) : ∀ n ∈ ns, isWord n = true ∧ n ∉ kRES := fun n hn => by
  obtain ⟨i, hi, e1⟩ := List.getElem_of_mem hn
  have z := h i n (ks[i]) (by rw [List.getElem?_eq_getElem hi, e1]) (List.getElem?_eq_getElem (by omega))
  exact ⟨z.1, z.2.1⟩
theorem LayOk.shaped {ns ks : List Str} (h : LayOk ns ks) (e : ns.length = ks.length) : SeqAt.shaped (.tuple (ns.map PyData.str)) = true := shaped_tupS fun n hn => word_ok (h.strs e n hn).1
theorem LayOk.kinds {ns ks : List Str} (h : LayOk ns ks) (e : ns.length = ks.length) : ∀ k ∈ ks, k = "number" ∨ k = "word" := fun k hk => by
  obtain ⟨i, hi, e1⟩ := List.getElem_of_mem hk
  exact (h i (ns[i]) k (List.getElem?_eq_getElem (by omega)) (by rw [List.getElem?_eq_getElem hi, e1])).2.2
theorem LayOk.shapedK {ns ks : List Str} (h : LayOk ns ks) (e : ns.length = ks.length) : SeqAt.shaped (.tuple (ks.map PyData.str)) = true := shaped_tupS fun k hk => by
  rcases h.kinds e k hk with rfl | rfl <;> decide +kernel
theorem pure_Layout_kind {K : PySem.W.Frag} {A : Ads} (cl : Cls K A.cLayout) (nk : NoAttr K A.cLayout "_kinds") (nn : NoAttr K A.cLayout "names") {vs : List V} {H : Hp} {Q : VK} {E : XK} (h : sp_Layout_kind K A vs H Q E) :
    t_Layout_kind K A E { nx := fun _ H' => Q .non H', rt := Q } (start n_Layout_kind vs) H := by
  obtain ⟨a, x, d, ns, ks, rfl, ⟨dx, tn, tk, ha, gn, gk, hnk, h5, hok, hd⟩, hx, hs, k1, k2⟩ := h
  walk_at "v"; walk_at "v"
  refine ⟨a, _, dx, _, _, rfl, ha, cl, nn, rfl, ?_⟩
  refine .inr ⟨d, _, hx, dp_tupS gn.seq, hs, hok.shaped hnk, ?_⟩
  refine ⟨_, rfl, ?_⟩
  show (if (!inD ns d) = true then _ else _)
  refine iteBN (fun hin => ?_) (fun hin => ?_)
  · obtain ⟨n, rfl, hn⟩ := inD_true hin
    obtain rfl := dp_str_inv hx
    obtain ⟨i, hi, e⟩ := List.getElem_of_mem hn
    have en : ns[i]? = some n := by rw [List.getElem?_eq_getElem hi, e]
    obtain ⟨k, ek⟩ : ∃ k, ks[i]? = some k := ⟨ks[i], List.getElem?_eq_getElem (by omega)⟩
    walk_at "v"
    refine ⟨a, _, dx, _, _, rfl, ha, cl, nk, rfl, ?_⟩
    walk_at "v"
    refine ⟨a, _, dx, _, _, rfl, ha, cl, nn, rfl, ?_⟩
    refine ⟨⟨tn, _, rfl, gn⟩, ?_⟩
    walk_at "v"
    refine ⟨tn, ns, n, i, rfl, rfl, gn.seq, en, fun m hm => hd i n en m hm, ?_⟩
    refine Or.inr (Or.inl ⟨_, _, _, _, rfl, rfl, gk.seq, ?_, k1 i n k rfl en ek⟩)
    have hik : i < (ks.map V.str).length := by rw [List.length_map]; omega
    obtain ⟨x, e1, e2⟩ := atI_of (xs := ks.map V.str) (d := (i : Int)) (by omega) (by omega)
    rw [e1]
    have e3 : (i : Int).toNat = i := by omega
    rw [e3, List.getElem?_map, ek] at e2
    exact e2.symm
  · walk_at "v"
    exact mk_xi fun d H' s h => k2 hin d H' s h
/-! ### a name among the fields; equal layouts -/
def t_Layout___contains__ (K : PySem.W.Frag) (A : Ads) (E : XK) : TS :=
    (tRet (tOp (rInT2 K) (tVar 1) (tFld K (tVar 0) "names")))
def n_Layout___contains__ : List Str := ["self", "name"]
def sp_Layout___contains__ (K : PySem.W.Frag) (A : Ads) : Sp := fun vs H Q _ => ∃ (a : Addr) (x : V) (d : PyData) (ns ks : List Str), vs = [.ref a, x] ∧ LayAt A H a ns ks ∧ Dp K H x d ∧ SeqAt.shaped d = true ∧ Q (.bl (inD ns d)) H
theorem len_Layout___contains__ {K : PySem.W.Frag} {A : Ads} {vs : List V} {H : Hp} {Q : VK} {E : XK} (h : sp_Layout___contains__ K A vs H Q E) : vs.length = 2 := by
  obtain ⟨a, _, _, _, _, rfl, _⟩ := h
  rfl
theorem pure_Layout___contains__ {K : PySem.W.Frag} {A : Ads} (cl : Cls K A.cLayout) (nn : NoAttr K A.cLayout "names") {vs : List V} {H : Hp} {Q : VK} {E : XK} (h : sp_Layout___contains__ K A vs H Q E) :
    t_Layout___contains__ K A E { nx := fun _ H' => Q .non H', rt := Q } (start n_Layout___contains__ vs) H := by
  obtain ⟨a, x, d, ns, ks, rfl, ⟨dx, tn, tk, ha, gn, gk, hnk, h5, hok, hd⟩, hx, hs, k⟩ := h
  walk_at "v"; walk_at "v"
  refine ⟨a, _, dx, _, _, rfl, ha, cl, nn, rfl, ?_⟩
  exact .inr ⟨d, _, hx, dp_tupS gn.seq, hs, hok.shaped hnk, k⟩
theorem eqv_strs : ∀ (xs ys : List Str), PyData.eqvAll (xs.map PyData.str) (ys.map PyData.str) = decide (xs = ys)
  | [], [] => by simp [PyData.eqvAll]
  | x :: xs, [] => by simp [PyData.eqvAll]
  | [], y :: ys => by simp [PyData.eqvAll]
  | x :: xs, y :: ys => by
    have ih := eqv_strs xs ys
    simp only [List.map_cons, PyData.eqvAll, PyData.eqv, ih, List.cons.injEq]
    by_cases c : x = y <;> by_cases d : xs = ys <;> simp [c, d]
/-- what stands beside a layout in ==: another layout, or a thing of a built-in type -/
def LayEq (K : PySem.W.Frag) (A : Ads) (H : Hp) (ns ks : List Str) (y : V) (b : Bool) : Prop := (∃ T, TyX K H y (.type T) ∧ offB T = true ∧ b = false) ∨ ∃ a ms ls, y = .ref a ∧ LayAt A H a ms ls ∧ b = decide (ns = ms ∧ ks = ls)
theorem LayEq.ty {K : PySem.W.Frag} {A : Ads} {H : Hp} {ns ks : List Str} {y : V} {b : Bool} (cl : Cls K A.cLayout) (tc : TyC K A.cLayout) (h : LayEq K A H ns ks y b) : ∃ t, TyX K H y t ∧ PySem.W.notFirst K A.cLayout t = true := by
  rcases h with ⟨T, ty, ho, _⟩ | ⟨a, ms, ls, rfl, ⟨dx, _, _, ha, _⟩, _⟩
  · exact ⟨_, ty, nf_off ho⟩
  · exact ⟨_, tc.ty cl ha, nf_self⟩
def t_Layout___eq__ (K : PySem.W.Frag) (A : Ads) (E : XK) : TS :=
    (tRet (tAndV (tCB (rIsi K) (tCons (tVar 1) (tCons (tC (.ref A.cLayout)) tNil))) (tAndV (tOp (rEqD K) (tFld K (tVar 0) "names") (tFld K (tVar 1) "names")) (tOp (rEqD K) (tFld K (tVar 0) "_kinds") (tFld K (tVar 1) "_kinds")))))
def n_Layout___eq__ : List Str := ["self", "other"]
def sp_Layout___eq__ (K : PySem.W.Frag) (A : Ads) : Sp := fun vs H Q _ => ∃ (a : Addr) (y : V) (ns ks : List Str) (b : Bool), vs = [.ref a, y] ∧ LayAt A H a ns ks ∧ LayEq K A H ns ks y b ∧ Q (.bl b) H
theorem len_Layout___eq__ {K : PySem.W.Frag} {A : Ads} {vs : List V} {H : Hp} {Q : VK} {E : XK} (h : sp_Layout___eq__ K A vs H Q E) : vs.length = 2 := by
  obtain ⟨a, _, _, _, _, rfl, _⟩ := h
  rfl
theorem pure_Layout___eq__ {K : PySem.W.Frag} {A : Ads} (cl : Cls K A.cLayout) (nk : NoAttr K A.cLayout "_kinds") (nn : NoAttr K A.cLayout "names") (tc : TyC K A.cLayout) {vs : List V} {H : Hp} {Q : VK} {E : XK} (h : sp_Layout___eq__ K A vs H Q E) :
    t_Layout___eq__ K A E { nx := fun _ H' => Q .non H', rt := Q } (start n_Layout___eq__ vs) H := by
  obtain ⟨a, y, ns, ks, b, rfl, ⟨dx, tn, tk, ha, gn, gk, hnk, h5, hok, hd⟩, hy, k⟩ := h
  walk_at "v"
  rcases hy with ⟨T, ty, ho, rfl⟩ | ⟨a2, ms, ls, rfl, ⟨dx2, tn2, tk2, ha2, gn2, gk2, hnk2, h52, hok2, hd2⟩, rfl⟩
  · refine ⟨_, _, _, _, _, rfl, .own _, ty, tc.off ho, ?_⟩
    exact ⟨_, rfl, iteF k⟩
  · refine ⟨_, _, _, _, _, rfl, .own _, tc.ty cl ha2, TyC.self, ?_⟩
    refine ⟨_, rfl, iteT ?_⟩
    walk_at "v"
    refine ⟨a, _, dx, _, _, rfl, ha, cl, nn, rfl, ?_⟩
    walk_at "v"
    refine ⟨a2, _, dx2, _, _, rfl, ha2, cl, nn, rfl, ?_⟩
    refine ⟨_, _, dp_tupS gn.seq, dp_tupS gn2.seq, hok.shaped hnk, hok2.shaped hnk2, ?_⟩
    have e : PyData.eqv (.tuple (ns.map PyData.str)) (.tuple (ms.map PyData.str)) = decide (ns = ms) := by rw [← eqv_strs]; simp [PyData.eqv]
    rw [e]
    refine ⟨_, rfl, ?_⟩
    refine iteD (fun h1 => ?_) (fun h1 => ?_)
    · walk_at "v"
      refine ⟨a, _, dx, _, _, rfl, ha, cl, nk, rfl, ?_⟩
      walk_at "v"
      refine ⟨a2, _, dx2, _, _, rfl, ha2, cl, nk, rfl, ?_⟩
      refine ⟨_, _, dp_tupS gk.seq, dp_tupS gk2.seq, hok.shapedK hnk, hok2.shapedK hnk2, ?_⟩
      have e : PyData.eqv (.tuple (ks.map PyData.str)) (.tuple (ls.map PyData.str)) = decide (ns = ms ∧ ks = ls) := by
        have : decide (ns = ms ∧ ks = ls) = decide (ks = ls) := by simp [h1]
        rw [this, ← eqv_strs]; simp [PyData.eqv]
      rw [e]
      exact k
    · have e : decide (ns = ms ∧ ks = ls) = false := by simp [h1]
      rw [e] at k
      exact k
end Md

set_option Elab.async false
set_option linter.all false
set_option maxRecDepth 100000
set_option maxHeartbeats 4000000
namespace Md
open PySem PySem.Spec PyProof.Rows PySem.Calls L2
local macro_rules | `(tactic| walk_at "v") => `(tactic| refine ⟨_, rfl, ?_⟩)
local macro_rules | `(tactic| walk_at "ii") => `(tactic| refine ⟨_, _, rfl, rfl, ?_⟩)
/-! ### what a field may hold -/
def HoldB (K : PySem.W.Frag) (H : Hp) (kd : Str) (x : V) (b : Bool) : Prop := (x = .non ∧ b = true) ∨ (x ≠ .non ∧ ((kd = "number" ∧ NumB K H x b) ∨ (kd ≠ "number" ∧ WordB K H x b)))
theorem HoldB.mono {K : PySem.W.Frag} {H H' : Hp} {kd : Str} {x : V} {b : Bool} (h : HoldB K H kd x b) (s : Same H H') : HoldB K H' kd x b := by
  rcases h with h | ⟨h, ⟨e, h2⟩ | ⟨e, h2⟩⟩
  · exact .inl h
  · exact .inr ⟨h, .inl ⟨e, h2.mono s⟩⟩
  · exact .inr ⟨h, .inr ⟨e, h2.mono s⟩⟩
def t_is_value (K : PySem.W.Frag) (A : Ads) (E : XK) : TS :=
    (tRet (tIf (tTest (tOp rEq (tVar 0) (tC (.str "number")))) (tCall (sp_is_number K A) [] E0 (tCons (tVar 1) tNil)) (tCall (sp_is_word K A) [] E0 (tCons (tVar 1) tNil))))
def n_is_value : List Str := ["kind", "thing"]
def ValB (K : PySem.W.Frag) (H : Hp) (kd : Str) (x : V) (b : Bool) : Prop := (kd = "number" ∧ NumB K H x b) ∨ (kd ≠ "number" ∧ WordB K H x b)
theorem ValB.mono {K : PySem.W.Frag} {H H' : Hp} {kd : Str} {x : V} {b : Bool} (h : ValB K H kd x b) (s : Same H H') : ValB K H' kd x b := by
  rcases h with ⟨e, h2⟩ | ⟨e, h2⟩
  · exact .inl ⟨e, h2.mono s⟩
  · exact .inr ⟨e, h2.mono s⟩
def sp_is_value (K : PySem.W.Frag) (A : Ads) : Sp := fun vs H Q _ => ∃ (kd : Str) (x : V) (b : Bool), vs = [.str kd, x] ∧ ValB K H kd x b ∧ ∀ H', Same H H' → Q (.bl b) H'
theorem len_is_value {K : PySem.W.Frag} {A : Ads} {vs : List V} {H : Hp} {Q : VK} {E : XK} (h : sp_is_value K A vs H Q E) : vs.length = 2 := by
  obtain ⟨a, _, _, rfl, _⟩ := h
  rfl
theorem pure_is_value {K : PySem.W.Frag} {A : Ads} {vs : List V} {H : Hp} {Q : VK} {E : XK} (h : sp_is_value K A vs H Q E) : t_is_value K A E { nx := fun _ H' => Q .non H', rt := Q } (start n_is_value vs) H := by
  obtain ⟨kd, x, b, rfl, h, k⟩ := h
  walk_at "v"
  refine ⟨rfl, ?_⟩
  refine ⟨_, rfl, ?_⟩
  refine iteD (fun hk => ?_) (fun hk => ?_)
  · rcases h with ⟨_, h⟩ | ⟨h, _⟩
    · walk_at "v"
      exact ⟨x, b, rfl, h, k H (Same.refl H)⟩
    · exact absurd (by injection hk) h
  · rcases h with ⟨h, _⟩ | ⟨_, h⟩
    · exact absurd (congrArg V.str h) hk
    · walk_at "v"
      exact ⟨x, b, rfl, h, k⟩
/-! ### first_wrong -/
def Holds1 (K : PySem.W.Frag) (H : Hp) (ns ks : List Str) (kvs : List (Key × V)) (i : Nat) (b : Bool) : Prop := ∀ n k, ns[i]? = some n → ks[i]? = some k → (b = true ∧ valV kvs (.inr n) = none) ∨ ∃ v, valV kvs (.inr n) = some v ∧ HoldB K H k v b
theorem Holds1.mono {K : PySem.W.Frag} {H H' : Hp} {ns ks : List Str} {kvs : List (Key × V)} {i : Nat} {b : Bool} (h : Holds1 K H ns ks kvs i b) (s : Same H H') : Holds1 K H' ns ks kvs i b := fun n k e1 e2 => by
  rcases h n k e1 e2 with h | ⟨v, e, h⟩
  · exact .inl h
  · exact .inr ⟨v, e, h.mono s⟩
def t_first_wrong (K : PySem.W.Frag) (A : Ads) (E : XK) : TS :=
    (tSeq (tFor (iTup K (tFld K (tVar 0) "names")) (gName 2) (tSeq (tAsg (tDGet1 (tVar 1) (tVar 2)) (gName 3))
    (tIfS (tAnd (tTest (tOp rNotN (tVar 3) (tC .non))) (tNot (tB (tCall (sp_is_value K A) [] E0 (tCons (tMeth A.cLayout "kind" (sp_Layout_kind K A) [] E (tVar 0) (tCons (tVar 2) tNil)) (tCons (tVar 3) tNil)))))) (tRet (tVar 2)) tNext)))
    (tRet (tC .non)))
def n_first_wrong : List Str := ["layout", "values", "name", "value"]
def sp_first_wrong (K : PySem.W.Frag) (A : Ads) : Sp := fun vs H Q _ => ∃ (a d : Addr) (ns ks : List Str) (kvs : List (Key × V)) (m : Nat), vs = [.ref a, .ref d] ∧ LayAt A H a ns ks ∧ H d = some (.dK kvs) ∧ m ≤ ns.length ∧
  (∀ i, i < m → Holds1 K H ns ks kvs i true) ∧ (m = ns.length → ∀ H', Same H H' → Q .non H') ∧ (m < ns.length → Holds1 K H ns ks kvs m false ∧ ∀ n H', ns[m]? = some n → Same H H' → Q (.str n) H')
theorem len_first_wrong {K : PySem.W.Frag} {A : Ads} {vs : List V} {H : Hp} {Q : VK} {E : XK} (h : sp_first_wrong K A vs H Q E) : vs.length = 2 := by
  obtain ⟨a, _, _, _, _, _, rfl, _⟩ := h
  rfl
theorem pure_first_wrong {K : PySem.W.Frag} {A : Ads} (cl : Cls K A.cLayout) (nn : NoAttr K A.cLayout "names") {vs : List V} {H : Hp} {Q : VK} {E : XK} (h : sp_first_wrong K A vs H Q E) :
    t_first_wrong K A E { nx := fun _ H' => Q .non H', rt := Q } (start n_first_wrong vs) H := by
  obtain ⟨a, d, ns, ks, kvs, m, rfl, lay, hd, hm, hok, k1, k2⟩ := h
  have lay0 := lay
  obtain ⟨dx, tn, tk, ha, gn, gk, hnk, h5, hok0, hdup⟩ := lay0
  walk_at "v"
  refine ⟨a, _, dx, _, _, rfl, ha, cl, nn, rfl, ?_⟩
  refine ⟨tn, rfl, ⟨_, gn.seq⟩, ?_⟩
  refine for_tup (K := K) (a := tn) (xs := ns.map V.str) (fun i σ H' => i ≤ m ∧ Same H H' ∧ ∃ w2 w3, σ = [some (.ref a), some (.ref d), w2, w3]) ⟨Nat.zero_le _, Same.refl H, _, _, rfl⟩ (fun i σ H' _ z => (gn.same z.2.1).seq) ?_ ?_
  · rintro i x σ H1 hx ⟨him, s1, w2, w3, rfl⟩
    have hi : i < ns.length := by
      have := (List.getElem?_eq_some_iff.mp hx).1
      rwa [List.length_map] at this
    obtain ⟨n, en⟩ : ∃ n, ns[i]? = some n := ⟨ns[i], List.getElem?_eq_getElem hi⟩
    obtain ⟨k, ek⟩ : ∃ k, ks[i]? = some k := ⟨ks[i], List.getElem?_eq_getElem (by omega)⟩
    rw [List.getElem?_map, en] at hx
    cases hx
    have hd1 := s1 _ _ hd
    have lay1 := lay.same s1
    walk_at "v"
    refine ⟨d, rfl, .inl ⟨kvs, .inl hd1⟩, ?_⟩
    walk_at "v"
    refine ⟨valV kvs (.inr n), DGet.k (k := .inr n) hd1, ?_⟩
    generalize hx : (valV kvs (.inr n)).getD .non = x
    have sg : SeqAt.shaped (.str n) = true := by
      unfold SeqAt.shaped
      simp [PyData.canLay0, PyData.depth, word_ok (hok0.strs hnk n (List.mem_of_getElem? en)).1]
    -- the rest of the test, when the value is not blank
    have rest : ∀ b, ValB K H k x b → ∀ Q2 : Bool → Hp → Prop, (∀ H', Same H H' → Q2 (!b) H') →
        tNot (tB (tCall (sp_is_value K A) [] E0 (tCons (tMeth A.cLayout "kind" (sp_Layout_kind K A) [] E (tVar 0) (tCons (tVar 2) tNil)) (tCons (tVar 3) tNil)))) [some (.ref a), some (.ref d), some (.str n), some x] H1 Q2 := by
      intro b hb Q2 hQ2
      walk_at "v"
      refine ⟨a, dx, _, rfl, s1 _ _ ha, rfl, ?_⟩
      walk_at "v"
      refine ⟨a, .str n, .str n, ns, ks, rfl, lay1, .str n, sg, fun i' n' k' en' e1 e2 => ?_, fun hn => ?_⟩
      · cases en'
        have ei : i' = i := by
          rcases Nat.lt_trichotomy i' i with z | z | z
          · exact absurd e1 (hdup i n en i' z)
          · exact z
          · exact absurd en (hdup i' n e1 i z)
        subst ei
        rw [ek] at e2
        cases e2
        walk_at "v"
        refine ⟨k, x, b, rfl, hb.mono s1, fun H2 s2 => ?_⟩
        exact ⟨_, rfl, hQ2 _ (Same.trans s1 s2)⟩
      · rw [inD_str, decide_eq_false_iff_not] at hn
        exact absurd (List.mem_of_getElem? en) hn
    rcases Nat.lt_or_ge i m with hlt | hge
    · walk_at "v"
      refine ⟨rfl, ?_⟩
      refine ⟨_, rfl, ?_⟩
      refine iteN (fun hx0 => ?_) (fun hx0 => ?_)
      · refine iteF ?_
        exact ⟨hlt, s1, _, _, rfl⟩
      · rcases hok i hlt n k en ek with ⟨_, hv⟩ | ⟨v, hv, hb⟩
        · rw [hv] at hx
          exact absurd hx.symm hx0
        · rw [hv] at hx
          obtain rfl : v = x := hx
          rcases hb with ⟨z, _⟩ | ⟨_, hb⟩
          · exact absurd z hx0
          refine rest true hb _ fun H' s' => ?_
          refine iteF ?_
          exact ⟨hlt, s', _, _, rfl⟩
    · have ei : i = m := by omega
      subst ei
      obtain ⟨hw, kr⟩ := k2 hi
      rcases hw n k en ek with ⟨hb, _⟩ | ⟨v, hv, hb⟩
      · cases hb
      · rw [hv] at hx
        obtain rfl : v = x := hx
        rcases hb with ⟨_, z⟩ | ⟨hx0, hb⟩
        · cases z
        walk_at "v"
        refine ⟨rfl, ?_⟩
        refine ⟨_, rfl, ?_⟩
        refine iteN (fun z => absurd z hx0) (fun _ => ?_)
        refine rest false hb _ fun H' s' => ?_
        refine iteT ?_
        walk_at "v"
        exact kr n H' en s'
  · rintro σ H1 ⟨him, s1, w2, w3, rfl⟩
    rw [List.length_map] at him
    exact k1 (by omega) H1 s1
/-! ### is_filling -/
def HasB (K : PySem.W.Frag) (H : Hp) (ns : List Str) (x : V) (b : Bool) : Prop := (∃ T, TyX K H x (.type T) ∧ T ≠ "dict" ∧ b = false) ∨
  ∃ d kvs, x = .ref d ∧ H d = some (.dK kvs) ∧ b = (decide (kvs.length = ns.length) && ns.all fun n => (valV kvs (.inr n)).isSome)
theorem kit_dict {K : PySem.W.Frag} {H : Hp} {x : V} {T : String} (ty : TyX K H x (.type T)) (hn : T ≠ "dict") : kitB T "dict" = some false := by
  cases ty with
  | base b => cases b <;> first | exact absurd rfl hn | decide +kernel
  | _ => first | exact absurd rfl hn | decide +kernel
def t__has_all_fields (K : PySem.W.Frag) (A : Ads) (E : XK) : TS :=
    (tRet (tAndV (tCB (rIsi K) (tCons (tVar 1) (tCons (tC (.ty "dict")) tNil))) (tAndV (tOp rEq (tCB rLenD (tCons (tVar 1) tNil)) (tCB (rLenO A.cLayout (sp_Layout___len__ K A) E0) (tCons (tVar 0) tNil))) (tCB (rAll K) (tCons (tLc (iTup K (tFld K (tVar 0) "names")) (gName 2) tYes (tDIn (tVar 2) (tVar 1)) [2]) tNil)))))
def n__has_all_fields : List Str := ["layout", "thing", "name"]
def sp__has_all_fields (K : PySem.W.Frag) (A : Ads) : Sp := fun vs H Q _ => ∃ (a : Addr) (x : V) (ns ks : List Str) (b : Bool), vs = [.ref a, x] ∧ LayAt A H a ns ks ∧ HasB K H ns x b ∧ ∀ H', Same H H' → Q (.bl b) H'
theorem len__has_all_fields {K : PySem.W.Frag} {A : Ads} {vs : List V} {H : Hp} {Q : VK} {E : XK} (h : sp__has_all_fields K A vs H Q E) : vs.length = 2 := by
  obtain ⟨a, _, _, _, _, rfl, _⟩ := h
  rfl
theorem pure__has_all_fields {K : PySem.W.Frag} {A : Ads} (cl : Cls K A.cLayout) (nn : NoAttr K A.cLayout "names") {vs : List V} {H : Hp} {Q : VK} {E : XK} (h : sp__has_all_fields K A vs H Q E) :
    t__has_all_fields K A E { nx := fun _ H' => Q .non H', rt := Q } (start n__has_all_fields vs) H := by
  obtain ⟨a, x, ns, ks, b, rfl, lay, hb, k⟩ := h
  have lay0 := lay
  obtain ⟨dx, tn, tk, ha, gn, gk, hnk, h5, hok0, hdup⟩ := lay0
  walk_at "v"
  rcases hb with ⟨T, ty, hn, rfl⟩ | ⟨d, kvs, rfl, hd, rfl⟩
  · refine ⟨_, _, _, _, _, rfl, .ty _, ty, kit_ty (kit_dict ty hn), ?_⟩
    exact ⟨_, rfl, iteF (k H (Same.refl H))⟩
  · refine ⟨_, _, _, _, _, rfl, .ty _, .base (.dK hd), kit_ty (by decide +kernel : kitB "dict" "dict" = some true), ?_⟩
    refine ⟨_, rfl, iteT ?_⟩
    walk_at "v"
    refine ⟨d, kvs, rfl, hd, ?_⟩
    walk_at "v"
    refine ⟨a, dx, _, rfl, ha, a, ns, ks, rfl, lay, _, rfl, by omega, ?_, ?_⟩
    · have : (2 : Int) ^ 63 = 9223372036854775808 := by decide
      omega
    refine ⟨rfl, ?_⟩
    refine ⟨_, rfl, ?_⟩
    refine iteD (fun he => ?_) (fun he => ?_)
    · have he' : kvs.length = ns.length := by injection he with he; omega
      walk_at "v"
      refine ⟨a, _, dx, _, _, rfl, ha, cl, nn, rfl, ?_⟩
      refine ⟨tn, rfl, ⟨_, gn.seq⟩, fun D hD => ?_⟩
      refine lc_tup (K := K) (a := tn) (xs := ns.map V.str) (fun i H' => Same H H' ∧ H' D = some (.lst ((ns.take i).map fun n => V.bl (valV kvs (.inr n)).isSome))) ⟨Same.new hD, upd_same⟩ (fun i H' _ z => (gn.same z.1).seq) ?_ ?_
      · rintro i x H1 hx ⟨s1, hl⟩
        have hi : i < ns.length := by
          have := (List.getElem?_eq_some_iff.mp hx).1
          rwa [List.length_map] at this
        obtain ⟨n, en⟩ : ∃ n, ns[i]? = some n := ⟨ns[i], List.getElem?_eq_getElem hi⟩
        rw [List.getElem?_map, en] at hx
        cases hx
        refine ⟨rfl, ?_⟩
        walk_at "v"; walk_at "v"
        refine ⟨d, _, rfl, DGet.k (k := .inr n) (s1 _ _ hd), ?_⟩
        refine ⟨_, hl, ?_, fun b o hb => ?_, ?_⟩
        · rw [List.length_map, List.length_take]
          exact Nat.lt_of_le_of_lt (Nat.min_le_right _ _) (Nat.lt_of_lt_of_le (show ns.length < 6 by omega) (by decide))
        · rw [upd_ne (ne_of_none hb hD)]
          exact s1 b o hb
        · rw [upd_same, List.take_succ, en]
          simp
      · rintro H1 ⟨s1, hl⟩
        rw [List.length_map, List.take_length] at hl
        refine ⟨D, ns.map fun n => (valV kvs (.inr n)).isSome, rfl, SqL.of (by rw [List.map_map]; exact hl), ?_⟩
        have e3 : (ns.map fun n => (valV kvs (.inr n)).isSome).all id = (decide (kvs.length = ns.length) && ns.all fun n => (valV kvs (.inr n)).isSome) := by
          rw [List.all_map, decide_eq_true he', Bool.true_and]
          rfl
        rw [e3]
        exact k H1 s1
    · have e3 : (decide (kvs.length = ns.length) && ns.all fun n => (valV kvs (.inr n)).isSome) = false := by
        rw [decide_eq_false (fun z => he (by rw [z])), Bool.false_and]
      rw [e3] at k
      exact k H (Same.refl H)
def FillB (K : PySem.W.Frag) (H : Hp) (ns ks : List Str) (x : V) (b : Bool) : Prop := (HasB K H ns x false ∧ b = false) ∨ ∃ d kvs m, x = .ref d ∧ H d = some (.dK kvs) ∧ HasB K H ns x true ∧ m ≤ ns.length ∧ (∀ i, i < m → Holds1 K H ns ks kvs i true) ∧
  ((m = ns.length ∧ b = true) ∨ (m < ns.length ∧ Holds1 K H ns ks kvs m false ∧ b = false))
def t_Layout_is_filling (K : PySem.W.Frag) (A : Ads) (E : XK) : TS :=
    (tRet (tAndV (tCall (sp__has_all_fields K A) [] E0 (tCons (tVar 0) (tCons (tVar 1) tNil))) (tOp rIsN (tCall (sp_first_wrong K A) [] E (tCons (tVar 0) (tCons (tVar 1) tNil))) (tC .non))))
def n_Layout_is_filling : List Str := ["self", "thing"]
def sp_Layout_is_filling (K : PySem.W.Frag) (A : Ads) : Sp := fun vs H Q _ => ∃ (a : Addr) (x : V) (ns ks : List Str) (b : Bool), vs = [.ref a, x] ∧ LayAt A H a ns ks ∧ FillB K H ns ks x b ∧ ∀ H', Same H H' → Q (.bl b) H'
theorem len_Layout_is_filling {K : PySem.W.Frag} {A : Ads} {vs : List V} {H : Hp} {Q : VK} {E : XK} (h : sp_Layout_is_filling K A vs H Q E) : vs.length = 2 := by
  obtain ⟨a, _, _, _, _, rfl, _⟩ := h
  rfl
theorem pure_Layout_is_filling {K : PySem.W.Frag} {A : Ads} {vs : List V} {H : Hp} {Q : VK} {E : XK} (h : sp_Layout_is_filling K A vs H Q E) :
    t_Layout_is_filling K A E { nx := fun _ H' => Q .non H', rt := Q } (start n_Layout_is_filling vs) H := by
  obtain ⟨a, x, ns, ks, b, rfl, lay, hb, k⟩ := h
  walk_at "v"; walk_at "v"
  rcases hb with ⟨hb, rfl⟩ | ⟨d, kvs, m, rfl, hd, hb, hm, hok, hr⟩
  · refine ⟨a, x, ns, ks, false, rfl, lay, hb, fun H1 s1 => ?_⟩
    exact ⟨_, rfl, iteF (k H1 s1)⟩
  · refine ⟨a, .ref d, ns, ks, true, rfl, lay, hb, fun H1 s1 => ?_⟩
    refine ⟨_, rfl, iteT ?_⟩
    walk_at "v"; walk_at "v"
    refine ⟨a, d, ns, ks, kvs, m, rfl, lay.same s1, s1 _ _ hd, hm, fun i hi => (hok i hi).mono s1, fun em H2 s2 => ?_, fun hlt => ?_⟩
    · rcases hr with ⟨_, rfl⟩ | ⟨h, _⟩
      · exact ⟨rfl, k H2 (Same.trans s1 s2)⟩
      · omega
    · rcases hr with ⟨h, _⟩ | ⟨_, hw, rfl⟩
      · omega
      · exact ⟨hw.mono s1, fun n H2 en s2 => ⟨rfl, k H2 (Same.trans s1 s2)⟩⟩
end Md

set_option Elab.async false
set_option linter.all false
set_option maxRecDepth 100000
set_option maxHeartbeats 4000000
namespace Md
open PySem PySem.Spec PyProof.Rows PySem.Calls L2
/-! a method of ** alone, called by keywords -/
def kwFor (kws : List (Str × Value)) (d : Addr) : Sem PUnit := forIn kws PUnit.unit (fun x _ => (nsSet d x.1 x.2 >>= fun _ => pure (ForInStep.yield PUnit.unit)))
/-- where keywords go, in a def of one parameter and ** -/
def kwTo (kws : List (Str × Value)) (u0 : Value) (p0 pd : Str) : Sem (List (Str × Value)) :=
  (alloc ({ cls := .type "dict", data := .dict #[] } : Obj) : Sem Addr) >>= fun d => kwFor kws d >>= fun _ => pure [(p0, u0), (pd, Value.ref d)]
theorem loop_pure {α σ : Type} (f : α → σ → Sem (ForInStep σ)) (g : σ → α → σ) : ∀ (l : List α) (s : σ), (∀ x ∈ l, ∀ s, f x s = pure (.yield (g s x))) → forIn l s f = pure (l.foldl g s)
  | [], s, _ => rfl
  | x :: r, s, h => by
    rw [List.forIn_cons, h x (.head _)]
    show forIn r (g s x) f = _
    rw [loop_pure f g r _ fun y hy => h y (.tail _ hy)]
    rfl
theorem foldl_put {β : Type} (c : β) : ∀ (l acc : List (Str × Value)), l.foldl (fun (s : β × List (Str × Value)) x => (s.1, s.2 ++ [(x.1, x.2)])) (c, acc) = (c, acc ++ l)
  | [], acc => by rw [List.append_nil]; rfl
  | x :: r, acc => by
    show r.foldl _ (c, acc ++ [x]) = _
    rw [foldl_put c r, List.append_assoc]
    rfl
theorem bind_kw {fd : FuncData} {u0 : Value} {p0 pd : Str} {an ad : Arg} (h1 : fd.params.posonlyargs = []) (h2 : fd.params.args = [an]) (h3 : fd.params.vararg = none) (h4 : fd.params.kwonlyargs = []) (h5 : fd.params.kwarg = some ad) (h6 : fd.defaults = .none) (e1 : an.arg = p0) (e2 : ad.arg = pd)
    (kws : List (Str × Value)) (hk : ∀ x ∈ kws, x.1 ≠ p0) (hl : kws.length ≤ 1000) : bindArgs fd ⟨[u0], kws⟩ = kwTo kws u0 p0 pd := by
  have hc : ∀ x ∈ kws, [p0].contains x.1 = false := fun x hx => by
    show (x.1 == p0 || false) = false
    rw [beq_eq_false_iff_ne.mpr (hk x hx)]
    rfl
  have hz : ¬ ([] ++ kws).length > sizeLine + 1 := by rw [sizeLine_eq, List.nil_append]; omega
  have lk : List.lookup p0 [(p0, u0)] = some u0 := by rw [List.lookup_cons, beq_self_eq_true]
  unfold bindArgs
  simp only [h1, h2, h3, h4, h5, h6, e1, e2, List.map_nil, List.map_cons, List.nil_append, List.append_nil, List.zip_cons_cons, List.zip_nil_left]
  rw [loop_pure _ (fun (s : List (Str × Value) × List (Str × Value)) x => (s.1, s.2 ++ [(x.1, x.2)])) kws _ fun x hx s => by
    rw [hc x hx]
    rfl]
  rw [foldl_put]
  show (if (!(List.filter (fun n => (List.lookup n [(p0, u0)]).isNone) [p0]).isEmpty) = true then _ else _) = _
  refine (if_neg (fun z => ?_)).trans ?_
  · rw [List.filter_cons, lk] at z
    cases z
  · show (if ([] ++ kws).length > sizeLine + 1 then _ else _) = _
    refine (if_neg hz).trans ?_
    show ((alloc ({ cls := .type "dict", data := .dict #[] } : Obj) : Sem Addr) >>= fun d => forIn ([] ++ kws) PUnit.unit (fun x _ => (nsSet d x.1 x.2 >>= fun _ => pure (ForInStep.yield PUnit.unit))) >>= fun _ => pure (List.filterMap (fun n => (List.lookup n [(p0, u0)]).map (n, ·)) [p0] ++ [(pd, Value.ref d)])) = _
    rw [List.nil_append, List.filterMap_cons, lk]
    rfl

theorem push_upd (h : Heap) (o : Obj) (f : Obj → Obj) : (h.push o).update h.objs.size f = h.push (f o) := by
  obtain ⟨objs, l⟩ := h
  show (⟨(objs.push o).modify objs.size f, l⟩ : Heap) = ⟨objs.push (f o), l⟩
  congr 1
  apply Array.ext
  · simp
  · intro i h1 h2
    rw [Array.getElem_modify, Array.getElem_push, Array.getElem_push]
    have h3 : i < objs.size + 1 := by simpa using h2
    by_cases e : i < objs.size
    · simp [e, show objs.size ≠ i by omega]
    · have e2 : objs.size = i := by omega
      simp [e, e2]
theorem kwFor_ok {prog : Program} {w : World} {A : Around} {E : Value → Shared → Prop} {g : Array GenState} {dr : Drawn} {os : OsState} {h0 : Heap} {Q : PUnit → Shared → Prop} : ∀ (ex : List (Str × Value)) (es : List DictEntry) (n t : Nat),
    (∀ e ∈ es, ∀ x ∈ ex, e.key.isStr x.1 = false) → (∀ e ∈ es, e.refKey = false) → (ex.map (·.1)).Nodup → Q ⟨⟩ ⟨h0.push (PySem.W.dictOf (es ++ PySem.W.kwEs w.params t ex) (n + ex.length)), g, dr, t + ex.length, os⟩ →
    wpAny (model prog w) A (kwFor ex h0.objs.size) Q E ⟨h0.push (PySem.W.dictOf es n), g, dr, t, os⟩
  | [], es, n, t, _, _, _, q => by
    have q' : Q ⟨⟩ ⟨h0.push (PySem.W.dictOf (es ++ []) n), g, dr, t, os⟩ := q
    rw [List.append_nil] at q'
    exact wpAny_pure q'
  | x :: r, es, n, t, hs, hr, hn, q => by
    obtain ⟨n1, n2⟩ := List.nodup_cons.mp (show (x.1 :: r.map (·.1)).Nodup from hn)
    have e1 : es.any (·.key.isStr x.1) = false := List.any_eq_false.mpr fun e he => by rw [hs e he x (.head _)]; decide
    have e2 : es.any (·.refKey) = false := List.any_eq_false.mpr fun e he => by rw [hr e he]; decide
    have e3 : Obj.putName x.1 (PyData.keyHash w.params x.1) (.str x.1 t) x.2 (PySem.W.dictOf es n) = PySem.W.dictOf (es ++ [⟨PyData.keyHash w.params x.1, .str x.1 t, x.2⟩]) (n + 1) := by
      rw [PySem.W.putName_dict, PySem.W.putL_new fun e he => hs e he x (.head _)]
      show PySem.W.dictOf _ (if es.any (·.key.isStr x.1) then n else n + 1) = _
      rw [e1, if_neg Bool.false_ne_true]
    have e4 : aRefKeyMayBeTheName x.1 es.toArray = false := by
      rw [aRefKeyMayBeTheName_at, ← Array.any_toList, ← Array.any_toList]
      show (!es.any (·.key.isStr x.1) && es.any (·.refKey)) = false
      rw [e2, Bool.and_false]
    unfold kwFor
    rw [List.forIn_cons]
    refine wpAny_bind (wpAny_bind ?_)
    unfold nsSet
    refine wpAny_bind (wpAny_bind (wpAny_askSetting (wpAny_pure (wpAny_bind (wpAny_mkText (wpAny_bind (wpAny_loadPart (Heap.get?_push_size h0 rfl) ?_)))))))
    dsimp only
    rw [e4]
    refine wpAny_updatePart (Heap.get?_push_size h0 rfl) (wpAny_pure ?_)
    show wpAny _ _ (kwFor r h0.objs.size) _ _ ⟨(h0.push (PySem.W.dictOf es n)).update h0.objs.size (Obj.putName x.1 (PyData.keyHash w.params x.1) (.str x.1 t) x.2), g, dr, t + 1, os⟩
    rw [push_upd, e3]
    refine kwFor_ok r _ _ _ (fun e he y hy => ?_) (fun e he => ?_) n2 ?_
    · rcases List.mem_append.mp he with he | he
      · exact hs e he y (.tail _ hy)
      · obtain rfl := List.mem_singleton.mp he
        exact beq_eq_false_iff_ne.mpr fun z => n1 (List.mem_map.mpr ⟨y, hy, z.symm⟩)
    · rcases List.mem_append.mp he with he | he
      · exact hr e he
      · obtain rfl := List.mem_singleton.mp he
        rfl
    · have t1 : t + 1 + r.length = t + (r.length + 1) := by omega
      have t2 : n + 1 + r.length = n + (r.length + 1) := by omega
      rw [t1, t2, List.append_assoc]
      exact q
def kwD (ks : List Str) (vs : List V) : List (Key × V) := (ks.zip vs).map fun p => (.inr p.1, p.2)
theorem kw_pairs {prog : Program} {w : World} : ∀ (ex : List (Str × Value)) (t : Tok), Pairs (mixKind prog w) (PySem.W.kwEs w.params t ex) (ex.map fun p => ((.inr p.1 : Key), p.2))
  | [], _ => .nil
  | x :: r, t => .cons (show Value.isStrOf x.1 (.str x.1 t) = true by simp [Value.isStrOf]) rfl (kw_pairs r (t + 1))
theorem kw_kv : ∀ {ks : List Str} {vs : List V} {us : List Value}, Vals vs us → KV (kwD ks vs) ((ks.zip us).map fun p => ((.inr p.1 : Key), p.2))
  | [], _, _, _ => .nil
  | _ :: _, _, _, .nil => .nil
  | k :: ks, _, _, .cons a r => .cons ⟨rfl, a⟩ (kw_kv r)
theorem kw_ok {P : Program} {w : World} {H : Hp} {h : Heap} {ks : List Str} {vs : List V} {us : List Value} {t n : Nat} (hb : sysModules < h.objs.size) (hn : ks.Nodup) (hl : vs.length = ks.length) (hz : ks.length ≤ 1000) (r : Vals vs us) :
    ObjOk P w H (h.push (PySem.W.dictOf ([] ++ PySem.W.kwEs w.params t (ks.zip us)) n)) h.objs.size (.dK (kwD ks vs)) := by
  refine ⟨?_, beq_eq_false_iff_ne.mpr (Ne.symm (Nat.ne_of_lt hb)), _, kw_kv r, _, _, _, Heap.get?_push_size _ rfl, ⟨rfl, rfl, rfl⟩, rfl, fun e he => ?_, ?_, ?_⟩
  · unfold kwD
    rw [List.length_map, List.length_zip, sizeLine_eq]
    omega
  · obtain ⟨k, u, e1, e2⟩ := PySem.W.kwEs_key _ _ e (List.mem_toArray.mp he)
    exact ⟨.inr k, by rw [e1]; show Value.isStrOf k (.str k u) = true; simp [Value.isStrOf], e2⟩
  · rw [List.nil_append]
    exact kw_pairs _ _
  · rw [List.map_map]
    have e : ((ks.zip us).map ((fun x => x.1) ∘ fun p => ((.inr p.1 : Key), p.2))) = ks.map Sum.inr := by
      have l : us.length = ks.length := by rw [← r.length]; exact hl
      rw [show ((fun (x : Key × Value) => x.1) ∘ fun (p : Str × Value) => ((.inr p.1 : Key), p.2)) = Sum.inr ∘ Prod.fst from rfl, ← List.map_map, List.map_fst_zip (by omega)]
    rw [e]
    exact List.pairwise_map.mpr (hn.imp fun hne z => hne (Sum.inr.inj z))
theorem cxUpN {P : Program} {w : World} : StX.CXUp (L2N.CX P w) := by
  rintro outer s H s2 H2 E e s' un kp ho ⟨a, B, H', cls, d, ea, fl, hok, ub, na, os, ag, he⟩
  have fr : ∀ b o, s.heap.get? b = some o → H b = none → H2 b = none := fun b o q n => un.free b o q n (by simp)
  refine ⟨a, B, H', cls, d, ea, fl, hok, ?_, na, os.trans ho, ag, he⟩
  exact {
    keep := fun b o q n hb => ub.keep b o (kp b o q) (fr b o q n) hb
    slot := fun b o q hb => ub.slot b o (kp b o q) hb
    free := fun b o q n => ub.free b o (kp b o q) (fr b o q n)
    there := fun b o q hb => ub.there b o (kp b o q) hb
    tups := fun b xs q => ub.tups b xs (un.tups b xs q)
    frzs := fun b o xs q => ub.frzs b o xs (un.frzs b o xs q)
    tbls := fun b ps q => by
      obtain ⟨m1, e1⟩ := un.tbls b ps q
      obtain ⟨m2, e2⟩ := ub.tbls b _ e1
      exact ⟨m1 ++ m2, by rw [e2, Array.append_assoc]⟩ }
/-- a def of self and ** alone, called by keywords -/
def RunKw (P : Program) (w : World) (K : PySem.W.Frag) (mg : Str → Option Value) (base : Heap) (k : Nat) (f : Addr) (sp : Sp) : Prop :=
  ∀ (A : Around) (outer : List Env) (s : Shared) (H : Hp) (u0 : Value) (v0 : V) (ks : List Str) (us : List Value) (vs : List V) (Q : VK) (E : XK), Room k A → Env0 P w K mg base A outer s H → RelV v0 u0 → Vals vs us → vs.length = ks.length → ks.Nodup → ("self" : Str) ∉ ks → ks.length ≤ 1000 →
    (∀ d, H d = none → sp [v0, .ref d] (upd H d (.dK (kwD ks vs))) Q E) → codeAny (model P w) A (.call (.ref f) ⟨[u0], ks.zip us⟩) (CR (L2N.CX P w) outer P w H s Q E) s
theorem RunKw.mono {P : Program} {w : World} {K : PySem.W.Frag} {mg : Str → Option Value} {base : Heap} {j k : Nat} {f : Addr} {sp : Sp} (F : RunKw P w K mg base j f sp) (h : j ≤ k) : RunKw P w K mg base k f sp :=
  fun A outer s H u0 v0 ks us vs Q E hr => F A outer s H u0 v0 ks us vs Q E (hr.mono h)
theorem funD_kw {P : Program} {w : World} {K : PySem.W.Frag} {mg : Str → Option Value} {base : Heap} {x qual : Str} {params : Arguments} {body : List Stmt} {scope : Scope} {f : Addr} {fd : FuncData} {N : List Str} {pd : Str} {k : Nat} {sp : Sp} {an ad : Arg} (F : FunD K x qual params body scope [] [] f fd) (S : FnScope N ["self", pd] scope)
    (h1 : params.posonlyargs = []) (h2 : params.args = [an]) (h3 : params.vararg = none) (h4 : params.kwonlyargs = []) (h5 : params.kwarg = some ad) (e1 : an.arg = "self") (e2 : ad.arg = pd)
    (hbody : ∀ (cdv : Value) (A : Around) (outer : List Env) (s : Shared) (H : Hp) (vs : List V) (Q : VK) (E : XK), Room k (A.deeper (envOfC qual scope s.heap.objs.size f cdv)) → sp vs H Q E →
      ∃ t, PSs (cxOf (L2N.CX P w) P w K mg base N qual scope f cdv A outer s H E) body t ∧ t { nx := fun _ H' => Q .non H', rt := Q } (start N vs) H) : RunKw P w K mg base (k + 1) f sp := by
  intro A outer s H u0 v0 ks us vs Q E hr e0 r0 r hl hn hs hz hsp
  obtain ⟨oc, od, dV, kV, doc, pm, an', cdv, ct, osl, rfl, lk, hcd, dd, _⟩ := F.ex
  have hd : dV = .none := by
    rcases dd with ⟨_, z⟩ | ⟨z, _⟩
    · exact z
    · exact absurd rfl z
  subst hd
  have hnew : H s.heap.objs.size = none := e0.hok.fresh (Nat.le_refl _)
  have hlu : us.length = ks.length := by rw [← r.length]; exact hl
  refine StX.run_bnd lk hcd S hr e0 (G := fun xs H2 => ∃ d, H d = none ∧ xs = [v0, V.ref d] ∧ H2 = upd H d (.dK (kwD ks vs))) (fun A' Ex Q' h => ?_) fun s2 H2 xs ⟨d, hd, ex, eH⟩ hr' => ?_
  · rw [bind_kw (fd := PySem.W.fnOf x qual params body scope .none kV doc pm an' cdv ct) h1 h2 h3 h4 h5 rfl e1 e2 (ks.zip us) (fun y hy z => hs (by rw [← z]; exact (List.of_mem_zip hy).1)) (by rw [List.length_zip]; omega)]
    unfold kwTo
    refine wpAny_bind (wpAny_alloc (wpAny_bind ?_))
    have big := StX.env0_big e0
    obtain ⟨hp, g, dr, t, os⟩ := s
    refine kwFor_ok (h0 := hp) (ks.zip us) [] 0 t (fun _ z => nomatch z) (fun _ z => nomatch z) (by rw [List.map_fst_zip (by omega)]; exact hn) (wpAny_pure ?_)
    have new := kw_ok (P := P) (w := w) (H := upd H hp.objs.size (.dK (kwD ks vs))) (h := hp) (t := t) (n := 0 + (ks.zip us).length) big hn hl hz r
    have e3 := StX.env0_laid e0 new
    have un := StX.un_laid (fs := frs outer) (s := ⟨hp, g, dr, t, os⟩) (o := PySem.W.dictOf ([] ++ PySem.W.kwEs w.params t (ks.zip us)) (0 + (ks.zip us).length)) (u := .dK (kwD ks vs)) hnew
    exact h ⟨hp.push (PySem.W.dictOf ([] ++ PySem.W.kwEs w.params t (ks.zip us)) (0 + (ks.zip us).length)), g, dr, t + (ks.zip us).length, os⟩ _ [v0, V.ref hp.objs.size] [u0, Value.ref hp.objs.size]
      ⟨e3.frames, e3.mod, e3.bs, e3.bsz, e3.funs, e3.frf, e3.hok, e3.bare⟩ un rfl (fun e s' => cxUpN outer ⟨hp, g, dr, t, os⟩ H _ _ E e s' un (fun b o q => Heap.get?_push_of_some _ q) rfl) (.cons r0 (.cons rfl .nil)) rfl ⟨_, hnew, rfl, rfl⟩
  · subst ex eH
    exact hbody cdv A outer s2 _ _ Q E hr' (hsp d hd)
/-- a method of ** alone -/
structure MtK (P : Program) (w : World) (K : PySem.W.Frag) (mg : Str → Option Value) (base : Heap) (k : Nat) (C : Addr) (m : Str) (sp : Sp) : Prop where
  ex : ∃ (f : Addr), Cls K C ∧ Meth K C m f ∧ RunKw P w K mg base k f sp
def tMethKw (C : Addr) (m : Str) (ks : List Str) (sp : Sp) (E : L2.St → XK) (ta : TE) (tk : TA) : TE := fun σ H Q => ta σ H fun x H1 => ∃ a dx fs, x = .ref a ∧ H1 a = some (.ins C dx fs) ∧ fs.lookup m = none ∧
  tk σ H1 fun vs H2 => vs.length = ks.length ∧ ∀ d, H2 d = none → sp [x, .ref d] (upd H2 d (.dK (kwD ks vs))) Q (E σ)
theorem pe_mtKw {X : Cx} {k j : Nat} {C : Addr} {sp : Sp} {E : L2.St → XK} {m : Str} {ks : List Str} {pos apos : Pos} {o : Expr} {kws : List Keyword} {ta : TE} {tk : TA} {pl : Sem Bool} (c : MtK X.prog X.w X.K X.mg X.base k C m sp) (hr : Room j X.A) (hk : k ≤ j)
    (hx : ∀ σ, PassesAt (L2N.CX X.prog X.w) X σ (E σ)) (he : PE X o ta) (hkw : PK X kws tk)
    (hall : (backToKw pos (keywordEach kws X.env)).all (·.1.isSome) = true := by rfl) (hks : (backToKw pos (keywordEach kws X.env)).filterMap (·.1) = ks := by rfl) (hnd : ks.Nodup := by decide) (hself : ("self" : Str) ∉ ks := by decide) (hlen : ks.length ≤ 1000 := by decide)
    (hpl : ((backTo pos (starEach [] X.env)).any (·.1) || (backToKw pos (keywordEach kws X.env)).any (·.1.isNone)) = false := by rfl)
    (ht : eval (.Call (.Attribute o m apos) [] kws pos) X.env = (do
      let ov ← eval o X.env
      standAt apos.atName
      let (f, first) ← holding [ov] (getMethod ov m pl)
      callWith pos f first (backTo pos (starEach [] X.env)) (backToKw pos (keywordEach kws X.env))) := by rfl) :
    PE X (.Call (.Attribute o m apos) [] kws pos) (tMethKw C m ks sp E ta tk) := by
  obtain ⟨f, c1, hm, F⟩ := c.ex
  refine ⟨fun pins s σ H Q I h => PySem.W.methodCall_KW (pl := pl) (thn (he.run pins s σ H _ I h) ?_) ht⟩
  rintro u s1 ⟨x, H1, I1, rx, a, dx, fs, rfl, at_, l, q⟩
  obtain rfl : u = Value.ref a := rx
  refine getmeth_ok I1 at_ c1 hm l (PySem.W.callWith_KW0 (first := [.ref a]) (h₀ := X.base) I.ok.mod.kin hm.kp hall (thn (hkw.run pos pins s1 σ H1 _ I1 q) ?_) hpl)
  rintro us s2 ⟨vs, H2, I2, r, hl, q2⟩
  refine ⟨I2.kIn, ?_⟩
  rw [hks]
  refine wpAny_call (codeAny_mono (F X.A X.stack s2 H2 (.ref a) (.ref a) ks us vs Q (E σ) (hr.mono hk) I2.env0 rfl r hl hnd hself hlen q2) fun r s' hq => ?_)
  cases r with
  | error e => exact hx σ pins H2 s2 e s' I2 hq
  | ok fl =>
    cases fl with
    | ret u => exact I2.after hq
    | next => exact False.elim hq
    | brk => exact False.elim hq
    | cont => exact False.elim hq
end Md

set_option Elab.async false
set_option linter.all false
set_option maxRecDepth 100000
set_option maxHeartbeats 4000000
namespace Md
open PySem PySem.Spec PyProof.Rows PySem.Calls L2
/-! a try with several clauses, each with a name for its error -/
/-- an error a has come to the clauses: what is known of it, and of all that it left -/
structure Got (X : Cx) (pins : List (Addr × Obj)) (B : Heap) (sI : Shared) (σ : L2.St) (H : Hp) (a : Addr) (cls : Value) (d : Option Addr) (s : Shared) : Prop where
  inv : Inv X pins σ H sI
  nb : ∀ b o, sI.heap.get? b = some o → b ∉ frs X.stack → B.get? b = some o
  up : sI.heap.UpToSlots s.heap
  fl : HandSPX.FlyingZ B (X.env :: X.outer) a (L2N.Zn cls d) s.heap
  na : H a = none
  os : s.os = sI.os
  ag : AllBare s.gens
section
variable {X : Cx} {pins : List (Addr × Obj)} {B : Heap} {sI s : Shared} {σ : L2.St} {H : Hp} {a : Addr} {cls : Value} {d : Option Addr}
theorem Got.on (g : Got X pins B sI σ H a cls d s) {h : Heap} (fl : HandSPX.FlyingZ B (X.env :: X.outer) a (L2N.Zn cls d) h) (up : s.heap.UpToSlots h) : Got X pins B sI σ H a cls d { s with heap := h } :=
  ⟨g.inv, g.nb, g.up.trans up, fl, g.na, g.os, g.ag⟩
theorem Got.now (g : Got X pins B sI σ H a cls d s) : Inv X pins σ H s := by
  obtain ⟨hp, gs, dr, t, os⟩ := s
  exact L2.Inv.landed (s' := ⟨hp, gs, dr, t, os⟩) g.inv g.nb g.fl.1 g.up g.os g.ag
theorem Got.off (g : Got X pins B sI σ H a cls d s) : a ∉ frs (X.env :: X.outer) := fun hm => by
  obtain ⟨oe, vs, he, _, hd⟩ := g.fl.there
  obtain ⟨_, o, e, hnf⟩ := g.fl.2.2.1.mem hm
  rw [he] at e
  cases e
  exact hnf _ hd
theorem Got.hot (g : Got X pins B sI σ H a cls d s) (hf : X.env.frame = some X.env.locals) : ∃ oe, L2N.Zn cls d oe ∧ (∃ vs, oe.data = .fields vs) ∧ s.heap.get? a = some oe ∧ Inv (X.suite a ((a, oe) :: (X.pn ++ pins))) [] σ H s := by
  obtain ⟨oe, vs, he, hz, hd⟩ := g.fl.there
  refine ⟨oe, hz, ⟨_, hd⟩, he, L2.Inv.suite g.now he hd g.na (fun z => g.off ?_) fun hm => g.off ?_⟩
  · exact List.mem_filterMap.mpr ⟨X.env, List.mem_cons_self, by rw [hf, z]⟩
  · obtain ⟨e, he, q⟩ := List.mem_filterMap.mp hm
    exact List.mem_filterMap.mpr ⟨e, List.mem_cons_of_mem _ he, q⟩
/-- no clause takes it -/
theorem Got.pass {W : WX} {D : Ends} (g : Got X pins B sI σ H a cls d s) (hs : X.stack = X.env :: X.outer) (hf : X.env.frame = some X.env.locals) (tk : L2N.Takes X W) (w : W cls d σ H) :
    wpAny (model X.prog X.w) X.A (handleBy (.ref a) X.env []) (SP X pins D) X.xe s := by
  refine wpAny_handleBy_nil ?_
  have fl := g.fl
  obtain ⟨_, _, _, oe, vs, T, _, _, he, _, hd, h1, _⟩ := id fl
  unfold PySem.passOn
  refine wpAny_bind (wpAny_field he hd h1 ?_)
  rw [if_neg (show ¬ ((Value.ref T == Value.none) = true) from by simp)]
  have last : wpAny (model X.prog X.w) X.A (setFlight (.ref a) X.env.frame) (fun _ s4 => wpAny (model X.prog X.w) X.A (throw (.ref a) : Sem Flow) (SP X pins D) X.xe s4) X.xe s := by
    rw [hf]
    refine HandSPX.setFlight_upZ fl fun h4 hh up4 => wpAny_throw (tk _ _ ?_)
    exact ⟨a, B, sI, pins, σ, H, cls, d, rfl, g.inv, g.nb, g.up.trans up4, .inr (.inr (by rw [hs]; exact hh)), g.na, g.os, g.ag, w⟩
  first
    | exact wpAny_bind (wpAny_pure (wpAny_bind last))
    | exact wpAny_bind last
end
inductive HdsAs (X : Cx) : List ExceptHandler → List (Value × Nat × (Addr → Value → Option Addr → TS)) → Prop
  | nil : HdsAs X [] []
  | cons {x n : Str} {c : Value} {i : Nat} {ts : Addr → Value → Option Addr → TS} {b₀ : Stmt} {suite : List Stmt} {np pos' : Pos} {hds : List ExceptHandler} {l : List (Value × Nat × (Addr → Value → Option Addr → TS))} (hc : Names X x c)
      (hi : X.N[i]? = some n) (hln : X.env.kindOf n = some .local)
      (hsu : ∀ (a : Addr) (oe : Obj) (cls : Value) (d : Option Addr) (pn : List (Addr × Obj)), L2N.Zn cls d oe → (∃ vs, oe.data = .fields vs) → PSs (X.suite a ((a, oe) :: pn)) (b₀ :: suite) (ts a cls d)) (r : HdsAs X hds l) :
      HdsAs X (.ExceptHandler (some (.Name x np)) (some n) (b₀ :: suite) pos' :: hds) ((c, i, ts) :: l)
def wTries (K : PySem.W.Frag) (Wout : WX) (D : Ends) : List (Value × Nat × (Addr → Value → Option Addr → TS)) → WX
  | [] => Wout
  | p :: r => wAs K p.1 p.2.1 p.2.2 (wTries K Wout D r) D
theorem Got.go {X : Cx} {pins : List (Addr × Obj)} {B : Heap} {sI : Shared} {σ : L2.St} {H : Hp} {a : Addr} {cls : Value} {d : Option Addr} {W : WX} {D : Ends} (hs : X.stack = X.env :: X.outer) (hf : X.env.frame = some X.env.locals) (hN : X.N.Nodup) (tk : L2N.Takes X W) :
    ∀ {hds : List ExceptHandler} {l : List (Value × Nat × (Addr → Value → Option Addr → TS))} (s : Shared), HdsAs X hds l → Got X pins B sI σ H a cls d s → wTries X.K W D l cls d σ H → wpAny (model X.prog X.w) X.A (handleBy (.ref a) X.env hds) (SP X pins D) X.xe s := by
  intro hds l s hk
  induction hk with
  | nil => exact fun g w => g.pass hs hf tk w
  | @cons x n c i ts b₀ suite np pos' hds l hc hi hln hsu r ih =>
    rintro g ⟨b, hb, hyes, hno⟩
    have ok := g.inv.ok
    obtain ⟨oe, hz, _, he, S3⟩ := g.hot hf
    refine wpAny_handleBy_cons (codeAny_handlers_test ?_) (by intro q; cases q)
    have ty : PySem.W.Looks (model X.prog X.w) s.heap (typeOf (.ref a)) cls := fun A Q E s k q => wpAny_typeOf_ref (k _ _ he) (by rw [hz.1]; exact q)
    have name : ∀ {Q : Value → Shared → Prop} {E : Value → Shared → Prop}, Q c s → wpAny (model X.prog X.w) (X.A.mark (some (.ref a))) (eval (.Name x np) X.env) Q E s := fun {Q E} q => by
      rcases hc with ⟨hg, hdb, hm | ⟨hm, hv, hnn⟩⟩
      · exact ld_glob (X := X.suite a ((a, oe) :: (X.pn ++ pins))) S3 hg hm q hdb
      · exact ld_blt (X := X.suite a ((a, oe) :: (X.pn ++ pins))) S3 hg hm hv q hnn hdb
    refine name ((PySem.W.exm_one (M := model X.prog X.w) g.now.kIn ty hb).here ?_)
    cases b with
    | false =>
      show wpAny _ X.A (handleBy (.ref a) X.env hds) _ _ _
      exact ih g (hno rfl)
    | true =>
      refine codeAny_handlers_suite_as (HandSPX.lands_againZ g.fl fun h4 fl4 up4 => ?_)
      have g4 := g.on fl4 up4
      obtain ⟨oe4, hz4, hd4, _, S4⟩ := g4.hot hf
      refine store_ok (X := X.suite a ((a, oe4) :: (X.pn ++ pins))) (v := .ref a) S4 hN hi (.inl hln) rfl (fun s5 S5 => ?_) (.inr hln)
      refine wpAny_mono ((hsu a oe4 cls d (X.pn ++ pins) hz4 hd4).run [] s5 _ H _ S5 (hyes rfl a g.na)) (fun f s6 hf6 => ?_) fun _ _ z => False.elim z
      have out : ∀ {σ6 : L2.St} {H6 : Hp} {Q : Shared → Prop}, Inv (X.suite a ((a, oe4) :: (X.pn ++ pins))) [] σ6 H6 s6 → (∀ s7, Inv X pins (σ6.set i none) H6 s7 → Q s7) →
          wpAny (model X.prog X.w) X.A (do bindName X.env n .none; unbindBehindTheSuite X.env n pos') (fun _ s7 => Q s7) X.xe s6 := fun {σ6 H6 Q} S6 q => gone_ok (S6.unsuite ok) hN hi hln q
      cases f with
      | ret u =>
        obtain ⟨v6, σ6, H6, S6, r6, q6⟩ := hf6
        exact out S6 fun s7 J7 => ⟨_, _, _, J7, r6, q6⟩
      | _ =>
        obtain ⟨σ6, H6, S6, q6⟩ := hf6
        exact out S6 fun s7 J7 => ⟨_, _, J7, q6⟩
theorem ps_tries {X : Cx} {body : List Stmt} {h₀ : ExceptHandler} {hds : List ExceptHandler} {l : List (Value × Nat × (Addr → Value → Option Addr → TS))} {pos : Pos} {tb : WX → TS} {Wout : WX} (hs : X.stack = X.env :: X.outer) (hf : X.env.frame = some X.env.locals) (hN : X.N.Nodup) (tk : L2N.Takes X Wout)
    (hb : ∀ (W : WX) (pn : List (Addr × Obj)) (xe : Value → Shared → Prop), L2N.Takes (X.tr pn xe) W → PassesOwn (model X.prog X.w) X.A X.env xe → PSs (X.tr pn xe) body (tb W))
    (hh : HdsAs X (h₀ :: hds) l) : PS X (.Try body (h₀ :: hds) [] [] pos) (fun D σ H => tb (wTries X.K Wout D l) D σ H) := by
  refine ⟨fun pins s σ H D I h => ?_⟩
  have ok := I.ok
  have hfr : X.A.frames = some (X.env :: X.outer) := by rw [ok.frames, hs]
  refine wpAny_Try_except (wpAny_mono ((hb (wTries X.K Wout D l) (X.pn ++ pins) (fun e s₁ => wpAny (model X.prog X.w) X.A (noteFrame e X.env) (fun _ s₂ => wpAny (model X.prog X.w) X.A (setFlight e none) (fun _ s₃ =>
    wpAny (model X.prog X.w) X.A (handleBy e X.env (h₀ :: hds)) (SP X pins D) X.xe s₃) X.xe s₂) X.xe s₁) ?_ PassesOwn.looking).run [] s σ H D (I.toTry _) h) (fun f s1 hsp => ?_) fun e s1 he => he)
  · rintro u s' ⟨a, B, sI, pins', σ', H', cls, d, rfl, J', nb, up, sky, na, os, ag, w⟩
    show wpAny (model X.prog X.w) X.A (noteFrame (.ref a) X.env) _ _ _
    refine L2N.Sky.land L2N.Zn.steady hfr hf (by rw [← hs]; exact sky) fun h3 fl3 up3 => ?_
    exact Got.go (W := Wout) (sI := sI) (B := B) hs hf hN tk { s' with heap := h3 } hh ⟨J'.ofTry ok, nb, up.trans up3, fl3, na, os, ag⟩ w
  · cases f with
    | next =>
      obtain ⟨σ', H', J', q⟩ := hsp
      exact wpAny_execs_nil ⟨σ', H', J'.ofTry ok, q⟩
    | ret u =>
      obtain ⟨v, σ', H', J', r, q⟩ := hsp
      exact ⟨v, σ', H', J'.ofTry ok, r, q⟩
    | _ =>
      obtain ⟨σ', H', J', q⟩ := hsp
      exact ⟨σ', H', J'.ofTry ok, q⟩
end Md

set_option Elab.async false
set_option linter.all false
set_option maxRecDepth 100000
set_option maxHeartbeats 4000000
/-! digits: the written forms of numbers, as lists of signs -/
namespace Md
open PySem PySem.Spec PyProof.Rows PySem.Calls L2 PySem.NumText
def dgN (n : Nat) : List Nat := (Nat.toDigits 10 n).map Char.toNat
def sI (i : Int) : List Nat := if i < 0 then 45 :: dgN i.natAbs else dgN i.natAbs
theorem dgN_val (n : Nat) : digitsVal (dgN n) = n := PySem.W.KIN.val_back n
theorem dgN_dig {n c : Nat} (h : c ∈ dgN n) : 48 ≤ c ∧ c ≤ 57 := by
  obtain ⟨ch, hch, e⟩ := List.mem_map.mp h
  rw [← e]
  exact digit_range (Nat.isDigit_of_mem_toDigits (by decide) (by decide) hch)
theorem dgN_small {n : Nat} (h : n < 10) : dgN n = [48 + n] := by
  have : ∀ n < 10, dgN n = [48 + n] := by decide +kernel
  exact this n h
theorem dgN_snoc {n : Nat} (h : ¬ n < 10) : dgN n = dgN (n / 10) ++ [48 + n % 10] := by
  have hm : n % 10 < 10 := Nat.mod_lt n (by decide)
  have t : Nat.toDigits 10 (n / 10) ++ Nat.toDigits 10 (n % 10) = Nat.toDigits 10 (10 * (n / 10) + n % 10) := Nat.toDigits_append_toDigits (by decide) (by omega) hm
  rw [Nat.div_add_mod] at t
  have e : dgN n = dgN (n / 10) ++ dgN (n % 10) := by
    unfold dgN
    rw [← t, List.map_append]
  rw [e, dgN_small hm]
theorem dgN_ne (n : Nat) : dgN n ≠ [] := by
  by_cases h : n < 10
  · rw [dgN_small h]; exact List.cons_ne_nil _ _
  · rw [dgN_snoc h]; simp
theorem dgN_head (n : Nat) : ∃ c r, dgN n = c :: r ∧ (n ≠ 0 → c ≠ 48) := by
  induction n using Nat.strongRecOn with
  | _ n ih =>
    by_cases h : n < 10
    · exact ⟨48 + n, [], dgN_small h, fun z => by omega⟩
    · obtain ⟨c, r, e, hc⟩ := ih (n / 10) (by omega)
      exact ⟨c, r ++ [48 + n % 10], by rw [dgN_snoc h, e]; rfl, fun _ => hc (by omega)⟩
theorem sI_text (i : Int) : (Str.ofString (toString i)).cps.toList = sI i := by
  rw [signs_ofString]
  unfold sI
  cases i with
  | ofNat m =>
    rw [if_neg (show ¬ Int.ofNat m < 0 from Int.not_lt.mpr (Int.natCast_nonneg m))]
    show (Nat.repr m).toList.map Char.toNat = _
    rw [Nat.toList_repr]
    rfl
  | negSucc m =>
    rw [if_pos (Int.negSucc_lt_zero m)]
    show (("-" ++ Nat.repr (m + 1)).toList.map Char.toNat) = _
    rw [String.toList_append, List.map_append, Nat.toList_repr]
    rfl
def valI : List Nat → Int
  | 45 :: r => -((digitsVal r : Nat) : Int)
  | r => ((digitsVal r : Nat) : Int)
theorem valI_sI (i : Int) : valI (sI i) = i := by
  unfold sI
  by_cases h : i < 0
  · rw [if_pos h]
    show -((digitsVal (dgN i.natAbs) : Nat) : Int) = i
    rw [dgN_val]
    omega
  · rw [if_neg h]
    obtain ⟨c, r, e, _⟩ := dgN_head i.natAbs
    have hc := dgN_dig (n := i.natAbs) (c := c) (by rw [e]; exact List.mem_cons_self)
    have e2 : valI (dgN i.natAbs) = ((digitsVal (dgN i.natAbs) : Nat) : Int) := by
      rw [e]
      unfold valI
      split
      · rename_i r' e'
        cases e'
        omega
      · rfl
    rw [e2, dgN_val]
    omega
theorem sI_sign {i : Int} {c : Nat} (h : c ∈ sI i) : c = 45 ∨ (48 ≤ c ∧ c ≤ 57) := by
  unfold sI at h
  split at h
  · rcases List.mem_cons.mp h with rfl | h
    · exact .inl rfl
    · exact .inr (dgN_dig h)
  · exact .inr (dgN_dig h)
theorem sI_47 (i : Int) : 47 ∉ sI i := fun h => by rcases sI_sign h with h | h <;> omega
theorem sI_ne (i : Int) : sI i ≠ [] := by
  unfold sI
  split
  · exact List.cons_ne_nil _ _
  · exact dgN_ne _
/-- the written form of p/q -/
def wl (p q : Int) : List Nat := if q = 1 then sI p else sI p ++ 47 :: sI q
theorem wl_ne (p q : Int) : wl p q ≠ [] := by
  unfold wl
  split
  · exact sI_ne p
  · simp
def IsW (cs : List Nat) : Prop := ∃ p q : Int, 1 ≤ q ∧ Cop p q ∧ cs = wl p q
theorem IsW.signs {cs : List Nat} (h : IsW cs) : ∀ c ∈ cs, c = 45 ∨ c = 47 ∨ (48 ≤ c ∧ c ≤ 57) := by
  obtain ⟨p, q, _, _, rfl⟩ := h
  intro c hc
  unfold wl at hc
  split at hc
  · rcases sI_sign hc with h | h
    · exact .inl h
    · exact .inr (.inr h)
  · rcases List.mem_append.mp hc with h | h
    · rcases sI_sign h with h | h
      · exact .inl h
      · exact .inr (.inr h)
    rcases List.mem_cons.mp h with h | h
    · exact .inr (.inl h)
    · rcases sI_sign h with h | h
      · exact .inl h
      · exact .inr (.inr h)
theorem split_uniq {x : Nat} : ∀ (a c b d : List Nat), a ++ x :: b = c ++ x :: d → x ∉ c → x ∉ d → a = c ∧ b = d
  | [], [], b, d, e, _, _ => by
    injection e with _ e
    exact ⟨rfl, e⟩
  | [], y :: c, b, d, e, h, _ => by
    injection e with e1 e2
    exact absurd (by rw [e1]; exact List.mem_cons_self) h
  | y :: a, [], b, d, e, _, h => by
    injection e with e1 e2
    exact absurd (by rw [← e2]; exact List.mem_append_right _ List.mem_cons_self) h
  | y :: a, z :: c, b, d, e, h1, h2 => by
    injection e with e1 e2
    obtain ⟨e3, e4⟩ := split_uniq a c b d e2 (fun h => h1 (List.mem_cons_of_mem _ h)) h2
    exact ⟨by rw [e1, e3], e4⟩
/-- a written form with a line in it -/
theorem IsW.line {a b : List Nat} (h : IsW (a ++ 47 :: b)) : ∃ p q : Int, 2 ≤ q ∧ Cop p q ∧ a = sI p ∧ b = sI q := by
  obtain ⟨p, q, h1, hc, e⟩ := h
  unfold wl at e
  split at e
  · exact absurd (by rw [← e]; exact List.mem_append_right _ List.mem_cons_self) (sI_47 p)
  · obtain ⟨e1, e2⟩ := split_uniq a (sI p) b (sI q) e (sI_47 p) (sI_47 q)
    exact ⟨p, q, by omega, hc, e1, e2⟩
theorem IsW.head {c : Nat} {r : List Nat} (h : IsW (c :: r)) : c ≠ 47 ∧ (c = 45 → ∃ d r', r = d :: r' ∧ 49 ≤ d ∧ d ≤ 57) ∧ (c = 48 → r = []) := by
  obtain ⟨p, q, h1, hc, e⟩ := h
  have key : ∃ t, c :: r = sI p ++ t ∧ (q = 1 → t = []) := by
    unfold wl at e
    split at e
    · exact ⟨[], by rw [List.append_nil]; exact e, fun _ => rfl⟩
    · rename_i hq
      exact ⟨_, e, fun z => absurd z hq⟩
  obtain ⟨t, e, ht⟩ := key
  obtain ⟨d, r2, e2, hd⟩ := dgN_head p.natAbs
  have hd2 := dgN_dig (n := p.natAbs) (c := d) (by rw [e2]; exact List.mem_cons_self)
  unfold sI at e
  by_cases hp : p < 0
  · rw [if_pos hp, e2] at e
    injection e with e3 e4
    subst e3
    refine ⟨by decide, fun _ => ⟨d, r2 ++ t, e4, ?_, hd2.2⟩, fun z => absurd z (by decide)⟩
    have := hd (by omega)
    omega
  · rw [if_neg hp, e2] at e
    injection e with e3 e4
    subst e3
    refine ⟨by omega, fun z => by omega, fun z => ?_⟩
    have p0 : p = 0 := by
      rcases Decidable.em (p.natAbs = 0) with h | h
      · omega
      · exact absurd z (hd h)
    subst p0
    have q1 : q = 1 := by
      unfold Cop at hc
      simp at hc
      omega
    have e5 : dgN 0 = [48] := by decide +kernel
    have e6 : dgN (0 : Int).natAbs = [48] := e5
    rw [e6] at e2
    injection e2 with _ e2
    rw [e4, ← e2, ht q1]
    rfl
/-! ### digits read -/
theorem digits_sI {i : Int} (h : ¬ i < 0) : AllDigits (sI i) := fun c hc => by
  unfold sI at hc
  rw [if_neg h] at hc
  exact dgN_dig hc
theorem digitsVal_lt : ∀ (cs : List Nat), AllDigits cs → digitsVal cs < 10 ^ cs.length := by
  intro cs
  have gen : ∀ (cs : List Nat) (acc k : Nat), AllDigits cs → acc < 10 ^ k → cs.foldl (fun acc c => acc * 10 + (c - 48)) acc < 10 ^ (k + cs.length) := by
    intro cs
    induction cs with
    | nil => intro acc k _ h; exact h
    | cons c r ih =>
      intro acc k hd h
      have hc := hd c List.mem_cons_self
      have := ih (acc * 10 + (c - 48)) (k + 1) (fun x hx => hd x (List.mem_cons_of_mem _ hx)) (by rw [Nat.pow_succ]; omega)
      rw [List.foldl_cons, List.length_cons, show k + (r.length + 1) = k + 1 + r.length by omega]
      exact this
  intro hd
  have := gen cs 0 0 hd (by decide)
  rw [Nat.zero_add] at this
  exact this
def digB (c : Nat) : Bool := decide (c ∈ (Str.ofString "0123456789").cps.toList)
theorem digB_iff (c : Nat) : digB c = true ↔ 48 ≤ c ∧ c ≤ 57 := by
  unfold digB
  rw [decide_eq_true_eq, show (Str.ofString "0123456789").cps.toList = [48, 49, 50, 51, 52, 53, 54, 55, 56, 57] by decide +kernel]
  simp only [List.mem_cons, List.not_mem_nil, or_false]
  omega
/-- non-empty, digits alone -/
def digsB (cs : List Nat) : Bool := decide (cs ≠ []) && cs.all digB
theorem digsB_true {cs : List Nat} (h : digsB cs = true) : cs ≠ [] ∧ AllDigits cs := by
  unfold digsB at h
  obtain ⟨h1, h2⟩ := Bool.and_eq_true_iff.mp h
  exact ⟨of_decide_eq_true h1, fun c hc => (digB_iff c).mp (List.all_eq_true.mp h2 c hc)⟩
theorem digsB_of {cs : List Nat} (h : cs ≠ []) (hd : AllDigits cs) : digsB cs = true := by
  unfold digsB
  rw [decide_eq_true h, Bool.true_and, List.all_eq_true]
  exact fun c hc => (digB_iff c).mpr (hd c hc)
theorem digs_dgN (n : Nat) : digsB (dgN n) = true := digsB_of (dgN_ne n) fun c hc => dgN_dig hc
/-- what stands behind a minus, if there is one -/
def offM : List Nat → List Nat
  | 45 :: r => r
  | r => r
theorem offM_sI (i : Int) : offM (sI i) = dgN i.natAbs := by
  unfold sI
  split
  · rfl
  · obtain ⟨c, r, e, _⟩ := dgN_head i.natAbs
    have hc := dgN_dig (n := i.natAbs) (c := c) (by rw [e]; exact List.mem_cons_self)
    rw [e]
    unfold offM
    split
    · rename_i r' e'
      cases e'
      omega
    · rfl
theorem removeprefix_minus (z : Str) : (Txt.removeprefix z "-").cps.toList = offM z.cps.toList := by
  rw [StrLaws.removeprefix_eq]
  have hl : z.cps.toList.length = z.length := Array.length_toList
  have sub0 : ∀ (c : Nat) (r : List Nat), z.cps.toList = c :: r → Builtin.Str.subAt z "-" 0 = decide (c = 45) := fun c r e => by
    have ez : z = ⟨(c :: r).toArray⟩ := StrLaws.mk_of_toList e
    subst ez
    unfold Builtin.Str.subAt
    have e1 : ((c :: r).toArray.extract 0 (0 + ("-" : Str).length)) = #[c] := by
      show ((c :: r).toArray.extract 0 1) = #[c]
      simp
    show (((c :: r).toArray.extract 0 (0 + ("-" : Str).length)) == ("-" : Str).cps) = _
    rw [e1]
    by_cases h : c = 45
    · subst h; rfl
    · rw [decide_eq_false h]
      show (#[c] == #[45]) = false
      simp [h]
  cases e : z.cps.toList with
  | nil =>
    rw [if_neg]
    · exact e
    · rw [e] at hl
      have h1 : ("-" : Str).length = 1 := rfl
      simp only [h1]
      intro h
      have := of_decide_eq_true (Bool.and_eq_true_iff.mp h).1
      simp at hl
      omega
  | cons c r =>
    rw [sub0 c r e]
    rw [e] at hl
    by_cases h : c = 45
    · subst h
      rw [if_pos]
      · have h1 : ("-" : Str).length = 1 := rfl
        rw [h1]
        show (((45 :: r).drop 1).take (z.length - 1)) = r
        rw [List.drop_succ_cons, List.drop_zero, ← hl]
        exact List.take_of_length_le (by simp)
      · have h1 : ("-" : Str).length = 1 := rfl
        rw [h1, decide_eq_true (show 0 + 1 ≤ z.length by rw [← hl]; simp), decide_eq_true rfl]
        rfl
    · rw [decide_eq_false h, Bool.and_false, if_neg (by decide), e]
      unfold offM
      split
      · rename_i r' e'
        cases e'
        exact absurd rfl h
      · rfl
/-! ### a text parted at its first line -/
theorem sub_47 (z : Str) (i : Nat) : (i + ("/" : Str).length ≤ z.length ∧ Builtin.Str.subAt z "/" i = true) ↔ z.cps.toList[i]? = some 47 := by
  have h1 : ("/" : Str).length = 1 := rfl
  have hl : z.cps.toList.length = z.length := Array.length_toList
  unfold Builtin.Str.subAt
  rw [h1]
  constructor
  · rintro ⟨hi, h⟩
    have e := eq_of_beq h
    have e2 := congrArg (fun a => a[0]?) e
    simp only [Array.getElem?_extract] at e2
    have hz : z.cps.size = z.length := rfl
    rw [if_pos (by omega)] at e2
    rw [Array.getElem?_toList, ← Nat.add_zero i, e2]
    rfl
  · intro h
    have hi : i < z.length := by
      rw [← hl]
      exact (List.getElem?_eq_some_iff.mp h).1
    refine ⟨by omega, ?_⟩
    have e : z.cps.extract i (i + 1) = #[47] := by
      apply Array.ext'
      rw [Array.toList_extract]
      have : z.cps.toList.extract i (i + 1) = [47] := by
        rw [List.extract_eq_take_drop, show i + 1 - i = 1 by omega]
        rw [List.take_one, List.head?_drop, h]
        rfl
      exact this
    show (z.cps.extract i (i + 1) == ("/" : Str).cps) = true
    rw [e]
    rfl
theorem part_none {z : Str} (h : 47 ∉ z.cps.toList) : Txt.partition z "/" = ((z, ("" : Str), ("" : Str)) : Str × Str × Str) := by
  unfold Txt.partition
  rcases StrLaws.occ_head z "/" 1 (Nat.le_refl _) with ⟨e, _⟩ | ⟨i, r, e, hi, _⟩
  · rw [e]
    rfl
  · exact absurd (List.mem_of_getElem? ((sub_47 z i).mp ⟨hi.1, hi.2⟩)) h
theorem str_of {l : List Nat} {x : Str} (h : x.cps.toList = l) : x = ⟨l.toArray⟩ := StrLaws.mk_of_toList h
theorem part_some {z : Str} {a b : List Nat} (h : z.cps.toList = a ++ 47 :: b) (ha : 47 ∉ a) : Txt.partition z "/" = (((⟨a.toArray⟩ : Str), ("/" : Str), (⟨b.toArray⟩ : Str)) : Str × Str × Str) := by
  have hl : z.cps.toList.length = z.length := Array.length_toList
  have at_a : z.cps.toList[a.length]? = some 47 := by rw [h, List.getElem?_append_right (Nat.le_refl _), Nat.sub_self]; rfl
  unfold Txt.partition
  rcases StrLaws.occ_head z "/" 1 (Nat.le_refl _) with ⟨e, hn⟩ | ⟨i, r, e, hi, hf⟩
  · exact absurd ((sub_47 z a.length).mpr at_a) (hn a.length)
  · have hi' := (sub_47 z i).mp ⟨hi.1, hi.2⟩
    have ei : i = a.length := by
      rcases Nat.lt_trichotomy i a.length with z1 | z1 | z1
      · rw [h, List.getElem?_append_left z1] at hi'
        exact absurd (List.mem_of_getElem? hi') ha
      · exact z1
      · exact absurd ((sub_47 z a.length).mpr at_a) (hf a.length z1)
    subst ei
    rw [e]
    have ll : z.length = a.length + (b.length + 1) := by rw [← hl, h, List.length_append, List.length_cons]
    have hz : z.cps.size = z.length := rfl
    have e1 : Builtin.Str.strSub z 0 a.length = ⟨a.toArray⟩ := by
      refine str_of ?_
      show (z.cps.extract 0 a.length).toList = a
      rw [Array.toList_extract, List.extract_eq_take_drop, List.drop_zero, h, Nat.sub_zero, List.take_left]
    have e2 : Builtin.Str.strSub z (a.length + ("/" : Str).length) z.length = ⟨b.toArray⟩ := by
      refine str_of ?_
      show (z.cps.extract (a.length + 1) z.length).toList = b
      rw [Array.toList_extract, List.extract_eq_take_drop, h, ← List.drop_drop, List.drop_left, List.drop_succ_cons, List.drop_zero]
      exact List.take_of_length_le (by omega)
    show (Builtin.Str.strSub z 0 a.length, ("/" : Str), Builtin.Str.strSub z (a.length + ("/" : Str).length) z.length) = _
    rw [e1, e2]
theorem part_cases (z : Str) : (47 ∉ z.cps.toList ∧ Txt.partition z "/" = ((z, ("" : Str), ("" : Str)) : Str × Str × Str)) ∨ ∃ a b : List Nat, z.cps.toList = a ++ 47 :: b ∧ 47 ∉ a ∧ Txt.partition z "/" = (((⟨a.toArray⟩ : Str), ("/" : Str), (⟨b.toArray⟩ : Str)) : Str × Str × Str) := by
  by_cases h : 47 ∈ z.cps.toList
  · obtain ⟨a, b, e, ha⟩ : ∃ a b, z.cps.toList = a ++ 47 :: b ∧ 47 ∉ a := by
      generalize z.cps.toList = l at h
      induction l with
      | nil => cases h
      | cons c r ih =>
        by_cases hc : c = 47
        · exact ⟨[], r, by rw [hc]; rfl, by simp⟩
        · obtain ⟨a, b, e, ha⟩ := ih (by
            rcases List.mem_cons.mp h with h | h
            · exact absurd h.symm hc
            · exact h)
          refine ⟨c :: a, b, by rw [e]; rfl, fun hm => ?_⟩
          rcases List.mem_cons.mp hm with hm | hm
          · exact hc hm.symm
          · exact ha hm
    exact .inr ⟨a, b, e, ha, part_some e ha⟩
  · exact .inl ⟨h, part_none h⟩
theorem wl_inj {p q p' q' : Int} (h1 : 1 ≤ q) (hc : Cop p q) (h1' : 1 ≤ q') (hc' : Cop p' q') (e : wl p q = wl p' q') : p = p' ∧ q = q' := by
  by_cases a : q = 1
  · by_cases b : q' = 1
    · unfold wl at e
      rw [if_pos a, if_pos b] at e
      exact ⟨by rw [← valI_sI p, e, valI_sI], by omega⟩
    · have e2 : wl p' q' = sI p' ++ 47 :: sI q' := by unfold wl; rw [if_neg b]
      have e3 : wl p q = sI p := by unfold wl; rw [if_pos a]
      rw [e2, e3] at e
      exact absurd (by rw [e]; exact List.mem_append_right _ List.mem_cons_self) (sI_47 p)
  · have e2 : wl p q = sI p ++ 47 :: sI q := by unfold wl; rw [if_neg a]
    rw [e2] at e
    by_cases b : q' = 1
    · have e3 : wl p' q' = sI p' := by unfold wl; rw [if_pos b]
      rw [e3] at e
      exact absurd (by rw [← e]; exact List.mem_append_right _ List.mem_cons_self) (sI_47 p')
    · have e3 : wl p' q' = sI p' ++ 47 :: sI q' := by unfold wl; rw [if_neg b]
      rw [e3] at e
      obtain ⟨z1, z2⟩ := split_uniq _ _ _ _ e (sI_47 p') (sI_47 q')
      exact ⟨by rw [← valI_sI p, z1, valI_sI], by rw [← valI_sI q, z2, valI_sI]⟩
end Md

set_option Elab.async false
set_option linter.all false
set_option maxRecDepth 100000
set_option maxHeartbeats 4000000
/-! defs called where nothing is being shown (no repr around): repr of data in them -/
namespace Md
open PySem PySem.Spec PyProof.Rows PySem.Calls L2
/-- as FnOk, called where nothing is being shown -/
structure FnG (P : Program) (w : World) (K : PySem.W.Frag) (mg : Str → Option Value) (base : Heap) (CX : CXT) (k : Nat) (f : Addr) (fd : FuncData) (ps : List Str) (sp : Sp) : Prop where
  len : ∀ vs H Q E, sp vs H Q E → vs.length = ps.length
  run : ∀ (A : Around) (outer : List Env) (s : Shared) (H : Hp) (args : Args) (us : List Value) (vs : List V) (Q : VK) (E : XK), A.guards = some [] → Room k A →
    Env0 P w K mg base A outer s H → BindsTo s fd args (ps.zip us) → Vals vs us → sp vs H Q E → codeAny (model P w) A (.call (.ref f) args) (CR CX outer P w H s Q E) s
/-- the def at f, by its body: the body may use that nothing is being shown -/
theorem fnG_of {P : Program} {w : World} {K : PySem.W.Frag} {mg : Str → Option Value} {base : Heap} {x qual : Str} {params : Arguments} {body : List Stmt} {scope : Scope} {dvs : List V} {kws : List (Str × V)} {f : Addr} {fd : FuncData}
    {CX : CXT} {N ps : List Str} {k : Nat} {sp : Sp} (F : FunD K x qual params body scope dvs kws f fd) (S : FnScope N ps scope) (len : ∀ vs H Q E, sp vs H Q E → vs.length = ps.length)
    (bodyOk : ∀ (cdv : Value) (B : Around) (outer : List Env) (s : Shared) (H : Hp) (vs : List V) (Q : VK) (E : XK), (B.deeper (envOfC qual scope s.heap.objs.size f cdv)).guards = some [] →
      Room k (B.deeper (envOfC qual scope s.heap.objs.size f cdv)) → sp vs H Q E →
      ∃ t, PSs (cxOf CX P w K mg base N qual scope f cdv B outer s H E) body t ∧ t { nx := fun _ H' => Q .non H', rt := Q } (start N vs) H) :
    FnG P w K mg base CX (k + 1) f fd ps sp := by
  obtain ⟨oc, od, dV, kV, doc, pm, an, cdv, ct, osl, rfl, lk, hcd, _, _⟩ := F.ex
  refine ⟨len, ?_⟩
  intro B outer s H args us vs Q E gd room e0 bnd rel want
  have inK : K.In s.heap := e0.mod.kin.keeps fun q o z => (e0.bs q o z).1
  have known : ∀ y ∈ ps.zip us, scope.names.lookup y.1 = some .local ∨ (scope.names.lookup y.1 = some .cell ∧ ((cellsFrom (s.heap.objs.size + 1) scope.names []).lookup y.1).isSome = true) := by
    rintro ⟨n, v⟩ hy
    exact (S.par n (List.of_mem_zip hy).1).elim .inl fun z => .inr ⟨z, PySem.W.cellsFrom_some _ _ _ (.inl z)⟩
  refine codeAny_call_function room.depth (inK _ _ lk) rfl S.co S.gen rfl (PySem.W.codeRec_of inK hcd) (bnd _ _ _ _ ?_)
  refine wpAny_newFunctionEnv_cells S.kind known ?_
  rintro env rfl s1 x
  refine ⟨(e0.mod.nolimit.keeps fun q o z => (e0.bs q o z).1).keeps x.toInCall.keep, codeAny_func ?_⟩
  obtain ⟨t, walk, reads⟩ := bodyOk cdv B outer s H vs Q E (by show B.guards = _; exact gd) (room.deeper _) want
  have J := inv_start (E := E) (CX := CX) S room.hd e0 (len _ _ _ _ want) rel x
  refine wpAny_mono (walk.run [] s1 (start N vs) H _ J reads) ?_ fun _ _ z => z
  rintro (_ | _ | _ | u) s' z
  · obtain ⟨σ', H', J', q⟩ := z
    exact ⟨.non, H', J'.os, J'.bare, J'.base, J'.hok, rfl, q⟩
  · obtain ⟨_, _, _, q⟩ := z
    exact q.elim
  · obtain ⟨_, _, _, q⟩ := z
    exact q.elim
  · obtain ⟨v, σ', H', J', rv, q⟩ := z
    exact ⟨v, H', J'.os, J'.bare, J'.base, J'.hok, rv, q⟩
/-- such a def as its callers see it -/
structure ClG (P : Program) (w : World) (K : PySem.W.Frag) (mg : Str → Option Value) (base : Heap) (k : Nat) (x : Str) (sp : Sp) (dvs : List V) : Prop where
  ex : ∃ (f : Addr) (fd : FuncData) (ps : List Str) (ds : List Value), FnG P w K mg base (L2N.CX P w) k f fd ps sp ∧ mg x = some (.ref f) ∧ PySem.W.keepIn K (.ref f) = true ∧ Binds K fd ps ds ∧ Vals dvs ds
theorem clG_of {P : Program} {w : World} {K : PySem.W.Frag} {mg : Str → Option Value} {base : Heap} {k : Nat} {x : Str} {f : Addr} {fd : FuncData} {ps : List Str} {sp : Sp}
    (G : FnG P w K mg base (L2N.CX P w) k f fd ps sp) (g : mg x = some (.ref f)) (kp : PySem.W.keepIn K (.ref f) = true) (b : Binds K fd ps []) : ClG P w K mg base k x sp [] := ⟨_, _, _, _, G, g, kp, b, .nil⟩
section
variable {X : Cx} {k j : Nat} {sp : Sp} {dvs : List V} {E : XK} {x : Str} {p pos : Pos} {e : Expr} {es : List Expr} {t : TA}
theorem pe_clG (c : ClG X.prog X.w X.K X.mg X.base k x sp dvs) (gd : X.A.guards = some []) (hr : Room j X.A) (hk : k ≤ j) (hg : Gl X x) (hx : Passes (L2N.CX X.prog X.w) X E) (ha : PA X (e :: es) t)
    (hdb : (x == ("__debug__" : Str)) = false := by decide) (he : starEach (e :: es) X.env = (false, eval e X.env) :: starEach es X.env := by rfl) (hpl : (backTo pos (starEach es X.env)).any (·.1) = false := by rfl) :
    PE X (.Call (.Name x p) (e :: es) [] pos) (tCall sp dvs E t) := by
  obtain ⟨f, fd, ps, ds, F, hm, kp, b, d⟩ := c.ex
  refine ⟨fun pins s σ H Q I h => wpAny_Call_Name_kw (ld_glob I hg hm ?_ hdb)⟩
  refine PySem.W.callWith_K (h₀ := X.base) I.ok.mod.kin kp (thn (ha.run pos pins s σ H _ I h) fun us s1 z => ?_) he hpl
  obtain ⟨vs, H1, I1, r, q⟩ := z
  refine ⟨I1.kIn, ?_⟩
  have rd := r.append d
  have size : (us ++ ds).length = ps.length := (rd.length).symm.trans (F.len _ _ _ _ q)
  refine wpAny_call (codeAny_mono (F.run _ _ _ _ ⟨us, []⟩ _ _ _ _ gd (hr.mono hk) I1.env0 (b s1 us I1.kIn size) rd q) ?_)
  rintro (e | _ | _ | _ | u) s' z
  · exact hx _ _ _ _ _ _ I1 z
  · exact z.elim
  · exact z.elim
  · exact z.elim
  · exact I1.after z
end
/-! ### repr of data -/
def rRepr (K : PySem.W.Frag) : List V → Hp → VK → Prop := fun xs H Q => ∃ v d, xs = [v] ∧ Dp K H v d ∧ SeqAt.shaped d = true ∧ d.showable = true ∧ d.hasDict = false ∧ d.shown.length ≤ sizeLine ∧ Q (.str d.shown) H
theorem call_repr {X : Cx} (gd : X.A.guards = some []) (hu : X.A.units + 65 < cLine) : CallR X (.builtin "repr") (rRepr X.K) := by
  intro pins s σ H xs us Q I r h
  obtain ⟨v, d, rfl, hd, hs, sw, nd, hz, q⟩ := h
  obtain ⟨u, rfl, rx⟩ := vals1 r
  obtain ⟨as, rd⟩ := Dp.reads I d v u hd rx
  have dep : d.depth ≤ 64 := SeqAt.depth_of_shaped hs
  have box : ∀ a, u = .ref a → wpAny (model X.prog X.w) X.A (call (.builtin "repr") [u]) (EP X pins σ Q) X.xe s := by
    rintro a rfl
    refine repr_of_reads' rd sw (PyData.noDict_hsm nd) gd (by omega) (fun _ _ z => z) (fun h' t tk kp => ?_) hz
    exact ⟨.str d.shown, H, I.kept (t' := tk) kp, ⟨_, rfl⟩, q⟩
  have flat : ∀ tk, EP X pins σ Q (.str d.shown s.toks) { s with toks := tk } := fun tk => ⟨.str d.shown, H, I.tok tk, ⟨_, rfl⟩, q⟩
  cases hd with
  | non =>
    obtain rfl : u = .none := rx
    exact P.repr_of_none (flat _)
  | bl b =>
    obtain rfl : u = .bool b := rx
    exact P.repr_of_bool (flat _)
  | int i =>
    obtain ⟨t, rfl⟩ := rx
    exact P.repr_of_int (of_decide_eq_true sw) (flat _)
  | str z =>
    obtain ⟨t, rfl⟩ := rx
    exact P.repr_of_str (flat _) hz
  | @lst a ys ds h1 h2 => exact box a rx
  | @tup a ys ds h1 h2 => exact box a rx
theorem huS {X : Cx} {a : Addr} {pn : List (Addr × Obj)} {j : Nat} (hr : Room j X.A) : (X.suite a pn).A.units + 65 < cLine := by
  have := hr.un
  show X.A.units + 65 < cLine
  omega
end Md

set_option Elab.async false
set_option linter.all false
set_option maxRecDepth 100000
set_option maxHeartbeats 4000000
/-! texts: readings by name; a text many times -/
namespace Md
open PySem PySem.Spec PyProof.Rows PySem.Calls L2
abbrev rPart : V → List V → Hp → VK → Prop := fun x xs H Q => ∃ a b, x = .str a ∧ xs = [.str b] ∧ (b.length == 0) = false ∧ a.length ≤ sizeLine ∧ ∀ p, H p = none → Q (.ref p) (upd H p (.tup [.str (Txt.partition a b).1, .str (Txt.partition a b).2.1, .str (Txt.partition a b).2.2]))
abbrev rRemP : V → List V → Hp → VK → Prop := fun x xs H Q => ∃ a b, x = .str a ∧ xs = [.str b] ∧ a.length ≤ sizeLine ∧ Q (.str (Txt.removeprefix a b)) H
abbrev rIntS : List V → Hp → VK → Prop := fun xs H Q => ∃ a n, xs = [.str a] ∧ PySem.intText? a = some n ∧ a.length ≤ 640 ∧ Q (.int n) H
/-- a short text some times -/
def rMulS : R2 := fun x y H Q => ∃ (z : Str) (n : Int), x = .str z ∧ y = .int n ∧ z.length ≤ 16 ∧ 0 ≤ n ∧ n ≤ 1048576 ∧ Q (.str (Txt.mul z n)) H
theorem op_mulS {X : Cx} : OpR X (binaryOp .Mult) rMulS := by
  intro pins s σ H x y v u Q I rx ry h
  obtain ⟨z, n, rfl, rfl, hz, h0, h1, q⟩ := h
  obtain ⟨t, rfl⟩ := rx
  obtain ⟨u, rfl⟩ := ry
  refine SB.mul (mulOk_of 16 1048576 (by omega) (by omega) (by omega) (by decide) (by decide)) fun t' k => ?_
  exact ⟨.str _, H, I.tok _, ⟨_, rfl⟩, q⟩
def tJoined (ts : List TE) : TE := fun σ H Q => tJs ts Str.empty σ H fun out H1 => Q (.str out) H1
end Md

set_option Elab.async false
set_option linter.all false
set_option maxRecDepth 100000
set_option maxHeartbeats 4000000
set_option exponentiation.threshold 20000
namespace Md
open PySem PySem.Spec PyProof.Rows PySem.Calls L2 PySem.NumText
local macro_rules | `(tactic| walk_at "v") => `(tactic| refine ⟨_, rfl, ?_⟩)
local macro_rules | `(tactic| walk_at "ii") => `(tactic| refine ⟨_, _, rfl, rfl, ?_⟩)
/-! ### written -/
theorem log_of {i : Int} (h : i.natAbs < 10 ^ 570) : i.natAbs.log2 < 1920 := pow_lt (Nat.lt_of_lt_of_le h (by decide)) (by decide)
theorem text_len {i : Int} (h : i.natAbs < 10 ^ 570) : (Str.ofString (toString i)).length ≤ 571 := by
  have e : (Str.ofString (toString i)).cps.toList.length = (Str.ofString (toString i)).length := Array.length_toList
  rw [← e, signs_ofString, List.length_map, String.length_toList]
  exact int_text_length_le10 (by decide) h
theorem sz_1200 {n : Nat} (h : n ≤ 1200) : n ≤ sizeLine := Nat.le_trans h (by decide)
/-- the text of a number -/
def ws (p q : Int) : Str := ⟨(wl p q).toArray⟩
theorem ws_list (p q : Int) : (ws p q).cps.toList = wl p q := by
  show (wl p q).toArray.toList = _
  simp
theorem str_ext {x y : Str} (h : x.cps.toList = y.cps.toList) : x = y := by
  rw [str_of h]
def t_written (K : PySem.W.Frag) (A : Ads) (E : XK) : TS :=
    (tSeq (tAsg (tCall (sp__over K A) [] E0 (tCons (tVar 0) tNil)) (gTup K 2 (gCons (gName 1) (gCons (gName 2) gNil))))
    (tRet (tIf (tTest (tOp rEq (tVar 2) (tC (.int 1)))) (tCB rStrI (tCons (tVar 1) tNil)) (tJoined ((tFmt (tVar 1)) :: ((tC (.str "/")) :: ((tFmt (tVar 2)) :: [])))))))
def n_written : List Str := ["value", "top", "bottom"]
def sp_written (K : PySem.W.Frag) (A : Ads) : Sp := fun vs H Q _ => ∃ (x : V) (p q : Int), vs = [x] ∧ NumAt H x p q ∧ p.natAbs < 10 ^ 570 ∧ q.natAbs < 10 ^ 570 ∧ ∀ H', Same H H' → Q (.str (ws p q)) H'
theorem len_written {K : PySem.W.Frag} {A : Ads} {vs : List V} {H : Hp} {Q : VK} {E : XK} (h : sp_written K A vs H Q E) : vs.length = 1 := by
  obtain ⟨x, p, q, rfl, _⟩ := h
  rfl
theorem pure_written {K : PySem.W.Frag} {A : Ads} {vs : List V} {H : Hp} {Q : VK} {E : XK} (h : sp_written K A vs H Q E) : t_written K A E { nx := fun _ H' => Q .non H', rt := Q } (start n_written vs) H := by
  obtain ⟨x, p, q, rfl, hx, hp, hq, k⟩ := h
  have q1 := hx.pos
  walk_at "v"
  refine ⟨x, p, q, rfl, hx, fun y H1 s1 ⟨a, ey, ha⟩ => ?_⟩
  subst ey
  refine ⟨a, _, rfl, SqT.of ha, rfl, _, _, rfl, _, _, rfl, rfl, ?_⟩
  walk_at "v"
  refine ⟨rfl, ?_⟩
  refine ⟨_, rfl, ?_⟩
  refine iteD (fun h => ?_) (fun h => ?_)
  · have e1 : q = 1 := V.int.inj h
    subst e1
    walk_at "v"
    refine ⟨p, rfl, log_of hp, ?_⟩
    have e : (Str.ofString (toString p)) = ws p 1 := str_ext (by rw [sI_text, ws_list]; unfold wl; rw [if_pos rfl])
    rw [e]
    exact k H1 s1
  · have e1 : q ≠ 1 := fun z => h (by rw [z])
    walk_at "v"
    refine .inr ⟨p, rfl, log_of hp, ?_⟩
    have l1 := text_len hp
    have l2 := text_len hq
    refine ⟨_, rfl, sz_1200 ?_, ?_⟩
    · rw [app_len]; show 0 + _ ≤ _; omega
    refine ⟨_, rfl, sz_1200 ?_, ?_⟩
    · rw [app_len, app_len]; show 0 + _ + 1 ≤ _; omega
    walk_at "v"
    refine .inr ⟨q, rfl, log_of hq, ?_⟩
    refine ⟨_, rfl, sz_1200 ?_, ?_⟩
    · rw [app_len, app_len, app_len]; show 0 + _ + 1 + _ ≤ _; omega
    have e : Str.empty ++ (Str.ofString (toString p)) ++ ("/" : Str) ++ (Str.ofString (toString q)) = ws p q := str_ext (by
      rw [app_list, app_list, app_list, sI_text, sI_text, ws_list]
      unfold wl
      rw [if_neg e1]
      show [] ++ sI p ++ [47] ++ sI q = _
      simp)
    show Q (.str (Str.empty ++ (Str.ofString (toString p)) ++ ("/" : Str) ++ (Str.ofString (toString q)))) H1
    rw [e]
    exact k H1 s1
/-! ### _is_digits -/
def t__is_digits (K : PySem.W.Frag) (A : Ads) (E : XK) : TS :=
    (tRet (tAndV (tOp rNe (tVar 0) (tC (.str ""))) (tCB (rAll K) (tCons (tLc (iStr (tVar 0)) (gName 1) tYes (tOp rInS (tVar 1) (tC (.str "0123456789"))) [1]) tNil))))
def n__is_digits : List Str := ["text", "sign"]
def sp__is_digits (K : PySem.W.Frag) (A : Ads) : Sp := fun vs H Q _ => ∃ (z : Str), vs = [.str z] ∧ z.length ≤ 1000000 ∧ ∀ H', Same H H' → Q (.bl (digsB z.cps.toList)) H'
theorem len__is_digits {K : PySem.W.Frag} {A : Ads} {vs : List V} {H : Hp} {Q : VK} {E : XK} (h : sp__is_digits K A vs H Q E) : vs.length = 1 := by
  obtain ⟨z, rfl, _⟩ := h
  rfl
theorem pure__is_digits {K : PySem.W.Frag} {A : Ads} {vs : List V} {H : Hp} {Q : VK} {E : XK} (h : sp__is_digits K A vs H Q E) : t__is_digits K A E { nx := fun _ H' => Q .non H', rt := Q } (start n__is_digits vs) H := by
  obtain ⟨z, rfl, hz, k⟩ := h
  have hl : z.cps.toList.length = z.length := Array.length_toList
  walk_at "v"
  refine ⟨rfl, ?_⟩
  refine ⟨_, rfl, ?_⟩
  refine iteN (fun h => ?_) (fun h => ?_)
  · have e : digsB z.cps.toList = false := by
      have ez : z = "" := V.str.inj h
      subst ez
      decide +kernel
    rw [e] at k
    exact k H (Same.refl H)
  · walk_at "v"
    refine ⟨z, rfl, fun D hD => ?_⟩
    refine lc_it walk_str (fun i H' => Same H H' ∧ H' D = some (.lst ((z.cps.toList.take i).map fun c => V.bl (digB c)))) ⟨Same.new hD, upd_same⟩ (fun _ _ _ _ => True.intro) ?_ ?_
    · rintro i x H1 H1' hi ⟨s1, hd⟩ ⟨rfl, c, hc, rfl⟩
      refine ⟨rfl, ?_⟩
      walk_at "v"
      refine ⟨c, _, rfl, rfl, ?_⟩
      refine ⟨_, hd, ?_, ?_, ?_⟩
      · rw [List.length_map, List.length_take]
        exact Nat.lt_of_le_of_lt (Nat.min_le_right _ _) (Nat.lt_of_le_of_lt (show z.cps.toList.length ≤ 1000000 by omega) (by decide))
      · exact fun b o hb => by
          rw [upd_ne (ne_of_none hb hD)]
          exact s1 b o hb
      · rw [upd_same]
        have e : z.cps.toList[i]? = some c := by rw [Array.getElem?_toList]; exact hc
        rw [List.take_succ, e]
        simp [digB]
    · rintro H1 ⟨s1, hd⟩
      have e2 : z.cps.toList.take z.cps.size = z.cps.toList := List.take_of_length_le (by rw [Array.length_toList]; exact Nat.le_refl _)
      rw [e2] at hd
      refine ⟨D, z.cps.toList.map digB, rfl, SqL.of (by rw [List.map_map]; exact hd), ?_⟩
      have ne : z.cps.toList ≠ [] := fun e => h (by
        have : z = ⟨([] : List Nat).toArray⟩ := str_of e
        rw [this]
        rfl)
      have e3 : (z.cps.toList.map digB).all id = digsB z.cps.toList := by
        unfold digsB
        rw [List.all_map, decide_eq_true ne, Bool.true_and]
        rfl
      rw [e3]
      exact k H1 s1
/-! ### read_number -/
/-- no written form of a number -/
def BadTxt (K : PySem.W.Frag) (H : Hp) (x : V) : Prop := (∃ T, TyX K H x (.type T) ∧ T ≠ "str") ∨ ∃ z : Str, x = .str z ∧ z.length ≤ 570 ∧ ¬ IsW z.cps.toList
theorem BadTxt.same {K : PySem.W.Frag} {H H' : Hp} {x : V} (h : BadTxt K H x) (s : Same H H') : BadTxt K H' x := by
  rcases h with ⟨T, ty, h⟩ | h
  · exact .inl ⟨T, tyX_same s ty, h⟩
  · exact .inr h
def t_read_number (K : PySem.W.Frag) (A : Ads) (E : XK) : TS :=
    (tSeq (tIfS (tNot (tB (tCB (rIsi K) (tCons (tVar 0) (tCons (tC (.ty "str")) tNil))))) (tRaise E (tMkO A.cBadNumber (sp_BadNumber___init__ K A) [] (tCons (tVar 0) tNil))) tNext)
    (tSeq (tAsg (tM1 rPart (tVar 0) (tC (.str "/"))) (gTup K 3 (gCons (gName 2) (gCons (gName 3) (gCons (gName 4) gNil)))))
    (tSeq (tIfS (tOr (tNot (tB (tCall (sp__is_digits K A) [] E0 (tCons (tBM K "str" rRemP (tVar 2) (tCons (tC (.str "-")) tNil)) tNil)))) (tAnd (tTest (tOp rNe (tVar 3) (tC (.str "")))) (tNot (tB (tCall (sp__is_digits K A) [] E0 (tCons (tVar 4) tNil)))))) (tRaise E (tMkO A.cBadNumber (sp_BadNumber___init__ K A) [] (tCons (tVar 0) tNil))) tNext)
    (tSeq (tAsg (tIf (tTest (tOp rEq (tVar 3) (tC (.str "")))) (tCB rIntS (tCons (tVar 2) tNil)) (tTup (tCons (tCB rIntS (tCons (tVar 2) tNil)) (tCons (tCB rIntS (tCons (tVar 4) tNil)) tNil)))) (gName 1))
    (tSeq (tIfS (tOr (tNot (tB (tCall (sp_is_number K A) [] E0 (tCons (tVar 1) tNil)))) (tTest (tOp rNe (tCall (sp_written K A) [] E0 (tCons (tVar 1) tNil)) (tVar 0)))) (tRaise E (tMkO A.cBadNumber (sp_BadNumber___init__ K A) [] (tCons (tVar 0) tNil))) tNext)
    (tRet (tVar 1)))))))
def n_read_number : List Str := ["text", "found", "top", "line", "bottom"]
def sp_read_number (K : PySem.W.Frag) (A : Ads) : Sp := fun vs H Q E => ∃ x : V, vs = [x] ∧ ((∃ p q : Int, x = .str (ws p q) ∧ 1 ≤ q ∧ Cop p q ∧ (ws p q).length ≤ 570 ∧ ∀ v H', Same H H' → NumAt H' v p q → Q v H') ∨
  (BadTxt K H x ∧ ∀ d H', Same H H' → H' d = some (.xd [("thing", x)]) → E (.ref A.cBadNumber) (some d) H'))
theorem len_read_number {K : PySem.W.Frag} {A : Ads} {vs : List V} {H : Hp} {Q : VK} {E : XK} (h : sp_read_number K A vs H Q E) : vs.length = 1 := by
  obtain ⟨z, rfl, _⟩ := h
  rfl
theorem int_ok {l : List Nat} (h : digsB (offM l) = true) (hl : l.length ≤ 570) : ∃ n : Int, PySem.intText? (⟨l.toArray⟩ : Str) = some n ∧ n.natAbs < 10 ^ 570 ∧ n = valI l := by
  obtain ⟨h1, h2⟩ := digsB_true h
  have el : (⟨l.toArray⟩ : Str).cps.toList = l := List.toList_toArray
  have ell : (⟨l.toArray⟩ : Str).length ≤ 4300 := by show l.toArray.size ≤ _; rw [List.size_toArray]; omega
  have bound : ∀ cs : List Nat, AllDigits cs → cs.length ≤ 570 → digitsVal cs < 10 ^ 570 := fun cs hd hc => Nat.lt_of_lt_of_le (digitsVal_lt cs hd) (Nat.pow_le_pow_right (by decide) hc)
  by_cases hm : ∃ r, l = 45 :: r
  · obtain ⟨r, rfl⟩ := hm
    have e : offM (45 :: r) = r := rfl
    rw [e] at h1 h2
    have hb := bound r h2 (by simp at hl; omega)
    refine ⟨_, intText_neg el h2 h1 ell, ?_, rfl⟩
    rw [Int.natAbs_neg, Int.natAbs_natCast]
    exact hb
  · have e : offM l = l := by
      unfold offM
      split
      · rename_i r
        exact absurd ⟨r, rfl⟩ hm
      · rfl
    rw [e] at h1 h2
    have hb := bound l h2 hl
    have ev : valI l = ((digitsVal l : Nat) : Int) := by
      unfold valI
      split
      · rename_i r
        exact absurd ⟨r, rfl⟩ hm
      · rfl
    refine ⟨((digitsVal l : Nat) : Int), ?_, ?_, ev.symm⟩
    · have z := intText_digits (x := (⟨l.toArray⟩ : Str)) (by rw [el]; exact h2) (by rw [el]; exact h1) ell
      rw [el] at z
      exact z
    · rw [Int.natAbs_natCast]
      exact hb
theorem line_len {z : Str} {a b : List Nat} (h : z.cps.toList = a ++ 47 :: b) : a.length + b.length + 1 = z.length := by
  have hl : z.cps.toList.length = z.length := Array.length_toList
  rw [← hl, h, List.length_append, List.length_cons]
  omega
theorem pure_read_number {K : PySem.W.Frag} {A : Ads} {vs : List V} {H : Hp} {Q : VK} {E : XK} (h : sp_read_number K A vs H Q E) : t_read_number K A E { nx := fun _ H' => Q .non H', rt := Q } (start n_read_number vs) H := by
  obtain ⟨x, rfl, h⟩ := h
  -- a text z, its length, what it is, the ways out
  have text : ∀ z : Str, x = .str z → z.length ≤ 570 → (∀ p q : Int, 1 ≤ q → Cop p q → z.cps.toList = wl p q → ∀ v H', Same H H' → NumAt H' v p q → Q v H') →
      (¬ IsW z.cps.toList → ∀ d H', Same H H' → H' d = some (.xd [("thing", x)]) → E (.ref A.cBadNumber) (some d) H') → t_read_number K A E { nx := fun _ H' => Q .non H', rt := Q } (start n_read_number [x]) H := by
    rintro z rfl hz kQ kE
    have hzl : z.cps.toList.length = z.length := Array.length_toList
    have fin : ∀ {H1 : Hp} {D : Ends} {w1 w2 w3 w4 : Option V}, Same H H1 → ¬ IsW z.cps.toList → tRaise E (tMkO A.cBadNumber (sp_BadNumber___init__ K A) [] (tCons (tVar 0) tNil)) D [some (.str z), w1, w2, w3, w4] H1 := fun {H1 D w1 w2 w3 w4} s1 hw => by
      walk_at "v"
      exact mk_xi fun d H' s h => kE hw d H' (Same.trans s1 s) h
    walk_at "v"
    refine ⟨_, _, _, _, _, rfl, .ty _, .base (.str z), kit_ty (by decide +kernel : kitB "str" "str" = some true), ?_⟩
    refine ⟨_, rfl, ?_⟩
    show (if (!true) = true then _ else _)
    refine iteF ?_
    walk_at "v"
    refine ⟨⟨_, rfl⟩, _, _, rfl, rfl, by decide, sz_1200 (by omega), fun P hP => ?_⟩
    have sP := Same.new (o := .tup [.str (Txt.partition z "/").1, .str (Txt.partition z "/").2.1, .str (Txt.partition z "/").2.2]) hP
    refine ⟨P, _, rfl, SqT.of upd_same, rfl, _, _, rfl, _, _, rfl, _, _, rfl, rfl, ?_⟩
    generalize upd H P _ = H1 at sP ⊢
    rcases part_cases z with ⟨hno, ep⟩ | ⟨a, b, ez, ha, ep⟩
    · -- no line
      rw [show (Txt.partition z "/").1 = z by rw [ep], show (Txt.partition z "/").2.1 = "" by rw [ep], show (Txt.partition z "/").2.2 = "" by rw [ep]]
      have valid : ∀ p q : Int, z.cps.toList = wl p q → q = 1 := fun p q e => by
        unfold wl at e
        split at e
        · assumption
        · exact absurd (by rw [e]; exact List.mem_append_right _ List.mem_cons_self) hno
      walk_at "v"
      refine ⟨rfl, ?_⟩
      refine ⟨_, _, rfl, rfl, sz_1200 (by omega), ?_⟩
      have rl : (Txt.removeprefix z "-").cps.toList = offM z.cps.toList := removeprefix_minus z
      have rlen : (Txt.removeprefix z "-").length ≤ 570 := by
        have e1 : (Txt.removeprefix z "-").cps.toList.length = (Txt.removeprefix z "-").length := Array.length_toList
        rw [← e1, rl]
        have : (offM z.cps.toList).length ≤ z.cps.toList.length := by
          unfold offM
          split
          · rename_i r e; rw [e]; simp
          · exact Nat.le_refl _
        omega
      refine ⟨_, rfl, by omega, fun H2 s2 => ?_⟩
      have S2 := Same.trans sP s2
      refine ⟨_, rfl, ?_⟩
      rw [rl]
      refine iteBN (fun hd => ?_) (fun hd => ?_)
      rotate_left
      · -- no digits
        refine iteT ?_
        refine fin S2 fun ⟨p, q, h1, hc, e⟩ => ?_
        have e1 := valid p q e
        subst e1
        have : offM z.cps.toList = dgN p.natAbs := by
          rw [e]
          unfold wl
          rw [if_pos rfl, offM_sI]
        rw [this, digs_dgN] at hd
        cases hd
      walk_at "v"
      refine ⟨rfl, ?_⟩
      refine ⟨_, rfl, ?_⟩
      refine iteF ?_
      refine iteF ?_
      obtain ⟨n, en, hn, ev⟩ := int_ok hd (by omega)
      rw [← str_of rfl] at en
      walk_at "v"
      refine ⟨rfl, ?_⟩
      refine ⟨_, rfl, ?_⟩
      refine iteT ?_
      walk_at "v"
      refine ⟨z, n, rfl, en, by omega, ?_⟩
      walk_at "v"
      refine ⟨_, true, rfl, .inl ⟨"int", ty_int, by decide, rfl⟩, ?_⟩
      refine ⟨_, rfl, ?_⟩
      refine iteF ?_
      walk_at "v"
      refine ⟨_, n, 1, rfl, NumAt.int _ _, hn, by decide, fun H3 s3 => ?_⟩
      have S3 := Same.trans S2 s3
      walk_at "v"
      refine ⟨rfl, ?_⟩
      refine ⟨_, rfl, ?_⟩
      refine iteN (fun he => ?_) (fun he => ?_)
      · walk_at "v"
        have ez : ws n 1 = z := V.str.inj he
        exact kQ n 1 (by decide) (by unfold Cop; simp) (by rw [← ez, ws_list]) _ H3 S3 (NumAt.int _ _)
      · refine fin S3 fun ⟨p, q, h1, hc, e⟩ => ?_
        have e1 := valid p q e
        subst e1
        have e2 : z.cps.toList = sI p := by
          rw [e]
          unfold wl
          rw [if_pos rfl]
        have e3 : n = p := by rw [ev, e2, valI_sI]
        subst e3
        exact he (by rw [str_ext (x := ws n 1) (y := z) (by rw [ws_list]; exact e.symm)])
    · -- a line
      rw [show (Txt.partition z "/").1 = ⟨a.toArray⟩ by rw [ep], show (Txt.partition z "/").2.1 = "/" by rw [ep], show (Txt.partition z "/").2.2 = ⟨b.toArray⟩ by rw [ep]]
      have ll := line_len ez
      have valid : ∀ p q : Int, 1 ≤ q → Cop p q → z.cps.toList = wl p q → 2 ≤ q ∧ a = sI p ∧ b = sI q := fun p q h1 hc e => by
        unfold wl at e
        split at e
        · exact absurd (by rw [← e, ez]; exact List.mem_append_right _ List.mem_cons_self) (sI_47 p)
        · rw [ez] at e
          obtain ⟨e1, e2⟩ := split_uniq a (sI p) b (sI q) e (sI_47 p) (sI_47 q)
          exact ⟨by omega, e1, e2⟩
      have al : (⟨a.toArray⟩ : Str).cps.toList = a := List.toList_toArray
      have bl : (⟨b.toArray⟩ : Str).cps.toList = b := List.toList_toArray
      have aL : (⟨a.toArray⟩ : Str).length = a.length := by show a.toArray.size = _; rw [List.size_toArray]
      have bL : (⟨b.toArray⟩ : Str).length = b.length := by show b.toArray.size = _; rw [List.size_toArray]
      walk_at "v"
      refine ⟨rfl, ?_⟩
      refine ⟨_, _, rfl, rfl, sz_1200 (by rw [aL]; omega), ?_⟩
      have rl : (Txt.removeprefix (⟨a.toArray⟩ : Str) "-").cps.toList = offM a := by rw [removeprefix_minus, al]
      have rlen : (Txt.removeprefix (⟨a.toArray⟩ : Str) "-").length ≤ 570 := by
        have e1 : (Txt.removeprefix (⟨a.toArray⟩ : Str) "-").cps.toList.length = (Txt.removeprefix (⟨a.toArray⟩ : Str) "-").length := Array.length_toList
        rw [← e1, rl]
        have : (offM a).length ≤ a.length := by
          unfold offM
          split
          · simp
          · exact Nat.le_refl _
        omega
      refine ⟨_, rfl, by omega, fun H2 s2 => ?_⟩
      have S2 := Same.trans sP s2
      refine ⟨_, rfl, ?_⟩
      rw [rl]
      refine iteBN (fun hd => ?_) (fun hd => ?_)
      rotate_left
      · refine iteT ?_
        refine fin S2 fun ⟨p, q, h1, hc, e⟩ => ?_
        obtain ⟨_, e1, _⟩ := valid p q h1 hc e
        rw [e1, offM_sI, digs_dgN] at hd
        cases hd
      walk_at "v"
      refine ⟨rfl, ?_⟩
      refine ⟨_, rfl, ?_⟩
      refine iteN (fun h => by exact absurd (V.str.inj h) (by decide)) (fun _ => ?_)
      walk_at "v"
      refine ⟨_, rfl, by rw [bL]; omega, fun H3 s3 => ?_⟩
      have S3 := Same.trans S2 s3
      refine ⟨_, rfl, ?_⟩
      rw [bl]
      refine iteBN (fun hdb => ?_) (fun hdb => ?_)
      rotate_left
      · refine fin S3 fun ⟨p, q, h1, hc, e⟩ => ?_
        obtain ⟨h2, _, e2⟩ := valid p q h1 hc e
        have : b = dgN q.natAbs := by rw [e2]; unfold sI; rw [if_neg (by omega)]
        rw [this, digs_dgN] at hdb
        cases hdb
      obtain ⟨n, en, hn, ev⟩ := int_ok hd (by omega)
      have hob : offM b = b := by
        obtain ⟨_, hbd⟩ := digsB_true hdb
        unfold offM
        split
        · rename_i r
          have := hbd 45 List.mem_cons_self
          omega
        · rfl
      obtain ⟨m, em, hm, ev2⟩ := int_ok (l := b) (by rw [hob]; exact hdb) (by omega)
      walk_at "v"
      refine ⟨rfl, ?_⟩
      refine ⟨_, rfl, ?_⟩
      refine iteD (fun h => by exact absurd (V.str.inj h) (by decide)) (fun _ => ?_)
      walk_at "v"
      refine ⟨_, n, rfl, en, by rw [aL]; omega, ?_⟩
      walk_at "v"
      refine ⟨_, m, rfl, em, by rw [bL]; omega, ?_⟩
      refine ⟨by show 2 ≤ sizeLine; decide, fun t ht => ?_⟩
      generalize e4 : upd _ t _ = H4
      have s4 : Same H3 H4 := by rw [← e4]; exact Same.new ht
      have g4 : H4 t = some (.tup [.int n, .int m]) := by rw [← e4, upd_same]
      clear e4 ht
      have S4 := Same.trans S3 s4
      walk_at "v"
      refine ⟨_, pairB (.int n) (.int m), rfl, .inr (.inr ⟨t, _, _, _, _, rfl, g4, ty_int, ty_int, rfl⟩), ?_⟩
      refine ⟨_, rfl, ?_⟩
      refine iteBN (fun hp => ?_) (fun hp => ?_)
      rotate_left
      · refine iteT ?_
        refine fin S4 fun ⟨p, q, h1, hc, e⟩ => ?_
        obtain ⟨h2, e1, e2⟩ := valid p q h1 hc e
        have e3 : n = p := by rw [ev, e1, valI_sI]
        have e5 : m = q := by rw [ev2, e2, valI_sI]
        subst e3 e5
        have : pairB (.int n) (.int m) = true := by
          show (decide (2 ≤ m) && decide (Nat.gcd n.natAbs m.natAbs = 1)) = true
          rw [decide_eq_true h2, decide_eq_true (show Nat.gcd n.natAbs m.natAbs = 1 from hc)]
          rfl
        rw [this] at hp
        cases hp
      have hp' : (decide (2 ≤ m) && decide (Nat.gcd n.natAbs m.natAbs = 1)) = true := hp
      have m2 : 2 ≤ m := of_decide_eq_true (Bool.and_eq_true_iff.mp hp').1
      have mc : Cop n m := by
        unfold Cop
        exact of_decide_eq_true (Bool.and_eq_true_iff.mp hp').2
      have num : NumAt H4 (.ref t) n m := .inr ⟨t, rfl, g4, m2, mc⟩
      walk_at "v"
      refine ⟨_, n, m, rfl, num, hn, hm, fun H5 s5 => ?_⟩
      have S5 := Same.trans S4 s5
      walk_at "v"
      refine ⟨rfl, ?_⟩
      refine ⟨_, rfl, ?_⟩
      refine iteN (fun he => ?_) (fun he => ?_)
      · walk_at "v"
        have ez : ws n m = z := V.str.inj he
        exact kQ n m (by omega) mc (by rw [← ez, ws_list]) _ H5 S5 (num.same s5)
      · refine fin S5 fun ⟨p, q, h1, hc, e⟩ => ?_
        obtain ⟨h2, e1, e2⟩ := valid p q h1 hc e
        have e3 : n = p := by rw [ev, e1, valI_sI]
        have e5 : m = q := by rw [ev2, e2, valI_sI]
        subst e3 e5
        exact he (by rw [str_ext (x := ws n m) (y := z) (by rw [ws_list]; exact e.symm)])
  rcases h with ⟨p, q, rfl, h1, hc, hl, k⟩ | ⟨hb, k⟩
  · refine text _ rfl hl (fun p' q' h1' hc' e v H' s hn => ?_) fun hw => absurd ⟨p, q, h1, hc, ws_list p q⟩ hw
    rw [ws_list] at e
    obtain ⟨rfl, rfl⟩ := wl_inj h1 hc h1' hc' e
    exact k v H' s hn
  · rcases hb with ⟨T, ty, hT⟩ | ⟨z, rfl, hl, hw⟩
    · walk_at "v"
      refine ⟨_, _, _, _, _, rfl, .ty _, ty, kit_ty (kit_str ty hT), ?_⟩
      refine ⟨_, rfl, ?_⟩
      show (if (!false) = true then _ else _)
      refine iteT ?_
      walk_at "v"
      exact mk_xi fun d H' s h => k d H' s h
    · exact text z rfl hl (fun p q h1 hc e => absurd ⟨p, q, h1, hc, e⟩ hw) fun _ => k
end Md

set_option Elab.async false
set_option linter.all false
set_option maxRecDepth 100000
set_option maxHeartbeats 4000000
/-! data kept, data shown -/
namespace Md
open PySem PySem.Spec PyProof.Rows PySem.Calls L2
mutual
theorem Dp.same {K : PySem.W.Frag} {H H' : Hp} (s : Same H H') : ∀ {v : V} {d : PyData}, Dp K H v d → Dp K H' v d
  | _, _, .non => .non
  | _, _, .bl b => .bl b
  | _, _, .int i => .int i
  | _, _, .str x => .str x
  | _, _, .lst h r => .lst (Same.sqL s h) (DpAll.same s r)
  | _, _, .tup h r => .tup (Evl.ex_t s h) (DpAll.same s r)
theorem DpAll.same {K : PySem.W.Frag} {H H' : Hp} (s : Same H H') : ∀ {vs : List V} {ds : List PyData}, DpAll K H vs ds → DpAll K H' vs ds
  | _, _, .nil => .nil
  | _, _, .cons h r => .cons (Dp.same s h) (DpAll.same s r)
end
/-- data that is shown -/
structure ShowD (d : PyData) : Prop where
  sh : SeqAt.shaped d = true
  sw : d.showable = true
  nd : d.hasDict = false
  sz : d.shown.length ≤ sizeLine
theorem repr_len {z : Str} (h : z.length ≤ 20) (hs : PyData.strOk z = true) : (reprText z).length ≤ 202 := by
  have := StrLaws.reprText_len z fun c hc => by
    have h2 : z.cps.all (· < 0x110000) = true := hs
    rw [← Array.all_toList, List.all_eq_true] at h2
    exact Nat.lt_of_lt_of_le (of_decide_eq_true (h2 c hc)) (by decide)
  omega
theorem sz_ok {n : Nat} (h : n ≤ 100) : n ≤ sizeLine := Nat.le_trans h (by decide)
theorem show_str {z : Str} (h : z.length ≤ 20) (hs : PyData.strOk z = true) : ShowD (.str z) := by
  refine ⟨?_, rfl, rfl, Nat.le_trans (repr_len h hs) (by decide)⟩
  unfold SeqAt.shaped
  simp [PyData.canLay0, PyData.depth, hs]
theorem show_lst1 {z : Str} (h : z.length ≤ 20) (hs : PyData.strOk z = true) : ShowD (.list [.str z]) := by
  refine ⟨shaped_lst1 hs, by simp [PyData.showable, PyData.showableAll], by simp [PyData.hasDict, PyData.hasDictAll], ?_⟩
  have := listText_len_le [reprText z]
  have h2 := repr_len h hs
  simp only [PyData.shown, PyData.shownAll]
  simp only [List.map_cons, List.map_nil, List.sum_cons, List.sum_nil, List.length_cons, List.length_nil] at this
  exact Nat.le_trans (show _ ≤ 300 by omega) (by decide)
theorem show_tup1 {z : Str} (h : z.length ≤ 20) (hs : PyData.strOk z = true) : ShowD (.tuple [.str z]) := by
  refine ⟨shaped_tupS (ns := [z]) (fun n hn => by rw [List.mem_singleton.mp hn]; exact hs), by simp [PyData.showable, PyData.showableAll], by simp [PyData.hasDict, PyData.hasDictAll], ?_⟩
  have := tupleText_len_le [reprText z]
  have h2 := repr_len h hs
  simp only [PyData.shown, PyData.shownAll]
  simp only [List.map_cons, List.map_nil, List.sum_cons, List.sum_nil, List.length_cons, List.length_nil] at this
  exact Nat.le_trans (show _ ≤ 300 by omega) (by decide)
theorem show_tup2 {z w : Str} (h : z.length ≤ 20) (hs : PyData.strOk z = true) (h' : w.length ≤ 20) (hs' : PyData.strOk w = true) : ShowD (.tuple [.str z, .str w]) := by
  refine ⟨shaped_strs hs hs', by simp [PyData.showable, PyData.showableAll], by simp [PyData.hasDict, PyData.hasDictAll], ?_⟩
  have := tupleText_len_le [reprText z, reprText w]
  have h2 := repr_len h hs
  have h3 := repr_len h' hs'
  simp only [PyData.shown, PyData.shownAll]
  simp only [List.map_cons, List.map_nil, List.sum_cons, List.sum_nil, List.length_cons, List.length_nil] at this
  exact Nat.le_trans (show _ ≤ 500 by omega) (by decide)
end Md

set_option Elab.async false
set_option linter.all false
set_option maxRecDepth 100000
set_option maxHeartbeats 4000000
namespace Md
open PySem PySem.Spec PyProof.Rows PySem.Calls L2
/-! dicts: compared, copied, listed, shown -/
abbrev rDictP (K : PySem.W.Frag) : List V → Hp → VK → Prop := fun xs H Q => ∃ (a : Addr) (ps : List Addr) (kvs : List (Key × V)), xs = [.ref a] ∧ SqL K H a (ps.map V.ref) ∧ Paired (fun p kv => SqT K H p [kV kv.1, kv.2]) ps kvs ∧ ∀ p, H p = none → Q (.ref p) (upd H p (.dK (mergeK [] kvs)))
abbrev rDictD : List V → Hp → VK → Prop := fun xs H Q => ∃ (a : Addr) (kvs : List (Key × V)), xs = [.ref a] ∧ Rd H a (.dK kvs) ∧ ∀ p, H p = none → Q (.ref p) (upd H p (.dK kvs))
abbrev rListD : List V → Hp → VK → Prop := fun xs H Q => ∃ (a : Addr) (kvs : List (Key × V)), xs = [.ref a] ∧ Rd H a (.dK kvs) ∧ ∀ p, H p = none → Q (.ref p) (upd H p (.lst (kvs.map fun kv => kV kv.1)))
/-- the same value, seen from two places -/
def selfB (v : V) : Prop := flatB v = true ∨ ∃ a, v = .ref a
theorem eq_self {A : Around} {s : Shared} {v : V} {u u' : Value} (r : RelV v u) (r' : RelV v u') (h : selfB v) : SeqAt.EqAt A s u u' true := by
  rcases h with h | ⟨a, rfl⟩
  · exact eqAt_same r r' h
  · obtain rfl : u = .ref a := r
    obtain rfl : u' = .ref a := r'
    exact SeqAt.EqAt.same _
theorem hits_self {A : Around} {s : Shared} {kvs : List (Key × V)} {vb : List (Key × Value)} (rb : KV kvs vb) : ∀ {ks : List (Key × V)} {va : List (Key × Value)}, KV ks va → (∀ p ∈ ks, valV kvs p.1 = some p.2 ∧ selfB p.2) → PySem.W.KeqHits A s vb va true
  | _, _, .nil, _ => .nil
  | p :: ks, (k, v) :: va, .cons ⟨hk, hv⟩ t, hp => by
    obtain ⟨e, f⟩ := hp p (.head _)
    obtain rfl : p.1 = k := hk
    obtain ⟨y, hy, ry⟩ := RelO.some_of (v := p.2) (o := valueAt vb p.1) (by rw [← e]; exact rb.val p.1)
    exact .hit (b := true) hy (eq_self hv ry f) (hits_self rb t fun q hq => hp q (.tail _ hq))
def SameD (H : Hp) (x y : V) : Prop := ∃ a b ks ls, x = .ref a ∧ y = .ref b ∧ H a = some (.dK ks) ∧ H b = some (.dK ls) ∧ ks.length = ls.length ∧ ∀ p ∈ ks, valV ls p.1 = some p.2 ∧ selfB p.2
def rEqDS : R2 := fun x y H Q => SameD H x y ∧ Q (.bl true) H
def rNeDS : R2 := fun x y H Q => SameD H x y ∧ Q (.bl false) H
theorem op_eqDS {X : Cx} (hu : X.A.units < cLine) : OpR X (compareOp .Eq) rEqDS := by
  rintro pins s σ H x y v u Q I rx ry ⟨⟨a, b, ks, ls, rfl, rfl, ea, eb, hlen, hp⟩, q⟩
  obtain rfl : v = .ref a := rx
  obtain rfl : u = .ref b := ry
  obtain ⟨_, ya, va, ra, da⟩ := dk_of I.hok ea
  obtain ⟨_, yb, vb, rb, db⟩ := dk_of I.hok eb
  have hl : va.length = vb.length := by rw [← ra.length, ← rb.length]; exact hlen
  exact PySem.W.keq_eq (knd := mixKind X.prog X.w) (r := true) ya yb da db hu (fun _ => hits_self rb ra hp) (fin_bl I q (by simp [hl]))
theorem op_neDS {X : Cx} (hu : X.A.units < cLine) : OpR X (compareOp .NotEq) rNeDS := by
  rintro pins s σ H x y v u Q I rx ry ⟨⟨a, b, ks, ls, rfl, rfl, ea, eb, hlen, hp⟩, q⟩
  obtain rfl : v = .ref a := rx
  obtain rfl : u = .ref b := ry
  obtain ⟨_, ya, va, ra, da⟩ := dk_of I.hok ea
  obtain ⟨_, yb, vb, rb, db⟩ := dk_of I.hok eb
  have hl : va.length = vb.length := by rw [← ra.length, ← rb.length]; exact hlen
  exact PySem.W.keq_ne (knd := mixKind X.prog X.w) (r := true) ya yb da db hu (fun _ => hits_self rb ra hp) (fin_bl I q (by simp [hl]))
/-- tuple(d): its keys -/
def rTupD : List V → Hp → VK → Prop := fun xs H Q => ∃ (a : Addr) (kvs : List (Key × V)), xs = [.ref a] ∧ H a = some (.dK kvs) ∧ ∀ p, H p = none → Q (.ref p) (upd H p (.tup (kvs.map fun kv => kV kv.1)))
theorem code_tupleD {P : Program} {w : World} {A : Around} {E : Value → Shared → Prop} {s : Shared} {Q₁ : Value → Shared → Prop} {r d : Addr} {n : Nat} {G : Nat → Value → Prop} {OK : Heap → Prop} (S : PySem.W.KdlSrc P w "dict" r d n G OK) (hh : A.handled = none) (hok : OK s.heap) (hn : n ≤ sizeLine)
    (h : ∀ (h' : Heap) (tk : Nat) (acc : Array Value), (∀ b o, s.heap.get? b = some o → h'.get? b = some o) → ItemsOf G acc n → Q₁ (.ref h'.objs.size) { s with heap := h'.push { cls := .type "tuple", data := .seq acc }, toks := tk }) :
    codeAny (model P w) A (.call (.builtin "tuple.__new__") ⟨[.type "tuple", .ref r], []⟩) (wants Q₁ E) s := by
  refine codeAny_of_tree ?_
  show wpAny _ A.in1 (do checkBuiltinCall "tuple.__new__" ⟨[.type "tuple", .ref r], []⟩; again (.builtin "tuple.__new__" ⟨[.type "tuple", .ref r], []⟩)) _ _ s
  refine wpAny_bind (wpAny_of_eq (F.newCall_tuple_1 _) (wpAny_pure ⟨plainId_quiet F.plain_tuple_new _, codeAny_builtin F.entry_tuple_new ?_⟩))
  rw [Around.under_plainId F.plain_tuple_new _]
  have h1 := sub_tuple_self
  have h2 := init_tuple_lookup
  have h3 := madeHere_tuple
  have hT : s.TypeIs (.ref r) "dict" := S.type _ hok
  have h4 : A.in1.handled = none := hh
  wp_walk using wpAny_typeOf hT, PySem.W.kdu_collect S (A := A.in1) h4 hok hn
  intro h' tk acc hk hacc
  show wpAny _ _ (Builtin.Tuple.tupleExact acc.toList.toArray >>= fun v => ret v) _ _ _
  unfold Builtin.Tuple.tupleExact
  have e : acc.toList.toArray = acc := by simp
  rw [e]
  exact wpAny_bind (wpAny_newObj_type (wpAny_pure (h h' tk acc hk hacc)) (by show acc.size ≤ sizeLine; rw [hacc.1]; exact hn))
theorem call_tupD {X : Cx} (hc : X.calm = true) : CallR X (.type "tuple") rTupD := by
  rintro pins s σ H xs us Q I r ⟨a, kvs, rfl, hd, q⟩
  obtain ⟨u, rfl, rx⟩ := vals1 r
  obtain rfl : u = .ref a := rx
  obtain ⟨z, lo, vs, rel, dd⟩ := dk_of I.hok hd
  obtain ⟨ep, hat⟩ := dd.dictAt
  have ek : (kvs.map fun kv => kV kv.1) = vs.map fun p => kV p.1 := by
    have e := congrArg (List.map kV) rel.keys
    rw [List.map_map, List.map_map] at e
    exact e
  refine callType_codes (Q₁ := fun obj s₁ => s₁.TypeIs obj "tuple" ∧ EP X pins σ Q obj s₁) F.called_tuple (F.typeCall_tuple_1 _) F.entry_object_init
    (code_tupleD (A := X.A.in1) (PySem.W.kdl_dict (knd := mixKind X.prog X.w) (kvs := vs) (ep := ep) lo) (I.ok.hd hc) hat (by rw [← rel.length]; exact z) fun h' tk acc hk hacc => ⟨⟨_, Heap.get?_push_size _ rfl, rfl⟩, ?_⟩) fun obj s₁ h₁ => ?_
  · have hv : Vals (vs.map fun p => kV p.1) acc.toList := keys_at (by rw [Array.length_toList]; exact hacc.1) fun j v e => hacc.2 j v (by rw [← Array.getElem?_toList]; exact e)
    have I1 : Inv X pins σ H { s with heap := h', toks := tk } := I.kept (t' := tk) hk
    have I2 : Inv X pins σ (upd H h'.objs.size (.tup (kvs.map fun kv => kV kv.1))) { s with heap := h'.push { cls := .type "tuple", data := .seq acc }, toks := tk } :=
      I1.laid (t' := tk) (fun b o e => Heap.get?_push_of_some _ e) (Nat.le_refl _) (show ObjOk X.prog X.w _ _ _ (.tup (kvs.map fun kv => kV kv.1)) from
        ⟨by rw [List.length_map]; exact z, acc.toList, by rw [ek]; exact hv, by rw [Array.toArray_toList]; exact IsTup.new _ _⟩)
    exact ⟨.ref h'.objs.size, _, I2, rfl, q _ (I1.hok.fresh (Nat.le_refl _))⟩
  · exact ⟨h₁.1, F.args_object_init_2 obj _, object_init_meets F.called_tuple.init.lookup F.called_tuple.made (by decide) X.prog X.w X.A.in1 _ s₁ ⟨h₁.1, rfl, h₁.2⟩⟩
/-- what is shown in few letters, and reads no list -/
def ShortV (H : Hp) (v : V) (d : PyData) : Prop := (v = .non ∧ d = .none) ∨ (∃ i : Int, v = .int i ∧ d = .int i ∧ i.natAbs < 10 ^ 60) ∨ (∃ z : Str, v = .str z ∧ d = .str z ∧ z.length ≤ 20 ∧ PyData.strOk z = true) ∨
  ∃ t i j, v = .ref t ∧ H t = some (.tup [.int i, .int j]) ∧ d = .tuple [.int i, .int j] ∧ i.natAbs < 10 ^ 60 ∧ j.natAbs < 10 ^ 60
theorem short_reads {X : Cx} {pins : List (Addr × Obj)} {σ : L2.St} {H : Hp} {s : Shared} {v : V} {d : PyData} {u : Value} (I : Inv X pins σ H s) (h : ShortV H v d) (r : RelV v u) : Reads s.heap u d [] := by
  rcases h with ⟨rfl, rfl⟩ | ⟨i, rfl, rfl, _⟩ | ⟨z, rfl, rfl, _⟩ | ⟨t, i, j, rfl, ht, rfl, _⟩
  · obtain rfl : u = .none := r
    exact .none
  · obtain ⟨tk, rfl⟩ := r
    exact .int i tk
  · obtain ⟨tk, rfl⟩ := r
    exact .str z tk
  · obtain rfl : u = .ref t := r
    obtain ⟨its, rv, ⟨o, ho, hc, n, hd⟩, _⟩ := I.tuple (SqT.of ht)
    refine .tuple ho hc hd ?_
    cases rv with
    | cons a r1 =>
      cases r1 with
      | cons b r2 =>
        cases r2
        obtain ⟨t1, rfl⟩ := a
        obtain ⟨t2, rfl⟩ := b
        exact .cons (.int i t1) (.cons (.int j t2) .nil)
theorem short_ok {H : Hp} {v : V} {d : PyData} (h : ShortV H v d) : d.showable = true ∧ d.depth ≤ 1 ∧ d.shown.length ≤ 1200 := by
  have big : ∀ {i : Int}, i.natAbs < 10 ^ 60 → i.natAbs < 10 ^ 570 := fun h => Nat.lt_of_lt_of_le h (by decide)
  rcases h with ⟨rfl, rfl⟩ | ⟨i, rfl, rfl, hi⟩ | ⟨z, rfl, rfl, hz, hs⟩ | ⟨t, i, j, rfl, ht, rfl, hi, hj⟩
  · exact ⟨rfl, Nat.zero_le _, by decide⟩
  · refine ⟨decide_eq_true (log_of (big hi)), Nat.zero_le _, ?_⟩
    have := text_len (big hi)
    show (Str.ofString (toString i)).length ≤ 1200
    omega
  · refine ⟨rfl, Nat.zero_le _, ?_⟩
    have := repr_len hz hs
    show (reprText z).length ≤ 1200
    omega
  · refine ⟨?_, ?_, ?_⟩
    · simp [PyData.showable, PyData.showableAll, log_of (big hi), log_of (big hj)]
    · simp [PyData.depth, PyData.depthAll]
    · have h1 := text_len (big hi)
      have h2 := text_len (big hj)
      have := tupleText_len_le [(Str.ofString (toString i)), (Str.ofString (toString j))]
      simp only [List.map_cons, List.map_nil, List.sum_cons, List.sum_nil, List.length_cons, List.length_nil] at this
      show (tupleText [(Str.ofString (toString i)), (Str.ofString (toString j))]).length ≤ 1200
      omega
/-- a dict of few short things -/
def ShortD (H : Hp) : List (Key × V) → Prop := fun kvs => ∀ kv ∈ kvs, (∃ z : Str, kv.1 = .inr z ∧ z.length ≤ 20 ∧ PyData.strOk z = true) ∧ ∃ d, ShortV H kv.2 d
theorem short_pairs {X : Cx} {pins : List (Addr × Obj)} {σ : L2.St} {H : Hp} {s : Shared} (I : Inv X pins σ H s) : ∀ {es : List DictEntry} {vs : List (Key × Value)} {kvs : List (Key × V)}, Pairs (mixKind X.prog X.w) es vs → KV kvs vs → ShortD H kvs →
    ∃ D : List (PyData × PyData), ReadsAll s.heap (es.map (·.key)) (D.map (·.1)) [] ∧ ReadsAll s.heap (es.map (·.val)) (D.map (·.2)) [] ∧ PyData.showableKv D = true ∧ PyData.depthKv D ≤ 1 ∧ ((PyData.shownKv D).map (·.length)).sum ≤ 1500 * kvs.length ∧ (PyData.shownKv D).length = kvs.length
  | _, _, _, .nil, .nil, _ => ⟨[], .nil, .nil, rfl, Nat.zero_le _, Nat.zero_le _, rfl⟩
  | e :: es, (k, w) :: vs, (k', v) :: kvs, .cons h1 h2 h3, .cons ⟨hk, hv⟩ t, hs => by
    obtain rfl : k' = k := hk
    obtain ⟨⟨z, hz, lz, oz⟩, d, hd⟩ := hs (k', v) (.head _)
    obtain ⟨D, r1, r2, r3, r4, r5, r6⟩ := short_pairs I h3 t fun kv hkv => hs kv (.tail _ hkv)
    have hz' : k' = .inr z := hz
    subst hz'
    have hkey : keyIs (.inr z) e.key = true := h1
    rcases keyIs_shape hkey with ⟨i, tk, e1, _⟩ | ⟨x, tk, e1, e2⟩
    · cases e1
    · cases e1
      have hval : e.val = w := h2
      obtain ⟨o1, o2, o3⟩ := short_ok hd
      have hl := repr_len lz oz
      refine ⟨(.str z, d) :: D, ?_, ?_, ?_, ?_, ?_, ?_⟩
      · show ReadsAll s.heap (e.key :: es.map (·.key)) (.str z :: D.map (·.1)) ([] ++ [])
        rw [e2]
        exact .cons (.str z tk) r1
      · show ReadsAll s.heap (e.val :: es.map (·.val)) (d :: D.map (·.2)) ([] ++ [])
        rw [hval]
        exact .cons (short_reads I hd hv) r2
      · simp [PyData.showableKv, PyData.showable, o1, r3]
      · simp only [PyData.depthKv, PyData.depth]
        omega
      · simp only [PyData.shownKv, PyData.shown, List.map_cons, List.sum_cons, List.length_cons, app_len]
        have e3 : (": " : Str).length = 2 := by decide
        omega
      · simp only [PyData.shownKv, List.length_cons, r6]
/-- str(d) of such a dict: some text -/
def rStrD : List V → Hp → VK → Prop := fun xs H Q => ∃ (a : Addr) (kvs : List (Key × V)), xs = [.ref a] ∧ H a = some (.dK kvs) ∧ kvs.length ≤ 10 ∧ ShortD H kvs ∧ ∀ z, Q (.str z) H
theorem call_strD {X : Cx} (gd : X.A.guards = some []) (hu : X.A.units + 65 < cLine) : CallR X (.type "str") rStrD := by
  rintro pins s σ H xs us Q I r ⟨a, kvs, rfl, ha, hl, hs, q⟩
  obtain ⟨u, rfl, rx⟩ := vals1 r
  obtain rfl : u = .ref a := rx
  obtain ⟨z, lo, vs, rel, o, es, ep, ho, hx, hd, hk, hp, hn⟩ := dk_of I.hok ha
  obtain ⟨D, r1, r2, r3, r4, r5, r6⟩ := short_pairs I hp rel hs
  have rd : Reads s.heap (.ref a) (.dict D) (a :: ([] ++ [])) := .dict ho hx.1 hd r1 r2
  refine str_of_reads rd ?_ (fun _ hm => ?_) gd ?_ (fun _ _ z => z) (fun h' t tk kp => ⟨.str (PyData.shown (.dict D)), H, I.kept (t' := tk) kp, ⟨_, rfl⟩, q _⟩) ?_
  · exact r3
  · have e := List.mem_singleton.mp hm
    rw [← e] at lo
    exact absurd lo (by decide)
  · simp only [PyData.depth]
    omega
  · have := dictText_len_le (PyData.shownKv D)
    show (dictText (PyData.shownKv D)).length ≤ sizeLine
    exact Nat.le_trans (show _ ≤ 20000 by omega) (by decide)
end Md

set_option Elab.async false
set_option linter.all false
set_option maxRecDepth 100000
set_option maxHeartbeats 4000000
set_option exponentiation.threshold 20000
namespace Md
open PySem PySem.Spec PyProof.Rows PySem.Calls L2
local macro_rules | `(tactic| walk_at "v") => `(tactic| refine ⟨_, rfl, ?_⟩)
local macro_rules | `(tactic| walk_at "ii") => `(tactic| refine ⟨_, _, rfl, rfl, ?_⟩)
/-! ### what is_number says -/
theorem numB_non {K : PySem.W.Frag} {H : Hp} : NumB K H .non false := .inl ⟨_, .base .non, by decide, rfl⟩
theorem numB_bl {K : PySem.W.Frag} {H : Hp} {b : Bool} : NumB K H (.bl b) false := .inl ⟨_, .base (.bl b), by decide, rfl⟩
theorem numB_str {K : PySem.W.Frag} {H : Hp} {z : Str} : NumB K H (.str z) false := .inl ⟨_, .base (.str z), by decide, rfl⟩
theorem numB_lst {K : PySem.W.Frag} {H : Hp} {a : Addr} {xs : List V} (h : H a = some (.lst xs)) : NumB K H (.ref a) false := .inl ⟨_, .base (.lst h), by decide, rfl⟩
theorem numB_dK {K : PySem.W.Frag} {H : Hp} {a : Addr} {xs : List (Key × V)} (h : H a = some (.dK xs)) : NumB K H (.ref a) false := .inl ⟨_, .base (.dK h), by decide, rfl⟩
theorem numB_two {K : PySem.W.Frag} {H : Hp} {a : Addr} {u v : V} {T1 T2 : String} {r : Bool} (h : H a = some (.tup [u, v])) (t1 : TyX K H u (.type T1)) (t2 : TyX K H v (.type T2)) (e : pairB u v = r) : NumB K H (.ref a) r := .inr (.inr ⟨a, u, v, T1, T2, rfl, h, t1, t2, e.symm⟩)
theorem numB_len {K : PySem.W.Frag} {H : Hp} {a : Addr} {xs : List V} (h : H a = some (.tup xs)) (hl : xs.length ≠ 2) : NumB K H (.ref a) false := .inr (.inl ⟨a, xs, rfl, h, hl, rfl⟩)
theorem NumAt.numB {K : PySem.W.Frag} {H : Hp} {x : V} {p q : Int} (h : NumAt H x p q) : NumB K H x true := by
  rcases h with ⟨rfl, _⟩ | ⟨a, rfl, ha, h2, c⟩
  · exact .inl ⟨_, ty_int, by decide, rfl⟩
  · refine numB_two ha ty_int ty_int ?_
    show (decide (2 ≤ q) && decide (Nat.gcd p.natAbs q.natAbs = 1)) = true
    rw [decide_eq_true h2, decide_eq_true (show Nat.gcd p.natAbs q.natAbs = 1 from c)]
    rfl
end Md

set_option Elab.async false
set_option linter.all false
set_option maxRecDepth 100000
set_option maxHeartbeats 4000000
set_option exponentiation.threshold 20000
namespace Md
open PySem PySem.Spec PyProof.Rows PySem.Calls L2
local macro_rules | `(tactic| walk_at "v") => `(tactic| refine ⟨_, rfl, ?_⟩)
local macro_rules | `(tactic| walk_at "ii") => `(tactic| refine ⟨_, _, rfl, rfl, ?_⟩)
/-! ### _law_word -/
def t__law_word (K : PySem.W.Frag) (A : Ads) (E : XK) : TS :=
    (tRet (tM1 (rJoin K) (tC (.str "")) (tLc (iRng1 (tCons (tOp rAdd (tC (.int 1)) (tCall (sp__law_take K A) [] E0 (tCons (tVar 0) (tCons (tC (.int 8)) tNil)))) tNil)) (gName 1) tYes (tCall (sp__law_of K A) [] E0 (tCons (tVar 0) (tCons (tC (.str "abcdefghijklmnopqrstuvwxyz")) tNil))) [1])))
def n__law_word : List Str := ["_law_bag_here", "_law_turn"]
def sp__law_word (K : PySem.W.Frag) (A : Ads) : Sp := fun vs H Q _ => ∃ (b : Addr) (n : Nat), vs = [.ref b] ∧ Bag (n + 9) H b ∧ ∀ (z : Str) H', isWord z = true → Xb b H H' → Bag n H' b → Q (.str z) H'
theorem len__law_word {K : PySem.W.Frag} {A : Ads} {vs : List V} {H : Hp} {Q : VK} {E : XK} (h : sp__law_word K A vs H Q E) : vs.length = 1 := by
  obtain ⟨x, w, rfl, _⟩ := h
  rfl
theorem pure__law_word {K : PySem.W.Frag} {A : Ads} {vs : List V} {H : Hp} {Q : VK} {E : XK} (h : sp__law_word K A vs H Q E) : t__law_word K A E { nx := fun _ H' => Q .non H', rt := Q } (start n__law_word vs) H := by
  obtain ⟨b, n, rfl, hB, k⟩ := h
  refine ⟨⟨_, rfl⟩, ?_⟩
  walk_at "v"
  refine ⟨b, 8, n + 8, rfl, hB, by decide, by decide, fun d H1 d0 d1 x1 hB1 => ?_⟩
  walk_at "ii"
  refine ⟨1 + d, rfl, by omega, by omega, fun D hD => ?_⟩
  have nD : D ≠ b := by
    rintro rfl
    obtain ⟨L, e⟩ := hB1.at_
    rw [hD] at e
    cases e
  refine lc_range (lo := 0) (n := (1 + d).toNat) (fun i H' => Xb b H H' ∧ Bag (n + 8 - i) H' b ∧ (∀ q o, H q = some o → q ≠ D) ∧ ∃ cs : List Nat, cs.length = i ∧ (∀ c ∈ cs, isL c = true) ∧ H' D = some (.lst ((cs.map one).map V.str)))
    ⟨fun q o nq hq => ?_, hB1.same (Same.new hD), ?_, [], rfl, (by intro _ z; cases z), upd_same⟩ ?_ ?_
  · have := x1 q o nq hq
    rw [upd_ne (ne_of_none this hD)]
    exact this
  · rintro q o hq rfl
    have := x1 q o nD hq
    rw [hD] at this
    cases this
  · rintro i H2 hi ⟨x2, hB2, hnD, cs, hlen, hcs, hl⟩
    refine ⟨rfl, ?_⟩
    walk_at "v"
    refine ⟨b, n + 8 - (i + 1), hB2.mono (by omega), .inr ⟨_, rfl, by decide, by decide, fun c H3 hc x3 hB3 => ?_⟩⟩
    have hl3 := x3 _ _ nD hl
    refine ⟨_, hl3, ?_, fun q o nq hq => ?_, ?_, hnD, cs ++ [c], ?_, fun c' hc' => ?_, ?_⟩
    · rw [List.length_map, List.length_map]
      exact Nat.lt_of_lt_of_le (show cs.length < 9 by omega) (by decide)
    · rw [upd_ne (hnD q o hq)]
      exact x3 q o nq (x2 q o nq hq)
    · obtain ⟨L, S, C, e, r⟩ := hB3
      exact ⟨L, S, C, by rw [upd_ne (Ne.symm nD)]; exact e, r⟩
    · rw [List.length_append, hlen]; rfl
    · rcases List.mem_append.mp hc' with h | h
      · exact hcs c' h
      · have e := List.mem_singleton.mp h
        subst e
        exact decide_eq_true hc
    · rw [upd_same]
      simp [one]
  · rintro H2 ⟨x2, hB2, hnD, cs, hlen, hcs, hl⟩
    have c0 : 1 ≤ cs.length := by omega
    have c8 : cs.length ≤ 8 := by omega
    refine ⟨_, D, cs.map one, rfl, rfl, .inl (SqL.of hl), ?_, ?_⟩
    · rw [ones_sum, List.length_map]
      show cs.length + cs.length * 0 ≤ 16777216
      omega
    · rw [join_ones cs (by intro z; rw [z] at c0; exact absurd c0 (by decide))]
      exact k _ _ (isWord_of c0 c8 hcs) x2 (hB2.mono (by omega))
end Md

set_option Elab.async false
set_option linter.all false
set_option maxRecDepth 100000
/-! the head's hook with the interpreter's statics (a class's constants are read there) -/
namespace Md
open PySem PySem.Spec PyProof.Rows PySem.Calls L2
structure SaysM (fa : List He.Fa) (fn : List He.DefD) (ex : PySem.W.Frag → Bool) (K : PySem.W.Frag) : Prop where
  d : He.SaysD fa fn K
  more : ex K = true
def frM (g : Addr → Option Obj) (n : Nat) : PySem.W.Frag := He.frT g (He.asD g n ++ [cStatics])
def obsM (n : Nat) (fa : List He.Fa) (fn : List He.DefD) (ex : PySem.W.Frag → Bool) (g : Addr → Option Obj) : He.AlD × Bool := (He.obsD fa fn (frM g n), ex (frM g n))
def hookM (n : Nat) (fa : List He.Fa) (fn : List He.DefD) (ex : PySem.W.Frag → Bool) : PySem.W.Hook where
  α := He.AlD × Bool
  obs := fun s => obsM n fa fn ex s.heap.get?
  val := fun _ => (He.valD fn, true)
  says := fun _ h => ∃ K : PySem.W.Frag, K.In h ∧ SaysM fa fn ex K
  of := fun _ _ e => ⟨_, He.frT_in, ⟨congrArg (fun z : He.AlD × Bool => z.1) e, congrArg (fun z : He.AlD × Bool => z.2) e⟩⟩
  keeps := fun _ _ _ ⟨K, hK, c⟩ k => ⟨K, PySem.W.Frag.In.keeps hK k, c⟩
theorem obsM_eq {n : Nat} {fa : List He.Fa} {fn : List He.DefD} {ex : PySem.W.Frag → Bool} {g : Addr → Option Obj} {s : Shared} (h : ∀ a, g a = s.heap.get? a) : obsM n fa fn ex g = (hookM n fa fn ex).obs s := by
  have e : g = s.heap.get? := funext h
  rw [e] <;> rfl
end Md

set_option Elab.async false
set_option linter.all false
set_option maxRecDepth 100000
set_option maxHeartbeats 4000000
/-! a law's end where its def may show data -/
namespace Md
open PySem PySem.Spec PyProof.Rows PySem.Calls L2
/-- the script's own place: locked there, unless the written part has it -/
def scrH (K : PySem.W.Frag) (a : Addr) (o : Obj) (xs : List V) : Hp := fun b => if b = a ∧ K.lookup a = none then some (.frz o (.lst xs)) else none
theorem scrH_in {K : PySem.W.Frag} {a b : Addr} {o : Obj} {xs : List V} {u : HO} (h : scrH K a o xs b = some u) : b = a ∧ K.lookup a = none ∧ u = .frz o (.lst xs) := by
  unfold scrH at h
  split at h
  · rename_i c
    cases h
    exact ⟨c.1, c.2, rfl⟩
  · cases h
theorem lawG {P : Program} {w : World} {K : PySem.W.Frag} {mg mb : Str → Option Value} {CX : CXT} {k : Nat} {fa a : Addr} {fd : FuncData} {x : Str} {sp : Sp} {st : Shared} {vs : List Value} {ns : List Int}
    (inK : K.In st.heap) (gl : st.heap.Ns mainGlobals mg) (bl : st.heap.Ns builtinsNs mb) (boot : ∀ y : Str, y ≠ "__name__" → mb y = bootBuiltins y) (nol : st.heap.NoLimit) (gn : st.gens = #[])
    (at_ : st.heap.get? a = some { cls := .type "list", data := .seq vs.toArray }) (hints : IntsAre vs ns) (fit : ns.length ≤ sizeLine) (room : Room k callerA)
    (F : ∀ base : Heap, K.In base → base.Ns mainGlobals mg → FnG P w K mg base CX k fa fd [x] sp) (bind : ∀ (s : Shared) (u : Value), BindsTo s fd ⟨[u], []⟩ [(x, u)])
    (want : ∀ H : Hp, SqL K H a (ns.map V.int) → sp [.ref a] H (fun v _ => v = .bl true) fun _ _ _ => False) (noX : ∀ H e s', CX [] H st (fun _ _ _ => False) e s' → False) :
    codeAny (model P w) callerA (.call (.ref fa) ⟨[.ref a], []⟩) (fun r s' => r = .ok (.ret (.bool true)) ∧ OldK st.heap s'.heap ∧ s'.os = st.os ∧ AllBare s'.gens) st := by
  have rel : Vals (ns.map V.int) vs := vals_ints hints
  have lv : vs.length = ns.length := hints.length
  let o : Obj := { cls := .type "list", data := .seq vs.toArray }
  let H : Hp := scrH K a o (ns.map V.int)
  have good : HOk P w H st.heap := by
    intro b u h
    obtain ⟨rfl, _, rfl⟩ := scrH_in h
    exact ⟨at_, by rw [List.length_map]; exact fit, vs, _, rel, at_⟩
  have seq : SqL K H a (ns.map V.int) := by
    cases e : K.lookup a with
    | none => exact .inl (.inr ⟨o, if_pos ⟨rfl, e⟩⟩)
    | some p =>
      have z := inK a p e
      rw [at_] at z
      cases z
      exact .inr ⟨_, vs.toArray, _, e, rfl, rfl, rfl, by rw [List.size_toArray, lv]; exact fit, by simpa using rel⟩
  have free : ∀ {b : Addr} {p : Obj}, st.heap.get? b = some p → (b = a → K.lookup a = none → False) → (hidT st.heap H).get? b = some p := by
    intro b p e n
    refine hidT_get e ?_
    cases q : H b with
    | none => rfl
    | some u =>
      obtain ⟨e1, e2, _⟩ := scrH_in q
      exact (n e1 e2).elim
  have names : ∀ {b : Addr} {m : Str → Option Value}, st.heap.Ns b m → (hidT st.heap H).Ns b m := by
    rintro b m ⟨p, es, ep, e, d, r⟩
    refine ⟨p, es, ep, free e ?_, d, r⟩
    rintro rfl _
    rw [at_] at e
    cases e
    cases d
  have kept : K.In (hidT st.heap H) := by
    intro b p e
    refine free (inK b p e) ?_
    rintro rfl z
    rw [z] at e
    cases e
  have start : Env0 P w K mg (hidT st.heap H) callerA [] st H := by
    refine ⟨rfl, ⟨kept, names gl, ⟨mb, names bl, boot⟩, ?_⟩, fun b p e => of_hidT e, Nat.le_of_eq (hidT_size _ _), True.intro, ?_, good, .of_eq gn⟩
    · obtain ⟨mc, h1, h2⟩ := nol
      exact ⟨mc, names h1, h2⟩
    · intro b hb
      exact absurd (show b ∈ ([] : List Addr) from hb) (List.not_mem_nil)
  have run := (F _ kept (names gl)).run callerA [] st H ⟨[.ref a], []⟩ [.ref a] [.ref a] _ _ rfl room start (bind st (.ref a)) (.cons rfl .nil) (want H seq)
  refine codeAny_mono run ?_
  rintro (e | _ | _ | _ | u) s' z
  · exact (noX H e s' z).elim
  · exact z.elim
  · exact z.elim
  · exact z.elim
  · obtain ⟨v, H', os, bare, un, good', rv, rfl⟩ := z
    obtain rfl : u = Value.bool true := rv
    refine ⟨rfl, OldK.of_keep fun b p e => ?_, os, bare⟩
    cases q : H b with
    | none => exact un.keep b p e q (fun z => absurd (show b ∈ ([] : List Addr) from z) List.not_mem_nil) (by simp)
    | some t =>
      obtain ⟨rfl, _, rfl⟩ := scrH_in q
      have e2 := (good' b _ (un.frzs b o _ q)).1
      rw [at_] at e
      cases e
      exact e2
theorem walk_ofG {l : PySem.W.OpenLaw} {n k : Nat} {q : Program} {loose : List Str} {XP : (Str → Option Value) → Heap → Prop} {YP : World → Heap → Prop} {d : DefRec} {CX : CXT} {x : Str}
    (most : l.most = some n) (fit : n ≤ sizeLine) (plain : d.params.defaults = []) (room : Room k callerA)
    (told : ∀ (w : World) (mg : Str → Option Value) (fa : Addr) (h : Heap), YP w h → h.Ns mainGlobals mg → mg d.name = some (.ref fa) → ∃ (K : PySem.W.Frag) (fd : FuncData) (sp : Sp),
      K.In h ∧ (∀ (s : Shared) (u : Value), BindsTo s fd ⟨[u], []⟩ [(x, u)]) ∧ (∀ (H : Hp) (a : Addr) (ns : List Int), ns.length ≤ n → SqL K H a (ns.map V.int) →
        sp [.ref a] H (fun v _ => v = .bl true) fun _ _ _ => False) ∧ ∀ base : Heap, K.In base → base.Ns mainGlobals mg → FnG l.prog w K mg base CX k fa fd [x] sp)
    (noX : ∀ (H : Hp) (s : Shared) (e : Value) (s' : Shared), CX [] H s (fun _ _ _ => False) e s' → False) : PySem.W.WalkO q loose XP YP l.row.toRowW d [] (fun f vs => PySem.call f vs) := by
  refine Att.attach_call most plain ?_
  intro w s₀ st mg mb fa o pm cd doc a vs ns G Y ho hd hcd hmg there nums few gn
  obtain ⟨K, fd, sp, inK, bind, want, F⟩ := told w mg fa _ Y G.T.g hmg
  exact lawG inK G.T.g G.T.b G.T.builtins G.T.nolimit gn there nums (Nat.le_trans few fit) room F bind (fun H z => want H a ns few z) fun H e s' => noX H st e s'
end Md

set_option Elab.async false
set_option linter.all false
set_option maxRecDepth 100000
set_option maxHeartbeats 4000000
/-! the script's list away from lists that change -/
namespace Md
open PySem PySem.Spec PyProof.Rows PySem.Calls L2
theorem new_ne {n : Nat} {H : Hp} {b l : Addr} (hB : Bag n H b) (h : H l = none) : l ≠ b := by
  rintro rfl
  obtain ⟨L, e⟩ := hB.at_
  rw [h] at e
  cases e
/-- the script's list, away from the lists bs that change -/
def ScrN (K : PySem.W.Frag) (H : Hp) (a : Addr) (xs : List V) (bs : List Addr) : Prop := SqL K H a xs ∧ (a ∈ bs → ∀ H', SqL K H' a xs)
theorem ScrN.step {K : PySem.W.Frag} {H H' : Hp} {a : Addr} {xs : List V} {bs : List Addr} (h : ScrN K H a xs bs) (x : ∀ q o, q ∉ bs → H q = some o → H' q = some o) : ScrN K H' a xs bs := by
  refine ⟨?_, h.2⟩
  by_cases c : a ∈ bs
  · exact h.2 c H'
  · rcases h.1 with (e | ⟨o, e⟩) | e
    · exact .inl (.inl (x _ _ c e))
    · exact .inl (.inr ⟨o, x _ _ c e⟩)
    · exact .inr e
theorem ScrN.xb {K : PySem.W.Frag} {H H' : Hp} {a b : Addr} {xs : List V} {bs : List Addr} (h : ScrN K H a xs bs) (x : Xb b H H') (hb : b ∈ bs := by simp) : ScrN K H' a xs bs := h.step fun q o hq e => x q o (fun z => hq (by rw [z]; exact hb)) e
theorem ScrN.same {K : PySem.W.Frag} {H H' : Hp} {a : Addr} {xs : List V} {bs : List Addr} (h : ScrN K H a xs bs) (s : Same H H') : ScrN K H' a xs bs := h.step fun q o _ e => s q o e
theorem ScrN.new {K : PySem.W.Frag} {H : Hp} {a b : Addr} {xs : List V} {bs : List Addr} (h : ScrN K H a xs bs) (hb : H b = none) : ScrN K H a xs (b :: bs) := by
  refine ⟨h.1, fun hm H' => ?_⟩
  rcases List.mem_cons.mp hm with e | e
  · subst e
    rcases h.1 with (e | ⟨o, e⟩) | e
    · rw [hb] at e; cases e
    · rw [hb] at e; cases e
    · exact .inr e
  · exact h.2 e H'
end Md

set_option Elab.async false
set_option linter.all false
set_option maxRecDepth 100000
set_option maxHeartbeats 4000000
set_option exponentiation.threshold 20000
namespace Md
open PySem PySem.Spec PyProof.Rows PySem.Calls L2
local macro_rules | `(tactic| walk_at "v") => `(tactic| refine ⟨_, rfl, ?_⟩)
local macro_rules | `(tactic| walk_at "ii") => `(tactic| refine ⟨_, _, rfl, rfl, ?_⟩)
theorem passAt_of {X : Cx} {E : XK} (h : Passes (L2N.CX X.prog X.w) X E) (σ : L2.St) : PassesAt (L2N.CX X.prog X.w) X σ E := fun pins H s e s' => h pins σ H s e s'
/-! ### a layout stands when a dict changes -/
theorem TupF.off {H H' : Hp} {d a : Addr} {ys : List V} {kvs : List (Key × V)} (h : TupF H a ys) (x : Xb d H H') (hd : H d = some (.dK kvs)) : TupF H' a ys := by
  obtain ⟨o, h, r⟩ := h
  exact ⟨o, x a _ (by rintro rfl; rw [hd] at h; cases h) h, r⟩
theorem LayAt.off {A : Ads} {H H' : Hp} {d a : Addr} {ns ks : List Str} {kvs : List (Key × V)} (h : LayAt A H a ns ks) (x : Xb d H H') (hd : H d = some (.dK kvs)) : LayAt A H' a ns ks := by
  obtain ⟨dx, tn, tk, h1, h2, h3, h⟩ := h
  exact ⟨dx, tn, tk, x a _ (by rintro rfl; rw [hd] at h1; cases h1) h1, h2.off x hd, h3.off x hd, h⟩
theorem Xb.upd1 {H : Hp} {d : Addr} {o : HO} : Xb d H (L2.upd H d o) := fun a u n h => by
  rw [upd_ne n]
  exact h
theorem upd_back {H : Hp} {d : Addr} {o u : HO} (h : H d = some u) : L2.upd (L2.upd H d o) d u = H := by
  funext a
  by_cases e : a = d
  · rw [e, upd_same, h]
  · rw [upd_ne e, upd_ne e]
/-! ### Layout.fill -/
def t_BadValue___init__ (K : PySem.W.Frag) (A : Ads) (E : XK) : TS :=
    (tOst K "name" (tVar 0) (tVar 1))
def n_BadValue___init__ : List Str := ["self", "name"]
def sp_BadValue___init__ (K : PySem.W.Frag) (A : Ads) : Sp := spXi A.cBadValue "name"
def fillK (ns : List Str) (kvs : List (Key × V)) : List (Key × V) := ns.map fun n => (.inr n, (valV kvs (.inr n)).getD .non)
theorem fillK_not {kvs : List (Key × V)} {n : Str} : ∀ {ns : List Str}, n ∉ ns → valV (fillK ns kvs) (.inr n) = none
  | [], _ => rfl
  | m :: r, h => by
    have e : (Sum.inr m : Key) ≠ .inr n := fun z => h (by rw [← Sum.inr.inj z]; exact List.mem_cons_self)
    show valV ((.inr m, (valV kvs (.inr m)).getD .non) :: fillK r kvs) (.inr n) = none
    rw [valV_neg e]
    exact fillK_not fun z => h (List.mem_cons_of_mem _ z)
theorem fillK_mem {kvs : List (Key × V)} {n : Str} : ∀ {ns : List Str}, n ∈ ns → valV (fillK ns kvs) (.inr n) = some ((valV kvs (.inr n)).getD .non)
  | m :: r, h => by
    show valV ((.inr m, (valV kvs (.inr m)).getD .non) :: fillK r kvs) (.inr n) = _
    by_cases e : m = n
    · subst e
      exact valV_pos rfl
    · rw [valV_neg (fun z => e (Sum.inr.inj z))]
      exact fillK_mem ((List.mem_cons.mp h).resolve_left (fun z => e z.symm))
def t_Layout_fill (K : PySem.W.Frag) (A : Ads) (E : XK) : TS :=
    (tSeq (tLock (tFor (iKeys (tVar 1)) (gName 2) (tIfS (tTest (tOp (rNotInT2 K) (tVar 2) (tFld K (tVar 0) "names"))) (tRaise E (tMkO A.cBadField (sp_BadField___init__ K A) [] (tCons (tVar 2) tNil))) tNext)))
    (tSeq (tAsg (tCall (sp_first_wrong K A) [] E (tCons (tVar 0) (tCons (tVar 1) tNil))) (gName 3))
    (tSeq (tIfS (tTest (tOp rNotN (tVar 3) (tC .non))) (tRaise E (tMkO A.cBadValue (sp_BadValue___init__ K A) [] (tCons (tVar 3) tNil))) tNext)
    (tRet (tDc (iTup K (tFld K (tVar 0) "names")) (gName 2) tYes (tVar 2) (tDGet1 (tVar 1) (tVar 2)) [2])))))
def n_Layout_fill : List Str := ["self", "values", "name", "wrong"]
def sp_Layout_fill (K : PySem.W.Frag) (A : Ads) : Sp := fun vs H Q E => ∃ (a d : Addr) (ns ks zs : List Str) (kvs : List (Key × V)), vs = [.ref a, .ref d] ∧ LayAt A H a ns ks ∧ H d = some (.dK kvs) ∧ kvs.map (·.1) = zs.map Sum.inr ∧ (∀ z ∈ zs, PyData.strOk z = true) ∧
  ((∃ m z, zs[m]? = some z ∧ z ∉ ns ∧ (∀ (i : Nat) y, i < m → zs[i]? = some y → y ∈ ns) ∧ ∀ dd H', Xb d H H' → H' dd = some (.xd [("name", .str z)]) → E (.ref A.cBadField) (some dd) H') ∨
   ((∀ z ∈ zs, z ∈ ns) ∧ ∃ m, m ≤ ns.length ∧ (∀ i, i < m → Holds1 K H ns ks kvs i true) ∧
    ((m < ns.length ∧ Holds1 K H ns ks kvs m false ∧ ∀ n dd H', ns[m]? = some n → Same H H' → H' dd = some (.xd [("name", .str n)]) → E (.ref A.cBadValue) (some dd) H') ∨
     (m = ns.length ∧ ∀ p H', H p = none → Same H H' → H' p = some (.dK (fillK ns kvs)) → Q (.ref p) H'))))
theorem len_Layout_fill {K : PySem.W.Frag} {A : Ads} {vs : List V} {H : Hp} {Q : VK} {E : XK} (h : sp_Layout_fill K A vs H Q E) : vs.length = 2 := by
  obtain ⟨a, d, _, _, _, _, rfl, _⟩ := h
  rfl
theorem pure_Layout_fill {K : PySem.W.Frag} {A : Ads} (cl : Cls K A.cLayout) (nn : NoAttr K A.cLayout "names") {vs : List V} {H : Hp} {Q : VK} {E : XK} (h : sp_Layout_fill K A vs H Q E) :
    t_Layout_fill K A E { nx := fun _ H' => Q .non H', rt := Q } (start n_Layout_fill vs) H := by
  obtain ⟨a, d, ns, ks, zs, kvs, rfl, lay, hd, hz, hs, h⟩ := h
  have lay0 := lay
  obtain ⟨dx, tn, tk, ha, gn, gk, hnk, h5, hok, hdup⟩ := lay0
  have hlen : kvs.length = zs.length := by
    have := congrArg List.length hz
    rwa [List.length_map, List.length_map] at this
  have key : ∀ (i : Nat) k v, kvs[i]? = some (k, v) → ∃ z, zs[i]? = some z ∧ k = .inr z := by
    intro i k v e
    have e1 : (kvs.map (·.1))[i]? = some k := by rw [List.getElem?_map, e]; rfl
    rw [hz, List.getElem?_map] at e1
    cases e2 : zs[i]? with
    | none => rw [e2] at e1; cases e1
    | some z => rw [e2] at e1; cases e1; exact ⟨z, rfl, rfl⟩
  refine ⟨d, _, hd, trivial, fun od => ?_⟩
  generalize e0 : L2.upd H d (.frz od (.dK kvs)) = H0
  have x0 : Xb d H H0 := by rw [← e0]; exact Xb.upd1
  have hd0 : H0 d = some (.frz od (.dK kvs)) := by rw [← e0, upd_same]
  have gn0 := gn.off x0 hd
  have ha0 : H0 a = some (.ins A.cLayout dx [("names", .ref tn), ("_kinds", .ref tk)]) := x0 a _ (by rintro rfl; rw [hd] at ha; cases ha) ha
  walk_at "v"
  refine ⟨d, od, rfl, .inl ⟨kvs, hd0, ?_⟩⟩
  -- the test of one name
  have test : ∀ (z : Str) (w2 w3 : Option V) (Q2 : Bool → Hp → Prop), PyData.strOk z = true → Q2 (!decide (z ∈ ns)) H0 → tTest (tOp (rNotInT2 K) (tVar 2) (tFld K (tVar 0) "names")) [some (.ref a), some (.ref d), some (.str z), w3] H0 Q2 := by
    intro z w2 w3 Q2 hzo q
    walk_at "v"; walk_at "v"
    refine ⟨a, _, dx, _, _, rfl, ha0, cl, nn, rfl, ?_⟩
    have sg : SeqAt.shaped (.str z) = true := by
      unfold SeqAt.shaped
      simp [PyData.canLay0, PyData.depth, hzo]
    refine .inr ⟨.str z, _, .str z, dp_tupS gn0.seq, sg, hok.shaped hnk, ?_⟩
    refine ⟨_, rfl, ?_⟩
    show Q2 (!inD ns (.str z)) H0
    rw [inD_str]
    exact q
  rcases h with ⟨m, z, em, hzn, hbef, kE⟩ | ⟨hall, m, hm, hho, kr⟩
  · have hml : m < zs.length := (List.getElem?_eq_some_iff.mp em).1
    refine for_it walk_keys (fun i σ H' => i ≤ m ∧ H' = H0 ∧ ∃ w2 w3, σ = [some (.ref a), some (.ref d), w2, w3]) ⟨Nat.zero_le _, rfl, _, _, rfl⟩ (fun i σ H' _ z => by rw [z.2.1]; exact hd0) ?_ ?_
    · rintro i x σ H1 H2 hi ⟨him, rfl, w2, w3, rfl⟩ ⟨rfl, k, v, ek, rfl⟩
      obtain ⟨y, ey, rfl⟩ := key i k v ek
      show tIfS _ _ _ _ [some (.ref a), some (.ref d), some (.str y), w3] _
      refine test y w2 w3 _ (hs y (List.mem_of_getElem? ey)) ?_
      refine iteN (fun hin => ?_) (fun hin => ?_)
      · refine ⟨?_, rfl, _, _, rfl⟩
        rcases Nat.lt_or_ge i m with hlt | hge
        · exact hlt
        · have : i = m := by omega
          subst this
          rw [em] at ey
          cases ey
          exact absurd hin hzn
      · have : ¬ i < m := fun hlt => hin (hbef i y hlt ey)
        have e2 : i = m := by omega
        subst e2
        rw [em] at ey
        cases ey
        walk_at "v"
        exact mk_xi fun dd H' s hx => kE dd H' (x0.trans (Xb.of s)) hx
    · rintro σ H1 ⟨him, _⟩
      omega
  · refine for_it walk_keys (fun i σ H' => H' = H0 ∧ ∃ w2 w3, σ = [some (.ref a), some (.ref d), w2, w3]) ⟨rfl, _, _, rfl⟩ (fun i σ H' _ z => by rw [z.1]; exact hd0) ?_ ?_
    · rintro i x σ H1 H2 hi ⟨rfl, w2, w3, rfl⟩ ⟨rfl, k, v, ek, rfl⟩
      obtain ⟨y, ey, rfl⟩ := key i k v ek
      show tIfS _ _ _ _ [some (.ref a), some (.ref d), some (.str y), w3] _
      refine test y w2 w3 _ (hs y (List.mem_of_getElem? ey)) ?_
      refine iteN (fun hin => ?_) (fun hin => absurd (hall y (List.mem_of_getElem? ey)) hin)
      exact ⟨rfl, _, _, rfl⟩
    · rintro σ H1 ⟨rfl, w2, w3, rfl⟩
      refine ⟨hd0, ?_⟩
      rw [← e0, upd_back hd]
      walk_at "v"; walk_at "v"
      refine ⟨a, d, ns, ks, kvs, m, rfl, lay, hd, hm, hho, fun em H2 s2 => ?_, fun hlt => ?_⟩
      · rcases kr with ⟨hlt, _⟩ | ⟨_, kQ⟩
        · omega
        walk_at "v"
        refine ⟨rfl, ?_⟩
        refine ⟨_, rfl, ?_⟩
        refine iteN (fun _ => ?_) (fun z => absurd rfl z)
        walk_at "v"
        refine ⟨a, _, dx, _, _, rfl, s2 _ _ ha, cl, nn, rfl, ?_⟩
        refine ⟨tn, rfl, ⟨_, (gn.same s2).seq⟩, fun D hD => ?_⟩
        refine dc_tup (K := K) (a := tn) (xs := ns.map V.str) (fun i H' => Same H2 H' ∧ H' D = some (.dK (fillK (ns.take i) kvs))) ⟨Same.new hD, upd_same⟩ (fun i H' _ z => (gn.same (Same.trans s2 z.1)).seq) ?_ ?_
        · rintro i x H3 hx ⟨s3, hl⟩
          have hi : i < ns.length := by
            have := (List.getElem?_eq_some_iff.mp hx).1
            rwa [List.length_map] at this
          obtain ⟨n, en⟩ : ∃ n, ns[i]? = some n := ⟨ns[i], List.getElem?_eq_getElem hi⟩
          rw [List.getElem?_map, en] at hx
          cases hx
          refine ⟨rfl, ?_⟩
          walk_at "v"; walk_at "v"
          have hd3 := s3 _ _ (s2 _ _ hd)
          refine ⟨d, rfl, .inl ⟨kvs, .inl hd3⟩, ?_⟩
          walk_at "v"
          refine ⟨valV kvs (.inr n), DGet.k (k := .inr n) hd3, ?_⟩
          have hnew : valV (fillK (ns.take i) kvs) (.inr n) = none := by
            refine fillK_not fun hm => ?_
            obtain ⟨j, hj, e⟩ := List.getElem_of_mem hm
            rw [List.length_take] at hj
            rw [List.getElem_take] at e
            exact hdup i n en j (by omega) (by rw [List.getElem?_eq_getElem (by omega), e])
          refine ⟨_, .inr n, rfl, hl, ?_, fun b o hb => ?_, ?_⟩
          · unfold fillK
            rw [List.length_map, List.length_take]
            exact Nat.lt_of_le_of_lt (Nat.min_le_right _ _) (Nat.lt_of_lt_of_le (show ns.length < 6 by omega) (by decide))
          · rw [upd_ne (ne_of_none hb hD)]
            exact s3 b o hb
          · rw [upd_same, putK_new _ hnew]
            unfold fillK
            rw [List.take_succ, en]
            simp
        · rintro H3 ⟨s3, hl⟩
          rw [List.length_map, List.take_length] at hl
          refine kQ D H3 ?_ (Same.trans s2 s3) hl
          cases e : H D with
          | none => rfl
          | some o => rw [s2 _ _ e] at hD; cases hD
      · rcases kr with ⟨_, hw, kE⟩ | ⟨z, _⟩
        · refine ⟨hw, fun n H2 en s2 => ?_⟩
          walk_at "v"
          refine ⟨rfl, ?_⟩
          refine ⟨_, rfl, ?_⟩
          refine iteN (fun z => nomatch z) (fun _ => ?_)
          walk_at "v"
          exact mk_xi fun dd H' s hx => kE n dd H' en (Same.trans s2 s) hx
        · omega
end Md

set_option Elab.async false
set_option linter.all false
set_option maxRecDepth 100000
set_option maxHeartbeats 4000000
set_option exponentiation.threshold 20000
namespace Md
open PySem PySem.Spec PyProof.Rows PySem.Calls L2
local macro_rules | `(tactic| walk_at "v") => `(tactic| refine ⟨_, rfl, ?_⟩)
local macro_rules | `(tactic| walk_at "ii") => `(tactic| refine ⟨_, _, rfl, rfl, ?_⟩)
/-! ### the keys ka to ke -/
theorem k_ka_kb : (("ka" : Str) = "kb") = False := eq_false (by decide)
theorem k_ka_kc : (("ka" : Str) = "kc") = False := eq_false (by decide)
theorem k_ka_kd : (("ka" : Str) = "kd") = False := eq_false (by decide)
theorem k_ka_ke : (("ka" : Str) = "ke") = False := eq_false (by decide)
theorem k_kb_ka : (("kb" : Str) = "ka") = False := eq_false (by decide)
theorem k_kb_kc : (("kb" : Str) = "kc") = False := eq_false (by decide)
theorem k_kb_kd : (("kb" : Str) = "kd") = False := eq_false (by decide)
theorem k_kb_ke : (("kb" : Str) = "ke") = False := eq_false (by decide)
theorem k_kc_ka : (("kc" : Str) = "ka") = False := eq_false (by decide)
theorem k_kc_kb : (("kc" : Str) = "kb") = False := eq_false (by decide)
theorem k_kc_kd : (("kc" : Str) = "kd") = False := eq_false (by decide)
theorem k_kc_ke : (("kc" : Str) = "ke") = False := eq_false (by decide)
theorem k_kd_ka : (("kd" : Str) = "ka") = False := eq_false (by decide)
theorem k_kd_kb : (("kd" : Str) = "kb") = False := eq_false (by decide)
theorem k_kd_kc : (("kd" : Str) = "kc") = False := eq_false (by decide)
theorem k_kd_ke : (("kd" : Str) = "ke") = False := eq_false (by decide)
theorem k_ke_ka : (("ke" : Str) = "ka") = False := eq_false (by decide)
theorem k_ke_kb : (("ke" : Str) = "kb") = False := eq_false (by decide)
theorem k_ke_kc : (("ke" : Str) = "kc") = False := eq_false (by decide)
theorem k_ke_kd : (("ke" : Str) = "kd") = False := eq_false (by decide)
local macro_rules | `(tactic| walk_at "kx") => `(tactic| simp [valV, putK, dropK, mergeK, kwD, fillK, k_ka_kb, k_ka_kc, k_ka_kd, k_ka_ke, k_kb_ka, k_kb_kc, k_kb_kd, k_kb_ke, k_kc_ka, k_kc_kb, k_kc_kd, k_kc_ke, k_kd_ka, k_kd_kb, k_kd_kc, k_kd_ke, k_ke_ka, k_ke_kb, k_ke_kc, k_ke_kd])
def F3 (x y z : V) : List (Key × V) := [(.inr "ka", x), (.inr "kb", y), (.inr "kc", z)]
def R3 (x y z : V) : List (Key × V) := [(.inr "kc", z), (.inr "kb", y), (.inr "ka", x)]
def n3 : List Str := ["ka", "kb", "kc"]
theorem f3_a {x y z : V} : valV (F3 x y z) (.inr "ka") = some x := by unfold F3; walk_at "kx"
theorem f3_b {x y z : V} : valV (F3 x y z) (.inr "kb") = some y := by unfold F3; walk_at "kx"
theorem f3_c {x y z : V} : valV (F3 x y z) (.inr "kc") = some z := by unfold F3; walk_at "kx"
theorem r3_a {x y z : V} : valV (R3 x y z) (.inr "ka") = some x := by unfold R3; walk_at "kx"
theorem r3_b {x y z : V} : valV (R3 x y z) (.inr "kb") = some y := by unfold R3; walk_at "kx"
theorem r3_c {x y z : V} : valV (R3 x y z) (.inr "kc") = some z := by unfold R3; walk_at "kx"
theorem f3_merge {x y z : V} : mergeK [] (F3 x y z) = F3 x y z := by unfold F3; walk_at "kx"
theorem r3_merge {x y z : V} : mergeK [] (R3 x y z) = R3 x y z := by unfold R3; walk_at "kx"
/-! ### right values -/
def RightV (H : Hp) (kd : Str) (x : V) : Prop := (kd = "number" ∧ ∃ p q, NumAt H x p q ∧ p.natAbs ≤ 10 ^ 20 ∧ q.natAbs ≤ 10 ^ 9) ∨ (kd = "word" ∧ ∃ z, x = .str z ∧ isWord z = true)
theorem RightV.same {H H' : Hp} {kd : Str} {x : V} (h : RightV H kd x) (s : Same H H') : RightV H' kd x := by
  rcases h with ⟨e, p, q, h, r⟩ | h
  · exact .inl ⟨e, p, q, h.same s, r⟩
  · exact .inr h
theorem RightV.xb {H H' : Hp} {kd : Str} {x : V} {b : Addr} {n : Nat} (h : RightV H kd x) (hb : Bag n H b) (s : Xb b H H') : RightV H' kd x := by
  rcases h with ⟨e, p, q, h, r⟩ | h
  · exact .inl ⟨e, p, q, h.xb hb s, r⟩
  · exact .inr h
theorem RightV.val {K : PySem.W.Frag} {H : Hp} {kd : Str} {x : V} (h : RightV H kd x) : ValB K H kd x true := by
  rcases h with ⟨e, p, q, h, r⟩ | ⟨e, z, rfl, hz⟩
  · exact .inl ⟨e, h.numB⟩
  · exact .inr ⟨by rw [e]; decide, wordB_of hz⟩
theorem RightV.non {H : Hp} {kd : Str} {x : V} (h : RightV H kd x) : x ≠ .non := by
  rcases h with ⟨_, p, q, ⟨rfl, _⟩ | ⟨a, rfl, _⟩, _⟩ | ⟨_, z, rfl, _⟩ <;> exact fun z => nomatch z
theorem RightV.self {H : Hp} {kd : Str} {x : V} (h : RightV H kd x) : selfB x := by
  rcases h with ⟨_, p, q, ⟨rfl, _⟩ | ⟨a, rfl, _⟩, _⟩ | ⟨_, z, rfl, _⟩
  · exact .inl rfl
  · exact .inr ⟨a, rfl⟩
  · exact .inl rfl
theorem word_short {z : Str} (hz : isWord z = true) : z.length ≤ 20 ∧ PyData.strOk z = true := ⟨by have := (word_all hz).2.1; omega, word_ok hz⟩
theorem RightV.short {H : Hp} {kd : Str} {x : V} (h : RightV H kd x) : ∃ d, ShortV H x d := by
  rcases h with ⟨_, p, q, ⟨rfl, _⟩ | ⟨a, rfl, ha, _⟩, hp, hq⟩ | ⟨_, z, rfl, hz⟩
  · exact ⟨_, .inr (.inl ⟨p, rfl, rfl, Nat.lt_of_le_of_lt hp (by decide)⟩)⟩
  · exact ⟨_, .inr (.inr (.inr ⟨a, p, q, rfl, ha, rfl, Nat.lt_of_le_of_lt hp (by decide), Nat.lt_of_le_of_lt hq (by decide)⟩))⟩
  · exact ⟨_, .inr (.inr (.inl ⟨z, rfl, rfl, word_short hz⟩))⟩
/-! ### _law_turned -/
def t__law_turned (K : PySem.W.Frag) (A : Ads) (E : XK) : TS :=
    (tRet (tCB (rDictP K) (tCons (tLc (iList K (tRevL K (tCB rListD (tCons (tVar 0) tNil)))) (gName 1) tYes (tTup (tCons (tVar 1) (tCons (tDGet (tVar 0) (tVar 1)) tNil))) [1]) tNil)))
def n__law_turned : List Str := ["_law_filling", "_law_label"]
def sp__law_turned (K : PySem.W.Frag) (A : Ads) : Sp := fun vs H Q _ => ∃ (d : Addr) (x y z : V), vs = [.ref d] ∧ H d = some (.dK (F3 x y z)) ∧ ∀ p H', H p = none → Same H H' → H' p = some (.dK (R3 x y z)) → Q (.ref p) H'
theorem len__law_turned {K : PySem.W.Frag} {A : Ads} {vs : List V} {H : Hp} {Q : VK} {E : XK} (h : sp__law_turned K A vs H Q E) : vs.length = 1 := by
  obtain ⟨d, _, _, _, rfl, _⟩ := h
  rfl
theorem pure__law_turned {K : PySem.W.Frag} {A : Ads} {vs : List V} {H : Hp} {Q : VK} {E : XK} (h : sp__law_turned K A vs H Q E) : t__law_turned K A E { nx := fun _ H' => Q .non H', rt := Q } (start n__law_turned vs) H := by
  obtain ⟨d, x, y, z, rfl, hd, k⟩ := h
  walk_at "v"
  refine ⟨d, _, rfl, .inl hd, fun l1 n1 => ?_⟩
  generalize e1 : L2.upd H l1 _ = H1
  have s1 : Same H H1 := by rw [← e1]; exact Same.new n1
  have g1 : H1 l1 = some (.lst [.str "ka", .str "kb", .str "kc"]) := by rw [← e1, upd_same]; rfl
  refine ⟨l1, _, rfl, SqL.of g1, fun l2 n2 => ?_⟩
  generalize e2 : L2.upd H1 l2 _ = H2
  have s2 : Same H1 H2 := by rw [← e2]; exact Same.new n2
  have g2 : H2 l2 = some (.lst [.str "kc", .str "kb", .str "ka"]) := by rw [← e2, upd_same]; rfl
  have s12 := Same.trans s1 s2
  refine ⟨l2, rfl, ⟨_, SqL.of g2⟩, fun D hD => ?_⟩
  refine lc_list (K := K) (a := l2) (xs := [.str "kc", .str "kb", .str "ka"]) (fun i H' => Same H2 H' ∧ ∃ ps : List Addr, ps.length = i ∧ H' D = some (.lst (ps.map V.ref)) ∧ Paired (fun p kv => H' p = some (.tup [kV kv.1, kv.2])) ps ((R3 x y z).take i))
    ⟨Same.new hD, [], rfl, upd_same, .nil⟩ (fun i H' _ h => SqL.of (h.1 _ _ g2)) ?_ ?_
  · rintro i w H3 hx ⟨s3, ps, hp, hl, hpr⟩
    have hk : ∃ k v, (R3 x y z)[i]? = some (k, v) ∧ w = kV k ∧ valV (F3 x y z) k = some v := by
      match i, hx with
      | 0, hx => cases hx; exact ⟨_, _, rfl, rfl, f3_c⟩
      | 1, hx => cases hx; exact ⟨_, _, rfl, rfl, f3_b⟩
      | 2, hx => cases hx; exact ⟨_, _, rfl, rfl, f3_a⟩
      | i + 3, hx => cases hx
    obtain ⟨kk, v, er, rfl, ev⟩ := hk
    refine ⟨rfl, ?_⟩
    walk_at "v"; walk_at "v"; walk_at "v"
    refine ⟨d, v, rfl, by rw [← ev]; exact DGet.k (s3 _ _ (s12 _ _ hd)), ?_⟩
    refine ⟨by show 2 ≤ sizeLine; rw [sizeLine_eq]; omega, fun t nt => ?_⟩
    generalize e4 : L2.upd H3 t _ = H4
    have s4 : Same H3 H4 := by rw [← e4]; exact Same.new nt
    have g4 : H4 t = some (.tup [kV kk, v]) := by rw [← e4, upd_same]
    have hD2 : ∀ q o, H2 q = some o → q ≠ D := fun q o hq z => by rw [z, hD] at hq; cases hq
    refine ⟨_, s4 _ _ hl, ?_, fun q o hq => ?_, ps ++ [t], ?_, ?_, ?_⟩
    · rw [List.length_map, hp]
      have := (List.getElem?_eq_some_iff.mp er).1
      exact Nat.lt_of_lt_of_le this (show 3 ≤ sizeLine by rw [sizeLine_eq]; omega)
    · rw [upd_ne (hD2 q o hq)]
      exact s4 _ _ (s3 _ _ hq)
    · rw [List.length_append, hp]; rfl
    · rw [upd_same]; simp
    · rw [List.take_succ, er]
      have nl : ∀ {q : Addr} {xs : List V}, H4 q = some (.tup xs) → q ≠ D := fun {q xs} e z => by
        rw [z, s4 _ _ hl] at e; cases e
      refine Paired.snoc (Paired.mono (fun p kv h => ?_) hpr) ?_
      · have h4 := s4 _ _ h
        rw [upd_ne (nl h4)]
        exact h4
      · rw [upd_ne (nl g4)]
        exact g4
  · rintro H3 ⟨s3, ps, hp, hl, hpr⟩
    refine ⟨D, ps, R3 x y z, rfl, SqL.of hl, Paired.mono (fun p kv h => SqT.of h) hpr, fun p np => ?_⟩
    rw [r3_merge]
    refine k p _ ?_ (Same.trans (Same.trans s12 s3) (Same.new np)) upd_same
    cases e : H p with
    | none => rfl
    | some o => rw [s3 _ _ (s12 _ _ e)] at np; cases np
end Md

set_option Elab.async false
set_option linter.all false
set_option maxRecDepth 100000
set_option maxHeartbeats 4000000
set_option exponentiation.threshold 20000
namespace Md
open PySem PySem.Spec PyProof.Rows PySem.Calls L2
local macro_rules | `(tactic| walk_at "v") => `(tactic| refine ⟨_, rfl, ?_⟩)
local macro_rules | `(tactic| walk_at "kx") => `(tactic| simp [valV, putK, dropK, mergeK, kwD, fillK, k_ka_kb, k_ka_kc, k_ka_kd, k_ka_ke, k_kb_ka, k_kb_kc, k_kb_kd, k_kb_ke, k_kc_ka, k_kc_kb, k_kc_kd, k_kc_ke, k_kd_ka, k_kd_kb, k_kd_kc, k_kd_ke, k_ke_ka, k_ke_kb, k_ke_kc, k_ke_kd])
local macro_rules | `(tactic| walk_at "ii") => `(tactic| refine ⟨_, _, rfl, rfl, ?_⟩)
local macro_rules | `(tactic| walk_at "no") => `(tactic| (refine ⟨_, rfl, ?_⟩; refine ⟨rfl, ?_⟩; refine ⟨_, rfl, ?_⟩; refine iteD (fun h => absurd h (by decide)) (fun _ => ?_)))
local macro_rules | `(tactic| walk_at "yes") => `(tactic| (refine ⟨_, rfl, ?_⟩; refine ⟨rfl, ?_⟩; refine ⟨_, rfl, ?_⟩; refine iteD (fun _ => ?_) (fun h => absurd rfl h)))
/-! ### _law_worths -/
def t__law_worths (K : PySem.W.Frag) (A : Ads) (E : XK) : TS :=
    (tRet (tLc (iRng1 (tCons (tC (.int 2)) tNil)) (gName 2) tYes (tIf (tTest (tOp rEq (tVar 1) (tC (.str "number")))) (tCall (sp__law_number K A) [] E0 (tCons (tVar 0) tNil)) (tCall (sp__law_word K A) [] E0 (tCons (tVar 0) tNil))) [2]))
def n__law_worths : List Str := ["_law_bag_here", "_law_kind", "_law_turn"]
def sp__law_worths (K : PySem.W.Frag) (A : Ads) : Sp := fun vs H Q _ => ∃ (b : Addr) (kd : Str) (n : Nat), vs = [.ref b, .str kd] ∧ (kd = "number" ∨ kd = "word") ∧ Bag (n + 18) H b ∧
  ∀ l x y H', Xb b H H' → H l = none → H' l = some (.lst [x, y]) → RightV H' kd x → RightV H' kd y → Bag n H' b → Q (.ref l) H'
theorem len__law_worths {K : PySem.W.Frag} {A : Ads} {vs : List V} {H : Hp} {Q : VK} {E : XK} (h : sp__law_worths K A vs H Q E) : vs.length = 2 := by
  obtain ⟨b, _, _, rfl, _⟩ := h
  rfl
theorem pure__law_worths {K : PySem.W.Frag} {A : Ads} {vs : List V} {H : Hp} {Q : VK} {E : XK} (h : sp__law_worths K A vs H Q E) : t__law_worths K A E { nx := fun _ H' => Q .non H', rt := Q } (start n__law_worths vs) H := by
  obtain ⟨b, kd, n, rfl, hkd, hB, k⟩ := h
  refine ⟨2, rfl, by omega, by omega, fun D hD => ?_⟩
  have nD : D ≠ b := new_ne hB hD
  refine lc_range (lo := 0) (n := 2) (fun i H' => Xb b H H' ∧ Bag (n + 18 - 9 * i) H' b ∧ (∀ q o, H q = some o → q ≠ D) ∧ ∃ xs : List V, xs.length = i ∧ (∀ x ∈ xs, RightV H' kd x) ∧ H' D = some (.lst xs))
    ⟨Xb.of (Same.new hD), hB.same (Same.new hD), ?_, [], rfl, (by intro _ z; cases z), upd_same⟩ ?_ ?_
  · rintro q o hq rfl
    rw [hD] at hq
    cases hq
  · rintro i H2 hi ⟨x2, hB2, hnD, xs, hlen, hxs, hl⟩
    refine ⟨rfl, ?_⟩
    have fin : ∀ (v : V) (H3 : Hp), Xb b H2 H3 → RightV H3 kd v → Bag (n + 18 - 9 * (i + 1)) H3 b → ∃ acc, H3 D = some (.lst acc) ∧ acc.length < sizeLine ∧ (Xb b H (L2.upd H3 D (.lst (acc ++ [v]))) ∧ Bag (n + 18 - 9 * (i + 1)) (L2.upd H3 D (.lst (acc ++ [v]))) b ∧ (∀ q o, H q = some o → q ≠ D) ∧
        ∃ ys : List V, ys.length = i + 1 ∧ (∀ x ∈ ys, RightV (L2.upd H3 D (.lst (acc ++ [v]))) kd x) ∧ (L2.upd H3 D (.lst (acc ++ [v]))) D = some (.lst ys)) := by
      intro v H3 x3 hv hB3
      have hl3 := x3 _ _ nD hl
      have keep : ∀ u, RightV H3 kd u → RightV (L2.upd H3 D (.lst (xs ++ [v]))) kd u := by
        rintro u (⟨e, p, q, hn, r⟩ | h)
        · refine .inl ⟨e, p, q, ?_, r⟩
          rcases hn with hn | ⟨a, e2, ha, h2⟩
          · exact .inl hn
          · exact .inr ⟨a, e2, by rw [upd_ne (ne_of ha hl3 (by intro z; cases z))]; exact ha, h2⟩
        · exact .inr h
      refine ⟨_, hl3, ?_, fun q o nq hq => ?_, ?_, hnD, xs ++ [v], ?_, fun u hu => ?_, upd_same⟩
      · rw [hlen]
        exact Nat.lt_of_lt_of_le (show i < 3 by omega) (by decide)
      · rw [upd_ne (hnD q o hq)]
        exact x3 q o nq (x2 q o nq hq)
      · obtain ⟨L, S, C, e, r⟩ := hB3
        exact ⟨L, S, C, by rw [upd_ne (Ne.symm nD)]; exact e, r⟩
      · rw [List.length_append, hlen]; rfl
      · rcases List.mem_append.mp hu with h | h
        · exact keep u ((hxs u h).xb hB2 x3)
        · rw [List.mem_singleton.mp h]
          exact keep v hv
    walk_at "v"
    refine ⟨rfl, ?_⟩
    refine ⟨_, rfl, ?_⟩
    refine iteD (fun hk => ?_) (fun hk => ?_)
    · have ek : kd = "number" := by injection hk
      walk_at "v"
      refine ⟨b, n + 18 - 9 * (i + 1), rfl, hB2.mono (by omega), fun x p q H3 x3 hB3 hx hp hq => ?_⟩
      exact fin x H3 x3 (.inl ⟨ek, p, q, hx, hp, hq⟩) hB3
    · have ek : kd = "word" := hkd.resolve_left fun z => hk (by rw [z])
      walk_at "v"
      refine ⟨b, n + 18 - 9 * (i + 1), rfl, hB2.mono (by omega), fun z H3 hz x3 hB3 => ?_⟩
      exact fin (.str z) H3 x3 (.inr ⟨ek, z, rfl, hz⟩) hB3
  · rintro H2 ⟨x2, hB2, hnD, xs, hlen, hxs, hl⟩
    match xs, hlen with
    | [x, y], _ => exact k D x y H2 x2 hD hl (hxs x (.head _)) (hxs y (.tail _ (.head _))) (hB2.mono (by omega))
/-! ### fields in their order -/
section
variable {K : PySem.W.Frag} {H : Hp} {k1 k2 k3 : Str} {kvs : List (Key × V)} {b : Bool}
theorem holdA (h : (b = true ∧ valV kvs (.inr "ka") = none) ∨ ∃ v, valV kvs (.inr "ka") = some v ∧ HoldB K H k1 v b) : Holds1 K H n3 [k1, k2, k3] kvs 0 b := fun n k e1 e2 => by cases e1; cases e2; exact h
theorem holdBb (h : (b = true ∧ valV kvs (.inr "kb") = none) ∨ ∃ v, valV kvs (.inr "kb") = some v ∧ HoldB K H k2 v b) : Holds1 K H n3 [k1, k2, k3] kvs 1 b := fun n k e1 e2 => by cases e1; cases e2; exact h
theorem holdC (h : (b = true ∧ valV kvs (.inr "kc") = none) ∨ ∃ v, valV kvs (.inr "kc") = some v ∧ HoldB K H k3 v b) : Holds1 K H n3 [k1, k2, k3] kvs 2 b := fun n k e1 e2 => by cases e1; cases e2; exact h
end
theorem upto1 {P : Nat → Prop} (h0 : P 0) : ∀ i, i < 1 → P i := fun i hi => by
  obtain rfl : i = 0 := by omega
  exact h0
theorem upto2 {P : Nat → Prop} (h0 : P 0) (h1 : P 1) : ∀ i, i < 2 → P i := fun i hi => by
  rcases Nat.lt_or_ge i 1 with h | h
  · obtain rfl : i = 0 := by omega
    exact h0
  · obtain rfl : i = 1 := by omega
    exact h1
theorem upto3 {P : Nat → Prop} (h0 : P 0) (h1 : P 1) (h2 : P 2) : ∀ i, i < 3 → P i := fun i hi => by
  rcases Nat.lt_or_ge i 2 with h | h
  · exact upto2 h0 h1 i h
  · obtain rfl : i = 2 := by omega
    exact h2
theorem keys_ok : ∀ z ∈ (["ka", "kb", "kc", "kd", "ke"] : List Str), PyData.strOk z = true := by decide +kernel
theorem keys_sub {zs : List Str} (h : ∀ z ∈ zs, z ∈ (["ka", "kb", "kc", "kd", "ke"] : List Str)) : ∀ z ∈ zs, PyData.strOk z = true := fun z hz => keys_ok z (h z hz)
theorem back_same {H H' : Hp} {d : Addr} {o : HO} (nd : H d = none) (x : Xb d (L2.upd H d o) H') : Same H H' := fun a u e => by
  have na : a ≠ d := ne_of_none e nd
  exact x a u na (by rw [upd_ne na]; exact e)
/-! ### _law_said -/
def fieldS (n : Str) : Option (Str × Str) := some (("field" : Str), n)
def valueS (n : Str) : Option (Str × Str) := some (("value" : Str), n)
def SaysW (K : PySem.W.Frag) (H : Hp) (k2 k3 : Str) (w : Int) (x y : V) (r : Option (Str × Str)) : Prop :=
  (w = 1 ∧ r = fieldS "kd") ∨ (w = 2 ∧ r = fieldS "kd") ∨ (w = 4 ∧ r = fieldS "ke") ∨ (w = 5 ∧ r = fieldS "kd") ∨
  (w = 0 ∧ x ≠ .non ∧ ValB K H k2 x false ∧ r = valueS "kb") ∨ (w = 0 ∧ x ≠ .non ∧ ValB K H k2 x true ∧ y ≠ .non ∧ ValB K H k3 y false ∧ r = valueS "kc") ∨
  (w = 3 ∧ x ≠ .non ∧ ValB K H k2 x false ∧ r = valueS "kb") ∨ (w = 3 ∧ x = .non ∧ r = none)
def Told (H : Hp) (Q : VK) : Option (Str × Str) → Prop
  | some (s, n) => ∀ t H', Same H H' → H' t = some (.tup [.str s, .str n, .bl true]) → Q (.ref t) H'
  | none => ∀ H', Same H H' → Q .non H'
def tb__law_said (K : PySem.W.Frag) (A : Ads) (W : WX) : TS := (tIfS (tTest (tOp rEq (tVar 1) (tC (.int 0)))) (tDrop (tMethKw A.cLayout "fill" ["kc", "kb"] (sp_Layout_fill K A) (WE W) (tVar 0) (tCons (tVar 3) (tCons (tVar 2) tNil)))) (tIfS (tTest (tOp rEq (tVar 1) (tC (.int 1)))) (tDrop (tMethKw A.cLayout "fill" ["ka", "kd"] (sp_Layout_fill K A) (WE W) (tVar 0) (tCons (tVar 2) (tCons (tVar 3) tNil)))) (tIfS (tTest (tOp rEq (tVar 1) (tC (.int 2)))) (tDrop (tMethKw A.cLayout "fill" ["kd", "ka"] (sp_Layout_fill K A) (WE W) (tVar 0) (tCons (tVar 2) (tCons (tVar 3) tNil)))) (tIfS (tTest (tOp rEq (tVar 1) (tC (.int 4)))) (tDrop (tMethKw A.cLayout "fill" ["ka", "ke", "kd"] (sp_Layout_fill K A) (WE W) (tVar 0) (tCons (tVar 3) (tCons (tVar 2) (tCons (tVar 3) tNil))))) (tIfS (tTest (tOp rEq (tVar 1) (tC (.int 5)))) (tDrop (tMethKw A.cLayout "fill" ["kd", "kb", "ke"] (sp_Layout_fill K A) (WE W) (tVar 0) (tCons (tVar 3) (tCons (tVar 2) (tCons (tVar 2) tNil))))) (tDrop (tMethKw A.cLayout "fill" ["kb"] (sp_Layout_fill K A) (WE W) (tVar 0) (tCons (tVar 2) tNil))))))))
def ts__law_said_0 (K : PySem.W.Frag) (A : Ads) (a : Addr) (cls : Value) (d : Option Addr) : TS := (tRet (tTup (tCons (tC (.str "field")) (tCons (tXf a cls d A.cBadField "name" (tVar 4)) (tCons (tCB (rIsX K a cls d) (tCons (tVar 4) (tCons (tC (.ref A.cMendroundsError)) tNil))) tNil)))))
def ts__law_said_1 (K : PySem.W.Frag) (A : Ads) (a : Addr) (cls : Value) (d : Option Addr) : TS := (tRet (tTup (tCons (tC (.str "value")) (tCons (tXf a cls d A.cBadValue "name" (tVar 4)) (tCons (tCB (rIsX K a cls d) (tCons (tVar 4) (tCons (tC (.ref A.cMendroundsError)) tNil))) tNil)))))
def t__law_said (K : PySem.W.Frag) (A : Ads) (E : XK) : TS :=
    (tSeq (fun D σ H => tb__law_said K A (wTries K (fun _ _ _ _ => False) D [(.ref A.cBadField, 4, ts__law_said_0 K A), (.ref A.cBadValue, 4, ts__law_said_1 K A)]) D σ H)
    (tRet (tC .non)))
def n__law_said : List Str := ["_law_layout", "_law_way", "_law_one", "_law_two", "e"]
def sp__law_said (K : PySem.W.Frag) (A : Ads) : Sp := fun vs H Q _ => ∃ (a : Addr) (k1 k2 k3 : Str) (w : Int) (x y : V) (r : Option (Str × Str)), vs = [.ref a, .int w, x, y] ∧ LayAt A H a n3 [k1, k2, k3] ∧ SaysW K H k2 k3 w x y r ∧ Told H Q r
theorem len__law_said {K : PySem.W.Frag} {A : Ads} {vs : List V} {H : Hp} {Q : VK} {E : XK} (h : sp__law_said K A vs H Q E) : vs.length = 4 := by
  obtain ⟨a, _, _, _, _, _, _, _, rfl, _⟩ := h
  rfl
theorem pure__law_said {K : PySem.W.Frag} {A : Ads} (kiF : PySem.W.kitOne K (.ref A.cBadField) (.ref A.cMendroundsError) = some true) (kiV : PySem.W.kitOne K (.ref A.cBadValue) (.ref A.cMendroundsError) = some true) (xcF : ExcC K A.cBadField) (xcV : ExcC K A.cBadValue)
    (xmF : PySem.W.exmOne K (.ref A.cBadField) (.ref A.cBadField) = some true) (xmV : PySem.W.exmOne K (.ref A.cBadValue) (.ref A.cBadValue) = some true) (xu : PySem.W.exmOne K (.ref A.cBadValue) (.ref A.cBadField) = some false)
    {vs : List V} {H : Hp} {Q : VK} {E : XK} (h : sp__law_said K A vs H Q E) : t__law_said K A E { nx := fun _ H' => Q .non H', rt := Q } (start n__law_said vs) H := by
  obtain ⟨a, k1, k2, k3, w, x, y, r, rfl, lay, hr, kT⟩ := h
  have lay0 := lay
  obtain ⟨dx, tn, tk, ha, _⟩ := lay0
  -- what the clauses give
  have field : ∀ (z : Str) (dd : Addr) (σ : L2.St) (H' : Hp), r = fieldS z → σ.length = 5 → Same H H' → H' dd = some (.xd [("name", .str z)]) →
      wTries K (fun _ _ _ _ => False) { nx := fun σ' H' => tRet (tC .non) { nx := fun _ H' => Q .non H', rt := Q } σ' H', rt := Q } [(.ref A.cBadField, 4, ts__law_said_0 K A), (.ref A.cBadValue, 4, ts__law_said_1 K A)] (.ref A.cBadField) (some dd) σ H' := by
    intro z dd σ H' er hσ s hx
    subst er
    match σ, hσ with
    | [w0, w1, w2, w3, w4], _ =>
      refine ⟨true, xmF, fun _ e he => ?_, fun q => Bool.noConfusion q⟩
      walk_at "v"
      refine ⟨rfl, rfl, dd, _, _, rfl, hx, rfl, ?_⟩
      walk_at "v"
      refine ⟨_, dd, _, _, _, true, rfl, rfl, xcF, hx, rfl, .own _, kiF, ?_⟩
      refine ⟨by show 3 ≤ sizeLine; rw [sizeLine_eq]; omega, fun t nt => ?_⟩
      exact kT t _ (Same.trans s (Same.new nt)) upd_same
  have value : ∀ (z : Str) (dd : Addr) (σ : L2.St) (H' : Hp), r = valueS z → σ.length = 5 → Same H H' → H' dd = some (.xd [("name", .str z)]) →
      wTries K (fun _ _ _ _ => False) { nx := fun σ' H' => tRet (tC .non) { nx := fun _ H' => Q .non H', rt := Q } σ' H', rt := Q } [(.ref A.cBadField, 4, ts__law_said_0 K A), (.ref A.cBadValue, 4, ts__law_said_1 K A)] (.ref A.cBadValue) (some dd) σ H' := by
    intro z dd σ H' er hσ s hx
    subst er
    match σ, hσ with
    | [w0, w1, w2, w3, w4], _ =>
      refine ⟨false, xu, fun q => Bool.noConfusion q, fun _ => ?_⟩
      refine ⟨true, xmV, fun _ e he => ?_, fun q => Bool.noConfusion q⟩
      walk_at "v"
      refine ⟨rfl, rfl, dd, _, _, rfl, hx, rfl, ?_⟩
      walk_at "v"
      refine ⟨_, dd, _, _, _, true, rfl, rfl, xcV, hx, rfl, .own _, kiV, ?_⟩
      refine ⟨by show 3 ≤ sizeLine; rw [sizeLine_eq]; omega, fun t nt => ?_⟩
      exact kT t _ (Same.trans s (Same.new nt)) upd_same
  show tb__law_said K A (wTries K (fun _ _ _ _ => False) { nx := fun σ' H' => tRet (tC .non) { nx := fun _ H' => Q .non H', rt := Q } σ' H', rt := Q } [(.ref A.cBadField, 4, ts__law_said_0 K A), (.ref A.cBadValue, 4, ts__law_said_1 K A)]) _ _ _
  rcases hr with ⟨rfl, er⟩ | ⟨rfl, er⟩ | ⟨rfl, er⟩ | ⟨rfl, er⟩ | ⟨rfl, hx, hv, er⟩ | ⟨rfl, hx, hv, hy, hw, er⟩ | ⟨rfl, hx, hv, er⟩ | ⟨rfl, rfl, rfl⟩
  · walk_at "no"; walk_at "yes"
    walk_at "v"
    refine ⟨a, dx, _, rfl, ha, rfl, ?_⟩
    walk_at "v"; walk_at "v"
    refine ⟨rfl, fun d nd => ?_⟩
    refine ⟨a, d, n3, _, ["ka", "kd"], _, rfl, lay.same (Same.new nd), upd_same, rfl, keys_sub (by decide), .inl ⟨1, "kd", rfl, by decide, fun i y hi e => ?_, fun dd H' x' hx => ?_⟩⟩
    · obtain rfl : i = 0 := by omega
      cases e
      decide
    · exact field _ dd _ H' er rfl (back_same nd x') hx
  · walk_at "no"; walk_at "no"; walk_at "yes"
    walk_at "v"
    refine ⟨a, dx, _, rfl, ha, rfl, ?_⟩
    walk_at "v"; walk_at "v"
    refine ⟨rfl, fun d nd => ?_⟩
    refine ⟨a, d, n3, _, ["kd", "ka"], _, rfl, lay.same (Same.new nd), upd_same, rfl, keys_sub (by decide), .inl ⟨0, "kd", rfl, by decide, fun i y hi e => absurd hi (by omega), fun dd H' x' hx => ?_⟩⟩
    exact field _ dd _ H' er rfl (back_same nd x') hx
  · walk_at "no"; walk_at "no"; walk_at "no"; walk_at "yes"
    walk_at "v"
    refine ⟨a, dx, _, rfl, ha, rfl, ?_⟩
    walk_at "v"; walk_at "v"; walk_at "v"
    refine ⟨rfl, fun d nd => ?_⟩
    refine ⟨a, d, n3, _, ["ka", "ke", "kd"], _, rfl, lay.same (Same.new nd), upd_same, rfl, keys_sub (by decide), .inl ⟨1, "ke", rfl, by decide, fun i y hi e => ?_, fun dd H' x' hx => ?_⟩⟩
    · obtain rfl : i = 0 := by omega
      cases e
      decide
    · exact field _ dd _ H' er rfl (back_same nd x') hx
  · walk_at "no"; walk_at "no"; walk_at "no"; walk_at "no"; walk_at "yes"
    walk_at "v"
    refine ⟨a, dx, _, rfl, ha, rfl, ?_⟩
    walk_at "v"; walk_at "v"; walk_at "v"
    refine ⟨rfl, fun d nd => ?_⟩
    refine ⟨a, d, n3, _, ["kd", "kb", "ke"], _, rfl, lay.same (Same.new nd), upd_same, rfl, keys_sub (by decide), .inl ⟨0, "kd", rfl, by decide, fun i y hi e => absurd hi (by omega), fun dd H' x' hx => ?_⟩⟩
    exact field _ dd _ H' er rfl (back_same nd x') hx
  · walk_at "yes"
    walk_at "v"
    refine ⟨a, dx, _, rfl, ha, rfl, ?_⟩
    walk_at "v"; walk_at "v"
    refine ⟨rfl, fun d nd => ?_⟩
    refine ⟨a, d, n3, _, ["kc", "kb"], _, rfl, lay.same (Same.new nd), upd_same, rfl, keys_sub (by decide), .inr ⟨by decide, 1, by decide, upto1 (holdA (.inl ⟨rfl, by walk_at "kx"⟩)), .inl ⟨by decide, holdBb (.inr ⟨x, by walk_at "kx", .inr ⟨hx, hv.mono (Same.new nd)⟩⟩), fun n dd H' en s hx => ?_⟩⟩⟩
    cases en
    exact value _ dd _ H' er rfl (Same.trans (Same.new nd) s) hx
  · walk_at "yes"
    walk_at "v"
    refine ⟨a, dx, _, rfl, ha, rfl, ?_⟩
    walk_at "v"; walk_at "v"
    refine ⟨rfl, fun d nd => ?_⟩
    refine ⟨a, d, n3, _, ["kc", "kb"], _, rfl, lay.same (Same.new nd), upd_same, rfl, keys_sub (by decide), .inr ⟨by decide, 2, by decide, upto2 (holdA (.inl ⟨rfl, by walk_at "kx"⟩)) (holdBb (.inr ⟨x, by walk_at "kx", .inr ⟨hx, hv.mono (Same.new nd)⟩⟩)),
      .inl ⟨by decide, holdC (.inr ⟨y, by walk_at "kx", .inr ⟨hy, hw.mono (Same.new nd)⟩⟩), fun n dd H' en s hx => ?_⟩⟩⟩
    cases en
    exact value _ dd _ H' er rfl (Same.trans (Same.new nd) s) hx
  · walk_at "no"; walk_at "no"; walk_at "no"; walk_at "no"; walk_at "no"
    walk_at "v"
    refine ⟨a, dx, _, rfl, ha, rfl, ?_⟩
    walk_at "v"
    refine ⟨rfl, fun d nd => ?_⟩
    refine ⟨a, d, n3, _, ["kb"], _, rfl, lay.same (Same.new nd), upd_same, rfl, keys_sub (by decide), .inr ⟨by decide, 1, by decide, upto1 (holdA (.inl ⟨rfl, by walk_at "kx"⟩)), .inl ⟨by decide, holdBb (.inr ⟨x, by walk_at "kx", .inr ⟨hx, hv.mono (Same.new nd)⟩⟩), fun n dd H' en s hx => ?_⟩⟩⟩
    cases en
    exact value _ dd _ H' er rfl (Same.trans (Same.new nd) s) hx
  · walk_at "no"; walk_at "no"; walk_at "no"; walk_at "no"; walk_at "no"
    walk_at "v"
    refine ⟨a, dx, _, rfl, ha, rfl, ?_⟩
    walk_at "v"
    refine ⟨rfl, fun d nd => ?_⟩
    refine ⟨a, d, n3, _, ["kb"], _, rfl, lay.same (Same.new nd), upd_same, rfl, keys_sub (by decide), .inr ⟨by decide, 3, by decide, upto3 (holdA (.inl ⟨rfl, by walk_at "kx"⟩)) (holdBb (.inr ⟨.non, by walk_at "kx", .inl ⟨rfl, rfl⟩⟩)) (holdC (.inl ⟨rfl, by walk_at "kx"⟩)),
      .inr ⟨rfl, fun p H' np s hp => ?_⟩⟩⟩
    exact kT H' (Same.trans (Same.new nd) s)
end Md

set_option Elab.async false
set_option linter.all false
set_option maxRecDepth 100000
set_option maxHeartbeats 4000000
set_option exponentiation.threshold 20000
namespace Md
open PySem PySem.Spec PyProof.Rows PySem.Calls L2
local macro_rules | `(tactic| walk_at "v") => `(tactic| refine ⟨_, rfl, ?_⟩)
local macro_rules | `(tactic| walk_at "kx") => `(tactic| simp [valV, putK, dropK, mergeK, kwD, fillK, k_ka_kb, k_ka_kc, k_ka_kd, k_ka_ke, k_kb_ka, k_kb_kc, k_kb_kd, k_kb_ke, k_kc_ka, k_kc_kb, k_kc_kd, k_kc_ke, k_kd_ka, k_kd_kb, k_kd_kc, k_kd_ke, k_ke_ka, k_ke_kb, k_ke_kc, k_ke_kd])
local macro_rules | `(tactic| walk_at "ii") => `(tactic| refine ⟨_, _, rfl, rfl, ?_⟩)
theorem Same.over {H H1 : Hp} {p : Addr} {o : HO} (s : Same H H1) (n : H p = none) : Same H (L2.upd H1 p o) := fun a u e => by
  rw [upd_ne (ne_of_none e n)]
  exact s a u e
theorem eqv_id {d : PyData} (h : SeqAt.shaped d = true) : PyData.eqv d d = true := SeqAt.eqv_refl d (SeqAt.canLay_of_shaped h)
theorem none_of_same {H H1 : Hp} {p : Addr} (s : Same H H1) (n : H1 p = none) : H p = none := by
  cases e : H p with
  | none => rfl
  | some o => rw [s _ _ e] at n; cases n
theorem fill_f3 {x y z : V} {kvs : List (Key × V)} (h1 : (valV kvs (.inr "ka")).getD .non = x) (h2 : (valV kvs (.inr "kb")).getD .non = y) (h3 : (valV kvs (.inr "kc")).getD .non = z) : fillK n3 kvs = F3 x y z := by
  subst h1 h2 h3
  rfl
theorem f3_self {x y z : V} (hx : selfB x) (hy : selfB y) (hz : selfB z) : ∀ p ∈ F3 x y z, valV (F3 x y z) p.1 = some p.2 ∧ selfB p.2 := by
  intro p hp
  rcases List.mem_cons.mp hp with rfl | hp
  · exact ⟨f3_a, hx⟩
  rcases List.mem_cons.mp hp with rfl | hp
  · exact ⟨f3_b, hy⟩
  rcases List.mem_cons.mp hp with rfl | hp
  · exact ⟨f3_c, hz⟩
  cases hp
theorem n3_ok : ∀ n ∈ n3, PyData.strOk n = true := keys_sub (by decide)
/-! ### _law_is_new -/
def t__law_is_new (K : PySem.W.Frag) (A : Ads) (E : XK) : TS :=
    (tSeq (tAsg (tMethKw A.cLayout "fill" ["kb", "ka"] (sp_Layout_fill K A) (fun _ => E) (tVar 0) (tCons (tVar 2) (tCons (tVar 1) tNil))) (gName 3))
    (tSeq (tAsg (tDisp (((tC (.str "ka")), (tVar 1)) :: (((tC (.str "kb")), (tVar 2)) :: (((tC (.str "kc")), (tC .non)) :: [])))) (gName 4))
    (tSeq (tIfS (tOr (tTest (tOp rNeDS (tVar 3) (tVar 4))) (tTest (tOp (rNeD K) (tCB rListD (tCons (tVar 3) tNil)) (tLst (tCons (tC (.str "ka")) (tCons (tC (.str "kb")) (tCons (tC (.str "kc")) tNil))))))) (tRet (tC (.bl false))) tNext)
    (tSeq (tAsg (tC (.str "spoilt")) (gSub (tVar 3) (tC (.str "ka")) rSetD))
    (tSeq (tDrop (tDPop1 (tVar 3) (tC (.str "kc"))))
    (tSeq (tAsg (tMethKw A.cLayout "fill" ["ka", "kb"] (sp_Layout_fill K A) (fun _ => E) (tVar 0) (tCons (tVar 1) (tCons (tVar 2) tNil))) (gName 5))
    (tRet (tAndV (tOp rEqDS (tVar 5) (tVar 4)) (tAndV (tOp (rEqD K) (tCB rListD (tCons (tVar 5) tNil)) (tLst (tCons (tC (.str "ka")) (tCons (tC (.str "kb")) (tCons (tC (.str "kc")) tNil))))) (tOp rEqDS (tMethKw A.cLayout "fill" [] (sp_Layout_fill K A) (fun _ => E) (tVar 0) tNil) (tDisp (((tC (.str "ka")), (tC .non)) :: (((tC (.str "kb")), (tC .non)) :: (((tC (.str "kc")), (tC .non)) :: []))))))))))))))
def n__law_is_new : List Str := ["_law_layout", "_law_one", "_law_two", "_law_found", "_law_due", "_law_again"]
def sp__law_is_new (K : PySem.W.Frag) (A : Ads) : Sp := fun vs H Q _ => ∃ (a : Addr) (k1 k2 k3 : Str) (x y : V), vs = [.ref a, x, y] ∧ LayAt A H a n3 [k1, k2, k3] ∧ RightV H k1 x ∧ RightV H k2 y ∧ ∀ H', Same H H' → Q (.bl true) H'
theorem len__law_is_new {K : PySem.W.Frag} {A : Ads} {vs : List V} {H : Hp} {Q : VK} {E : XK} (h : sp__law_is_new K A vs H Q E) : vs.length = 3 := by
  obtain ⟨a, _, _, _, _, _, rfl, _⟩ := h
  rfl
theorem pure__law_is_new {K : PySem.W.Frag} {A : Ads} {vs : List V} {H : Hp} {Q : VK} {E : XK} (h : sp__law_is_new K A vs H Q E) : t__law_is_new K A E { nx := fun _ H' => Q .non H', rt := Q } (start n__law_is_new vs) H := by
  obtain ⟨a, k1, k2, k3, x, y, rfl, lay, hx, hy, k⟩ := h
  have lay0 := lay
  obtain ⟨dx, tn, tk, ha, _⟩ := lay0
  have holdX : ∀ {H' : Hp}, Same H H' → HoldB K H' k1 x true := fun s => .inr ⟨hx.non, (hx.same s).val⟩
  have holdY : ∀ {H' : Hp}, Same H H' → HoldB K H' k2 y true := fun s => .inr ⟨hy.non, (hy.same s).val⟩
  have key3 : ∀ {H' : Hp} {l m : Addr} {Q2 : VK}, H' l = some (.lst (n3.map V.str)) → H' m = some (.lst (n3.map V.str)) → Q2 (.bl false) H' → rNeD K (.ref l) (.ref m) H' Q2 := by
    intro H' l m Q2 h1 h2 q
    refine ⟨_, _, dp_lstS (SqL.of h1), dp_lstS (SqL.of h2), shaped_lstS n3_ok, shaped_lstS n3_ok, ?_⟩
    rw [eqv_id (shaped_lstS n3_ok)]
    exact q
  have key3e : ∀ {H' : Hp} {l m : Addr} {Q2 : VK}, H' l = some (.lst (n3.map V.str)) → H' m = some (.lst (n3.map V.str)) → Q2 (.bl true) H' → rEqD K (.ref l) (.ref m) H' Q2 := by
    intro H' l m Q2 h1 h2 q
    refine ⟨_, _, dp_lstS (SqL.of h1), dp_lstS (SqL.of h2), shaped_lstS n3_ok, shaped_lstS n3_ok, ?_⟩
    rw [eqv_id (shaped_lstS n3_ok)]
    exact q
  -- the first filling
  walk_at "v"
  refine ⟨a, dx, _, rfl, ha, rfl, ?_⟩
  walk_at "v"; walk_at "v"
  refine ⟨rfl, fun d nd => ?_⟩
  refine ⟨a, d, n3, _, ["kb", "ka"], _, rfl, lay.same (Same.new nd), upd_same, rfl, keys_sub (by decide), .inr ⟨by decide, 3, by decide, upto3 (holdA (.inr ⟨x, by walk_at "kx", holdX (Same.new nd)⟩)) (holdBb (.inr ⟨y, by walk_at "kx", holdY (Same.new nd)⟩)) (holdC (.inl ⟨rfl, by walk_at "kx"⟩)),
    .inr ⟨rfl, fun p1 H1 np s1' g1 => ?_⟩⟩⟩
  have s1 : Same H H1 := Same.trans (Same.new nd) s1'
  have np1 : H p1 = none := none_of_same (Same.new nd) np
  rw [fill_f3 (x := x) (y := y) (z := .non) (by walk_at "kx") (by walk_at "kx") (by walk_at "kx")] at g1
  clear s1' np
  -- what is due
  intro p2 n2
  walk_at "v"; walk_at "v"
  refine ⟨upd_same, F3 x y .non, rfl, (show 3 ≤ 15 by decide), ?_⟩
  rw [upd_upd, f3_merge]
  generalize e2 : L2.upd H1 p2 _ = H2
  have s2' : Same H1 H2 := by rw [← e2]; exact Same.new n2
  have g2 : H2 p2 = some (.dK (F3 x y .non)) := by rw [← e2, upd_same]
  have s2 := Same.trans s1 s2'
  have g12 := s2' _ _ g1
  have ne12 : p2 ≠ p1 := by rintro rfl; rw [g1] at n2; cases n2
  walk_at "v"; walk_at "v"
  refine ⟨⟨p1, p2, _, _, rfl, rfl, g12, g2, rfl, f3_self hx.self hy.self (.inl rfl)⟩, ?_⟩
  refine ⟨_, rfl, ?_⟩
  refine iteF ?_
  walk_at "v"
  refine ⟨p1, _, rfl, .inl g12, fun l1 nl1 => ?_⟩
  generalize e3 : L2.upd H2 l1 _ = H3
  have s3' : Same H2 H3 := by rw [← e3]; exact Same.new nl1
  have g3 : H3 l1 = some (.lst (n3.map V.str)) := by rw [← e3, upd_same]; rfl
  refine ⟨by show 3 ≤ sizeLine; rw [sizeLine_eq]; omega, fun l2 nl2 => ?_⟩
  generalize e4 : L2.upd H3 l2 _ = H4
  have s4' : Same H3 H4 := by rw [← e4]; exact Same.new nl2
  have g4 : H4 l2 = some (.lst (n3.map V.str)) := by rw [← e4, upd_same]; rfl
  have s4 := Same.trans s2 (Same.trans s3' s4')
  have g14 := s4' _ _ (s3' _ _ g12)
  have g24 := s4' _ _ (s3' _ _ g2)
  refine key3 (s4' _ _ g3) g4 ?_
  refine ⟨_, rfl, ?_⟩
  refine iteF ?_
  clear e2 e3 e4 g12 g2 g3 g4 s3' s4' s2' nl1 nl2 n2
  -- spoilt
  walk_at "v"
  refine ⟨p1, _, rfl, .inl ⟨_, .inr "ka", g14, rfl, by show 3 < sizeLine; rw [sizeLine_eq]; omega, rfl⟩, ?_⟩
  generalize e5 : L2.upd H4 p1 _ = H5
  have s5 : Same H H5 := by rw [← e5]; exact Same.over s4 np1
  have g15 : H5 p1 = some (.dK (putK (F3 x y .non) (.inr "ka") (.str "spoilt"))) := by rw [← e5, upd_same]
  have g25 : H5 p2 = some (.dK (F3 x y .non)) := by rw [← e5, upd_ne ne12]; exact g24
  walk_at "v"
  refine ⟨p1, rfl, .inl ⟨_, .inl g15⟩, ?_⟩
  refine ⟨_, .inr "kc", .non, g15, rfl, by unfold F3; walk_at "kx", ?_⟩
  generalize e6 : L2.upd H5 p1 _ = H6
  have s6 : Same H H6 := by rw [← e6]; exact Same.over s5 np1
  have g26 : H6 p2 = some (.dK (F3 x y .non)) := by rw [← e6, upd_ne ne12]; exact g25
  clear e5 e6 g15 g25 g14 g24
  -- once more
  walk_at "v"
  refine ⟨a, dx, _, rfl, s6 _ _ ha, rfl, ?_⟩
  walk_at "v"; walk_at "v"
  refine ⟨rfl, fun d2 nd2 => ?_⟩
  have s6d := Same.trans s6 (Same.new (o := .dK (kwD ["ka", "kb"] [x, y])) nd2)
  refine ⟨a, d2, n3, _, ["ka", "kb"], _, rfl, lay.same s6d, upd_same, rfl, keys_sub (by decide), .inr ⟨by decide, 3, by decide, upto3 (holdA (.inr ⟨x, by walk_at "kx", holdX s6d⟩)) (holdBb (.inr ⟨y, by walk_at "kx", holdY s6d⟩)) (holdC (.inl ⟨rfl, by walk_at "kx"⟩)),
    .inr ⟨rfl, fun p5 H7 np5 s7' g7 => ?_⟩⟩⟩
  have s67 : Same H6 H7 := Same.trans (Same.new nd2) s7'
  have s7 := Same.trans s6 s67
  rw [fill_f3 (x := x) (y := y) (z := .non) (by walk_at "kx") (by walk_at "kx") (by walk_at "kx")] at g7
  have g27 := s67 _ _ g26
  walk_at "v"; walk_at "v"
  refine ⟨⟨p5, p2, _, _, rfl, rfl, g7, g27, rfl, f3_self hx.self hy.self (.inl rfl)⟩, ?_⟩
  refine ⟨_, rfl, iteT ?_⟩
  walk_at "v"
  refine ⟨p5, _, rfl, .inl g7, fun l1 nl1 => ?_⟩
  generalize e3 : L2.upd H7 l1 _ = H8
  have s8' : Same H7 H8 := by rw [← e3]; exact Same.new nl1
  have g3 : H8 l1 = some (.lst (n3.map V.str)) := by rw [← e3, upd_same]; rfl
  refine ⟨by show 3 ≤ sizeLine; rw [sizeLine_eq]; omega, fun l2 nl2 => ?_⟩
  generalize e4 : L2.upd H8 l2 _ = H9
  have s9' : Same H8 H9 := by rw [← e4]; exact Same.new nl2
  have g4 : H9 l2 = some (.lst (n3.map V.str)) := by rw [← e4, upd_same]; rfl
  have s9 := Same.trans s7 (Same.trans s8' s9')
  refine key3e (s9' _ _ g3) g4 ?_
  refine ⟨_, rfl, iteT ?_⟩
  walk_at "v"
  refine ⟨a, dx, _, rfl, s9 _ _ ha, rfl, ?_⟩
  refine ⟨rfl, fun d3 nd3 => ?_⟩
  refine ⟨a, d3, n3, _, [], _, rfl, lay.same (Same.trans s9 (Same.new nd3)), upd_same, rfl, keys_sub (by decide), .inr ⟨by decide, 3, by decide, upto3 (holdA (.inl ⟨rfl, by walk_at "kx"⟩)) (holdBb (.inl ⟨rfl, by walk_at "kx"⟩)) (holdC (.inl ⟨rfl, by walk_at "kx"⟩)),
    .inr ⟨rfl, fun p6 H10 np6 s10' g10 => ?_⟩⟩⟩
  have s10 := Same.trans s9 (Same.trans (Same.new nd3) s10')
  rw [fill_f3 (x := .non) (y := .non) (z := .non) (by walk_at "kx") (by walk_at "kx") (by walk_at "kx")] at g10
  intro p7 n7
  refine ⟨upd_same, F3 .non .non .non, rfl, (show 3 ≤ 15 by decide), ?_⟩
  rw [upd_upd, f3_merge]
  refine ⟨⟨p6, p7, _, _, rfl, rfl, Same.new n7 _ _ g10, upd_same, rfl, f3_self (.inl rfl) (.inl rfl) (.inl rfl)⟩, ?_⟩
  exact k _ (Same.trans s10 (Same.new n7))
end Md

set_option Elab.async false
set_option linter.all false
set_option maxRecDepth 100000
set_option maxHeartbeats 4000000
set_option exponentiation.threshold 20000
namespace Md
open PySem PySem.Spec PyProof.Rows PySem.Calls L2
local macro_rules | `(tactic| walk_at "v") => `(tactic| refine ⟨_, rfl, ?_⟩)
local macro_rules | `(tactic| walk_at "ii") => `(tactic| refine ⟨_, _, rfl, rfl, ?_⟩)
/-! ### things that are no values -/
/-- all stands but the draws' list and what is no empty dict -/
def Xd (bs : List Addr) (H H' : Hp) : Prop := ∀ q o, q ∉ bs → (∀ kvs : List (Key × V), kvs ≠ [] → o ≠ .dK kvs) → H q = some o → H' q = some o
theorem Xd.refl {bs : List Addr} {H : Hp} : Xd bs H H := fun _ _ _ _ h => h
theorem Xd.trans {bs : List Addr} {H H1 H2 : Hp} (x : Xd bs H H1) (y : Xd bs H1 H2) : Xd bs H H2 := fun q o n c h => y q o n c (x q o n c h)
theorem Xd.of {bs : List Addr} {b : Addr} {H H' : Hp} (x : Xb b H H') (hb : b ∈ bs) : Xd bs H H' := fun q o n _ h => x q o (fun z => n (by rw [z]; exact hb)) h
theorem Xd.same {bs : List Addr} {H H' : Hp} (s : Same H H') : Xd bs H H' := fun q o _ _ h => s q o h
theorem Xd.put {bs : List Addr} {p : Addr} {H : Hp} {o : HO} {kvs : List (Key × V)} (h : H p = some (.dK kvs)) (n : kvs ≠ []) : Xd bs H (L2.upd H p o) := fun q u _ c e => by
  have ne : q ≠ p := by
    rintro rfl
    rw [h] at e
    exact c kvs n (Option.some.inj e).symm
  rw [upd_ne ne]
  exact e
def WrongW (K : PySem.W.Frag) (H : Hp) (bs : List Addr) (kd : Str) (x : V) : Prop := x ≠ .non ∧ ∀ H2, Xd bs H H2 → ValB K H2 kd x false
section
variable {K : PySem.W.Frag} {H : Hp} {bs : List Addr} {kd : Str}
theorem WrongW.xd {H' : Hp} {x : V} (h : WrongW K H bs kd x) (s : Xd bs H H') : WrongW K H' bs kd x := ⟨h.1, fun H2 s2 => h.2 H2 (s.trans s2)⟩
theorem WrongW.xb {H' : Hp} {x : V} (h : WrongW K H bs kd x) {b : Addr} (s : Xb b H H') (hb : b ∈ bs) : WrongW K H' bs kd x := h.xd (Xd.of s hb)
theorem WrongW.same {H' : Hp} {x : V} (h : WrongW K H bs kd x) (s : Same H H') : WrongW K H' bs kd x := h.xd (Xd.same s)
theorem WrongW.now {x : V} (h : WrongW K H bs kd x) : ValB K H kd x false := h.2 H Xd.refl
theorem valB_f {x : V} (hk : kd = "number" ∨ kd = "word") (hn : NumB K H x false) (hw : WordB K H x false) : ValB K H kd x false := by
  rcases hk with e | e
  · exact .inl ⟨e, hn⟩
  · exact .inr ⟨by rw [e]; decide, hw⟩
theorem w_bl {c : Bool} (hk : kd = "number" ∨ kd = "word") : WrongW K H bs kd (.bl c) := ⟨(fun z => nomatch z), fun H2 _ => valB_f hk numB_bl (.inl ⟨_, .base (.bl c), by decide, rfl⟩)⟩
theorem w_str {z : Str} (hk : kd = "number" ∨ kd = "word") (hl : z.length ≤ 1000000) (h : isWord z = false) : WrongW K H bs kd (.str z) := ⟨(fun z => nomatch z), fun H2 _ => valB_f hk numB_str (wordB_bad hl h)⟩
theorem w_strN {z : Str} (hk : kd = "number") : WrongW K H bs kd (.str z) := ⟨(fun z => nomatch z), fun H2 _ => .inl ⟨hk, numB_str⟩⟩
theorem w_intW {i : Int} (hk : kd = "word") : WrongW K H bs kd (.int i) := ⟨(fun z => nomatch z), fun H2 _ => .inr ⟨by rw [hk]; decide, .inl ⟨_, ty_int, by decide, rfl⟩⟩⟩
theorem w_lst {l : Addr} {ys : List V} (hk : kd = "number" ∨ kd = "word") (h : H l = some (.lst ys)) (n : l ∉ bs) : WrongW K H bs kd (.ref l) := ⟨(fun z => nomatch z), fun H2 s => by
  have h2 := s _ _ n (fun _ _ z => by cases z) h
  exact valB_f hk (numB_lst h2) (.inl ⟨_, .base (.lst h2), by decide, rfl⟩)⟩
theorem w_dK {l : Addr} (hk : kd = "number" ∨ kd = "word") (h : H l = some (.dK [])) (n : l ∉ bs) : WrongW K H bs kd (.ref l) := ⟨(fun z => nomatch z), fun H2 s => by
  have h2 := s _ _ n (fun kvs hne z => hne (by cases z; rfl)) h
  exact valB_f hk (numB_dK h2) (.inl ⟨_, .base (.dK h2), by decide, rfl⟩)⟩
theorem w_tup {l : Addr} {ys : List V} (hk : kd = "number" ∨ kd = "word") (h : H l = some (.tup ys)) (n : l ∉ bs) (hl : ys.length ≠ 2) : WrongW K H bs kd (.ref l) := ⟨(fun z => nomatch z), fun H2 s => by
  have h2 := s _ _ n (fun _ _ z => by cases z) h
  exact valB_f hk (numB_len h2 hl) (.inl ⟨_, ty_tup h2, by decide, rfl⟩)⟩
theorem w_pair {l : Addr} {u v : V} {T1 T2 : String} (hk : kd = "number" ∨ kd = "word") (h : H l = some (.tup [u, v])) (n : l ∉ bs) (t1 : ∀ H2, TyX K H2 u (.type T1)) (t2 : ∀ H2, TyX K H2 v (.type T2)) (e : pairB u v = false) : WrongW K H bs kd (.ref l) := ⟨(fun z => nomatch z), fun H2 s => by
  have h2 := s _ _ n (fun _ _ z => by cases z) h
  exact valB_f hk (numB_two h2 (t1 H2) (t2 H2) e) (.inl ⟨_, ty_tup h2, by decide, rfl⟩)⟩
theorem w_tupW {l : Addr} {ys : List V} (hk : kd = "word") (h : H l = some (.tup ys)) (n : l ∉ bs) : WrongW K H bs kd (.ref l) := ⟨(fun z => nomatch z), fun H2 s => .inr ⟨by rw [hk]; decide, .inl ⟨_, ty_tup (s _ _ n (fun _ _ z => by cases z) h), by decide, rfl⟩⟩⟩
end
theorem not_in {bs : List Addr} {H : Hp} {p : Addr} (h : ∀ f ∈ bs, ∃ o, H f = some o) (n : H p = none) : p ∉ bs := fun hm => by
  obtain ⟨o, e⟩ := h p hm
  rw [n] at e
  cases e
theorem stay_in {bs : List Addr} {H H' : Hp} (h : ∀ f ∈ bs, ∃ o, H f = some o) (s : Same H H') : ∀ f ∈ bs, ∃ o, H' f = some o := fun f hf => by
  obtain ⟨o, e⟩ := h f hf
  exact ⟨o, s _ _ e⟩
/-! ### _law_wrong -/
def t__law_wrong (K : PySem.W.Frag) (A : Ads) (E : XK) : TS :=
    (tSeq (tAsg (tLst (tCons (tC (.bl true)) (tCons (tC (.bl false)) (tCons (tLst tNil) (tCons (tTup tNil) (tCons (tTup (tCons (tC (.bl true)) (tCons (tC (.int 2)) tNil))) (tCons (tTup (tCons (tC (.int 2)) (tCons (tC (.int 4)) tNil))) (tCons (tTup (tCons (tC (.int 3)) (tCons (tC (.int 1)) tNil))) (tCons (tTup (tCons (tC (.int 1)) (tCons (tUn rNeg (tC (.int 2))) tNil))) (tCons (tC (.str "")) (tCons (tC (.str "Red")) (tCons (tC (.str "a b")) (tCons (tC (.str "abcdefghi")) (tCons (tC (.str "a1")) (tCons (tLst (tCons (tC (.int 3)) tNil)) (tCons (tTup (tCons (tC (.str "red")) tNil)) (tCons tDNewK tNil))))))))))))))))) (gName 2))
    (tRet (tCall (sp__law_of K A) [] E0 (tCons (tVar 0) (tCons (tOp rCat (tVar 2) (tIf (tTest (tOp rEq (tVar 1) (tC (.str "number")))) (tLst (tCons (tC (.str "red")) (tCons (tC (.str "x")) (tCons (tC (.str "3")) tNil)))) (tLst (tCons (tC (.int 3)) (tCons (tC (.int 0)) (tCons (tTup (tCons (tC (.int 1)) (tCons (tC (.int 2)) tNil))) (tCons (tUn rNeg (tC (.int 7))) tNil))))))) tNil)))))
def n__law_wrong : List Str := ["_law_bag_here", "_law_kind", "_law_odd"]
def sp__law_wrong (K : PySem.W.Frag) (A : Ads) : Sp := fun vs H Q _ => ∃ (b : Addr) (bs : List Addr) (kd : Str) (n : Nat), vs = [.ref b, .str kd] ∧ (kd = "number" ∨ kd = "word") ∧ Bag (n + 1) H b ∧ b ∈ bs ∧ (∀ f ∈ bs, ∃ o, H f = some o) ∧
  ∀ x H', Xb b H H' → WrongW K H' bs kd x → Bag n H' b → Q x H'
theorem len__law_wrong {K : PySem.W.Frag} {A : Ads} {vs : List V} {H : Hp} {Q : VK} {E : XK} (h : sp__law_wrong K A vs H Q E) : vs.length = 2 := by
  obtain ⟨b, _, _, _, rfl, _⟩ := h
  rfl
theorem pure__law_wrong {K : PySem.W.Frag} {A : Ads} {vs : List V} {H : Hp} {Q : VK} {E : XK} (h : sp__law_wrong K A vs H Q E) : t__law_wrong K A E { nx := fun _ H' => Q .non H', rt := Q } (start n__law_wrong vs) H := by
  obtain ⟨b, bs, kd, n, rfl, hk, hB, hbb, hbs, k⟩ := h
  have S := Same.refl H
  refine ⟨by show _ ≤ sizeLine; rw [sizeLine_eq]; simp, fun p1 n1 => ?_⟩
  generalize e1 : L2.upd H p1 _ = H1
  have s1 : Same H H1 := by rw [← e1]; exact Same.new n1
  have g1 : H1 p1 = some (.lst []) := by rw [← e1, upd_same]
  have b1 := not_in hbs n1
  have hB := hB.same s1
  have hbs := stay_in hbs s1
  have S := Same.trans S s1
  clear e1 s1 n1
  refine ⟨by show _ ≤ sizeLine; rw [sizeLine_eq]; simp, fun p2 n2 => ?_⟩
  generalize e2 : L2.upd H1 p2 _ = H2
  have s2 : Same H1 H2 := by rw [← e2]; exact Same.new n2
  have g2 : H2 p2 = some (.tup []) := by rw [← e2, upd_same]
  have b2 := not_in hbs n2
  have g1 := s2 _ _ g1
  have hB := hB.same s2
  have hbs := stay_in hbs s2
  have S := Same.trans S s2
  clear e2 s2 n2
  refine ⟨by show _ ≤ sizeLine; rw [sizeLine_eq]; simp, fun p3 n3 => ?_⟩
  generalize e3 : L2.upd H2 p3 _ = H3
  have s3 : Same H2 H3 := by rw [← e3]; exact Same.new n3
  have g3 : H3 p3 = some (.tup [.bl true, .int 2]) := by rw [← e3, upd_same]
  have b3 := not_in hbs n3
  have g1 := s3 _ _ g1
  have g2 := s3 _ _ g2
  have hB := hB.same s3
  have hbs := stay_in hbs s3
  have S := Same.trans S s3
  clear e3 s3 n3
  refine ⟨by show _ ≤ sizeLine; rw [sizeLine_eq]; simp, fun p4 n4 => ?_⟩
  generalize e4 : L2.upd H3 p4 _ = H4
  have s4 : Same H3 H4 := by rw [← e4]; exact Same.new n4
  have g4 : H4 p4 = some (.tup [.int 2, .int 4]) := by rw [← e4, upd_same]
  have b4 := not_in hbs n4
  have g1 := s4 _ _ g1
  have g2 := s4 _ _ g2
  have g3 := s4 _ _ g3
  have hB := hB.same s4
  have hbs := stay_in hbs s4
  have S := Same.trans S s4
  clear e4 s4 n4
  refine ⟨by show _ ≤ sizeLine; rw [sizeLine_eq]; simp, fun p5 n5 => ?_⟩
  generalize e5 : L2.upd H4 p5 _ = H5
  have s5 : Same H4 H5 := by rw [← e5]; exact Same.new n5
  have g5 : H5 p5 = some (.tup [.int 3, .int 1]) := by rw [← e5, upd_same]
  have b5 := not_in hbs n5
  have g1 := s5 _ _ g1
  have g2 := s5 _ _ g2
  have g3 := s5 _ _ g3
  have g4 := s5 _ _ g4
  have hB := hB.same s5
  have hbs := stay_in hbs s5
  have S := Same.trans S s5
  clear e5 s5 n5
  refine ⟨_, rfl, ?_⟩
  refine ⟨by show _ ≤ sizeLine; rw [sizeLine_eq]; simp, fun p6 n6 => ?_⟩
  generalize e6 : L2.upd H5 p6 _ = H6
  have s6 : Same H5 H6 := by rw [← e6]; exact Same.new n6
  have g6 : H6 p6 = some (.tup [.int 1, .int (-2)]) := by rw [← e6, upd_same]
  have b6 := not_in hbs n6
  have g1 := s6 _ _ g1
  have g2 := s6 _ _ g2
  have g3 := s6 _ _ g3
  have g4 := s6 _ _ g4
  have g5 := s6 _ _ g5
  have hB := hB.same s6
  have hbs := stay_in hbs s6
  have S := Same.trans S s6
  clear e6 s6 n6
  refine ⟨by show _ ≤ sizeLine; rw [sizeLine_eq]; simp, fun p7 n7 => ?_⟩
  generalize e7 : L2.upd H6 p7 _ = H7
  have s7 : Same H6 H7 := by rw [← e7]; exact Same.new n7
  have g7 : H7 p7 = some (.lst [.int 3]) := by rw [← e7, upd_same]
  have b7 := not_in hbs n7
  have g1 := s7 _ _ g1
  have g2 := s7 _ _ g2
  have g3 := s7 _ _ g3
  have g4 := s7 _ _ g4
  have g5 := s7 _ _ g5
  have g6 := s7 _ _ g6
  have hB := hB.same s7
  have hbs := stay_in hbs s7
  have S := Same.trans S s7
  clear e7 s7 n7
  refine ⟨by show _ ≤ sizeLine; rw [sizeLine_eq]; simp, fun p8 n8 => ?_⟩
  generalize e8 : L2.upd H7 p8 _ = H8
  have s8 : Same H7 H8 := by rw [← e8]; exact Same.new n8
  have g8 : H8 p8 = some (.tup [.str "red"]) := by rw [← e8, upd_same]
  have b8 := not_in hbs n8
  have g1 := s8 _ _ g1
  have g2 := s8 _ _ g2
  have g3 := s8 _ _ g3
  have g4 := s8 _ _ g4
  have g5 := s8 _ _ g5
  have g6 := s8 _ _ g6
  have g7 := s8 _ _ g7
  have hB := hB.same s8
  have hbs := stay_in hbs s8
  have S := Same.trans S s8
  clear e8 s8 n8
  intro p9 n9
  generalize e9 : L2.upd H8 p9 _ = H9
  have s9 : Same H8 H9 := by rw [← e9]; exact Same.new n9
  have g9 : H9 p9 = some (.dK []) := by rw [← e9, upd_same]
  have b9 := not_in hbs n9
  have g1 := s9 _ _ g1
  have g2 := s9 _ _ g2
  have g3 := s9 _ _ g3
  have g4 := s9 _ _ g4
  have g5 := s9 _ _ g5
  have g6 := s9 _ _ g6
  have g7 := s9 _ _ g7
  have g8 := s9 _ _ g8
  have hB := hB.same s9
  have hbs := stay_in hbs s9
  have S := Same.trans S s9
  clear e9 s9 n9
  refine ⟨by show _ ≤ sizeLine; rw [sizeLine_eq]; simp, fun p10 n10 => ?_⟩
  generalize e10 : L2.upd H9 p10 _ = H10
  have s10 : Same H9 H10 := by rw [← e10]; exact Same.new n10
  have g10 : H10 p10 = some (.lst [.bl true, .bl false, .ref p1, .ref p2, .ref p3, .ref p4, .ref p5, .ref p6, .str "", .str "Red", .str "a b", .str "abcdefghi", .str "a1", .ref p7, .ref p8, .ref p9]) := by rw [← e10, upd_same]
  have b10 := not_in hbs n10
  have g1 := s10 _ _ g1
  have g2 := s10 _ _ g2
  have g3 := s10 _ _ g3
  have g4 := s10 _ _ g4
  have g5 := s10 _ _ g5
  have g6 := s10 _ _ g6
  have g7 := s10 _ _ g7
  have g8 := s10 _ _ g8
  have g9 := s10 _ _ g9
  have hB := hB.same s10
  have hbs := stay_in hbs s10
  have S := Same.trans S s10
  clear e10 s10 n10
  have base : ∀ x ∈ ([.bl true, .bl false, .ref p1, .ref p2, .ref p3, .ref p4, .ref p5, .ref p6, .str "", .str "Red", .str "a b", .str "abcdefghi", .str "a1", .ref p7, .ref p8, .ref p9] : List V), WrongW K H10 bs kd x := by
    intro x hx
    rcases List.mem_cons.mp hx with rfl | hx
    · exact w_bl hk
    rcases List.mem_cons.mp hx with rfl | hx
    · exact w_bl hk
    rcases List.mem_cons.mp hx with rfl | hx
    · exact w_lst hk g1 b1
    rcases List.mem_cons.mp hx with rfl | hx
    · exact w_tup hk g2 b2 (by decide)
    rcases List.mem_cons.mp hx with rfl | hx
    · exact w_pair hk g3 b3 (fun _ => .base (.bl true)) (fun _ => ty_int) (by decide +kernel)
    rcases List.mem_cons.mp hx with rfl | hx
    · exact w_pair hk g4 b4 (fun _ => ty_int) (fun _ => ty_int) (by decide +kernel)
    rcases List.mem_cons.mp hx with rfl | hx
    · exact w_pair hk g5 b5 (fun _ => ty_int) (fun _ => ty_int) (by decide +kernel)
    rcases List.mem_cons.mp hx with rfl | hx
    · exact w_pair hk g6 b6 (fun _ => ty_int) (fun _ => ty_int) (by decide +kernel)
    rcases List.mem_cons.mp hx with rfl | hx
    · exact w_str hk (by decide) (by decide +kernel)
    rcases List.mem_cons.mp hx with rfl | hx
    · exact w_str hk (by decide) (by decide +kernel)
    rcases List.mem_cons.mp hx with rfl | hx
    · exact w_str hk (by decide) (by decide +kernel)
    rcases List.mem_cons.mp hx with rfl | hx
    · exact w_str hk (by decide) (by decide +kernel)
    rcases List.mem_cons.mp hx with rfl | hx
    · exact w_str hk (by decide) (by decide +kernel)
    rcases List.mem_cons.mp hx with rfl | hx
    · exact w_lst hk g7 b7
    rcases List.mem_cons.mp hx with rfl | hx
    · exact w_tup hk g8 b8 (show 1 ≠ 2 by decide)
    rcases List.mem_cons.mp hx with rfl | hx
    · exact w_dK hk g9 b9
    cases hx
  walk_at "v"; walk_at "v"; walk_at "v"
  refine ⟨rfl, ?_⟩
  refine ⟨_, rfl, ?_⟩
  refine iteD (fun hkn => ?_) (fun hkn => ?_)
  · have ek : kd = "number" := by injection hkn
    refine ⟨by show _ ≤ sizeLine; rw [sizeLine_eq]; simp, fun p11 n11 => ?_⟩
    generalize e11 : L2.upd H10 p11 _ = H11
    have s11 : Same H10 H11 := by rw [← e11]; exact Same.new n11
    have g11 : H11 p11 = some (.lst [.str "red", .str "x", .str "3"]) := by rw [← e11, upd_same]
    refine ⟨p10, p11, _, _, rfl, rfl, s11 _ _ g10, g11, by show 19 ≤ sizeLine; rw [sizeLine_eq]; omega, fun p12 n12 => ?_⟩
    have hB := hB.same s11
    have b12 := new_ne hB n12
    have s12 := Same.trans s11 (Same.new (o := .lst ([.bl true, .bl false, .ref p1, .ref p2, .ref p3, .ref p4, .ref p5, .ref p6, .str "", .str "Red", .str "a b", .str "abcdefghi", .str "a1", .ref p7, .ref p8, .ref p9] ++ [.str "red", .str "x", .str "3"])) n12)
    refine ⟨b, n, hB.same (Same.new n12), .inl ⟨p12, _, rfl, upd_same, b12, by show 0 < 19; decide, by show 19 ≤ 1000000; decide, fun i x H' hx x' hB' => ?_⟩⟩
    refine k x H' ((Xb.of (Same.trans S s12)).trans x') ?_ hB'
    rcases List.mem_append.mp (List.mem_of_getElem? hx) with h | h
    · exact ((base x h).same s12).xb x' hbb
    rcases List.mem_cons.mp h with rfl | h
    · exact w_strN ek
    rcases List.mem_cons.mp h with rfl | h
    · exact w_strN ek
    rcases List.mem_cons.mp h with rfl | h
    · exact w_strN ek
    cases h
  · have ek : kd = "word" := hk.resolve_left fun z => hkn (by rw [z])
    refine ⟨by show _ ≤ sizeLine; rw [sizeLine_eq]; simp, fun p11 n11 => ?_⟩
    generalize e11 : L2.upd H10 p11 _ = H11
    have s11 : Same H10 H11 := by rw [← e11]; exact Same.new n11
    have g11 : H11 p11 = some (.tup [.int 1, .int 2]) := by rw [← e11, upd_same]
    have b11 := not_in hbs n11
    have hB := hB.same s11
    refine ⟨_, rfl, ?_⟩
    refine ⟨by show _ ≤ sizeLine; rw [sizeLine_eq]; simp, fun p12 n12 => ?_⟩
    generalize e12 : L2.upd H11 p12 _ = H12
    have s12 : Same H11 H12 := by rw [← e12]; exact Same.new n12
    have g12 : H12 p12 = some (.lst [.int 3, .int 0, .ref p11, .int (-7)]) := by rw [← e12, upd_same]
    refine ⟨p10, p12, _, _, rfl, rfl, s12 _ _ (s11 _ _ g10), g12, by show 20 ≤ sizeLine; rw [sizeLine_eq]; omega, fun p13 n13 => ?_⟩
    have hB := hB.same s12
    have b13 := new_ne hB n13
    have s13 := Same.trans (Same.trans s11 s12) (Same.new (o := .lst ([.bl true, .bl false, .ref p1, .ref p2, .ref p3, .ref p4, .ref p5, .ref p6, .str "", .str "Red", .str "a b", .str "abcdefghi", .str "a1", .ref p7, .ref p8, .ref p9] ++ [.int 3, .int 0, .ref p11, .int (-7)])) n13)
    have g11 := Same.new (o := .lst ([.bl true, .bl false, .ref p1, .ref p2, .ref p3, .ref p4, .ref p5, .ref p6, .str "", .str "Red", .str "a b", .str "abcdefghi", .str "a1", .ref p7, .ref p8, .ref p9] ++ [.int 3, .int 0, .ref p11, .int (-7)])) n13 _ _ (s12 _ _ g11)
    refine ⟨b, n, hB.same (Same.new n13), .inl ⟨p13, _, rfl, upd_same, b13, by show 0 < 20; decide, by show 20 ≤ 1000000; decide, fun i x H' hx x' hB' => ?_⟩⟩
    refine k x H' ((Xb.of (Same.trans S s13)).trans x') ?_ hB'
    rcases List.mem_append.mp (List.mem_of_getElem? hx) with h | h
    · exact ((base x h).same s13).xb x' hbb
    rcases List.mem_cons.mp h with rfl | h
    · exact w_intW ek
    rcases List.mem_cons.mp h with rfl | h
    · exact w_intW ek
    rcases List.mem_cons.mp h with rfl | h
    · exact (w_tupW ek g11 b11).xb x' hbb
    rcases List.mem_cons.mp h with rfl | h
    · exact w_intW ek
    cases h
end Md

set_option Elab.async false
set_option linter.all false
set_option maxRecDepth 100000
set_option maxHeartbeats 4000000
set_option exponentiation.threshold 20000
namespace Md
open PySem PySem.Spec PyProof.Rows PySem.Calls L2
local macro_rules | `(tactic| walk_at "v") => `(tactic| refine ⟨_, rfl, ?_⟩)
local macro_rules | `(tactic| walk_at "kx") => `(tactic| simp [valV, putK, dropK, mergeK, kwD, fillK, k_ka_kb, k_ka_kc, k_ka_kd, k_ka_ke, k_kb_ka, k_kb_kc, k_kb_kd, k_kb_ke, k_kc_ka, k_kc_kb, k_kc_kd, k_kc_ke, k_kd_ka, k_kd_kb, k_kd_kc, k_kd_ke, k_ke_ka, k_ke_kb, k_ke_kc, k_ke_kd])
local macro_rules | `(tactic| walk_at "kf") => `(tactic| (unfold F3; simp [valV, putK, dropK, mergeK, kwD, fillK, k_ka_kb, k_ka_kc, k_ka_kd, k_ka_ke, k_kb_ka, k_kb_kc, k_kb_kd, k_kb_ke, k_kc_ka, k_kc_kb, k_kc_kd, k_kc_ke, k_kd_ka, k_kd_kb, k_kd_kc, k_kd_ke, k_ke_ka, k_ke_kb, k_ke_kc, k_ke_kd]))
local macro_rules | `(tactic| walk_at "ii") => `(tactic| refine ⟨_, _, rfl, rfl, ?_⟩)
/-! ### what is_filling says of near fillings -/
theorem FillB.mono {K : PySem.W.Frag} {H H' : Hp} {ns ks : List Str} {x : V} {b : Bool} (h : FillB K H ns ks x b) (s : Same H H') : FillB K H' ns ks x b := by
  have has : ∀ {c : Bool}, HasB K H ns x c → HasB K H' ns x c := by
    rintro c (⟨T, ty, hn, e⟩ | ⟨d, kvs, e, hd, r⟩)
    · exact .inl ⟨T, tyX_same s ty, hn, e⟩
    · exact .inr ⟨d, kvs, e, s _ _ hd, r⟩
  rcases h with ⟨h, e⟩ | ⟨d, kvs, m, e, hd, hh, hm, hok, hr⟩
  · exact .inl ⟨has h, e⟩
  · refine .inr ⟨d, kvs, m, e, s _ _ hd, has hh, hm, fun i hi => (hok i hi).mono s, ?_⟩
    rcases hr with h | ⟨h1, h2, h3⟩
    · exact .inl h
    · exact .inr ⟨h1, h2.mono s, h3⟩
section
variable {K : PySem.W.Frag} {H : Hp} {k1 k2 k3 : Str} {kvs : List (Key × V)} {p : Addr}
theorem fb_ty {x : V} {T : String} {ks : List Str} (ty : TyX K H x (.type T)) (hn : T ≠ "dict") : FillB K H n3 ks x false := .inl ⟨.inl ⟨T, ty, hn, rfl⟩, rfl⟩
theorem fb_has {ks : List Str} (hp : H p = some (.dK kvs)) (h : (decide (kvs.length = n3.length) && n3.all fun n => (valV kvs (.inr n)).isSome) = false) : FillB K H n3 ks (.ref p) false := .inl ⟨.inr ⟨p, kvs, rfl, hp, h.symm⟩, rfl⟩
theorem has_three {x y z : V} (hp : H p = some (.dK kvs)) (hl : kvs.length = 3) (ha : valV kvs (.inr "ka") = some x) (hb : valV kvs (.inr "kb") = some y) (hc : valV kvs (.inr "kc") = some z) : HasB K H n3 (.ref p) true := by
  refine .inr ⟨p, kvs, rfl, hp, ?_⟩
  show true = (decide (kvs.length = 3) && ((valV kvs (.inr "ka")).isSome && ((valV kvs (.inr "kb")).isSome && ((valV kvs (.inr "kc")).isSome && true))))
  rw [hl, ha, hb, hc]
  rfl
theorem fb_right {x y z : V} (hp : H p = some (.dK kvs)) (hl : kvs.length = 3) (ha : valV kvs (.inr "ka") = some x) (hb : valV kvs (.inr "kb") = some y) (hc : valV kvs (.inr "kc") = some z) (h1 : HoldB K H k1 x true) (h2 : HoldB K H k2 y true) (h3 : HoldB K H k3 z true) :
    FillB K H n3 [k1, k2, k3] (.ref p) true :=
  .inr ⟨p, kvs, 3, rfl, hp, has_three hp hl ha hb hc, by decide, upto3 (holdA (.inr ⟨x, ha, h1⟩)) (holdBb (.inr ⟨y, hb, h2⟩)) (holdC (.inr ⟨z, hc, h3⟩)), .inl ⟨rfl, rfl⟩⟩
end
theorem RightV.hold {K : PySem.W.Frag} {H : Hp} {kd : Str} {x : V} (h : RightV H kd x) : HoldB K H kd x true := .inr ⟨h.non, h.val⟩
/-- which of the three -/
def Pick3 (k1 k2 k3 : Str) (nm ki : Str) (i : Nat) : Prop := (i = 0 ∧ nm = "ka" ∧ ki = k1) ∨ (i = 1 ∧ nm = "kb" ∧ ki = k2) ∨ (i = 2 ∧ nm = "kc" ∧ ki = k3)
section
variable {K : PySem.W.Frag} {H : Hp} {k1 k2 k3 nm ki : Str} {i : Nat} {x y z v : V} {p : Addr}
theorem fb_wrong (h : Pick3 k1 k2 k3 nm ki i) (rx : RightV H k1 x) (ry : RightV H k2 y) (rz : RightV H k3 z) (hp : H p = some (.dK (putK (F3 x y z) (.inr nm) v))) (hv : v ≠ .non) (hw : ValB K H ki v false) : FillB K H n3 [k1, k2, k3] (.ref p) false := by
  rcases h with ⟨rfl, rfl, rfl⟩ | ⟨rfl, rfl, rfl⟩ | ⟨rfl, rfl, rfl⟩
  · exact .inr ⟨p, _, 0, rfl, hp, has_three hp (by walk_at "kf") (x := v) (y := y) (z := z) (by walk_at "kf") (by walk_at "kf") (by walk_at "kf"), by decide, fun j hj => absurd hj (by omega), .inr ⟨by decide, holdA (.inr ⟨v, by walk_at "kf", .inr ⟨hv, hw⟩⟩), rfl⟩⟩
  · exact .inr ⟨p, _, 1, rfl, hp, has_three hp (by walk_at "kf") (x := x) (y := v) (z := z) (by walk_at "kf") (by walk_at "kf") (by walk_at "kf"), by decide, upto1 (holdA (.inr ⟨x, by walk_at "kf", rx.hold⟩)), .inr ⟨by decide, holdBb (.inr ⟨v, by walk_at "kf", .inr ⟨hv, hw⟩⟩), rfl⟩⟩
  · exact .inr ⟨p, _, 2, rfl, hp, has_three hp (by walk_at "kf") (x := x) (y := y) (z := v) (by walk_at "kf") (by walk_at "kf") (by walk_at "kf"), by decide, upto2 (holdA (.inr ⟨x, by walk_at "kf", rx.hold⟩)) (holdBb (.inr ⟨y, by walk_at "kf", ry.hold⟩)), .inr ⟨by decide, holdC (.inr ⟨v, by walk_at "kf", .inr ⟨hv, hw⟩⟩), rfl⟩⟩
theorem fb_blank (h : Pick3 k1 k2 k3 nm ki i) (rx : RightV H k1 x) (ry : RightV H k2 y) (rz : RightV H k3 z) (hp : H p = some (.dK (putK (F3 x y z) (.inr nm) .non))) : FillB K H n3 [k1, k2, k3] (.ref p) true := by
  have no : ∀ {kd : Str}, HoldB K H kd .non true := .inl ⟨rfl, rfl⟩
  rcases h with ⟨rfl, rfl, rfl⟩ | ⟨rfl, rfl, rfl⟩ | ⟨rfl, rfl, rfl⟩
  · exact fb_right hp (by walk_at "kf") (x := .non) (y := y) (z := z) (by walk_at "kf") (by walk_at "kf") (by walk_at "kf") no ry.hold rz.hold
  · exact fb_right hp (by walk_at "kf") (x := x) (y := .non) (z := z) (by walk_at "kf") (by walk_at "kf") (by walk_at "kf") rx.hold no rz.hold
  · exact fb_right hp (by walk_at "kf") (x := x) (y := y) (z := .non) (by walk_at "kf") (by walk_at "kf") (by walk_at "kf") rx.hold ry.hold no
theorem fb_more (hp : H p = some (.dK (putK (F3 x y z) (.inr "kd") .non))) : FillB K H n3 [k1, k2, k3] (.ref p) false := fb_has hp (by unfold n3; walk_at "kf")
theorem fb_less (h : Pick3 k1 k2 k3 nm ki i) (hp : H p = some (.dK (putK (dropK (F3 x y z) (.inr nm)) (.inr "kd") v))) : FillB K H n3 [k1, k2, k3] (.ref p) false := by
  rcases h with ⟨rfl, rfl, rfl⟩ | ⟨rfl, rfl, rfl⟩ | ⟨rfl, rfl, rfl⟩ <;> exact fb_has hp (by unfold n3; walk_at "kf")
theorem fb_few (h : Pick3 k1 k2 k3 nm ki i) (hp : H p = some (.dK (dropK (putK (dropK (F3 x y z) (.inr nm)) (.inr "kd") v) (.inr "kd")))) : FillB K H n3 [k1, k2, k3] (.ref p) false := by
  rcases h with ⟨rfl, rfl, rfl⟩ | ⟨rfl, rfl, rfl⟩ | ⟨rfl, rfl, rfl⟩ <;> exact fb_has hp (by unfold n3; walk_at "kf")
theorem pick_val (h : Pick3 k1 k2 k3 nm ki i) : ∃ v, valV (F3 x y z) (.inr nm) = some v := by
  rcases h with ⟨rfl, rfl, rfl⟩ | ⟨rfl, rfl, rfl⟩ | ⟨rfl, rfl, rfl⟩
  · exact ⟨x, f3_a⟩
  · exact ⟨y, f3_b⟩
  · exact ⟨z, f3_c⟩
theorem pick_kd (h : Pick3 k1 k2 k3 nm ki i) : valV (putK (dropK (F3 x y z) (.inr nm)) (.inr "kd") v) (.inr "kd") = some v := by
  rcases h with ⟨rfl, rfl, rfl⟩ | ⟨rfl, rfl, rfl⟩ | ⟨rfl, rfl, rfl⟩ <;> walk_at "kf"
theorem pick_len (h : Pick3 k1 k2 k3 nm ki i) : (dropK (F3 x y z) (.inr nm)).length = 2 := by
  rcases h with ⟨rfl, rfl, rfl⟩ | ⟨rfl, rfl, rfl⟩ | ⟨rfl, rfl, rfl⟩ <;> walk_at "kf"
theorem f3_short (rx : RightV H k1 x) (ry : RightV H k2 y) (rz : RightV H k3 z) : ShortD H (F3 x y z) := by
  intro kv hkv
  rcases List.mem_cons.mp hkv with rfl | h
  · exact ⟨⟨_, rfl, by decide, n3_ok _ (by decide)⟩, rx.short⟩
  rcases List.mem_cons.mp h with rfl | h
  · exact ⟨⟨_, rfl, by decide, n3_ok _ (by decide)⟩, ry.short⟩
  rcases List.mem_cons.mp h with rfl | h
  · exact ⟨⟨_, rfl, by decide, n3_ok _ (by decide)⟩, rz.short⟩
  cases h
end
/-! ### what stands while near fillings are made -/
theorem RightV.off {H H' : Hp} {kd : Str} {x : V} {p : Addr} {kvs : List (Key × V)} (h : RightV H kd x) (hp : H p = some (.dK kvs)) (s : Xb p H H') : RightV H' kd x := by
  rcases h with ⟨e, a, q, h, r⟩ | h
  · refine .inl ⟨e, a, q, ?_, r⟩
    rcases h with h | ⟨t, e2, ht, h2⟩
    · exact .inl h
    · exact .inr ⟨t, e2, s t _ (by rintro rfl; rw [hp] at ht; cases ht) ht, h2⟩
  · exact .inr h
theorem LayAt.bag {A : Ads} {H H' : Hp} {a b : Addr} {ns ks : List Str} {n : Nat} (h : LayAt A H a ns ks) (hB : Bag n H b) (x : Xb b H H') : LayAt A H' a ns ks := by
  obtain ⟨L, e⟩ := hB.at_
  obtain ⟨dx, tn, tk, h1, ⟨o1, h2, r2⟩, ⟨o2, h3, r3⟩, h⟩ := h
  exact ⟨dx, tn, tk, x a _ (by rintro rfl; rw [e] at h1; cases h1) h1, ⟨o1, x _ _ (by rintro rfl; rw [e] at h2; cases h2) h2, r2⟩, ⟨o2, x _ _ (by rintro rfl; rw [e] at h3; cases h3) h3, r3⟩, h⟩
structure Tk (A : Ads) (b a lk d : Addr) (k1 k2 k3 : Str) (x y z : V) (n : Nat) (H : Hp) : Prop where
  hB : Bag n H b
  lay : LayAt A H a n3 [k1, k2, k3]
  gl : H lk = some (.lst [.str k1, .str k2, .str k3])
  nl : lk ≠ b
  gd : H d = some (.dK (F3 x y z))
  rx : RightV H k1 x
  ry : RightV H k2 y
  rz : RightV H k3 z
section
variable {A : Ads} {b a lk d p : Addr} {k1 k2 k3 : Str} {x y z : V} {n m : Nat} {H H' : Hp} {kvs : List (Key × V)}
theorem Tk.same (h : Tk A b a lk d k1 k2 k3 x y z n H) (s : Same H H') : Tk A b a lk d k1 k2 k3 x y z n H' := ⟨h.hB.same s, h.lay.same s, s _ _ h.gl, h.nl, s _ _ h.gd, h.rx.same s, h.ry.same s, h.rz.same s⟩
theorem Tk.nd (h : Tk A b a lk d k1 k2 k3 x y z n H) (hp : H p = some (.dK kvs)) : p ≠ b := by
  obtain ⟨L, e⟩ := h.hB.at_
  rintro rfl
  rw [hp] at e
  cases e
theorem Tk.bag (h : Tk A b a lk d k1 k2 k3 x y z n H) (s : Xb b H H') (hB : Bag m H' b) : Tk A b a lk d k1 k2 k3 x y z m H' :=
  ⟨hB, h.lay.bag h.hB s, s _ _ h.nl h.gl, h.nl, s _ _ (h.nd h.gd) h.gd, h.rx.xb h.hB s, h.ry.xb h.hB s, h.rz.xb h.hB s⟩
theorem Tk.off (h : Tk A b a lk d k1 k2 k3 x y z n H) (hp : H p = some (.dK kvs)) (s : Xb p H H') (hd : d ≠ p) : Tk A b a lk d k1 k2 k3 x y z n H' := by
  have nb := h.nd hp
  obtain ⟨L, S, C, e, r⟩ := h.hB
  exact ⟨⟨L, S, C, s _ _ (Ne.symm nb) e, r⟩, h.lay.off s hp, s _ _ (by rintro rfl; have := h.gl; rw [hp] at this; cases this) h.gl, h.nl, s _ _ hd h.gd, h.rx.off hp s, h.ry.off hp s, h.rz.off hp s⟩
end
theorem Xb.over {b p : Addr} {H H1 : Hp} {o : HO} (x : Xb b H H1) (n : H p = none) : Xb b H (L2.upd H1 p o) := fun a u na e => by
  rw [upd_ne (ne_of_none e n)]
  exact x a u na e
theorem none_of_xb {b p : Addr} {H H1 : Hp} (x : Xb b H H1) (nb : p ≠ b) (n : H1 p = none) : H p = none := by
  cases e : H p with
  | none => rfl
  | some o => rw [x _ _ nb e] at n; cases n
end Md

set_option Elab.async false
set_option linter.all false
set_option maxRecDepth 100000
set_option maxHeartbeats 4000000
set_option exponentiation.threshold 20000
namespace Md
open PySem PySem.Spec PyProof.Rows PySem.Calls L2
local macro_rules | `(tactic| walk_at "v") => `(tactic| refine ⟨_, rfl, ?_⟩)
local macro_rules | `(tactic| walk_at "ii") => `(tactic| refine ⟨_, _, rfl, rfl, ?_⟩)
local macro_rules | `(tactic| walk_at "isnt") => `(tactic| (refine ⟨_, _, rfl, rfl, _, rfl, ?_⟩; refine iteN (fun _ => ?_) fun h => absurd rfl h))
local macro_rules | `(tactic| walk_at "few") => `(tactic| (show _ ≤ sizeLine; rw [sizeLine_eq]; simp))
theorem lay_ins {A : Ads} {H : Hp} {a : Addr} {ns ks : List Str} (h : LayAt A H a ns ks) : ∃ dx fs, H a = some (.ins A.cLayout dx fs) ∧ fs.lookup ("is_filling" : Str) = none := by
  obtain ⟨dx, tn, tk, h1, _⟩ := h
  exact ⟨dx, _, h1, rfl⟩
theorem pick_of {k1 k2 k3 : Str} {w : V} {i : Nat} (h : ([.str "ka", .str "kb", .str "kc"] : List V)[i]? = some w) : ∃ nm ki, w = .str nm ∧ Pick3 k1 k2 k3 nm ki i := by
  match i, h with
  | 0, h => cases h; exact ⟨_, k1, rfl, .inl ⟨rfl, rfl, rfl⟩⟩
  | 1, h => cases h; exact ⟨_, k2, rfl, .inr (.inl ⟨rfl, rfl, rfl⟩)⟩
  | 2, h => cases h; exact ⟨_, k3, rfl, .inr (.inr ⟨rfl, rfl, rfl⟩)⟩
  | i + 3, h => cases h
theorem pick_ix {k1 k2 k3 nm ki : Str} {i : Nat} (h : Pick3 k1 k2 k3 nm ki i) : ([.str "ka", .str "kb", .str "kc"] : List V)[i]? = some (.str nm) ∧ eqV (.str nm) (.str nm) = true ∧
    (∀ (m : Nat) (z' : V), m < i → ([.str "ka", .str "kb", .str "kc"] : List V)[m]? = some z' → eqV z' (.str nm) = false) ∧ atI ([.str k1, .str k2, .str k3] : List V) (i : Int) = some (.str ki) := by
  rcases h with ⟨rfl, rfl, rfl⟩ | ⟨rfl, rfl, rfl⟩ | ⟨rfl, rfl, rfl⟩
  · exact ⟨rfl, by decide, fun m z' hm _ => absurd hm (by omega), rfl⟩
  · refine ⟨rfl, by decide, fun m z' hm e => ?_, rfl⟩
    obtain rfl : m = 0 := by omega
    cases e
    decide
  · refine ⟨rfl, by decide, fun m z' hm e => ?_, rfl⟩
    match m, hm with
    | 0, _ => cases e; decide
    | 1, _ => cases e; decide
theorem putK_ne {kvs : List (Key × V)} {kk : Key} {v : V} (h : kvs ≠ []) : putK kvs kk v ≠ [] := by
  unfold putK
  split
  · intro z; exact h (List.map_eq_nil_iff.mp z)
  · simp
/-! ### _law_takes -/
def t__law_takes (K : PySem.W.Frag) (A : Ads) (E : XK) : TS :=
    (tSeq (tIfS (tOr (tTest (tOp rNotB (tMeth A.cLayout "is_filling" (sp_Layout_is_filling K A) [] E (tVar 1) (tCons (tVar 3) tNil)) (tC (.bl true)))) (tTest (tOp rNotB (tMeth A.cLayout "is_filling" (sp_Layout_is_filling K A) [] E (tVar 1) (tCons (tCall (sp__law_turned K A) [] E0 (tCons (tVar 3) tNil)) tNil)) (tC (.bl true))))) (tRet (tC (.bl false))) tNext)
    (tSeq (tAsg (tCall (sp__law_of K A) [] E0 (tCons (tVar 0) (tCons (tLst (tCons (tC (.str "ka")) (tCons (tC (.str "kb")) (tCons (tC (.str "kc")) tNil)))) tNil))) (gName 4))
    (tSeq (tPar3 8 9 10 (tCons (tCB rDictD (tCons (tVar 3) tNil)) (tCons (tCB rDictD (tCons (tVar 3) tNil)) (tCons (tCB rDictD (tCons (tVar 3) tNil)) tNil))))
    (tSeq (tAsg (tCall (sp__law_wrong K A) [] E0 (tCons (tVar 0) (tCons (tOp (rIx K) (tVar 2) (tBM K "list" (rIndex K) (tLst (tCons (tC (.str "ka")) (tCons (tC (.str "kb")) (tCons (tC (.str "kc")) tNil)))) (tCons (tVar 4) tNil))) tNil))) (gSub (tVar 8) (tVar 4) rSetD))
    (tSeq (tAsg (tC .non) (gSub (tVar 9) (tC (.str "kd")) rSetD))
    (tSeq (tDrop (tDPop1 (tVar 10) (tVar 4)))
    (tSeq (tAsg (tCall (sp__law_of K A) [] E0 (tCons (tVar 0) (tCons (tLst (tCons (tC .non) (tCons (tDGet (tVar 3) (tVar 4)) tNil))) tNil))) (gSub (tVar 10) (tC (.str "kd")) rSetD))
    (tSeq (tAsg (tCB rDictD (tCons (tVar 10) tNil)) (gName 5))
    (tSeq (tDrop (tDPop1 (tVar 5) (tC (.str "kd"))))
    (tSeq (tFor (iList K (tLst (tCons (tVar 8) (tCons (tVar 9) (tCons (tVar 10) (tCons (tVar 5) (tCons tDNewK (tCons (tC .non) (tCons (tC (.bl true)) (tCons (tCB rListD (tCons (tVar 3) tNil)) (tCons (tCB rTupD (tCons (tVar 3) tNil)) (tCons (tCB rStrD (tCons (tVar 3) tNil)) tNil)))))))))))) (gName 6) (tIfS (tTest (tOp rNotB (tMeth A.cLayout "is_filling" (sp_Layout_is_filling K A) [] E (tVar 1) (tCons (tVar 6) tNil)) (tC (.bl false)))) (tRet (tC (.bl false))) tNext))
    (tSeq (tAsg (tCB rDictD (tCons (tVar 3) tNil)) (gName 7))
    (tSeq (tAsg (tC .non) (gSub (tVar 7) (tVar 4) rSetD))
    (tRet (tOp rIsB (tMeth A.cLayout "is_filling" (sp_Layout_is_filling K A) [] E (tVar 1) (tCons (tVar 7) tNil)) (tC (.bl true))))))))))))))))
def n__law_takes : List Str := ["_law_bag_here", "_law_layout", "_law_kinds", "_law_filling", "_law_name", "_law_few", "_law_thing", "_law_blank", "_law_wrong_here", "_law_more", "_law_less"]
def sp__law_takes (K : PySem.W.Frag) (A : Ads) : Sp := fun vs H Q _ => ∃ (b a lk d : Addr) (k1 k2 k3 : Str) (x y z : V) (n : Nat), vs = [.ref b, .ref a, .ref lk, .ref d] ∧ Tk A b a lk d k1 k2 k3 x y z (n + 3) H ∧
  (∀ kd ∈ [k1, k2, k3], kd = "number" ∨ kd = "word") ∧ ∀ H', Xb b H H' → Bag n H' b → Q (.bl true) H'
theorem len__law_takes {K : PySem.W.Frag} {A : Ads} {vs : List V} {H : Hp} {Q : VK} {E : XK} (h : sp__law_takes K A vs H Q E) : vs.length = 4 := by
  obtain ⟨b, _, _, _, _, _, _, _, _, _, _, rfl, _⟩ := h
  rfl
theorem pure__law_takes {K : PySem.W.Frag} {A : Ads} {vs : List V} {H : Hp} {Q : VK} {E : XK} (h : sp__law_takes K A vs H Q E) : t__law_takes K A E { nx := fun _ H' => Q .non H', rt := Q } (start n__law_takes vs) H := by
  obtain ⟨b, a, lk, d, k1, k2, k3, x, y, z, n, rfl, T, hks, k⟩ := h
  -- the filling itself
  obtain ⟨dx, fs, hi, hl⟩ := lay_ins T.lay
  walk_at "v"
  refine ⟨a, dx, fs, rfl, hi, hl, ?_⟩
  walk_at "v"
  refine ⟨a, .ref d, n3, _, true, rfl, T.lay, fb_right T.gd rfl f3_a f3_b f3_c T.rx.hold T.ry.hold T.rz.hold, fun H1 s1 => ?_⟩
  walk_at "isnt"
  have T1 := T.same s1
  obtain ⟨dx, fs, hi, hl⟩ := lay_ins T1.lay
  walk_at "v"
  refine ⟨a, dx, fs, rfl, hi, hl, ?_⟩
  walk_at "v"
  refine ⟨d, x, y, z, rfl, T1.gd, fun p H2 np s2 hp => ?_⟩
  have T2 := T1.same s2
  refine ⟨a, .ref p, n3, _, true, rfl, T2.lay, fb_right hp rfl r3_a r3_b r3_c T2.rx.hold T2.ry.hold T2.rz.hold, fun H3 s3 => ?_⟩
  walk_at "isnt"
  have T3 := T2.same s3
  have X3 : Xb b H H3 := Xb.of (Same.trans s1 (Same.trans s2 s3))
  -- a name
  walk_at "v"
  refine ⟨by walk_at "few", fun l1 n1 => ?_⟩
  generalize e4 : L2.upd H3 l1 _ = H4
  have s4 : Same H3 H4 := by rw [← e4]; exact Same.new n1
  have g4 : H4 l1 = some (.lst [.str "ka", .str "kb", .str "kc"]) := by rw [← e4, upd_same]
  have T4 := T3.same s4
  refine ⟨b, n + 2, T4.hB, .inl ⟨l1, _, rfl, g4, new_ne T3.hB n1, by show 0 < 3; decide, by show 3 ≤ 1000000; decide, fun i w H5 hw x5 hB5 => ?_⟩⟩
  obtain ⟨nm, ki, rfl, pk⟩ := pick_of (k1 := k1) (k2 := k2) (k3 := k3) hw
  have hki : ki = "number" ∨ ki = "word" := by
    rcases pk with ⟨_, _, rfl⟩ | ⟨_, _, rfl⟩ | ⟨_, _, rfl⟩ <;> exact hks _ (by simp)
  have T5 := T4.bag x5 hB5
  have X5 : Xb b H H5 := X3.trans ((Xb.of s4).trans x5)
  clear T3 T4 s4 g4 e4 x5 hB5 n1 hw
  -- copies
  walk_at "v"
  refine ⟨d, _, rfl, .inl T5.gd, fun p8 m8 => ?_⟩
  generalize e6 : L2.upd H5 p8 _ = H6
  have s6 : Same H5 H6 := by rw [← e6]; exact Same.new m8
  have g8 : H6 p8 = some (.dK (F3 x y z)) := by rw [← e6, upd_same]
  have T6 := T5.same s6
  have b8 := new_ne T5.hB m8
  have z8 := none_of_xb X5 b8 m8
  have X6 := X5.trans (Xb.of s6)
  walk_at "v"
  refine ⟨d, _, rfl, .inl T6.gd, fun p9 m9 => ?_⟩
  generalize e7 : L2.upd H6 p9 _ = H7
  have s7 : Same H6 H7 := by rw [← e7]; exact Same.new m9
  have g9 : H7 p9 = some (.dK (F3 x y z)) := by rw [← e7, upd_same]
  have T7 := T6.same s7
  have b9 := new_ne T6.hB m9
  have z9 := none_of_xb X6 b9 m9
  have X7 := X6.trans (Xb.of s7)
  have n98 : p9 ≠ p8 := by rintro rfl; rw [g8] at m9; cases m9
  walk_at "v"
  refine ⟨d, _, rfl, .inl T7.gd, fun pA mA => ?_⟩
  generalize e8 : L2.upd H7 pA _ = H8
  have s8 : Same H7 H8 := by rw [← e8]; exact Same.new mA
  have gA : H8 pA = some (.dK (F3 x y z)) := by rw [← e8, upd_same]
  have T8 := T7.same s8
  have bA := new_ne T7.hB mA
  have zA := none_of_xb X7 bA mA
  have X8 := X7.trans (Xb.of s8)
  have nA8 : pA ≠ p8 := by rintro rfl; rw [s7 _ _ g8] at mA; cases mA
  have nA9 : pA ≠ p9 := by rintro rfl; rw [g9] at mA; cases mA
  have d8 : d ≠ p8 := by rintro rfl; rw [T5.gd] at m8; cases m8
  have d9 : d ≠ p9 := by rintro rfl; rw [T6.gd] at m9; cases m9
  have dA : d ≠ pA := by rintro rfl; rw [T7.gd] at mA; cases mA
  have g8 := s8 _ _ (s7 _ _ g8)
  have g9 := s8 _ _ g9
  refine ⟨_, _, _, rfl, ?_⟩
  clear T5 T6 T7 s6 s7 s8 e6 e7 e8 m8 m9 mA X5 X6 X7
  -- a wrong value
  walk_at "v"; walk_at "v"
  refine ⟨by walk_at "few", fun l2 n2 => ?_⟩
  generalize e9 : L2.upd H8 l2 _ = H9
  have s9 : Same H8 H9 := by rw [← e9]; exact Same.new n2
  have gl2 : H9 l2 = some (.lst [.str "ka", .str "kb", .str "kc"]) := by rw [← e9, upd_same]
  have T9 := T8.same s9
  obtain ⟨i1, i2, i3, i4⟩ := pick_ix pk
  refine ⟨.inl ⟨rfl, _, SqL.of gl2⟩, ?_⟩
  walk_at "v"
  refine ⟨l2, _, .str nm, i, .str nm, rfl, rfl, SqL.of gl2, rfl, rfl, i1, i2, i3, ?_⟩
  refine .inl ⟨lk, _, (i : Int), .str ki, rfl, rfl, SqL.of T9.gl, i4, ?_⟩
  refine ⟨b, [b], ki, n + 1, rfl, hki, T9.hB, List.mem_singleton.mpr rfl, fun f hf => ?_, fun w H10 x10 hw hB10 => ?_⟩
  · rw [List.mem_singleton.mp hf]
    obtain ⟨L0, e0⟩ := T9.hB.at_
    exact ⟨_, e0⟩
  have T10 := T9.bag x10 hB10
  have x9 : Xb b H8 H10 := (Xb.of s9).trans x10
  have X10 := X8.trans x9
  have g8 := x9 _ _ b8 g8
  have g9 := x9 _ _ b9 g9
  have gA := x9 _ _ bA gA
  clear T8 T9 s9 e9 gl2 n2 x10 x9 X8
  have f3n : F3 x y z ≠ [] := by unfold F3; simp
  walk_at "v"; walk_at "v"
  refine ⟨p8, _, rfl, .inl ⟨_, .inr nm, g8, rfl, by show 3 < sizeLine; rw [sizeLine_eq]; omega, rfl⟩, ?_⟩
  generalize e11 : L2.upd H10 p8 _ = H11
  have T11 : Tk A b a lk d k1 k2 k3 x y z (n + 1) H11 := by rw [← e11]; exact T10.off g8 Xb.upd1 d8
  have hw := hw.xd (show Xd [b] H10 H11 by rw [← e11]; exact Xd.put g8 f3n)
  have X11 : Xb b H H11 := by rw [← e11]; exact X10.over z8
  have g9 : H11 p9 = some (.dK (F3 x y z)) := by rw [← e11, upd_ne n98]; exact g9
  have gA : H11 pA = some (.dK (F3 x y z)) := by rw [← e11, upd_ne nA8]; exact gA
  have g8 : H11 p8 = some (.dK (putK (F3 x y z) (.inr nm) w)) := by rw [← e11, upd_same]
  clear T10 e11 X10
  -- one more key
  walk_at "v"
  refine ⟨p9, _, rfl, .inl ⟨_, .inr "kd", g9, rfl, by show 3 < sizeLine; rw [sizeLine_eq]; omega, rfl⟩, ?_⟩
  generalize e12 : L2.upd H11 p9 _ = H12
  have T12 : Tk A b a lk d k1 k2 k3 x y z (n + 1) H12 := by rw [← e12]; exact T11.off g9 Xb.upd1 d9
  have hw := hw.xd (show Xd [b] H11 H12 by rw [← e12]; exact Xd.put g9 f3n)
  have X12 : Xb b H H12 := by rw [← e12]; exact X11.over z9
  have gA : H12 pA = some (.dK (F3 x y z)) := by rw [← e12, upd_ne nA9]; exact gA
  have g8 : H12 p8 = some (.dK (putK (F3 x y z) (.inr nm) w)) := by rw [← e12, upd_ne (Ne.symm n98)]; exact g8
  have g9 : H12 p9 = some (.dK (putK (F3 x y z) (.inr "kd") .non)) := by rw [← e12, upd_same]
  clear T11 e12 X11
  -- one key less
  obtain ⟨v0, hv0⟩ := pick_val (x := x) (y := y) (z := z) pk
  walk_at "v"
  refine ⟨pA, rfl, .inl ⟨_, .inl gA⟩, ?_⟩
  walk_at "v"
  refine ⟨_, .inr nm, v0, gA, rfl, hv0, ?_⟩
  generalize e13 : L2.upd H12 pA _ = H13
  have T13 : Tk A b a lk d k1 k2 k3 x y z (n + 1) H13 := by rw [← e13]; exact T12.off gA Xb.upd1 dA
  have hw := hw.xd (show Xd [b] H12 H13 by rw [← e13]; exact Xd.put gA f3n)
  have X13 : Xb b H H13 := by rw [← e13]; exact X12.over zA
  have g8 : H13 p8 = some (.dK (putK (F3 x y z) (.inr nm) w)) := by rw [← e13, upd_ne (Ne.symm nA8)]; exact g8
  have g9 : H13 p9 = some (.dK (putK (F3 x y z) (.inr "kd") .non)) := by rw [← e13, upd_ne (Ne.symm nA9)]; exact g9
  have gA : H13 pA = some (.dK (dropK (F3 x y z) (.inr nm))) := by rw [← e13, upd_same]
  clear T12 e13 X12
  have dn : dropK (F3 x y z) (.inr nm) ≠ [] := fun e => by have := pick_len (x := x) (y := y) (z := z) pk; rw [e] at this; cases this
  walk_at "v"; walk_at "v"; walk_at "v"
  refine ⟨d, v0, rfl, by rw [← hv0]; exact DGet.k (k := .inr nm) T13.gd, ?_⟩
  refine ⟨by walk_at "few", fun l3 n3' => ?_⟩
  generalize e14 : L2.upd H13 l3 _ = H14
  have s14 : Same H13 H14 := by rw [← e14]; exact Same.new n3'
  have gl3 : H14 l3 = some (.lst [.non, v0]) := by rw [← e14, upd_same]
  have T14 := T13.same s14
  refine ⟨b, n, T14.hB, .inl ⟨l3, _, rfl, gl3, new_ne T13.hB n3', by show 0 < 2; decide, by show 2 ≤ 1000000; decide, fun j u H15 hj x15 hB15 => ?_⟩⟩
  have T15 := T14.bag x15 hB15
  have x13 : Xb b H13 H15 := (Xb.of s14).trans x15
  have hw := hw.xd (Xd.of x13 (List.mem_singleton.mpr rfl))
  have X15 := X13.trans x13
  have g8 := x13 _ _ b8 g8
  have g9 := x13 _ _ b9 g9
  have gA := x13 _ _ bA gA
  clear T13 T14 e14 s14 gl3 x15 x13 X13 n3' hj
  walk_at "v"
  refine ⟨pA, _, rfl, .inl ⟨_, .inr "kd", gA, rfl, by rw [pick_len pk, sizeLine_eq]; omega, rfl⟩, ?_⟩
  generalize e16 : L2.upd H15 pA _ = H16
  have T16 : Tk A b a lk d k1 k2 k3 x y z n H16 := by rw [← e16]; exact T15.off gA Xb.upd1 dA
  have hw := hw.xd (show Xd [b] H15 H16 by rw [← e16]; exact Xd.put gA dn)
  have X16 : Xb b H H16 := by rw [← e16]; exact X15.over zA
  have g8 : H16 p8 = some (.dK (putK (F3 x y z) (.inr nm) w)) := by rw [← e16, upd_ne (Ne.symm nA8)]; exact g8
  have g9 : H16 p9 = some (.dK (putK (F3 x y z) (.inr "kd") .non)) := by rw [← e16, upd_ne (Ne.symm nA9)]; exact g9
  have gA : H16 pA = some (.dK (putK (dropK (F3 x y z) (.inr nm)) (.inr "kd") u)) := by rw [← e16, upd_same]
  clear T15 e16 X15
  -- two keys alone
  walk_at "v"
  refine ⟨pA, _, rfl, .inl gA, fun p5 m5 => ?_⟩
  generalize e17 : L2.upd H16 p5 _ = H17
  have s17 : Same H16 H17 := by rw [← e17]; exact Same.new m5
  have g5 : H17 p5 = some (.dK (putK (dropK (F3 x y z) (.inr nm)) (.inr "kd") u)) := by rw [← e17, upd_same]
  have T17 := T16.same s17
  have b5 := new_ne T16.hB m5
  have z5 := none_of_xb X16 b5 m5
  have X17 := X16.trans (Xb.of s17)
  have n58 : p5 ≠ p8 := by rintro rfl; rw [g8] at m5; cases m5
  have n59 : p5 ≠ p9 := by rintro rfl; rw [g9] at m5; cases m5
  have n5A : p5 ≠ pA := by rintro rfl; rw [gA] at m5; cases m5
  have d5 : d ≠ p5 := by rintro rfl; rw [T16.gd] at m5; cases m5
  have hw := hw.same s17
  walk_at "v"
  refine ⟨p5, rfl, .inl ⟨_, .inl g5⟩, ?_⟩
  refine ⟨_, .inr "kd", u, g5, rfl, pick_kd pk, ?_⟩
  generalize e18 : L2.upd H17 p5 _ = H18
  have T18 : Tk A b a lk d k1 k2 k3 x y z n H18 := by rw [← e18]; exact T17.off g5 Xb.upd1 d5
  have hw := hw.xd (show Xd [b] H17 H18 by rw [← e18]; exact Xd.put g5 (putK_ne dn))
  have X18 : Xb b H H18 := by rw [← e18]; exact X17.over z5
  have g8 : H18 p8 = some (.dK (putK (F3 x y z) (.inr nm) w)) := by rw [← e18, upd_ne (Ne.symm n58)]; exact s17 _ _ g8
  have g9 : H18 p9 = some (.dK (putK (F3 x y z) (.inr "kd") .non)) := by rw [← e18, upd_ne (Ne.symm n59)]; exact s17 _ _ g9
  have gA : H18 pA = some (.dK (putK (dropK (F3 x y z) (.inr nm)) (.inr "kd") u)) := by rw [← e18, upd_ne (Ne.symm n5A)]; exact s17 _ _ gA
  have g5 : H18 p5 = some (.dK (dropK (putK (dropK (F3 x y z) (.inr nm)) (.inr "kd") u) (.inr "kd"))) := by rw [← e18, upd_same]
  clear T16 T17 e17 e18 s17 X16 X17 m5
  have hkw : ValB K H18 ki w false := hw.now
  have f8 : FillB K H18 n3 [k1, k2, k3] (.ref p8) false := fb_wrong pk T18.rx T18.ry T18.rz g8 hw.1 hkw
  have f9 : FillB K H18 n3 [k1, k2, k3] (.ref p9) false := fb_more g9
  have fA : FillB K H18 n3 [k1, k2, k3] (.ref pA) false := fb_less pk gA
  have f5 : FillB K H18 n3 [k1, k2, k3] (.ref p5) false := fb_few pk g5
  -- the list of what is none
  walk_at "v"; walk_at "v"; walk_at "v"; walk_at "v"
  intro pd md
  generalize e19 : L2.upd H18 pd _ = H19
  have s19 : Same H18 H19 := by rw [← e19]; exact Same.new md
  have gd0 : H19 pd = some (.dK []) := by rw [← e19, upd_same]
  have T19 := T18.same s19
  walk_at "v"
  refine ⟨d, _, rfl, .inl T19.gd, fun pl ml => ?_⟩
  generalize e20 : L2.upd H19 pl _ = H20
  have s20 : Same H19 H20 := by rw [← e20]; exact Same.new ml
  have gpl : H20 pl = some (.lst [.str "ka", .str "kb", .str "kc"]) := by rw [← e20, upd_same]; rfl
  have T20 := T19.same s20
  walk_at "v"
  refine ⟨d, _, rfl, T20.gd, fun pt mt => ?_⟩
  generalize e21 : L2.upd H20 pt _ = H21
  have s21 : Same H20 H21 := by rw [← e21]; exact Same.new mt
  have gpt : H21 pt = some (.tup [.str "ka", .str "kb", .str "kc"]) := by rw [← e21, upd_same]; rfl
  have T21 := T20.same s21
  walk_at "v"
  refine ⟨d, _, rfl, T21.gd, by show 3 ≤ 10; decide, f3_short T21.rx T21.ry T21.rz, fun txt => ?_⟩
  refine ⟨by walk_at "few", fun L mL => ?_⟩
  generalize e22 : L2.upd H21 L _ = H22
  have s22 : Same H21 H22 := by rw [← e22]; exact Same.new mL
  have gL : H22 L = some (.lst [.ref p8, .ref p9, .ref pA, .ref p5, .ref pd, .non, .bl true, .ref pl, .ref pt, .str txt]) := by rw [← e22, upd_same]
  have T22 := T21.same s22
  have s1819 := Same.trans s19 (Same.trans s20 (Same.trans s21 s22))
  have X22 := X18.trans (Xb.of s1819)
  have all : ∀ q ∈ ([.ref p8, .ref p9, .ref pA, .ref p5, .ref pd, .non, .bl true, .ref pl, .ref pt, .str txt] : List V), FillB K H22 n3 [k1, k2, k3] q false := by
    intro q hq
    rcases List.mem_cons.mp hq with rfl | hq
    · exact f8.mono s1819
    rcases List.mem_cons.mp hq with rfl | hq
    · exact f9.mono s1819
    rcases List.mem_cons.mp hq with rfl | hq
    · exact fA.mono s1819
    rcases List.mem_cons.mp hq with rfl | hq
    · exact f5.mono s1819
    rcases List.mem_cons.mp hq with rfl | hq
    · exact (fb_has gd0 (by decide)).mono (Same.trans s20 (Same.trans s21 s22))
    rcases List.mem_cons.mp hq with rfl | hq
    · exact fb_ty (.base .non) (by decide)
    rcases List.mem_cons.mp hq with rfl | hq
    · exact fb_ty (.base (.bl true)) (by decide)
    rcases List.mem_cons.mp hq with rfl | hq
    · exact fb_ty (.base (.lst (s22 _ _ (s21 _ _ gpl)))) (by decide)
    rcases List.mem_cons.mp hq with rfl | hq
    · exact fb_ty (ty_tup (s22 _ _ gpt)) (by decide)
    rcases List.mem_cons.mp hq with rfl | hq
    · exact fb_ty (.base (.str txt)) (by decide)
    cases hq
  refine ⟨L, rfl, ⟨_, SqL.of gL⟩, ?_⟩
  clear e19 e20 e21 e22 f8 f9 fA f5 T18 T19 T20 T21 s19 s20 s21 s22 gd0 gpl gpt md ml mt mL X18
  refine for_list (K := K) (a := L) (xs := [.ref p8, .ref p9, .ref pA, .ref p5, .ref pd, .non, .bl true, .ref pl, .ref pt, .str txt]) (fun i σ H' => Same H22 H' ∧ ∃ w6 w7, σ = [some (.ref b), some (.ref a), some (.ref lk), some (.ref d), some (.str nm), some (.ref p5), w6, w7, some (.ref p8), some (.ref p9), some (.ref pA)])
    ⟨Same.refl H22, _, _, rfl⟩ (fun i σ H' _ c => SqL.of (c.1 _ _ gL)) ?_ ?_
  · rintro i q σ H23 hq ⟨s23, w6, w7, rfl⟩
    have fq := (all q (List.mem_of_getElem? hq)).mono s23
    have T23 := T22.same s23
    obtain ⟨dx, fs, hi, hl⟩ := lay_ins T23.lay
    walk_at "v"
    refine ⟨a, dx, fs, rfl, hi, hl, ?_⟩
    walk_at "v"
    refine ⟨a, q, n3, _, false, rfl, T23.lay, fq, fun H24 s24 => ?_⟩
    walk_at "isnt"
    exact ⟨Same.trans s23 s24, _, _, rfl⟩
  · rintro σ H23 ⟨s23, w6, w7, rfl⟩
    have T23 := T22.same s23
    have X23 := X22.trans (Xb.of s23)
    walk_at "v"
    refine ⟨d, _, rfl, .inl T23.gd, fun p7 m7 => ?_⟩
    generalize e24 : L2.upd H23 p7 _ = H24
    have s24 : Same H23 H24 := by rw [← e24]; exact Same.new m7
    have g7 : H24 p7 = some (.dK (F3 x y z)) := by rw [← e24, upd_same]
    have T24 := T23.same s24
    have b7 := new_ne T23.hB m7
    have z7 := none_of_xb X23 b7 m7
    have X24 := X23.trans (Xb.of s24)
    have d7 : d ≠ p7 := by rintro rfl; rw [T23.gd] at m7; cases m7
    walk_at "v"; walk_at "v"
    refine ⟨p7, _, rfl, .inl ⟨_, .inr nm, g7, rfl, by show 3 < sizeLine; rw [sizeLine_eq]; omega, rfl⟩, ?_⟩
    generalize e25 : L2.upd H24 p7 _ = H25
    have T25 : Tk A b a lk d k1 k2 k3 x y z n H25 := by rw [← e25]; exact T24.off g7 Xb.upd1 d7
    have X25 : Xb b H H25 := by rw [← e25]; exact X24.over z7
    have g7 : H25 p7 = some (.dK (putK (F3 x y z) (.inr nm) .non)) := by rw [← e25, upd_same]
    obtain ⟨dx, fs, hi, hl⟩ := lay_ins T25.lay
    walk_at "v"
    refine ⟨a, dx, fs, rfl, hi, hl, ?_⟩
    walk_at "v"
    refine ⟨a, .ref p7, n3, _, true, rfl, T25.lay, fb_blank pk T25.rx T25.ry T25.rz g7, fun H26 s26 => ?_⟩
    refine ⟨true, true, rfl, rfl, ?_⟩
    exact k H26 (X25.trans (Xb.of s26)) (T25.hB.same s26)
end Md

set_option Elab.async false
set_option linter.all false
set_option maxRecDepth 100000
set_option maxHeartbeats 4000000
/-! layouts made of fields -/
namespace Md
open PySem PySem.Spec PyProof.Rows PySem.Calls L2
/-- fields that stand in the heap: pairs of a name and a kind, of different names -/
def FsOk (H : Hp) (gs : List (Addr × Str × Str)) : Prop := (∀ g ∈ gs, H g.1 = some (.tup [.str g.2.1, .str g.2.2]) ∧ isWord g.2.1 = true ∧ g.2.1 ∉ kRES ∧ (g.2.2 = "number" ∨ g.2.2 = "word")) ∧ (gs.map fun g => g.2.1).Nodup
theorem FsOk.same {H H' : Hp} {gs : List (Addr × Str × Str)} (h : FsOk H gs) (s : Same H H') : FsOk H' gs := ⟨fun g hg => ⟨s _ _ (h.1 g hg).1, (h.1 g hg).2⟩, h.2⟩
theorem FsOk.xb {H H' : Hp} {gs : List (Addr × Str × Str)} {b : Addr} {L : List V} (h : FsOk H gs) (hb : H b = some (.lst L)) (x : Xb b H H') : FsOk H' gs := ⟨fun g hg => ⟨x _ _ (ne_of (h.1 g hg).1 hb (by intro z; cases z)) (h.1 g hg).1, (h.1 g hg).2⟩, h.2⟩
theorem nodup_of {α : Type} : ∀ {xs : List α}, (∀ (i j : Nat) x, j < i → xs[i]? = some x → xs[j]? ≠ some x) → xs.Nodup
  | [], _ => List.nodup_nil
  | x :: r, h => by
    refine List.nodup_cons.mpr ⟨fun hm => ?_, nodup_of fun i j y hj e1 e2 => h (i + 1) (j + 1) y (by omega) e1 e2⟩
    obtain ⟨i, hi, e⟩ := List.getElem_of_mem hm
    exact h (i + 1) 0 x (by omega) (by rw [List.getElem?_cons_succ, List.getElem?_eq_getElem hi, e]) rfl
theorem nodup_at {α : Type} : ∀ {xs : List α}, xs.Nodup → ∀ (i j : Nat) x, j < i → xs[i]? = some x → xs[j]? ≠ some x
  | [], _, i, j, x, _, e, _ => by cases e
  | y :: r, h, i, j, x, hj, e, e2 => by
    obtain ⟨h1, h2⟩ := List.nodup_cons.mp h
    cases i with
    | zero => omega
    | succ i =>
      rw [List.getElem?_cons_succ] at e
      cases j with
      | zero =>
        cases e2
        exact h1 (List.mem_of_getElem? e)
      | succ j => exact nodup_at h2 i j x (by omega) e e2
theorem FsOk.field {K : PySem.W.Frag} {H : Hp} {gs : List (Addr × Str × Str)} (h : FsOk H gs) {g : Addr × Str × Str} (hg : g ∈ gs) : FieldB K H (.ref g.1) (some g.2) := by
  obtain ⟨h1, h2, h3, h4⟩ := h.1 g hg
  have hk : kindOf (.str g.2.2) = some g.2.2 := by
    show (if g.2.2 = "number" ∨ g.2.2 = "word" then some g.2.2 else none : Option Str) = _
    rw [if_pos h4]
  exact .inr (.inr ⟨g.1, _, _, some g.2.1, rfl, h1, .inl rfl, .inr ⟨g.2.1, rfl, by have := (word_all h2).2.1; omega, h2, by rw [if_neg h3]⟩, by rw [hk]; rfl⟩)
/-- C(l): a layout of the fields that stand in the list at l -/
theorem mk_lay {K : PySem.W.Frag} {A : Ads} {H : Hp} {l a dx : Addr} {gs : List (Addr × Str × Str)} {R : VK} {E : XK} (hl : H l = some (.lst (gs.map fun g => V.ref g.1))) (hF : FsOk H gs) (h1 : 1 ≤ gs.length) (h5 : gs.length ≤ 5)
    (ha : H a = none) (hdx : H dx = none) (hne : dx ≠ a) (k : ∀ H', Same H H' → LayAt A H' a (gs.map fun g => g.2.1) (gs.map fun g => g.2.2) → R .non H') :
    sp_Layout___init__ K A (.ref a :: ([.ref l] ++ [])) (upd (upd H dx (.own a)) a (.ins A.cLayout dx [])) R E := by
  have sd := Same.new (o := .own a) hdx
  have ha' : upd H dx (.own a) a = none := by rw [upd_ne (Ne.symm hne)]; exact ha
  have S := Same.trans sd (Same.new (o := .ins A.cLayout dx []) ha')
  have hF2 := hF.same S
  have ll := S _ _ hl
  refine .inr ⟨a, dx, l, gs.map fun g => V.ref g.1, gs.map fun g => some g.2, gs.map fun g => g.2.1, gs.map fun g => g.2.2, rfl, upd_same, SqL.of ll, .base (.lst ll), by simp, by simpa using h1, by simpa using h5, fun i x r e1 e2 => ?_, by simp, by simp,
    fun i n kd e1 e2 => ?_, fun _ H' x' lay => k H' (fun q o hq => x' q o (ne_of_none hq ha) (S q o hq)) lay, fun h => absurd h (by simp)⟩
  · rw [List.getElem?_map] at e1 e2
    cases c : gs[i]? with
    | none => rw [c] at e1; cases e1
    | some g =>
      rw [c] at e1 e2
      cases e1; cases e2
      exact hF2.field (List.mem_of_getElem? c)
  · have e3 := e1
    rw [List.getElem?_map] at e1 e2 ⊢
    cases c : gs[i]? with
    | none => rw [c] at e1; cases e1
    | some g =>
      rw [c] at e1 e2
      cases e1; cases e2
      refine ⟨rfl, fun hm => ?_⟩
      obtain ⟨j, hj, e⟩ := List.getElem_of_mem hm
      have hji : j < i := by
        rw [List.length_take] at hj
        omega
      refine nodup_at hF.2 i j g.2.1 hji e3 ?_
      rw [← List.getElem?_take_of_lt hji, List.getElem?_eq_getElem hj, e]
end Md

set_option Elab.async false
set_option linter.all false
set_option maxRecDepth 100000
set_option maxHeartbeats 4000000
set_option exponentiation.threshold 20000
namespace Md
open PySem PySem.Spec PyProof.Rows PySem.Calls L2
local macro_rules | `(tactic| walk_at "v") => `(tactic| refine ⟨_, rfl, ?_⟩)
local macro_rules | `(tactic| walk_at "ii") => `(tactic| refine ⟨_, _, rfl, rfl, ?_⟩)
local macro_rules | `(tactic| walk_at "few") => `(tactic| (show _ ≤ sizeLine; rw [sizeLine_eq]; simp))
local macro_rules | `(tactic| walk_at "fls") => `(tactic| (refine ⟨_, rfl, ?_⟩; show (if (!true) = true then _ else _); refine iteF ?_))
/-! ### right values and lists -/
theorem RightV.offL {H H' : Hp} {kd : Str} {x : V} {p : Addr} {ys : List V} (h : RightV H kd x) (hp : H p = some (.lst ys)) (s : Xb p H H') : RightV H' kd x := by
  rcases h with ⟨e, a, q, h, r⟩ | h
  · refine .inl ⟨e, a, q, ?_, r⟩
    rcases h with h | ⟨t, e2, ht, h2⟩
    · exact .inl h
    · exact .inr ⟨t, e2, s t _ (by rintro rfl; rw [hp] at ht; cases ht) ht, h2⟩
  · exact .inr h
theorem dp_pr {K : PySem.W.Frag} {H : Hp} {kd : Str} {x : V} (h : RightV H kd x) : ∃ d, Dp K H x d ∧ SeqAt.shaped d = true := by
  rcases h with ⟨_, p, q, ⟨rfl, _⟩ | ⟨a, rfl, ha, _⟩, _⟩ | ⟨_, z, rfl, hz⟩
  · exact ⟨_, .int p, by unfold SeqAt.shaped; simp [PyData.canLay0, PyData.depth]⟩
  · exact ⟨_, .tup (SqT.of ha) (.cons (.int p) (.cons (.int q) .nil)), by unfold SeqAt.shaped; simp [PyData.canLay0, PyData.canLayAll0, PyData.depth, PyData.depthAll]⟩
  · exact ⟨_, .str z, by unfold SeqAt.shaped; simp [PyData.canLay0, PyData.depth, word_ok hz]⟩
theorem told_ne {K : PySem.W.Frag} {H : Hp} {t u : Addr} {s n : Str} {Q : VK} (h : H t = some (.tup [.str s, .str n, .bl true])) (h2 : H u = some (.tup [.str s, .str n, .bl true])) (hs : PyData.strOk s = true) (hn : PyData.strOk n = true) (q : Q (.bl false) H) : rNeD K (.ref t) (.ref u) H Q := by
  have sh : SeqAt.shaped (.tuple [.str s, .str n, .bool true]) = true := by
    unfold SeqAt.shaped
    simp [PyData.canLay0, PyData.canLayAll0, PyData.depth, PyData.depthAll, hs, hn]
  refine ⟨_, _, .tup (SqT.of h) (.cons (.str s) (.cons (.str n) (.cons (.bl true) .nil))), .tup (SqT.of h2) (.cons (.str s) (.cons (.str n) (.cons (.bl true) .nil))), sh, sh, ?_⟩
  rw [eqv_id sh]
  exact q
/-- all that stands in a turn of the law -/
structure Lw (K : PySem.W.Frag) (A : Ads) (a b o D E F : Addr) (xs : List V) (k1 k2 k3 : Str) (w1 w2 w3 : Addr) (x1 y1 x2 y2 x3 y3 z1 z2 z3 : V) (n : Nat) (H : Hp) : Prop where
  sc : ScrN K H a xs [b]
  hB : Bag n H b
  lay : LayAt A H o n3 [k1, k2, k3]
  gK : H D = some (.lst [.str k1, .str k2, .str k3])
  nD : D ≠ b
  gE : H E = some (.lst [.ref w1, .ref w2, .ref w3])
  g1 : H w1 = some (.lst [x1, y1])
  g2 : H w2 = some (.lst [x2, y2])
  g3 : H w3 = some (.lst [x3, y3])
  r1 : RightV H k1 x1 ∧ RightV H k1 y1
  r2 : RightV H k2 x2 ∧ RightV H k2 y2
  r3 : RightV H k3 x3 ∧ RightV H k3 y3
  gF : H F = some (.lst [z1, z2, z3])
  q1 : WrongW K H [b] k1 z1
  q2 : WrongW K H [b] k2 z2
  q3 : WrongW K H [b] k3 z3
theorem Lw.same {K : PySem.W.Frag} {A : Ads} {a b o D E F : Addr} {xs : List V} {k1 k2 k3 : Str} {w1 w2 w3 : Addr} {x1 y1 x2 y2 x3 y3 z1 z2 z3 : V} {n : Nat} {H H' : Hp} (h : Lw K A a b o D E F xs k1 k2 k3 w1 w2 w3 x1 y1 x2 y2 x3 y3 z1 z2 z3 n H) (s : Same H H') :
    Lw K A a b o D E F xs k1 k2 k3 w1 w2 w3 x1 y1 x2 y2 x3 y3 z1 z2 z3 n H' :=
  ⟨h.sc.same s, h.hB.same s, h.lay.same s, s _ _ h.gK, h.nD, s _ _ h.gE, s _ _ h.g1, s _ _ h.g2, s _ _ h.g3, ⟨h.r1.1.same s, h.r1.2.same s⟩, ⟨h.r2.1.same s, h.r2.2.same s⟩, ⟨h.r3.1.same s, h.r3.2.same s⟩, s _ _ h.gF, h.q1.same s, h.q2.same s, h.q3.same s⟩
theorem lay_fill {A : Ads} {H : Hp} {a : Addr} {ns ks : List Str} (h : LayAt A H a ns ks) : ∃ dx fs, H a = some (.ins A.cLayout dx fs) ∧ fs.lookup ("fill" : Str) = none := by
  obtain ⟨dx, tn, tk, h1, _⟩ := h
  exact ⟨dx, _, h1, rfl⟩
/-! ### the three lists -/
section
variable {K : PySem.W.Frag} {A : Ads} {E : XK} {H : Hp} {b : Addr} {Q : VK}
/-- [_law_of(bag, kinds) for .. in range(3)] -/
theorem kinds_ok {σ : L2.St} {n : Nat} (hσ : σ = [σ.getD 0 none, σ.getD 1 none, some (.ref b), σ.getD 3 none, σ.getD 4 none, σ.getD 5 none, σ.getD 6 none, σ.getD 7 none, σ.getD 8 none, σ.getD 9 none]) (hB : Bag (n + 3) H b)
    (k : ∀ (D : Addr) (k1 k2 k3 : Str) (H' : Hp), H D = none → Xb b H H' → Bag n H' b → (∀ kd ∈ [k1, k2, k3], kd = "number" ∨ kd = "word") → H' D = some (.lst [.str k1, .str k2, .str k3]) → Q (.ref D) H') :
    tLc (iRng1 (tCons (tC (.int 3)) tNil)) (gName 8) tYes (tCall (sp__law_of K A) [] E0 (tCons (tVar 2) (tCons (tLst (tCons (tC (.str "number")) (tCons (tC (.str "word")) tNil))) tNil))) [8] σ H Q := by
  rw [hσ]
  refine ⟨3, rfl, by omega, by omega, fun D hD => ?_⟩
  have nD : D ≠ b := new_ne hB hD
  refine lc_range (lo := 0) (n := 3) (fun i H' => Xb b H H' ∧ Bag (n + 3 - i) H' b ∧ ∃ ks : List Str, ks.length = i ∧ (∀ kd ∈ ks, kd = "number" ∨ kd = "word") ∧ H' D = some (.lst (ks.map V.str)))
    ⟨Xb.of (Same.new hD), hB.same (Same.new hD), [], rfl, (by intro _ z; cases z), upd_same⟩ ?_ ?_
  · rintro i H2 hi ⟨x2, hB2, ks, hlen, hks, hl⟩
    refine ⟨rfl, ?_⟩
    walk_at "v"
    refine ⟨by walk_at "few", fun l nl => ?_⟩
    generalize e3 : L2.upd H2 l _ = H3
    have s3 : Same H2 H3 := by rw [← e3]; exact Same.new nl
    have g3 : H3 l = some (.lst [.str "number", .str "word"]) := by rw [← e3, upd_same]
    refine ⟨b, n + 3 - (i + 1), (hB2.same s3).mono (by omega), .inl ⟨l, _, rfl, g3, new_ne hB2 nl, by show 0 < 2; decide, by show 2 ≤ 1000000; decide, fun j w H4 hj x4 hB4 => ?_⟩⟩
    have hw : ∃ kd : Str, w = .str kd ∧ (kd = "number" ∨ kd = "word") := by
      match j, hj with
      | 0, hj => cases hj; exact ⟨_, rfl, .inl rfl⟩
      | 1, hj => cases hj; exact ⟨_, rfl, .inr rfl⟩
      | j + 2, hj => cases hj
    obtain ⟨kd, rfl, hkd⟩ := hw
    have hl4 := x4 _ _ nD (s3 _ _ hl)
    have X4 : Xb b H H4 := x2.trans ((Xb.of s3).trans x4)
    refine ⟨_, hl4, ?_, X4.over hD, ?_, ks ++ [kd], ?_, fun c hc => ?_, ?_⟩
    · rw [List.length_map, hlen]
      exact Nat.lt_of_lt_of_le (show i < 4 by omega) (by decide)
    · obtain ⟨L, S, C, e, r⟩ := hB4
      exact ⟨L, S, C, by rw [upd_ne (Ne.symm nD)]; exact e, r⟩
    · rw [List.length_append, hlen]; rfl
    · rcases List.mem_append.mp hc with h | h
      · exact hks c h
      · rw [List.mem_singleton.mp h]; exact hkd
    · rw [upd_same]; simp
  · rintro H2 ⟨x2, hB2, ks, hlen, hks, hl⟩
    match ks, hlen with
    | [k1, k2, k3], _ => exact k D k1 k2 k3 H2 hD x2 (hB2.mono (by omega)) hks hl
/-- [_law_worths(bag, kind) for kind in kinds] -/
theorem worths_ok {σ : L2.St} {n : Nat} {D : Addr} {k1 k2 k3 : Str} (hσ : σ = [σ.getD 0 none, σ.getD 1 none, some (.ref b), some (.ref D), σ.getD 4 none, σ.getD 5 none, σ.getD 6 none, σ.getD 7 none, σ.getD 8 none, σ.getD 9 none]) (hB : Bag (n + 54) H b)
    (gK : H D = some (.lst [.str k1, .str k2, .str k3])) (nD : D ≠ b) (hks : ∀ kd ∈ [k1, k2, k3], kd = "number" ∨ kd = "word")
    (k : ∀ E w1 w2 w3 x1 y1 x2 y2 x3 y3 H', H E = none → Xb b H H' → Bag n H' b → H' E = some (.lst [.ref w1, .ref w2, .ref w3]) → H' w1 = some (.lst [x1, y1]) → H' w2 = some (.lst [x2, y2]) → H' w3 = some (.lst [x3, y3]) →
      w1 ≠ b → w2 ≠ b → w3 ≠ b → (RightV H' k1 x1 ∧ RightV H' k1 y1) → (RightV H' k2 x2 ∧ RightV H' k2 y2) → (RightV H' k3 x3 ∧ RightV H' k3 y3) → Q (.ref E) H') :
    tLc (iList K (tVar 3)) (gName 9) tYes (tCall (sp__law_worths K A) [] E0 (tCons (tVar 2) (tCons (tVar 9) tNil))) [9] σ H Q := by
  rw [hσ]
  refine ⟨_, rfl, ?_⟩
  refine ⟨D, rfl, ⟨_, SqL.of gK⟩, fun W hW => ?_⟩
  have nW : W ≠ b := new_ne hB hW
  refine lc_list (K := K) (a := D) (xs := [.str k1, .str k2, .str k3]) (fun i H' => Xb b H H' ∧ Bag (n + 54 - 18 * i) H' b ∧ ∃ ws : List (Addr × V × V), ws.length = i ∧ H' W = some (.lst (ws.map fun w => V.ref w.1)) ∧
      ∀ (j : Nat) (w : Addr × V × V) (kd : Str), ws[j]? = some w → [k1, k2, k3][j]? = some kd → w.1 ≠ b ∧ w.1 ≠ W ∧ H' w.1 = some (.lst [w.2.1, w.2.2]) ∧ RightV H' kd w.2.1 ∧ RightV H' kd w.2.2)
    ⟨Xb.of (Same.new hW), hB.same (Same.new hW), [], rfl, upd_same, (by intro j w kd e; cases e)⟩ (fun i H' _ c => SqL.of (c.1 _ _ nD gK)) ?_ ?_
  · rintro i q H2 hq ⟨x2, hB2, ws, hlen, hl, hw⟩
    have hi : i < 3 := (List.getElem?_eq_some_iff.mp hq).1
    obtain ⟨kd, ekd, rfl⟩ : ∃ kd, [k1, k2, k3][i]? = some kd ∧ q = .str kd := by
      match i, hq with
      | 0, hq => cases hq; exact ⟨_, rfl, rfl⟩
      | 1, hq => cases hq; exact ⟨_, rfl, rfl⟩
      | 2, hq => cases hq; exact ⟨_, rfl, rfl⟩
    refine ⟨rfl, ?_⟩
    walk_at "v"; walk_at "v"
    refine ⟨b, kd, n + 54 - 18 * (i + 1), rfl, hks kd (List.mem_of_getElem? ekd), hB2.mono (by omega), fun l x y H3 x3 hl0 gl rx ry hB3 => ?_⟩
    have hl3 := x3 _ _ nW hl
    have nl : l ≠ W := by rintro rfl; rw [hl] at hl0; cases hl0
    have nb : l ≠ b := new_ne hB2 hl0
    refine ⟨_, hl3, ?_, (x2.trans x3).over hW, ?_, ws ++ [(l, x, y)], ?_, ?_, fun j w kd' ew ek => ?_⟩
    · rw [List.length_map, hlen]
      exact Nat.lt_of_lt_of_le (show i < 4 by omega) (by decide)
    · obtain ⟨L, S, C, e, r⟩ := hB3
      exact ⟨L, S, C, by rw [upd_ne (Ne.symm nW)]; exact e, r⟩
    · rw [List.length_append, hlen]; rfl
    · rw [upd_same]; simp
    · have x4 : Xb W H3 (L2.upd H3 W (.lst (ws.map (fun w => V.ref w.1) ++ [V.ref l]))) := Xb.upd1
      rcases Nat.lt_or_ge j i with hji | hji
      · rw [List.getElem?_append_left (by rw [hlen]; exact hji)] at ew
        obtain ⟨h1, h2, h3, h4, h5⟩ := hw j w kd' ew ek
        exact ⟨h1, h2, x4 _ _ h2 (x3 _ _ h1 h3), (h4.xb hB2 x3).offL hl3 x4, (h5.xb hB2 x3).offL hl3 x4⟩
      · have hj : j = i := by
          have := (List.getElem?_eq_some_iff.mp ew).1
          rw [List.length_append, hlen] at this
          have h1 : [(l, x, y)].length = 1 := rfl
          omega
        subst hj
        rw [List.getElem?_append_right (by rw [hlen]; exact Nat.le_refl _), hlen, Nat.sub_self] at ew
        cases ew
        rw [ekd] at ek
        cases ek
        exact ⟨nb, nl, x4 _ _ nl gl, rx.offL hl3 x4, ry.offL hl3 x4⟩
  · rintro H2 ⟨x2, hB2, ws, hlen, hl, hw⟩
    match ws, hlen with
    | [(w1, x1, y1), (w2, x2', y2), (w3, x3, y3)], _ =>
      obtain ⟨a1, a2, a3, a4, a5⟩ := hw 0 _ _ rfl rfl
      obtain ⟨b1, b2, b3, b4, b5⟩ := hw 1 _ _ rfl rfl
      obtain ⟨c1, c2, c3, c4, c5⟩ := hw 2 _ _ rfl rfl
      exact k W w1 w2 w3 x1 y1 x2' y2 x3 y3 H2 hW x2 (hB2.mono (by show n ≤ n + 54 - 18 * 3; omega)) hl a3 b3 c3 a1 b1 c1 ⟨a4, a5⟩ ⟨b4, b5⟩ ⟨c4, c5⟩
/-- [_law_wrong(bag, kind) for kind in kinds] -/
theorem wrongs_ok {σ : L2.St} {n : Nat} {D : Addr} {k1 k2 k3 : Str} (hσ : σ = [σ.getD 0 none, σ.getD 1 none, some (.ref b), some (.ref D), σ.getD 4 none, σ.getD 5 none, σ.getD 6 none, σ.getD 7 none, σ.getD 8 none, σ.getD 9 none]) (hB : Bag (n + 3) H b)
    (gK : H D = some (.lst [.str k1, .str k2, .str k3])) (nD : D ≠ b) (hks : ∀ kd ∈ [k1, k2, k3], kd = "number" ∨ kd = "word")
    (k : ∀ F z1 z2 z3 H', H F = none → Xb b H H' → Bag n H' b → H' F = some (.lst [z1, z2, z3]) → WrongW K H' [b] k1 z1 → WrongW K H' [b] k2 z2 → WrongW K H' [b] k3 z3 → Q (.ref F) H') :
    tLc (iList K (tVar 3)) (gName 9) tYes (tCall (sp__law_wrong K A) [] E0 (tCons (tVar 2) (tCons (tVar 9) tNil))) [9] σ H Q := by
  rw [hσ]
  refine ⟨_, rfl, ?_⟩
  refine ⟨D, rfl, ⟨_, SqL.of gK⟩, fun W hW => ?_⟩
  have nW : W ≠ b := new_ne hB hW
  refine lc_list (K := K) (a := D) (xs := [.str k1, .str k2, .str k3]) (fun i H' => Xb b H H' ∧ Bag (n + 3 - i) H' b ∧ ∃ ws : List V, ws.length = i ∧ H' W = some (.lst ws) ∧ ∀ (j : Nat) (w : V) (kd : Str), ws[j]? = some w → [k1, k2, k3][j]? = some kd → WrongW K H' [b, W] kd w)
    ⟨Xb.of (Same.new hW), hB.same (Same.new hW), [], rfl, upd_same, (by intro j w kd e; cases e)⟩ (fun i H' _ c => SqL.of (c.1 _ _ nD gK)) ?_ ?_
  · rintro i q H2 hq ⟨x2, hB2, ws, hlen, hl, hw⟩
    have hi : i < 3 := (List.getElem?_eq_some_iff.mp hq).1
    obtain ⟨kd, ekd, rfl⟩ : ∃ kd, [k1, k2, k3][i]? = some kd ∧ q = .str kd := by
      match i, hq with
      | 0, hq => cases hq; exact ⟨_, rfl, rfl⟩
      | 1, hq => cases hq; exact ⟨_, rfl, rfl⟩
      | 2, hq => cases hq; exact ⟨_, rfl, rfl⟩
    refine ⟨rfl, ?_⟩
    walk_at "v"; walk_at "v"
    refine ⟨b, [b, W], kd, n + 3 - (i + 1), rfl, hks kd (List.mem_of_getElem? ekd), hB2.mono (by omega), by simp, fun f hf => ?_, fun w H3 x3 hwr hB3 => ?_⟩
    · rcases List.mem_cons.mp hf with rfl | hf
      · obtain ⟨L, e⟩ := hB2.at_
        exact ⟨_, e⟩
      · rw [List.mem_singleton.mp hf]
        exact ⟨_, hl⟩
    have hl3 := x3 _ _ nW hl
    have x4 : Xb W H3 (L2.upd H3 W (.lst (ws ++ [w]))) := Xb.upd1
    refine ⟨_, hl3, ?_, (x2.trans x3).over hW, ?_, ws ++ [w], ?_, upd_same, fun j w' kd' ew ek => ?_⟩
    · rw [hlen]
      exact Nat.lt_of_lt_of_le (show i < 4 by omega) (by decide)
    · obtain ⟨L, S, C, e, r⟩ := hB3
      exact ⟨L, S, C, by rw [upd_ne (Ne.symm nW)]; exact e, r⟩
    · rw [List.length_append, hlen]; rfl
    · rcases Nat.lt_or_ge j i with hji | hji
      · rw [List.getElem?_append_left (by rw [hlen]; exact hji)] at ew
        exact ((hw j w' kd' ew ek).xb x3 (by simp)).xb x4 (by simp)
      · have hj : j = i := by
          have := (List.getElem?_eq_some_iff.mp ew).1
          rw [List.length_append, hlen] at this
          have h1 : [w].length = 1 := rfl
          omega
        subst hj
        rw [List.getElem?_append_right (by rw [hlen]; exact Nat.le_refl _), hlen, Nat.sub_self] at ew
        cases ew
        rw [ekd] at ek
        cases ek
        exact hwr.xb x4 (by simp)
  · rintro H2 ⟨x2, hB2, ws, hlen, hl, hw⟩
    have less : ∀ {kd : Str} {w : V}, WrongW K H2 [b, W] kd w → WrongW K H2 [b] kd w := fun h => ⟨h.1, fun H3 s => h.2 H3 fun q o hq c e => s q o (fun z => hq (by rw [List.mem_singleton.mp z]; simp)) c e⟩
    match ws, hlen with
    | [z1, z2, z3], _ => exact k W z1 z2 z3 H2 hW x2 (hB2.mono (by show n ≤ n + 3 - 3; omega)) hl (less (hw 0 _ _ rfl rfl)) (less (hw 1 _ _ rfl rfl)) (less (hw 2 _ _ rfl rfl))
end
end Md

set_option Elab.async false
set_option linter.all false
set_option maxRecDepth 100000
set_option maxHeartbeats 4000000
set_option exponentiation.threshold 20000
namespace Md
open PySem PySem.Spec PyProof.Rows PySem.Calls L2
local macro_rules | `(tactic| walk_at "v") => `(tactic| refine ⟨_, rfl, ?_⟩)
local macro_rules | `(tactic| walk_at "kx") => `(tactic| simp [valV, putK, dropK, mergeK, kwD, fillK, k_ka_kb, k_ka_kc, k_ka_kd, k_ka_ke, k_kb_ka, k_kb_kc, k_kb_kd, k_kb_ke, k_kc_ka, k_kc_kb, k_kc_kd, k_kc_ke, k_kd_ka, k_kd_kb, k_kd_kc, k_kd_ke, k_ke_ka, k_ke_kb, k_ke_kc, k_ke_kd])
local macro_rules | `(tactic| walk_at "ii") => `(tactic| refine ⟨_, _, rfl, rfl, ?_⟩)
local macro_rules | `(tactic| walk_at "few") => `(tactic| (show _ ≤ sizeLine; rw [sizeLine_eq]; simp))
local macro_rules | `(tactic| walk_at "fls") => `(tactic| (refine ⟨_, rfl, ?_⟩; show (if (!true) = true then _ else _); refine iteF ?_))
theorem gName_to {i : Nat} {x : V} {σ : L2.St} {H : Hp} {D : L2.St → Hp → Prop} (h : D (σ.set i (some x)) H) : gName i x σ H D := h
theorem nx_to {f : L2.St → Hp → Prop} {r : VK} {b c : L2.St → Hp → Prop} {σ : L2.St} {H : Hp} (h : f σ H) : ({ nx := f, rt := r, bk := b, ct := c } : Ends).nx σ H := h
theorem seq_asg {t : TE} {g : TG} {b : TS} {D : Ends} {σ : L2.St} {H : Hp} (h : t σ H fun v H' => g v σ H' fun σ' H'' => b D σ' H'') : tSeq (tAsg t g) b D σ H := h
theorem str_k : ∀ s ∈ (["field", "value", "ka", "kb", "kc", "kd", "ke"] : List Str), PyData.strOk s = true := by decide +kernel
def t_law (K : PySem.W.Frag) (A : Ads) (E : XK) : TS :=
    (tSeq (tFor (iRng1 (tCons (tCB rMax2 (tCons (tC (.int 1)) (tCons (tCB rMin2 (tCons (tC (.int 6)) (tCons (tCB (rLen K) (tCons (tVar 0) tNil)) tNil))) tNil))) tNil)) (gName 1) (tSeq (tAsg (tCall (sp__law_bag K A) [] E0 (tCons (tVar 0) (tCons (tVar 1) tNil))) (gName 2))
    (tSeq (tAsg (tLc (iRng1 (tCons (tC (.int 3)) tNil)) (gName 8) tYes (tCall (sp__law_of K A) [] E0 (tCons (tVar 2) (tCons (tLst (tCons (tC (.str "number")) (tCons (tC (.str "word")) tNil))) tNil))) [8]) (gName 3))
    (tSeq (tAsg (tMake A.cLayout (sp_Layout___init__ K A) [] E0 (tCons (tLst (tCons (tTup (tCons (tC (.str "ka")) (tCons (tOp (rIx K) (tVar 3) (tC (.int 0))) tNil))) (tCons (tTup (tCons (tC (.str "kb")) (tCons (tOp (rIx K) (tVar 3) (tC (.int 1))) tNil))) (tCons (tTup (tCons (tC (.str "kc")) (tCons (tOp (rIx K) (tVar 3) (tC (.int 2))) tNil))) tNil)))) tNil)) (gName 4))
    (tSeq (tAsg (tLc (iList K (tVar 3)) (gName 9) tYes (tCall (sp__law_worths K A) [] E0 (tCons (tVar 2) (tCons (tVar 9) tNil))) [9]) (gName 5))
    (tSeq (tAsg (tLc (iList K (tVar 3)) (gName 9) tYes (tCall (sp__law_wrong K A) [] E0 (tCons (tVar 2) (tCons (tVar 9) tNil))) [9]) (gName 6))
    (tSeq (tIfS (tOr (tNot (tB (tCall (sp__law_is_new K A) [] E0 (tCons (tVar 4) (tCons (tOp (rIx K) (tOp (rIx K) (tVar 5) (tC (.int 0))) (tC (.int 0))) (tCons (tOp (rIx K) (tOp (rIx K) (tVar 5) (tC (.int 1))) (tC (.int 0))) tNil)))))) (tTest (tOp (rNeD K) (tDGet (tMethKw A.cLayout "fill" ["kc"] (sp_Layout_fill K A) (fun _ => E0) (tVar 4) (tCons (tOp (rIx K) (tOp (rIx K) (tVar 5) (tC (.int 2))) (tC (.int 1))) tNil)) (tC (.str "kc"))) (tOp (rIx K) (tOp (rIx K) (tVar 5) (tC (.int 2))) (tC (.int 1)))))) (tRet (tC (.bl false))) tNext)
    (tSeq (tIfS (tTest (tOp (rNeD K) (tCall (sp__law_said K A) [] E0 (tCons (tVar 4) (tCons (tC (.int 0)) (tCons (tOp (rIx K) (tVar 6) (tC (.int 1))) (tCons (tOp (rIx K) (tVar 6) (tC (.int 2))) tNil))))) (tTup (tCons (tC (.str "value")) (tCons (tC (.str "kb")) (tCons (tC (.bl true)) tNil)))))) (tRet (tC (.bl false))) tNext)
    (tSeq (tIfS (tTest (tOp (rNeD K) (tCall (sp__law_said K A) [] E0 (tCons (tVar 4) (tCons (tC (.int 0)) (tCons (tOp (rIx K) (tOp (rIx K) (tVar 5) (tC (.int 1))) (tC (.int 1))) (tCons (tOp (rIx K) (tVar 6) (tC (.int 2))) tNil))))) (tTup (tCons (tC (.str "value")) (tCons (tC (.str "kc")) (tCons (tC (.bl true)) tNil)))))) (tRet (tC (.bl false))) tNext)
    (tSeq (tIfS (tTest (tOp (rNeD K) (tCall (sp__law_said K A) [] E0 (tCons (tVar 4) (tCons (tC (.int 1)) (tCons (tOp (rIx K) (tVar 6) (tC (.int 0))) (tCons (tOp (rIx K) (tOp (rIx K) (tVar 5) (tC (.int 0))) (tC (.int 0))) tNil))))) (tTup (tCons (tC (.str "field")) (tCons (tC (.str "kd")) (tCons (tC (.bl true)) tNil)))))) (tRet (tC (.bl false))) tNext)
    (tSeq (tIfS (tTest (tOp (rNeD K) (tCall (sp__law_said K A) [] E0 (tCons (tVar 4) (tCons (tC (.int 2)) (tCons (tOp (rIx K) (tOp (rIx K) (tVar 5) (tC (.int 0))) (tC (.int 0))) (tCons (tOp (rIx K) (tVar 6) (tC (.int 0))) tNil))))) (tTup (tCons (tC (.str "field")) (tCons (tC (.str "kd")) (tCons (tC (.bl true)) tNil)))))) (tRet (tC (.bl false))) tNext)
    (tSeq (tIfS (tTest (tOp (rNeD K) (tCall (sp__law_said K A) [] E0 (tCons (tVar 4) (tCons (tC (.int 4)) (tCons (tOp (rIx K) (tVar 6) (tC (.int 0))) (tCons (tOp (rIx K) (tOp (rIx K) (tVar 5) (tC (.int 0))) (tC (.int 0))) tNil))))) (tTup (tCons (tC (.str "field")) (tCons (tC (.str "ke")) (tCons (tC (.bl true)) tNil)))))) (tRet (tC (.bl false))) tNext)
    (tSeq (tIfS (tTest (tOp (rNeD K) (tCall (sp__law_said K A) [] E0 (tCons (tVar 4) (tCons (tC (.int 5)) (tCons (tOp (rIx K) (tVar 6) (tC (.int 1))) (tCons (tC .non) tNil))))) (tTup (tCons (tC (.str "field")) (tCons (tC (.str "kd")) (tCons (tC (.bl true)) tNil)))))) (tRet (tC (.bl false))) tNext)
    (tSeq (tIfS (tOr (tTest (tOp (rNeD K) (tCall (sp__law_said K A) [] E0 (tCons (tVar 4) (tCons (tC (.int 3)) (tCons (tOp (rIx K) (tVar 6) (tC (.int 1))) (tCons (tC .non) tNil))))) (tTup (tCons (tC (.str "value")) (tCons (tC (.str "kb")) (tCons (tC (.bl true)) tNil)))))) (tTest (tOp rNotN (tCall (sp__law_said K A) [] E0 (tCons (tVar 4) (tCons (tC (.int 3)) (tCons (tC .non) (tCons (tC .non) tNil))))) (tC .non)))) (tRet (tC (.bl false))) tNext)
    (tSeq (tAsg (tDisp (((tC (.str "ka")), (tOp (rIx K) (tOp (rIx K) (tVar 5) (tC (.int 0))) (tC (.int 1)))) :: (((tC (.str "kb")), (tOp (rIx K) (tOp (rIx K) (tVar 5) (tC (.int 1))) (tC (.int 1)))) :: (((tC (.str "kc")), (tOp (rIx K) (tOp (rIx K) (tVar 5) (tC (.int 2))) (tC (.int 0)))) :: [])))) (gName 7))
    (tIfS (tNot (tB (tCall (sp__law_takes K A) [] E0 (tCons (tVar 2) (tCons (tVar 4) (tCons (tVar 3) (tCons (tVar 7) tNil))))))) (tRet (tC (.bl false))) tNext))))))))))))))))
    (tRet (tC (.bl true))))
def n_law : List Str := ["_law_script", "_law_at", "_law_bag_here", "_law_kinds", "_law_layout", "_law_worths_here", "_law_wrong_here", "_law_filling", "_law_turn", "_law_kind"]
def sp_law (K : PySem.W.Frag) : Sp := fun vs H Q _ => ∃ (a : Addr) (ns : List Int), vs = [.ref a] ∧ SqL K H a (ns.map V.int) ∧ ns.length ≤ 63 ∧ ∀ H', Q (.bl true) H'
theorem len_law {K : PySem.W.Frag} {vs : List V} {H : Hp} {Q : VK} {E : XK} (h : sp_law K vs H Q E) : vs.length = 1 := by
  obtain ⟨x, p, rfl, _⟩ := h
  rfl
theorem pure_law {K : PySem.W.Frag} {A : Ads} {vs : List V} {H : Hp} {Q : VK} {E : XK} (h : sp_law K vs H Q E) : t_law K A E { nx := fun _ H' => Q .non H', rt := Q } (start n_law vs) H := by
  obtain ⟨a, ns, rfl, hS2, hn, k⟩ := h
  walk_at "v"
  refine ⟨_, _, rfl, Or.inl ⟨_, hS2, rfl⟩, ?_⟩
  refine ⟨_, _, rfl, ?_⟩
  refine ⟨_, _, rfl, ?_⟩
  have hl : (ns.map V.int).length = ns.length := List.length_map ..
  obtain ⟨m, em, hm⟩ : ∃ m : Int, m = (if (if ((ns.map V.int).length : Int) < 6 then ((ns.map V.int).length : Int) else 6) > 1 then (if ((ns.map V.int).length : Int) < 6 then ((ns.map V.int).length : Int) else 6) else 1) ∧ m ≤ 6 := ⟨_, rfl, by split <;> split <;> omega⟩
  rw [← em]
  refine ⟨m, rfl, by omega, by omega, ?_⟩
  refine for_range (lo := 0) (n := m.toNat) (fun i σ H' => SqL K H' a (ns.map V.int) ∧ ∃ v1 v2 v3 v4 v5 v6 v7 v8 v9, σ = [some (.ref a), v1, v2, v3, v4, v5, v6, v7, v8, v9]) ⟨hS2, _, _, _, _, _, _, _, _, _, rfl⟩ ?_ ?_
  rotate_left
  · rintro σ H' ⟨_, _, _, _, _, _, _, _, _, _, _, rfl⟩
    exact k H'
  rintro i σ H3 hi ⟨hS3, v1, v2, v3, v4, v5, v6, v7, v8, v9, rfl⟩
  walk_at "v"; walk_at "v"
  refine ⟨a, ns, 0 + i, rfl, hS3, hn, by omega, by omega, fun b H4 hb0 s4 hB => ?_⟩
  have sc : ScrN K H4 a (ns.map V.int) [b] := ((show ScrN K H3 a (ns.map V.int) [] from ⟨hS3, fun h => nomatch h⟩).new hb0).same s4
  have hB4 : Bag (60 + 3 + 0 + 3) H4 b := hB.mono (by decide)
  clear hB hS3 s4 hb0
  -- kinds
  refine gName_to ?_
  refine nx_to ?_
  refine seq_asg ?_
  refine kinds_ok (n := 63) (by rfl) hB4 fun D k1 k2 k3 H5 hD x5 hB5 hks gK => ?_
  have sc5 := sc.xb x5
  have nD : D ≠ b := new_ne hB4 hD
  clear sc hB4 x5 hD
  -- the layout
  walk_at "v"
  refine .inl ⟨D, _, 0, .str k1, rfl, rfl, SqL.of gK, rfl, ?_⟩
  refine ⟨by walk_at "few", fun t1 nt1 => ?_⟩
  generalize e6 : L2.upd H5 t1 _ = H6
  have s6 : Same H5 H6 := by rw [← e6]; exact Same.new nt1
  have g6 : H6 t1 = some (.tup [.str "ka", .str k1]) := by rw [← e6, upd_same]
  walk_at "v"
  refine .inl ⟨D, _, 1, .str k2, rfl, rfl, SqL.of (s6 _ _ gK), rfl, ?_⟩
  refine ⟨by walk_at "few", fun t2 nt2 => ?_⟩
  generalize e7 : L2.upd H6 t2 _ = H7
  have s7 : Same H6 H7 := by rw [← e7]; exact Same.new nt2
  have g7 : H7 t2 = some (.tup [.str "kb", .str k2]) := by rw [← e7, upd_same]
  walk_at "v"
  refine .inl ⟨D, _, 2, .str k3, rfl, rfl, SqL.of (s7 _ _ (s6 _ _ gK)), rfl, ?_⟩
  refine ⟨by walk_at "few", fun t3 nt3 => ?_⟩
  generalize e8 : L2.upd H7 t3 _ = H8
  have s8 : Same H7 H8 := by rw [← e8]; exact Same.new nt3
  have g8 : H8 t3 = some (.tup [.str "kc", .str k3]) := by rw [← e8, upd_same]
  refine ⟨by walk_at "few", fun l nl => ?_⟩
  generalize e9 : L2.upd H8 l _ = H9
  have s9 : Same H8 H9 := by rw [← e9]; exact Same.new nl
  have g9 : H9 l = some (.lst (([(t1, "ka", k1), (t2, "kb", k2), (t3, "kc", k3)] : List (Addr × Str × Str)).map fun g => V.ref g.1)) := by rw [← e9, upd_same]; rfl
  have hF : FsOk H9 [(t1, "ka", k1), (t2, "kb", k2), (t3, "kc", k3)] := by
    refine ⟨fun g hg => ?_, (show (["ka", "kb", "kc"] : List Str).Nodup by decide)⟩
    rcases List.mem_cons.mp hg with rfl | hg
    · exact ⟨s9 _ _ (s8 _ _ (s7 _ _ g6)), (show isWord "ka" = true by decide +kernel), (show ("ka" : Str) ∉ kRES by decide +kernel), hks k1 (by simp)⟩
    rcases List.mem_cons.mp hg with rfl | hg
    · exact ⟨s9 _ _ (s8 _ _ g7), (show isWord "kb" = true by decide +kernel), (show ("kb" : Str) ∉ kRES by decide +kernel), hks k2 (by simp)⟩
    rcases List.mem_cons.mp hg with rfl | hg
    · exact ⟨s9 _ _ g8, (show isWord "kc" = true by decide +kernel), (show ("kc" : Str) ∉ kRES by decide +kernel), hks k3 (by simp)⟩
    cases hg
  refine fun o dxo ho0 hdo hno => mk_lay (gs := [(t1, "ka", k1), (t2, "kb", k2), (t3, "kc", k3)]) g9 hF (by show 1 ≤ 3; decide) (by show 3 ≤ 5; decide) ho0 hdo hno fun HA sA lay => ⟨rfl, ?_⟩
  have S := Same.trans s6 (Same.trans s7 (Same.trans s8 (Same.trans s9 sA)))
  have lay : LayAt A HA o n3 [k1, k2, k3] := lay
  have scA := sc5.same S
  have hBA := hB5.same S
  have gKA := S _ _ gK
  clear e6 e7 e8 e9 s6 s7 s8 s9 sA S g6 g7 g8 g9 hF ho0 hdo hno nt1 nt2 nt3 nl sc5 hB5 gK
  -- values
  refine gName_to ?_
  refine nx_to ?_
  refine seq_asg ?_
  refine worths_ok (n := 9) (by rfl) hBA gKA nD hks fun W w1 w2 w3 x1 y1 x2 y2 x3 y3 HB hW xB hBB gE h1 h2 h3 n1 n2 n3' r1 r2 r3 => ?_
  have nW : W ≠ b := new_ne hBA hW
  have layB := lay.bag hBA xB
  have gKB := xB _ _ nD gKA
  have scB := scA.xb xB
  refine gName_to ?_
  refine seq_asg ?_
  refine wrongs_ok (n := 6) (by rfl) hBB gKB nD hks fun F z1 z2 z3 HC hF0 xC hBC gF q1 q2 q3 => ?_
  have T : Lw K A a b o D W F (ns.map V.int) k1 k2 k3 w1 w2 w3 x1 y1 x2 y2 x3 y3 z1 z2 z3 6 HC :=
    ⟨scB.xb xC, hBC, layB.bag hBB xC, xC _ _ nD gKB, nD, xC _ _ nW gE, xC _ _ n1 h1, xC _ _ n2 h2, xC _ _ n3' h3, ⟨r1.1.xb hBB xC, r1.2.xb hBB xC⟩, ⟨r2.1.xb hBB xC, r2.2.xb hBB xC⟩, ⟨r3.1.xb hBB xC, r3.2.xb hBB xC⟩, gF, q1, q2, q3⟩
  clear scB scA hBA hBB gKA gKB gE h1 h2 h3 r1 r2 r3 gF q1 q2 q3 xB xC hW hF0 lay layB hBC n1 n2 n3' nW nD
  -- a new one each time
  walk_at "v"; walk_at "v"
  refine .inl ⟨W, _, 0, .ref w1, rfl, rfl, SqL.of T.gE, rfl, ?_⟩
  refine .inl ⟨w1, _, 0, x1, rfl, rfl, SqL.of T.g1, rfl, ?_⟩
  walk_at "v"
  refine .inl ⟨W, _, 1, .ref w2, rfl, rfl, SqL.of T.gE, rfl, ?_⟩
  refine .inl ⟨w2, _, 0, x2, rfl, rfl, SqL.of T.g2, rfl, ?_⟩
  refine ⟨o, k1, k2, k3, x1, x2, rfl, T.lay, T.r1.1, T.r2.1, fun H1 s1 => ?_⟩
  refine ⟨_, rfl, ?_⟩
  show (if (!true) = true then _ else _)
  refine iteF ?_
  have T := T.same s1
  clear s1
  obtain ⟨dx, fs, hi', hl'⟩ := lay_fill T.lay
  walk_at "v"
  refine ⟨o, dx, fs, rfl, hi', hl', ?_⟩
  walk_at "v"
  refine .inl ⟨W, _, 2, .ref w3, rfl, rfl, SqL.of T.gE, rfl, ?_⟩
  refine .inl ⟨w3, _, 1, y3, rfl, rfl, SqL.of T.g3, rfl, ?_⟩
  refine ⟨rfl, fun d nd => ?_⟩
  have sd := Same.new (o := .dK (kwD ["kc"] [y3])) nd
  refine ⟨o, d, n3, _, ["kc"], _, rfl, T.lay.same sd, upd_same, rfl, keys_sub (by decide), .inr ⟨by decide, 3, by decide, upto3 (holdA (.inl ⟨rfl, by walk_at "kx"⟩)) (holdBb (.inl ⟨rfl, by walk_at "kx"⟩)) (holdC (.inr ⟨y3, by walk_at "kx", (T.r3.2.same sd).hold⟩)),
    .inr ⟨rfl, fun p H2 np s2 hp => ?_⟩⟩⟩
  rw [fill_f3 (x := .non) (y := .non) (z := y3) (by walk_at "kx") (by walk_at "kx") (by walk_at "kx")] at hp
  have T2 := T.same (Same.trans sd s2)
  refine ⟨p, y3, rfl, by rw [← f3_c (x := .non) (y := .non) (z := y3)]; exact DGet.k (k := .inr "kc") hp, ?_⟩
  walk_at "v"
  refine .inl ⟨W, _, 2, .ref w3, rfl, rfl, SqL.of T2.gE, rfl, ?_⟩
  refine .inl ⟨w3, _, 1, y3, rfl, rfl, SqL.of T2.g3, rfl, ?_⟩
  obtain ⟨dd, hd1, hd2⟩ := dp_pr (K := K) T2.r3.2
  refine ⟨dd, dd, hd1, hd1, hd2, hd2, ?_⟩
  rw [eqv_id hd2]
  refine ⟨_, rfl, ?_⟩
  refine iteF ?_
  clear hd1 hd2 sd s2 hp np nd T hi' hl'
  have T := T2
  clear T2
  -- what a wrong call says
  walk_at "v"
  walk_at "v"
  refine .inl ⟨F, _, 1, z2, rfl, rfl, SqL.of T.gF, rfl, ?_⟩
  walk_at "v"
  refine .inl ⟨F, _, 2, z3, rfl, rfl, SqL.of T.gF, rfl, ?_⟩
  refine ⟨o, k1, k2, k3, 0, z2, z3, valueS "kb", rfl, T.lay, .inr (.inr (.inr (.inr (.inl ⟨rfl, T.q2.1, T.q2.now, rfl⟩)))), fun t H30 s1 ht => ?_⟩
  refine ⟨by walk_at "few", fun u nu => ?_⟩
  refine told_ne (Same.new nu _ _ ht) upd_same (str_k _ (by decide)) (str_k _ (by decide)) ?_
  refine ⟨_, rfl, ?_⟩
  refine iteF ?_
  have T := T.same (Same.trans s1 (Same.new (o := .tup [.str "value", .str "kb", .bl true]) nu))
  walk_at "v"
  walk_at "v"
  refine .inl ⟨W, _, 1, .ref w2, rfl, rfl, SqL.of T.gE, rfl, ?_⟩
  refine .inl ⟨w2, _, 1, y2, rfl, rfl, SqL.of T.g2, rfl, ?_⟩
  walk_at "v"
  refine .inl ⟨F, _, 2, z3, rfl, rfl, SqL.of T.gF, rfl, ?_⟩
  refine ⟨o, k1, k2, k3, 0, y2, z3, valueS "kc", rfl, T.lay, .inr (.inr (.inr (.inr (.inr (.inl ⟨rfl, T.r2.2.non, T.r2.2.val, T.q3.1, T.q3.now, rfl⟩))))), fun t H31 s1 ht => ?_⟩
  refine ⟨by walk_at "few", fun u nu => ?_⟩
  refine told_ne (Same.new nu _ _ ht) upd_same (str_k _ (by decide)) (str_k _ (by decide)) ?_
  refine ⟨_, rfl, ?_⟩
  refine iteF ?_
  have T := T.same (Same.trans s1 (Same.new (o := .tup [.str "value", .str "kc", .bl true]) nu))
  walk_at "v"
  walk_at "v"
  refine .inl ⟨F, _, 0, z1, rfl, rfl, SqL.of T.gF, rfl, ?_⟩
  walk_at "v"
  refine .inl ⟨W, _, 0, .ref w1, rfl, rfl, SqL.of T.gE, rfl, ?_⟩
  refine .inl ⟨w1, _, 0, x1, rfl, rfl, SqL.of T.g1, rfl, ?_⟩
  refine ⟨o, k1, k2, k3, 1, z1, x1, fieldS "kd", rfl, T.lay, .inl ⟨rfl, rfl⟩, fun t H32 s1 ht => ?_⟩
  refine ⟨by walk_at "few", fun u nu => ?_⟩
  refine told_ne (Same.new nu _ _ ht) upd_same (str_k _ (by decide)) (str_k _ (by decide)) ?_
  refine ⟨_, rfl, ?_⟩
  refine iteF ?_
  have T := T.same (Same.trans s1 (Same.new (o := .tup [.str "field", .str "kd", .bl true]) nu))
  walk_at "v"
  walk_at "v"
  refine .inl ⟨W, _, 0, .ref w1, rfl, rfl, SqL.of T.gE, rfl, ?_⟩
  refine .inl ⟨w1, _, 0, x1, rfl, rfl, SqL.of T.g1, rfl, ?_⟩
  walk_at "v"
  refine .inl ⟨F, _, 0, z1, rfl, rfl, SqL.of T.gF, rfl, ?_⟩
  refine ⟨o, k1, k2, k3, 2, x1, z1, fieldS "kd", rfl, T.lay, .inr (.inl ⟨rfl, rfl⟩), fun t H33 s1 ht => ?_⟩
  refine ⟨by walk_at "few", fun u nu => ?_⟩
  refine told_ne (Same.new nu _ _ ht) upd_same (str_k _ (by decide)) (str_k _ (by decide)) ?_
  refine ⟨_, rfl, ?_⟩
  refine iteF ?_
  have T := T.same (Same.trans s1 (Same.new (o := .tup [.str "field", .str "kd", .bl true]) nu))
  walk_at "v"
  walk_at "v"
  refine .inl ⟨F, _, 0, z1, rfl, rfl, SqL.of T.gF, rfl, ?_⟩
  walk_at "v"
  refine .inl ⟨W, _, 0, .ref w1, rfl, rfl, SqL.of T.gE, rfl, ?_⟩
  refine .inl ⟨w1, _, 0, x1, rfl, rfl, SqL.of T.g1, rfl, ?_⟩
  refine ⟨o, k1, k2, k3, 4, z1, x1, fieldS "ke", rfl, T.lay, .inr (.inr (.inl ⟨rfl, rfl⟩)), fun t H34 s1 ht => ?_⟩
  refine ⟨by walk_at "few", fun u nu => ?_⟩
  refine told_ne (Same.new nu _ _ ht) upd_same (str_k _ (by decide)) (str_k _ (by decide)) ?_
  refine ⟨_, rfl, ?_⟩
  refine iteF ?_
  have T := T.same (Same.trans s1 (Same.new (o := .tup [.str "field", .str "ke", .bl true]) nu))
  walk_at "v"
  walk_at "v"
  refine .inl ⟨F, _, 1, z2, rfl, rfl, SqL.of T.gF, rfl, ?_⟩
  refine ⟨o, k1, k2, k3, 5, z2, .non, fieldS "kd", rfl, T.lay, .inr (.inr (.inr (.inl ⟨rfl, rfl⟩))), fun t H35 s1 ht => ?_⟩
  refine ⟨by walk_at "few", fun u nu => ?_⟩
  refine told_ne (Same.new nu _ _ ht) upd_same (str_k _ (by decide)) (str_k _ (by decide)) ?_
  refine ⟨_, rfl, ?_⟩
  refine iteF ?_
  have T := T.same (Same.trans s1 (Same.new (o := .tup [.str "field", .str "kd", .bl true]) nu))
  walk_at "v"
  walk_at "v"
  refine .inl ⟨F, _, 1, z2, rfl, rfl, SqL.of T.gF, rfl, ?_⟩
  refine ⟨o, k1, k2, k3, 3, z2, .non, valueS "kb", rfl, T.lay, .inr (.inr (.inr (.inr (.inr (.inr (.inl ⟨rfl, T.q2.1, T.q2.now, rfl⟩)))))), fun t H36 s1 ht => ?_⟩
  refine ⟨by walk_at "few", fun u nu => ?_⟩
  refine told_ne (Same.new nu _ _ ht) upd_same (str_k _ (by decide)) (str_k _ (by decide)) ?_
  refine ⟨_, rfl, ?_⟩
  refine iteF ?_
  have T := T.same (Same.trans s1 (Same.new (o := .tup [.str "value", .str "kb", .bl true]) nu))
  walk_at "v"
  refine ⟨o, k1, k2, k3, 3, .non, .non, none, rfl, T.lay, .inr (.inr (.inr (.inr (.inr (.inr (.inr (⟨rfl, rfl, rfl⟩))))))), fun H40 s1 => ?_⟩
  refine ⟨rfl, ?_⟩
  refine ⟨_, rfl, ?_⟩
  refine iteN (fun _ => ?_) (fun z => absurd rfl z)
  have T := T.same s1
  -- a filling
  intro pd md
  generalize ed : L2.upd H40 pd _ = H41
  have s41 : Same H40 H41 := by rw [← ed]; exact Same.new md
  have g41 : H41 pd = some (.dK []) := by rw [← ed, upd_same]
  have T41 := T.same s41
  walk_at "v"
  refine .inl ⟨W, _, 0, .ref w1, rfl, rfl, SqL.of T41.gE, rfl, ?_⟩
  refine .inl ⟨w1, _, 1, y1, rfl, rfl, SqL.of T41.g1, rfl, ?_⟩
  walk_at "v"
  refine .inl ⟨W, _, 1, .ref w2, rfl, rfl, SqL.of T41.gE, rfl, ?_⟩
  refine .inl ⟨w2, _, 1, y2, rfl, rfl, SqL.of T41.g2, rfl, ?_⟩
  walk_at "v"
  refine .inl ⟨W, _, 2, .ref w3, rfl, rfl, SqL.of T41.gE, rfl, ?_⟩
  refine .inl ⟨w3, _, 0, x3, rfl, rfl, SqL.of T41.g3, rfl, ?_⟩
  refine ⟨g41, F3 y1 y2 x3, rfl, (show 3 ≤ 15 by decide), ?_⟩
  rw [f3_merge]
  generalize ee : L2.upd H41 pd _ = H42
  have T42 := T.same (show Same H40 H42 by rw [← ee]; exact Same.over s41 md)
  have gd : H42 pd = some (.dK (F3 y1 y2 x3)) := by rw [← ee, upd_same]
  walk_at "v"; walk_at "v"; walk_at "v"; walk_at "v"
  refine ⟨b, o, D, pd, k1, k2, k3, y1, y2, x3, 3, rfl, ⟨T42.hB, T42.lay, T42.gK, T42.nD, gd, T42.r1.2, T42.r2.2, T42.r3.1⟩, hks, fun H43 x43 hB43 => ?_⟩
  walk_at "fls"
  exact ⟨(T42.sc.xb x43).1, _, _, _, _, _, _, _, _, _, rfl⟩
end Md

set_option Elab.async false
set_option linter.all false
set_option maxRecDepth 100000
set_option maxHeartbeats 8000000
namespace Md
open PySem PySem.Spec PyProof.Rows PySem.Calls L2
/-! ### the text of the row, def by def -/
def top (i : Nat) : Stmt := PySem.Challenge.pw_mendrounds_k07_fillings.main.body.getD i (.Pass ⟨0, 0, 0, 0⟩)
abbrev s_BadLayout___init__ : Stmt := inClass (top 3) 0
theorem sc_BadLayout___init__ : FnScope ["self", "at"] ["self", "at"] (defScope s_BadLayout___init__) := ⟨rfl, rfl, rfl, by decide +kernel, rfl, by decide +kernel, by decide +kernel⟩
abbrev s_BadField___init__ : Stmt := inClass (top 4) 0
theorem sc_BadField___init__ : FnScope ["self", "name"] ["self", "name"] (defScope s_BadField___init__) := ⟨rfl, rfl, rfl, by decide +kernel, rfl, by decide +kernel, by decide +kernel⟩
abbrev s_BadValue___init__ : Stmt := inClass (top 5) 0
theorem sc_BadValue___init__ : FnScope ["self", "name"] ["self", "name"] (defScope s_BadValue___init__) := ⟨rfl, rfl, rfl, by decide +kernel, rfl, by decide +kernel, by decide +kernel⟩
abbrev s_is_whole : Stmt := top 9
theorem sc_is_whole : FnScope n_is_whole ["thing"] (defScope s_is_whole) := ⟨rfl, rfl, rfl, by decide +kernel, rfl, by decide +kernel, by decide +kernel⟩
abbrev s_is_number : Stmt := top 10
theorem sc_is_number : FnScope n_is_number ["thing"] (defScope s_is_number) := ⟨rfl, rfl, rfl, by decide +kernel, rfl, by decide +kernel, by decide +kernel⟩
abbrev s_is_word : Stmt := top 11
theorem sc_is_word : FnScope n_is_word ["thing"] (defScope s_is_word) := ⟨rfl, rfl, rfl, by decide +kernel, rfl, by decide +kernel, by decide +kernel⟩
abbrev s_is_name : Stmt := top 16
theorem sc_is_name : FnScope n_is_name ["thing"] (defScope s_is_name) := ⟨rfl, rfl, rfl, by decide +kernel, rfl, by decide +kernel, by decide +kernel⟩
abbrev s__is_field : Stmt := top 17
theorem sc__is_field : FnScope n__is_field ["thing"] (defScope s__is_field) := ⟨rfl, rfl, rfl, by decide +kernel, rfl, by decide +kernel, by decide +kernel⟩
abbrev s_is_value : Stmt := top 18
theorem sc_is_value : FnScope n_is_value ["kind", "thing"] (defScope s_is_value) := ⟨rfl, rfl, rfl, by decide +kernel, rfl, by decide +kernel, by decide +kernel⟩
abbrev s_first_wrong : Stmt := top 19
theorem sc_first_wrong : FnScope n_first_wrong ["layout", "values"] (defScope s_first_wrong) := ⟨rfl, rfl, rfl, by decide +kernel, rfl, by decide +kernel, by decide +kernel⟩
abbrev s__has_all_fields : Stmt := top 20
theorem sc__has_all_fields : FnScope n__has_all_fields ["layout", "thing"] (defScope s__has_all_fields) := ⟨rfl, rfl, rfl, by decide +kernel, rfl, by decide +kernel, by decide +kernel⟩
abbrev s_Layout___init__ : Stmt := inClass (top 21) 1
theorem sc_Layout___init__ : FnScope n_Layout___init__ ["self", "fields"] (defScope s_Layout___init__) := ⟨rfl, rfl, rfl, by decide +kernel, rfl, by decide +kernel, by decide +kernel⟩
abbrev s_Layout___len__ : Stmt := inClass (top 21) 2
theorem sc_Layout___len__ : FnScope n_Layout___len__ ["self"] (defScope s_Layout___len__) := ⟨rfl, rfl, rfl, by decide +kernel, rfl, by decide +kernel, by decide +kernel⟩
abbrev s_Layout_kind : Stmt := inClass (top 21) 5
theorem sc_Layout_kind : FnScope n_Layout_kind ["self", "name"] (defScope s_Layout_kind) := ⟨rfl, rfl, rfl, by decide +kernel, rfl, by decide +kernel, by decide +kernel⟩
abbrev s_Layout_fill : Stmt := inClass (top 21) 6
theorem sc_Layout_fill : FnScope n_Layout_fill ["self", "values"] (defScope s_Layout_fill) := ⟨rfl, rfl, rfl, by decide +kernel, rfl, by decide +kernel, by decide +kernel⟩
abbrev s_Layout_is_filling : Stmt := inClass (top 21) 7
theorem sc_Layout_is_filling : FnScope n_Layout_is_filling ["self", "thing"] (defScope s_Layout_is_filling) := ⟨rfl, rfl, rfl, by decide +kernel, rfl, by decide +kernel, by decide +kernel⟩
abbrev s__law_bag : Stmt := top 23
theorem sc__law_bag : FnScope n__law_bag ["_law_script", "_law_at"] (defScope s__law_bag) := ⟨rfl, rfl, rfl, by decide +kernel, rfl, by decide +kernel, by decide +kernel⟩
abbrev s__law_take : Stmt := top 24
theorem sc__law_take : FnScope n__law_take ["_law_bag_here", "_law_many"] (defScope s__law_take) := ⟨rfl, rfl, rfl, by decide +kernel, rfl, by decide +kernel, by decide +kernel⟩
abbrev s__law_of : Stmt := top 25
theorem sc__law_of : FnScope n__law_of ["_law_bag_here", "_law_some"] (defScope s__law_of) := ⟨rfl, rfl, rfl, by decide +kernel, rfl, by decide +kernel, by decide +kernel⟩
abbrev s__law_word : Stmt := top 26
theorem sc__law_word : FnScope n__law_word ["_law_bag_here"] (defScope s__law_word) := ⟨rfl, rfl, rfl, by decide +kernel, rfl, by decide +kernel, by decide +kernel⟩
abbrev s__law_value : Stmt := top 27
theorem sc__law_value : FnScope n__law_value ["_law_p", "_law_q"] (defScope s__law_value) := ⟨rfl, rfl, rfl, by decide +kernel, rfl, by decide +kernel, by decide +kernel⟩
abbrev s__law_number : Stmt := top 28
theorem sc__law_number : FnScope n__law_number ["_law_bag_here"] (defScope s__law_number) := ⟨rfl, rfl, rfl, by decide +kernel, rfl, by decide +kernel, by decide +kernel⟩
abbrev s__law_turned : Stmt := top 29
theorem sc__law_turned : FnScope n__law_turned ["_law_filling"] (defScope s__law_turned) := ⟨rfl, rfl, rfl, by decide +kernel, rfl, by decide +kernel, by decide +kernel⟩
abbrev s__law_worths : Stmt := top 30
theorem sc__law_worths : FnScope n__law_worths ["_law_bag_here", "_law_kind"] (defScope s__law_worths) := ⟨rfl, rfl, rfl, by decide +kernel, rfl, by decide +kernel, by decide +kernel⟩
abbrev s__law_wrong : Stmt := top 31
theorem sc__law_wrong : FnScope ["_law_bag_here", "_law_kind", "_law_odd"] ["_law_bag_here", "_law_kind"] (defScope s__law_wrong) := ⟨rfl, rfl, rfl, by decide +kernel, rfl, by decide +kernel, by decide +kernel⟩
abbrev s__law_said : Stmt := top 32
theorem sc__law_said : FnScope n__law_said ["_law_layout", "_law_way", "_law_one", "_law_two"] (defScope s__law_said) := ⟨rfl, rfl, rfl, by decide +kernel, rfl, by decide +kernel, by decide +kernel⟩
abbrev s__law_is_new : Stmt := top 33
theorem sc__law_is_new : FnScope n__law_is_new ["_law_layout", "_law_one", "_law_two"] (defScope s__law_is_new) := ⟨rfl, rfl, rfl, by decide +kernel, rfl, by decide +kernel, by decide +kernel⟩
abbrev s__law_takes : Stmt := top 34
theorem sc__law_takes : FnScope n__law_takes ["_law_bag_here", "_law_layout", "_law_kinds", "_law_filling"] (defScope s__law_takes) := ⟨rfl, rfl, rfl, by decide +kernel, rfl, by decide +kernel, by decide +kernel⟩
abbrev s_law : Stmt := top 35
theorem sc_law : FnScope n_law ["_law_script"] (defScope s_law) := ⟨rfl, rfl, rfl, by decide +kernel, rfl, by decide +kernel, by decide +kernel⟩
section
variable {P : Program} {w : World} {K : PySem.W.Frag} {mg : Str → Option Value} {base : Heap} {A : Ads} {f : Addr} {fd : FuncData}
theorem ok_BadLayout___init__ (F : FunD K "__init__" "BadLayout.__init__" (defArgs s_BadLayout___init__) (defBody s_BadLayout___init__) (defScope s_BadLayout___init__) [] [] f fd) (T : OexC K A.cBadLayout) (hn : PySem.W.findIn K (.ref A.cBadLayout) "at" = some none) : FnOk P w K mg base (L2N.CX P w) 1 f fd ["self", "at"] (sp_BadLayout___init__ K A) := by
  refine F.ok (CX := (L2N.CX P w)) sc_BadLayout___init__ (fun vs H Q E h => len_xi h) (fun cdv A' outer s H vs Q E hr h => ⟨t_xi K "at", ?_, pure_xi T hn h⟩)
  exact (pss_one (ps_ost (pv 0) (pv 1)))
theorem ok_BadField___init__ (F : FunD K "__init__" "BadField.__init__" (defArgs s_BadField___init__) (defBody s_BadField___init__) (defScope s_BadField___init__) [] [] f fd) (T : OexC K A.cBadField) (hn : PySem.W.findIn K (.ref A.cBadField) "name" = some none) : FnOk P w K mg base (L2N.CX P w) 1 f fd ["self", "name"] (sp_BadField___init__ K A) := by
  refine F.ok (CX := (L2N.CX P w)) sc_BadField___init__ (fun vs H Q E h => len_xi h) (fun cdv A' outer s H vs Q E hr h => ⟨t_xi K "name", ?_, pure_xi T hn h⟩)
  exact (pss_one (ps_ost (pv 0) (pv 1)))
theorem ok_BadValue___init__ (F : FunD K "__init__" "BadValue.__init__" (defArgs s_BadValue___init__) (defBody s_BadValue___init__) (defScope s_BadValue___init__) [] [] f fd) (T : OexC K A.cBadValue) (hn : PySem.W.findIn K (.ref A.cBadValue) "name" = some none) : FnOk P w K mg base (L2N.CX P w) 1 f fd ["self", "name"] (sp_BadValue___init__ K A) := by
  refine F.ok (CX := (L2N.CX P w)) sc_BadValue___init__ (fun vs H Q E h => len_xi h) (fun cdv A' outer s H vs Q E hr h => ⟨t_xi K "name", ?_, pure_xi T hn h⟩)
  exact (pss_one (ps_ost (pv 0) (pv 1)))
theorem ok_is_whole (F : FunD K "is_whole" "is_whole" (defArgs s_is_whole) (defBody s_is_whole) (defScope s_is_whole) [] [] f fd) (fr_bool : mg "bool" = none) (fr_int : mg "int" = none) (fr_isinstance : mg "isinstance" = none) : FnOk P w K mg base (L2N.CX P w) 1 f fd ["thing"] (sp_is_whole K A) := by
  refine F.ok (CX := (L2N.CX P w)) sc_is_whole (fun vs H Q E h => len_is_whole h) (fun cdv A' outer s H vs Q E hr h => ⟨t_is_whole K A E, ?_, pure_is_whole h⟩)
  exact (pss_one (ps_ret (pe_and (pe_callB call_isi rfl fr_isinstance boot_isinstance (pa_cons (pv 0) (pa_cons (pe_bltn rfl fr_int boot_int rfl) pa_nil))) (pe_one (pe_not (pe_callB call_isi rfl fr_isinstance boot_isinstance (pa_cons (pv 0) (pa_cons (pe_bltn rfl fr_bool boot_bool rfl) pa_nil))))))))
theorem ok_is_number (F : FunD K "is_number" "is_number" (defArgs s_is_number) (defBody s_is_number) (defScope s_is_number) [] [] f fd) (fr_isinstance : mg "isinstance" = none) (fr_len : mg "len" = none) (fr_tuple : mg "tuple" = none) (gm_gcd : mg "gcd" = some (.builtin "math.gcd")) (c_is_whole : Cl P w K mg base 1 "is_whole" (sp_is_whole K A) []) : FnOk P w K mg base (L2N.CX P w) 2 f fd ["thing"] (sp_is_number K A) := by
  refine F.ok (CX := (L2N.CX P w)) sc_is_number (fun vs H Q E h => len_is_number h) (fun cdv A' outer s H vs Q E hr h => ⟨t_is_number K A E, ?_, pure_is_number h⟩)
  exact (pss_cons (ps_if (pt_val (pe_cl c_is_whole hr (by decide) rfl passN (pa_cons (pv 0) pa_nil))) (pss_one (ps_ret pe_bl)) pss_nil)
    (pss_cons (ps_if (PW.pt (pw_or (pt_not (pt_val (pe_callB call_isi rfl fr_isinstance boot_isinstance (pa_cons (pv 0) (pa_cons (pe_bltn rfl fr_tuple boot_tuple rfl) pa_nil))))) (pw_or1 (pt_cmpR op_ne (pe_callB call_len rfl fr_len boot_len (pa_cons (pv 0) pa_nil)) pe_int (nomark _))))) (pss_one (ps_ret pe_bl)) pss_nil)
    (pss_cons (ps_asg (pv 0) (pg_tup rfl (pgs_cons (pg_name (i := 1) sc_is_number.nd rfl (by first | exact Or.inl rfl | exact Or.inr rfl)) (pgs_cons (pg_name (i := 2) sc_is_number.nd rfl (by first | exact Or.inl rfl | exact Or.inr rfl)) pgs_nil))))
    (pss_one (ps_ret (pe_and (pe_cl c_is_whole hr (by decide) rfl passN (pa_cons (pv 1) pa_nil)) (pe_and (pe_cl c_is_whole hr (by decide) rfl passN (pa_cons (pv 2) pa_nil)) (pe_and (pe_cmpR op_ge (pv 2) pe_int (nomark _)) (pe_one (pe_cmpR op_eq (pe_callBfun cr_gcd rfl gm_gcd (pa_cons (pv 1) (pa_cons (pv 2) pa_nil))) pe_int (nomark _)))))))))))
theorem ok_is_word (F : FunD K "is_word" "is_word" (defArgs s_is_word) (defBody s_is_word) (defScope s_is_word) [] [] f fd) (fr_all : mg "all" = none) (fr_isinstance : mg "isinstance" = none) (fr_len : mg "len" = none) (fr_str : mg "str" = none) (gm_LETTERS : ∃ t, mg "LETTERS" = some (.str "abcdefghijklmnopqrstuvwxyz" t)) (gm_LONGEST_WORD : ∃ t, mg "LONGEST_WORD" = some (.int 8 t)) : FnOk P w K mg base (L2N.CX P w) 1 f fd ["thing"] (sp_is_word K A) := by
  refine F.ok (CX := (L2N.CX P w)) sc_is_word (fun vs H Q E h => len_is_word h) (fun cdv A' outer s H vs Q E hr h => ⟨t_is_word K A E, ?_, pure_is_word h⟩)
  exact (pss_cons (ps_if (PW.pt (pw_or (pt_not (pt_val (pe_callB call_isi rfl fr_isinstance boot_isinstance (pa_cons (pv 0) (pa_cons (pe_bltn rfl fr_str boot_str rfl) pa_nil))))) (pw_or1 (pt_not (pt_chain op_le op_le pe_int (pe_callB call_len rfl fr_len boot_len (pa_cons (pv 0) pa_nil)) (pe_gc rfl (gInt gm_LONGEST_WORD))))))) (pss_one (ps_ret pe_bl)) pss_nil)
    (pss_one (ps_ret (pe_callB (cr_all rfl) rfl fr_all boot_all (pa_cons (pe_lc (own := [("letter", 1)]) (g := (gName 1)) (tt := tYes) rfl sc_is_word.nd (pi_str (pv 0)) (blkOk_by (own := [("letter", 1)]) (N := ["thing", "letter"]) (sc := defScope s_is_word) (by decide +kernel)) (fun _ _ _ _ _ => (pg_name (i := 1) sc_is_word.nd rfl (by first | exact Or.inl rfl | exact Or.inr rfl))) (fun _ _ _ _ _ => pts_nil) (fun _ _ _ _ _ => (pe_cmpR op_inS (pv 1) (pe_gc rfl (gStr gm_LETTERS)) (by with_unfolding_all rfl)))) pa_nil)))))
theorem ok_is_name (F : FunD K "is_name" "is_name" (defArgs s_is_name) (defBody s_is_name) (defScope s_is_name) [] [] f fd) (gm_RESERVED : mg "RESERVED" = some (.ref A.gRESERVED)) (tb_RESERVED : ∀ H, SqT K H A.gRESERVED kRESERVED) (c_is_word : Cl P w K mg base 1 "is_word" (sp_is_word K A) []) : FnOk P w K mg base (L2N.CX P w) 2 f fd ["thing"] (sp_is_name K A) := by
  refine F.ok (CX := (L2N.CX P w)) sc_is_name (fun vs H Q E h => len_is_name h) (fun cdv A' outer s H vs Q E hr h => ⟨t_is_name K A E, ?_, pure_is_name tb_RESERVED h⟩)
  exact (pss_one (ps_ret (pe_and (pe_cl c_is_word hr (by decide) rfl passN (pa_cons (pv 0) pa_nil)) (pe_one (pe_cmpR op_notIn_seq (pv 0) (pe_glob rfl gm_RESERVED rfl) (by with_unfolding_all rfl))))))
theorem ok__is_field (F : FunD K "_is_field" "_is_field" (defArgs s__is_field) (defBody s__is_field) (defScope s__is_field) [] [] f fd) (fr_isinstance : mg "isinstance" = none) (fr_len : mg "len" = none) (fr_tuple : mg "tuple" = none) (gm_NUMBER : ∃ t, mg "NUMBER" = some (.str "number" t)) (gm_WORD : ∃ t, mg "WORD" = some (.str "word" t)) (c_is_name : Cl P w K mg base 2 "is_name" (sp_is_name K A) []) : FnOk P w K mg base (L2N.CX P w) 3 f fd ["thing"] (sp__is_field K A) := by
  refine F.ok (CX := (L2N.CX P w)) sc__is_field (fun vs H Q E h => len__is_field h) (fun cdv A' outer s H vs Q E hr h => ⟨t__is_field K A E, ?_, pure__is_field h⟩)
  exact (pss_one (ps_ret (pe_and (pe_callB call_isi rfl fr_isinstance boot_isinstance (pa_cons (pv 0) (pa_cons (pe_bltn rfl fr_tuple boot_tuple rfl) pa_nil))) (pe_and (pe_cmpR op_eq (pe_callB call_len rfl fr_len boot_len (pa_cons (pv 0) pa_nil)) pe_int (nomark _)) (pe_and (pe_cl c_is_name hr (by decide) rfl passN (pa_cons (pe_ix ix_seq (pv 0) pe_int (fun _ _ => rfl)) pa_nil)) (pe_one (pe_cmpR (op_inT2 (hu65 hr)) (pe_ix ix_seq (pv 0) pe_int (fun _ _ => rfl)) (pe_tup (pa_cons (pe_gc rfl (gStr gm_NUMBER)) (pa_cons (pe_gc rfl (gStr gm_WORD)) pa_nil))) (by with_unfolding_all rfl))))))))
theorem ok_is_value (F : FunD K "is_value" "is_value" (defArgs s_is_value) (defBody s_is_value) (defScope s_is_value) [] [] f fd) (gm_NUMBER : ∃ t, mg "NUMBER" = some (.str "number" t)) (c_is_number : Cl P w K mg base 2 "is_number" (sp_is_number K A) []) (c_is_word : Cl P w K mg base 1 "is_word" (sp_is_word K A) []) : FnOk P w K mg base (L2N.CX P w) 3 f fd ["kind", "thing"] (sp_is_value K A) := by
  refine F.ok (CX := (L2N.CX P w)) sc_is_value (fun vs H Q E h => len_is_value h) (fun cdv A' outer s H vs Q E hr h => ⟨t_is_value K A E, ?_, pure_is_value h⟩)
  exact (pss_one (ps_ret (pe_ifExp (pt_cmpR op_eq (pv 0) (pe_gc rfl (gStr gm_NUMBER)) (nomark _)) (pe_cl c_is_number hr (by decide) rfl passN (pa_cons (pv 1) pa_nil)) (pe_cl c_is_word hr (by decide) rfl passN (pa_cons (pv 1) pa_nil)))))
theorem ok_first_wrong (F : FunD K "first_wrong" "first_wrong" (defArgs s_first_wrong) (defBody s_first_wrong) (defScope s_first_wrong) [] [] f fd) (cl_Layout : Cls K A.cLayout) (na_Layout_names : NoAttr K A.cLayout "names") (c_is_value : Cl P w K mg base 3 "is_value" (sp_is_value K A) []) (m_Layout_kind : Mt P w K mg base 3 A.cLayout "kind" (sp_Layout_kind K A)) : FnOk P w K mg base (L2N.CX P w) 4 f fd ["layout", "values"] (sp_first_wrong K A) := by
  refine F.ok (CX := (L2N.CX P w)) sc_first_wrong (fun vs H Q E h => len_first_wrong h) (fun cdv A' outer s H vs Q E hr h => ⟨t_first_wrong K A E, ?_, pure_first_wrong cl_Layout na_Layout_names h⟩)
  exact (pss_cons (ps_for (passes_of rfl) rfl (pi_tup (pe_fld (pv 0) rfl)) (pg_name (i := 2) sc_first_wrong.nd rfl (by first | exact Or.inl rfl | exact Or.inr rfl)) (pss_cons (ps_set (i := 3) sc_first_wrong.nd rfl (by first | exact Or.inl rfl | exact Or.inr rfl) (pe_dget1 (hu_of hr) (pv 1) (pv 2) ⟨rfl, rfl, rfl, rfl⟩))
    (pss_one (ps_if (PW.pt (pw_and (pt_cmpR op_notN1 (pv 3) pe_non (nomark _)) (pw_and1 (pt_not (pt_val (pe_cl c_is_value hr (by decide) rfl passN (pa_cons (pe_mt2 m_Layout_kind hr (by decide) (L2N.passes_call (L2N.takes_of rfl rfl rfl rfl) (fun _ _ _ _ h => h)) (pv 0) (pa_cons (pv 2) pa_nil)) (pa_cons (pv 3) pa_nil)))))))) (pss_one (ps_ret (pv 2))) pss_nil))))
    (pss_one (ps_ret pe_non)))
theorem ok__has_all_fields (F : FunD K "_has_all_fields" "_has_all_fields" (defArgs s__has_all_fields) (defBody s__has_all_fields) (defScope s__has_all_fields) [] [] f fd) (fr_all : mg "all" = none) (fr_dict : mg "dict" = none) (fr_isinstance : mg "isinstance" = none) (fr_len : mg "len" = none) (cl_Layout : Cls K A.cLayout) (na_Layout_names : NoAttr K A.cLayout "names") (m_Layout___len__ : Mt P w K mg base 1 A.cLayout "__len__" (sp_Layout___len__ K A)) : FnOk P w K mg base (L2N.CX P w) 3 f fd ["layout", "thing"] (sp__has_all_fields K A) := by
  refine F.ok (CX := (L2N.CX P w)) sc__has_all_fields (fun vs H Q E h => len__has_all_fields h) (fun cdv A' outer s H vs Q E hr h => ⟨t__has_all_fields K A E, ?_, pure__has_all_fields cl_Layout na_Layout_names h⟩)
  exact (pss_one (ps_ret (pe_and (pe_callB call_isi rfl fr_isinstance boot_isinstance (pa_cons (pv 1) (pa_cons (pe_bltn rfl fr_dict boot_dict rfl) pa_nil))) (pe_and (pe_cmpR op_eq (pe_callB call_lenD rfl fr_len boot_len (pa_cons (pv 1) pa_nil)) (pe_callB (call_lenO m_Layout___len__ hr (by decide) passN) rfl fr_len boot_len (pa_cons (pv 0) pa_nil)) (nomark _)) (pe_one (pe_callB (cr_all rfl) rfl fr_all boot_all (pa_cons (pe_lc (own := [("name", 2)]) (g := (gName 2)) (tt := tYes) rfl sc__has_all_fields.nd (pi_tup (pe_fld (pv 0) rfl)) (blkOk_by (own := [("name", 2)]) (N := ["layout", "thing", "name"]) (sc := defScope s__has_all_fields) (by decide +kernel)) (fun _ _ _ _ _ => (pg_name (i := 2) sc__has_all_fields.nd rfl (by first | exact Or.inl rfl | exact Or.inr rfl))) (fun _ _ _ _ _ => pts_nil) (fun _ _ _ _ _ => (pe_cmp (pc_din (hu_of hr) (pv 2) (pv 1))))) pa_nil)))))))
theorem ok_Layout___init__ (F : FunD K "__init__" "Layout.__init__" (defArgs s_Layout___init__) (defBody s_Layout___init__) (defScope s_Layout___init__) [] [] f fd) (cc_Layout_MOST : CCon K A.cLayout "MOST" (.int 5)) (fr_enumerate : mg "enumerate" = none) (fr_isinstance : mg "isinstance" = none) (fr_len : mg "len" = none) (fr_list : mg "list" = none) (fr_tuple : mg "tuple" = none) (gm_Layout : mg "Layout" = some (.ref A.cLayout)) (cl_Layout : Cls K A.cLayout) (na_Layout__kinds : NoAttr K A.cLayout "_kinds") (na_Layout_names : NoAttr K A.cLayout "names") (k_BadLayout : Kx P w K mg base 1 "BadLayout" A.cBadLayout (sp_BadLayout___init__ K A)) (c__is_field : Cl P w K mg base 3 "_is_field" (sp__is_field K A) []) : FnOk P w K mg base (L2N.CX P w) 4 f fd ["self", "fields"] (sp_Layout___init__ K A) := by
  refine F.ok (CX := (L2N.CX P w)) sc_Layout___init__ (fun vs H Q E h => len_Layout___init__ h) (fun cdv A' outer s H vs Q E hr h => ⟨t_Layout___init__ K A E, ?_, pure_Layout___init__ cl_Layout na_Layout__kinds na_Layout_names h⟩)
  exact (pss_cons (ps_if (PW.pt (pw_or (pt_not (pt_val (pe_callB call_isi rfl fr_isinstance boot_isinstance (pa_cons (pv 1) (pa_cons (pe_bltn rfl fr_list boot_list rfl) pa_nil))))) (pw_or1 (pt_not (pt_chain op_le op_le pe_int (pe_callB call_len rfl fr_len boot_len (pa_cons (pv 1) pa_nil)) (pe_ccon cc_Layout_MOST (pe_glob rfl gm_Layout rfl))))))) (pss_one (L2N.ps_raise rfl (L2N.takes_of rfl rfl rfl rfl) (pmk_cl k_BadLayout hr (by decide) rfl (pa_cons (pe_un un_neg pe_int) pa_nil)))) pss_nil)
    (pss_cons (ps_set (i := 2) sc_Layout___init__.nd rfl (by first | exact Or.inl rfl | exact Or.inr rfl) (pe_lst pa_nil))
    (pss_cons (ps_for (passes_of rfl) rfl (pi_enum (by rfl) fr_enumerate (pa_cons (pv 1) pa_nil)) (pg_tup rfl (pgs_cons (pg_name (i := 3) sc_Layout___init__.nd rfl (by first | exact Or.inl rfl | exact Or.inr rfl)) (pgs_cons (pg_name (i := 4) sc_Layout___init__.nd rfl (by first | exact Or.inl rfl | exact Or.inr rfl)) pgs_nil))) (pss_cons (ps_if (PW.pt (pw_or (pt_not (pt_val (pe_cl c__is_field hr (by decide) rfl passN (pa_cons (pv 4) pa_nil)))) (pw_or1 (pt_cmpR op_in_seq (pe_ix ix_seq (pv 4) pe_int (fun _ _ => rfl)) (pv 2) (by with_unfolding_all rfl))))) (pss_one (L2N.ps_raise rfl (L2N.takes_of rfl rfl rfl rfl) (pmk_cl k_BadLayout hr (by decide) rfl (pa_cons (pv 3) pa_nil)))) pss_nil)
    (pss_one (ps_expr (pe_bm PySem.F.plainAttrs_list PySem.F.slot_list_append PySem.F.type_list_append mt_append (pv 2) (pa_cons (pe_ix ix_seq (pv 4) pe_int (fun _ _ => rfl)) pa_nil))))))
    (pss_cons (ps_fld (pv 0) (pe_callTy call_tupF rfl fr_tuple boot_tuple (pa_cons (pv 2) pa_nil)) rfl)
    (pss_one (ps_fld (pv 0) (pe_callTy call_tupF rfl fr_tuple boot_tuple (pa_cons (pe_lc (own := [("field", 4)]) (g := (gName 4)) (tt := tYes) rfl sc_Layout___init__.nd (pi_list (pv 1)) (blkOk_by (own := [("field", 4)]) (N := ["self", "fields", "names", "at", "field"]) (sc := defScope s_Layout___init__) (by decide +kernel)) (fun _ _ _ _ _ => (pg_name (i := 4) sc_Layout___init__.nd rfl (by first | exact Or.inl rfl | exact Or.inr rfl))) (fun _ _ _ _ _ => pts_nil) (fun _ _ _ _ _ => (pe_ix ix_seq (pv 4) pe_int (fun _ _ => rfl)))) pa_nil)) rfl))))))
theorem ok_Layout___len__ (F : FunD K "__len__" "Layout.__len__" (defArgs s_Layout___len__) (defBody s_Layout___len__) (defScope s_Layout___len__) [] [] f fd) (fr_len : mg "len" = none) (cl_Layout : Cls K A.cLayout) (na_Layout_names : NoAttr K A.cLayout "names") : FnOk P w K mg base (L2N.CX P w) 1 f fd ["self"] (sp_Layout___len__ K A) := by
  refine F.ok (CX := (L2N.CX P w)) sc_Layout___len__ (fun vs H Q E h => len_Layout___len__ h) (fun cdv A' outer s H vs Q E hr h => ⟨t_Layout___len__ K A E, ?_, pure_Layout___len__ cl_Layout na_Layout_names h⟩)
  exact (pss_one (ps_ret (pe_callB call_len rfl fr_len boot_len (pa_cons (pe_fld (pv 0) rfl) pa_nil))))
theorem ok_Layout_kind (F : FunD K "kind" "Layout.kind" (defArgs s_Layout_kind) (defBody s_Layout_kind) (defScope s_Layout_kind) [] [] f fd) (cl_Layout : Cls K A.cLayout) (na_Layout__kinds : NoAttr K A.cLayout "_kinds") (na_Layout_names : NoAttr K A.cLayout "names") (k_BadField : Kx P w K mg base 1 "BadField" A.cBadField (sp_BadField___init__ K A)) : FnOk P w K mg base (L2N.CX P w) 3 f fd ["self", "name"] (sp_Layout_kind K A) := by
  refine F.ok (CX := (L2N.CX P w)) sc_Layout_kind (fun vs H Q E h => len_Layout_kind h) (fun cdv A' outer s H vs Q E hr h => ⟨t_Layout_kind K A E, ?_, pure_Layout_kind cl_Layout na_Layout__kinds na_Layout_names h⟩)
  exact (pss_cons (ps_if (pt_cmpR (op_notInT2 (hu65 hr)) (pv 1) (pe_fld (pv 0) rfl) (by with_unfolding_all rfl)) (pss_one (L2N.ps_raise rfl (L2N.takes_of rfl rfl rfl rfl) (pmk_cl k_BadField hr (by decide) rfl (pa_cons (pv 1) pa_nil)))) pss_nil)
    (pss_one (ps_ret (pe_ix ix_seq (pe_fld (pv 0) rfl) (pe_bmF PySem.F.plainAttrs_tuple PySem.F.slot_tuple_index PySem.F.type_tuple_index mt_tidx (pe_fld (pv 0) rfl) (pa_cons (pv 1) pa_nil)) (fun _ _ => rfl)))))
theorem ok_Layout_fill (F : FunD K "fill" "Layout.fill" (defArgs s_Layout_fill) (defBody s_Layout_fill) (defScope s_Layout_fill) [] [] f fd) (cl_Layout : Cls K A.cLayout) (na_Layout_names : NoAttr K A.cLayout "names") (k_BadField : Kx P w K mg base 1 "BadField" A.cBadField (sp_BadField___init__ K A)) (c_first_wrong : Cl P w K mg base 4 "first_wrong" (sp_first_wrong K A) []) (k_BadValue : Kx P w K mg base 1 "BadValue" A.cBadValue (sp_BadValue___init__ K A)) : RunKw P w K mg base 5 f (sp_Layout_fill K A) := by
  refine funD_kw (pd := "values") F sc_Layout_fill rfl rfl rfl rfl rfl rfl rfl (fun cdv A' outer s H vs Q E hr h => ⟨t_Layout_fill K A E, ?_, pure_Layout_fill cl_Layout na_Layout_names h⟩)
  exact (pss_cons (ps_lock (ps_for (passes_of rfl) rfl (pi_keys (pv 1)) (pg_name (i := 2) sc_Layout_fill.nd rfl (by first | exact Or.inl rfl | exact Or.inr rfl)) (pss_one (ps_if (pt_cmpR (op_notInT2 (hu65 hr)) (pv 2) (pe_fld (pv 0) rfl) (by with_unfolding_all rfl)) (pss_one (L2N.ps_raise rfl (L2N.takes_of rfl rfl rfl rfl) (pmk_cl k_BadField hr (by decide) rfl (pa_cons (pv 2) pa_nil)))) pss_nil))))
    (pss_cons (ps_set (i := 3) sc_Layout_fill.nd rfl (by first | exact Or.inl rfl | exact Or.inr rfl) (pe_cl c_first_wrong hr (by decide) rfl (L2N.passes_call (L2N.takes_of rfl rfl rfl rfl) (fun _ _ _ _ h => h)) (pa_cons (pv 0) (pa_cons (pv 1) pa_nil))))
    (pss_cons (ps_if (pt_cmpR op_notN1 (pv 3) pe_non (nomark _)) (pss_one (L2N.ps_raise rfl (L2N.takes_of rfl rfl rfl rfl) (pmk_cl k_BadValue hr (by decide) rfl (pa_cons (pv 3) pa_nil)))) pss_nil)
    (pss_one (ps_ret (pe_dc (own := [("name", 2)]) (g := (gName 2)) (tt := tYes) rfl sc_Layout_fill.nd (pi_tup (pe_fld (pv 0) rfl)) (blkOk_by (own := [("name", 2)]) (N := ["self", "values", "name", "wrong"]) (sc := defScope s_Layout_fill) (by decide +kernel)) (fun _ _ _ _ _ => (pg_name (i := 2) sc_Layout_fill.nd rfl (by first | exact Or.inl rfl | exact Or.inr rfl))) (fun _ _ _ _ _ => pts_nil) (fun _ _ _ _ _ => (pv 2)) (fun _ _ _ _ _ => (pe_dget1 (hu_of hr) (pv 1) (pv 2) ⟨rfl, rfl, rfl, rfl⟩))))))))
theorem ok_Layout_is_filling (F : FunD K "is_filling" "Layout.is_filling" (defArgs s_Layout_is_filling) (defBody s_Layout_is_filling) (defScope s_Layout_is_filling) [] [] f fd) (c__has_all_fields : Cl P w K mg base 3 "_has_all_fields" (sp__has_all_fields K A) []) (c_first_wrong : Cl P w K mg base 4 "first_wrong" (sp_first_wrong K A) []) : FnOk P w K mg base (L2N.CX P w) 5 f fd ["self", "thing"] (sp_Layout_is_filling K A) := by
  refine F.ok (CX := (L2N.CX P w)) sc_Layout_is_filling (fun vs H Q E h => len_Layout_is_filling h) (fun cdv A' outer s H vs Q E hr h => ⟨t_Layout_is_filling K A E, ?_, pure_Layout_is_filling h⟩)
  exact (pss_one (ps_ret (pe_and (pe_cl c__has_all_fields hr (by decide) rfl passN (pa_cons (pv 0) (pa_cons (pv 1) pa_nil))) (pe_one (pe_cmpR op_isN1 (pe_cl c_first_wrong hr (by decide) rfl (L2N.passes_call (L2N.takes_of rfl rfl rfl rfl) (fun _ _ _ _ h => h)) (pa_cons (pv 0) (pa_cons (pv 1) pa_nil))) pe_non (nomark _))))))
theorem ok__law_bag (F : FunD K "_law_bag" "_law_bag" (defArgs s__law_bag) (defBody s__law_bag) (defScope s__law_bag) [] [] f fd) (fr_abs : mg "abs" = none) (fr_int : mg "int" = none) (fr_len : mg "len" = none) : FnOk P w K mg base (L2N.CX P w) 1 f fd ["_law_script", "_law_at"] (sp__law_bag K A) := by
  refine F.ok (CX := (L2N.CX P w)) sc__law_bag (fun vs H Q E h => len__law_bag h) (fun cdv A' outer s H vs Q E hr h => ⟨t__law_bag K A E, ?_, pure__law_bag h⟩)
  exact (pss_cons (ps_set (i := 2) sc__law_bag.nd rfl (by first | exact Or.inl rfl | exact Or.inr rfl) (pe_ifExp (pt_cmpR op_lt (pv 1) (pe_callB call_len rfl fr_len boot_len (pa_cons (pv 0) pa_nil)) (nomark _)) (pe_ix ix_seq (pv 0) (pv 1) (fun _ _ => rfl)) pe_int))
    (pss_cons (ps_set (i := 3) sc__law_bag.nd rfl (by first | exact Or.inl rfl | exact Or.inr rfl) (pe_ifExp (pt_cmpR op_ge (pe_callB call_abs rfl fr_abs boot_abs (pa_cons (pv 2) pa_nil)) (pe_op op_pow pe_int pe_int) (nomark _)) (pe_callB call_abs rfl fr_abs boot_abs (pa_cons (pv 2) pa_nil)) pe_int))
    (pss_one (ps_ret (pe_lst (pa_cons (pv 3) (pa_cons (pe_op op_add (pe_op op_add (pe_op op_mulW (pe_op op_mod (pe_callTy call_int1 rfl fr_int boot_int (pa_cons (pv 2) pa_nil)) pe_int) pe_int) (pe_op op_mulW pe_int (pv 1))) pe_int) (pa_cons pe_int pa_nil))))))))
theorem ok__law_take (F : FunD K "_law_take" "_law_take" (defArgs s__law_take) (defBody s__law_take) (defScope s__law_take) [] [] f fd) (fr_int : mg "int" = none) : FnOk P w K mg base (L2N.CX P w) 1 f fd ["_law_bag_here", "_law_many"] (sp__law_take K A) := by
  refine F.ok (CX := (L2N.CX P w)) sc__law_take (fun vs H Q E h => len__law_take h) (fun cdv A' outer s H vs Q E hr h => ⟨t__law_take K A E, ?_, pure__law_take h⟩)
  exact (pss_cons (ps_if (pt_cmpR op_gt (pe_ix ix_seq (pv 0) pe_int (fun _ _ => rfl)) pe_int (nomark _)) (pss_cons (ps_set (i := 3) sc__law_take.nd rfl (by first | exact Or.inl rfl | exact Or.inr rfl) (pe_op op_mod (pe_callTy call_int1 rfl fr_int boot_int (pa_cons (pe_ix ix_seq (pv 0) pe_int (fun _ _ => rfl)) pa_nil)) (pv 1)))
    (pss_cons (ps_asg (pe_op op_fdivW (pe_ix ix_seq (pv 0) pe_int (fun _ _ => rfl)) (pv 1)) (pg_sub (pv 0) pe_int set_list))
    (pss_one (ps_ret (pv 3))))) pss_nil)
    (pss_cons (ps_asg (pe_op op_add (pe_ix ix_seq (pv 0) pe_int (fun _ _ => rfl)) pe_int) (pg_sub (pv 0) pe_int set_list))
    (pss_cons (ps_set (i := 2) sc__law_take.nd rfl (by first | exact Or.inl rfl | exact Or.inr rfl) (pe_op op_mod (pe_callTy call_int1 rfl fr_int boot_int (pa_cons (pe_op op_pow (pe_op op_add (pe_ix ix_seq (pv 0) pe_int (fun _ _ => rfl)) (pe_op op_mulW pe_int (pe_ix ix_seq (pv 0) pe_int (fun _ _ => rfl)))) pe_int) pa_nil)) pe_int))
    (pss_cons (ps_set (i := 2) sc__law_take.nd rfl (by first | exact Or.inl rfl | exact Or.inr rfl) (pe_op op_mod (pe_callTy call_int1 rfl fr_int boot_int (pa_cons (pe_op op_pow (pe_op op_add (pv 2) (pe_op op_mulW pe_int (pe_ix ix_seq (pv 0) pe_int (fun _ _ => rfl)))) pe_int) pa_nil)) pe_int))
    (pss_one (ps_ret (pe_op op_mod (pe_callTy call_int1 rfl fr_int boot_int (pa_cons (pe_op op_fdivW (pv 2) pe_int) pa_nil)) (pv 1))))))))
theorem ok__law_of (F : FunD K "_law_of" "_law_of" (defArgs s__law_of) (defBody s__law_of) (defScope s__law_of) [] [] f fd) (fr_len : mg "len" = none) (c__law_take : Cl P w K mg base 1 "_law_take" (sp__law_take K A) []) : FnOk P w K mg base (L2N.CX P w) 2 f fd ["_law_bag_here", "_law_some"] (sp__law_of K A) := by
  refine F.ok (CX := (L2N.CX P w)) sc__law_of (fun vs H Q E h => len__law_of h) (fun cdv A' outer s H vs Q E hr h => ⟨t__law_of K A E, ?_, pure__law_of h⟩)
  exact (pss_one (ps_ret (pe_ix ix_seq (pv 1) (pe_cl c__law_take hr (by decide) rfl passN (pa_cons (pv 0) (pa_cons (pe_callB call_len rfl fr_len boot_len (pa_cons (pv 1) pa_nil)) pa_nil))) (fun _ _ => rfl))))
theorem ok__law_word (F : FunD K "_law_word" "_law_word" (defArgs s__law_word) (defBody s__law_word) (defScope s__law_word) [] [] f fd) (fr_range : mg "range" = none) (c__law_take : Cl P w K mg base 1 "_law_take" (sp__law_take K A) []) (c__law_of : Cl P w K mg base 2 "_law_of" (sp__law_of K A) []) : FnOk P w K mg base (L2N.CX P w) 3 f fd ["_law_bag_here"] (sp__law_word K A) := by
  refine F.ok (CX := (L2N.CX P w)) sc__law_word (fun vs H Q E h => len__law_word h) (fun cdv A' outer s H vs Q E hr h => ⟨t__law_word K A E, ?_, pure__law_word h⟩)
  exact (pss_one (ps_ret (pe_join pe_str (pe_lc (own := [("_law_turn", 1)]) (g := (gName 1)) (tt := tYes) rfl sc__law_word.nd (pi_range1 rfl fr_range (pa_cons (pe_op op_add pe_int (pe_cl c__law_take hr (by decide) rfl passN (pa_cons (pv 0) (pa_cons pe_int pa_nil)))) pa_nil)) (blkOk_by (own := [("_law_turn", 1)]) (N := ["_law_bag_here", "_law_turn"]) (sc := defScope s__law_word) (by decide +kernel)) (fun _ _ _ _ _ => (pg_name (i := 1) sc__law_word.nd rfl (by first | exact Or.inl rfl | exact Or.inr rfl))) (fun _ _ _ _ _ => pts_nil) (fun _ _ _ _ _ => (pe_cl c__law_of hr (by decide) rfl passN (pa_cons (pv 0) (pa_cons pe_str pa_nil))))))))
theorem ok__law_value (F : FunD K "_law_value" "_law_value" (defArgs s__law_value) (defBody s__law_value) (defScope s__law_value) [] [] f fd) (fr_abs : mg "abs" = none) (fr_int : mg "int" = none) : FnOk P w K mg base (L2N.CX P w) 1 f fd ["_law_p", "_law_q"] (sp__law_value K A) := by
  refine F.ok (CX := (L2N.CX P w)) sc__law_value (fun vs H Q E h => len__law_value h) (fun cdv A' outer s H vs Q E hr h => ⟨t__law_value K A E, ?_, pure__law_value h⟩)
  exact (pss_cons (ps_par (i := 2) (j := 3) rfl sc__law_value.nd rfl rfl (by decide) rfl rfl (pa_cons (pe_callB call_abs rfl fr_abs boot_abs (pa_cons (pv 0) pa_nil)) (pa_cons (pv 1) pa_nil)) rfl)
    (pss_cons (ps_while (passes_of rfl) (pt_cmpR op_gt (pv 2) pe_int (nomark _)) (pss_one (ps_par (i := 2) (j := 3) rfl sc__law_value.nd rfl rfl (by decide) rfl rfl (pa_cons (pe_op op_mod (pe_callTy call_int1 rfl fr_int boot_int (pa_cons (pv 3) pa_nil)) (pv 2)) (pa_cons (pv 2) pa_nil)) rfl)))
    (pss_one (ps_ret (pe_ifExp (pt_cmpR op_eq (pv 1) (pv 3) (nomark _)) (pe_op op_fdivW (pv 0) (pv 3)) (pe_tup (pa_cons (pe_op op_fdivW (pv 0) (pv 3)) (pa_cons (pe_op op_fdivW (pv 1) (pv 3)) pa_nil))))))))
theorem ok__law_number (F : FunD K "_law_number" "_law_number" (defArgs s__law_number) (defBody s__law_number) (defScope s__law_number) [] [] f fd) (c__law_take : Cl P w K mg base 1 "_law_take" (sp__law_take K A) []) (c__law_value : Cl P w K mg base 1 "_law_value" (sp__law_value K A) []) : FnOk P w K mg base (L2N.CX P w) 2 f fd ["_law_bag_here"] (sp__law_number K A) := by
  refine F.ok (CX := (L2N.CX P w)) sc__law_number (fun vs H Q E h => len__law_number h) (fun cdv A' outer s H vs Q E hr h => ⟨t__law_number K A E, ?_, pure__law_number h⟩)
  exact (pss_cons (ps_if (pt_cmpR op_gt (pe_cl c__law_take hr (by decide) rfl passN (pa_cons (pv 0) (pa_cons pe_int pa_nil))) pe_int (nomark _)) (pss_one (ps_ret (pe_cl c__law_value hr (by decide) rfl passN (pa_cons (pe_op op_sub (pe_cl c__law_take hr (by decide) rfl passN (pa_cons (pv 0) (pa_cons pe_int pa_nil))) pe_int) (pa_cons (pe_op op_add pe_int (pe_cl c__law_take hr (by decide) rfl passN (pa_cons (pv 0) (pa_cons pe_int pa_nil)))) pa_nil))))) pss_nil)
    (pss_one (ps_ret (pe_cl c__law_value hr (by decide) rfl passN (pa_cons (pe_op op_sub (pe_cl c__law_take hr (by decide) rfl passN (pa_cons (pv 0) (pa_cons (pe_op op_add (pe_op op_mulW pe_int (pe_op op_pow pe_int pe_int)) pe_int) pa_nil))) (pe_op op_pow pe_int pe_int)) (pa_cons (pe_op op_add pe_int (pe_cl c__law_take hr (by decide) rfl passN (pa_cons (pv 0) (pa_cons (pe_op op_pow pe_int pe_int) pa_nil)))) pa_nil))))))
theorem ok__law_turned (F : FunD K "_law_turned" "_law_turned" (defArgs s__law_turned) (defBody s__law_turned) (defScope s__law_turned) [] [] f fd) (fr_dict : mg "dict" = none) (fr_list : mg "list" = none) : FnOk P w K mg base (L2N.CX P w) 1 f fd ["_law_filling"] (sp__law_turned K A) := by
  refine F.ok (CX := (L2N.CX P w)) sc__law_turned (fun vs H Q E h => len__law_turned h) (fun cdv A' outer s H vs Q E hr h => ⟨t__law_turned K A E, ?_, pure__law_turned h⟩)
  exact (pss_one (ps_ret (pe_callTy (call_dictP rfl) rfl fr_dict boot_dict (pa_cons (pe_lc (own := [("_law_label", 1)]) (g := (gName 1)) (tt := tYes) rfl sc__law_turned.nd (pi_list (pe_revL (pe_callTy (call_listD rfl) rfl fr_list boot_list (pa_cons (pv 0) pa_nil)))) (blkOk_by (own := [("_law_label", 1)]) (N := ["_law_filling", "_law_label"]) (sc := defScope s__law_turned) (by decide +kernel)) (fun _ _ _ _ _ => (pg_name (i := 1) sc__law_turned.nd rfl (by first | exact Or.inl rfl | exact Or.inr rfl))) (fun _ _ _ _ _ => pts_nil) (fun _ _ _ _ _ => (pe_tup (pa_cons (pv 1) (pa_cons (pe_dget (hu_of hr) (pv 0) (pv 1) (fun _ _ => rfl)) pa_nil))))) pa_nil))))
theorem ok__law_worths (F : FunD K "_law_worths" "_law_worths" (defArgs s__law_worths) (defBody s__law_worths) (defScope s__law_worths) [] [] f fd) (fr_range : mg "range" = none) (c__law_number : Cl P w K mg base 2 "_law_number" (sp__law_number K A) []) (c__law_word : Cl P w K mg base 3 "_law_word" (sp__law_word K A) []) : FnOk P w K mg base (L2N.CX P w) 4 f fd ["_law_bag_here", "_law_kind"] (sp__law_worths K A) := by
  refine F.ok (CX := (L2N.CX P w)) sc__law_worths (fun vs H Q E h => len__law_worths h) (fun cdv A' outer s H vs Q E hr h => ⟨t__law_worths K A E, ?_, pure__law_worths h⟩)
  exact (pss_one (ps_ret (pe_lc (own := [("_law_turn", 2)]) (g := (gName 2)) (tt := tYes) rfl sc__law_worths.nd (pi_range1 rfl fr_range (pa_cons pe_int pa_nil)) (blkOk_by (own := [("_law_turn", 2)]) (N := ["_law_bag_here", "_law_kind", "_law_turn"]) (sc := defScope s__law_worths) (by decide +kernel)) (fun _ _ _ _ _ => (pg_name (i := 2) sc__law_worths.nd rfl (by first | exact Or.inl rfl | exact Or.inr rfl))) (fun _ _ _ _ _ => pts_nil) (fun _ _ _ _ _ => (pe_ifExp (pt_cmpR op_eq (pv 1) pe_str (nomark _)) (pe_cl c__law_number hr (by decide) rfl passN (pa_cons (pv 0) pa_nil)) (pe_cl c__law_word hr (by decide) rfl passN (pa_cons (pv 0) pa_nil)))))))
theorem ok__law_wrong (F : FunD K "_law_wrong" "_law_wrong" (defArgs s__law_wrong) (defBody s__law_wrong) (defScope s__law_wrong) [] [] f fd) (c__law_of : Cl P w K mg base 2 "_law_of" (sp__law_of K A) []) : FnOk P w K mg base (L2N.CX P w) 3 f fd ["_law_bag_here", "_law_kind"] (sp__law_wrong K A) := by
  refine F.ok (CX := (L2N.CX P w)) sc__law_wrong (fun vs H Q E h => len__law_wrong h) (fun cdv A' outer s H vs Q E hr h => ⟨t__law_wrong K A E, ?_, pure__law_wrong h⟩)
  exact (pss_cons (ps_set (i := 2) sc__law_wrong.nd rfl (by first | exact Or.inl rfl | exact Or.inr rfl) (pe_lst (pa_cons pe_bl (pa_cons pe_bl (pa_cons (pe_lst pa_nil) (pa_cons (pe_tup pa_nil) (pa_cons (pe_tup (pa_cons pe_bl (pa_cons pe_int pa_nil))) (pa_cons (pe_tup (pa_cons pe_int (pa_cons pe_int pa_nil))) (pa_cons (pe_tup (pa_cons pe_int (pa_cons pe_int pa_nil))) (pa_cons (pe_tup (pa_cons pe_int (pa_cons (pe_un un_neg pe_int) pa_nil))) (pa_cons pe_str (pa_cons pe_str (pa_cons pe_str (pa_cons pe_str (pa_cons pe_str (pa_cons (pe_lst (pa_cons pe_int pa_nil)) (pa_cons (pe_tup (pa_cons pe_str pa_nil)) (pa_cons pe_dnewK pa_nil))))))))))))))))))
    (pss_one (ps_ret (pe_cl c__law_of hr (by decide) rfl passN (pa_cons (pv 0) (pa_cons (pe_op op_cat (pv 2) (pe_ifExp (pt_cmpR op_eq (pv 1) pe_str (nomark _)) (pe_lst (pa_cons pe_str (pa_cons pe_str (pa_cons pe_str pa_nil)))) (pe_lst (pa_cons pe_int (pa_cons pe_int (pa_cons (pe_tup (pa_cons pe_int (pa_cons pe_int pa_nil))) (pa_cons (pe_un un_neg pe_int) pa_nil))))))) pa_nil))))))
theorem ok__law_said (F : FunD K "_law_said" "_law_said" (defArgs s__law_said) (defBody s__law_said) (defScope s__law_said) [] [] f fd) (fr_isinstance : mg "isinstance" = none) (gm_BadField : mg "BadField" = some (.ref A.cBadField)) (gm_BadValue : mg "BadValue" = some (.ref A.cBadValue)) (gm_MendroundsError : mg "MendroundsError" = some (.ref A.cMendroundsError)) (xf_BadField : XfC K A.cBadField) (xf_BadValue : XfC K A.cBadValue) (xn_BadField_name : PySem.W.findIn K (.ref A.cBadField) "name" = some none) (xn_BadValue_name : PySem.W.findIn K (.ref A.cBadValue) "name" = some none) (ki_BadField_MendroundsError : PySem.W.kitOne K (.ref A.cBadField) (.ref A.cMendroundsError) = some true) (ki_BadValue_MendroundsError : PySem.W.kitOne K (.ref A.cBadValue) (.ref A.cMendroundsError) = some true) (xc_BadField : ExcC K A.cBadField) (xc_BadValue : ExcC K A.cBadValue) (xm_BadField : PySem.W.exmOne K (.ref A.cBadField) (.ref A.cBadField) = some true) (xm_BadValue : PySem.W.exmOne K (.ref A.cBadValue) (.ref A.cBadValue) = some true) (xu_BadValue_BadField : PySem.W.exmOne K (.ref A.cBadValue) (.ref A.cBadField) = some false) (mk_Layout_fill : MtK P w K mg base 5 A.cLayout "fill" (sp_Layout_fill K A)) : FnOk P w K mg base (L2N.CX P w) 6 f fd ["_law_layout", "_law_way", "_law_one", "_law_two"] (sp__law_said K A) := by
  refine F.ok (CX := (L2N.CX P w)) sc__law_said (fun vs H Q E h => len__law_said h) (fun cdv A' outer s H vs Q E hr h => ⟨t__law_said K A E, ?_, pure__law_said ki_BadField_MendroundsError ki_BadValue_MendroundsError xc_BadField xc_BadValue xm_BadField xm_BadValue xu_BadValue_BadField h⟩)
  exact (pss_cons (ps_tries (tb := tb__law_said K A) (Wout := fun _ _ _ _ => False) rfl rfl sc__law_said.nd takesN (fun W pn xe tk _ => by exact (pss_one (ps_if (pt_cmpR op_eq (pv 1) pe_int (nomark _)) (pss_one (ps_expr (pe_mtKw (ks := ["kc", "kb"]) mk_Layout_fill hr (by decide) (fun σ => L2N.passAt tk σ) (pv 0) (pk_cons (pv 3) (pk_cons (pv 2) pk_nil))))) (pss_one (ps_if (pt_cmpR op_eq (pv 1) pe_int (nomark _)) (pss_one (ps_expr (pe_mtKw (ks := ["ka", "kd"]) mk_Layout_fill hr (by decide) (fun σ => L2N.passAt tk σ) (pv 0) (pk_cons (pv 2) (pk_cons (pv 3) pk_nil))))) (pss_one (ps_if (pt_cmpR op_eq (pv 1) pe_int (nomark _)) (pss_one (ps_expr (pe_mtKw (ks := ["kd", "ka"]) mk_Layout_fill hr (by decide) (fun σ => L2N.passAt tk σ) (pv 0) (pk_cons (pv 2) (pk_cons (pv 3) pk_nil))))) (pss_one (ps_if (pt_cmpR op_eq (pv 1) pe_int (nomark _)) (pss_one (ps_expr (pe_mtKw (ks := ["ka", "ke", "kd"]) mk_Layout_fill hr (by decide) (fun σ => L2N.passAt tk σ) (pv 0) (pk_cons (pv 3) (pk_cons (pv 2) (pk_cons (pv 3) pk_nil)))))) (pss_one (ps_if (pt_cmpR op_eq (pv 1) pe_int (nomark _)) (pss_one (ps_expr (pe_mtKw (ks := ["kd", "kb", "ke"]) mk_Layout_fill hr (by decide) (fun σ => L2N.passAt tk σ) (pv 0) (pk_cons (pv 3) (pk_cons (pv 2) (pk_cons (pv 2) pk_nil)))))) (pss_one (ps_expr (pe_mtKw (ks := ["kb"]) mk_Layout_fill hr (by decide) (fun σ => L2N.passAt tk σ) (pv 0) (pk_cons (pv 2) pk_nil))))))))))))))) (.cons (i := 4) (ts := ts__law_said_0 K A) ⟨rfl, by decide, Or.inl gm_BadField⟩ rfl rfl (fun a oe cls d pn hz hf => by exact (pss_one (ps_ret (pe_tup (pa_cons pe_str (pa_cons (pe_xf xf_BadField xn_BadField_name hz.zc hf (pv 4)) (pa_cons (pe_callB (call_isX hz.zc hf) rfl fr_isinstance boot_isinstance (pa_cons (pv 4) (pa_cons (pe_glob rfl gm_MendroundsError rfl) pa_nil))) pa_nil))))))) (.cons (i := 4) (ts := ts__law_said_1 K A) ⟨rfl, by decide, Or.inl gm_BadValue⟩ rfl rfl (fun a oe cls d pn hz hf => by exact (pss_one (ps_ret (pe_tup (pa_cons pe_str (pa_cons (pe_xf xf_BadValue xn_BadValue_name hz.zc hf (pv 4)) (pa_cons (pe_callB (call_isX hz.zc hf) rfl fr_isinstance boot_isinstance (pa_cons (pv 4) (pa_cons (pe_glob rfl gm_MendroundsError rfl) pa_nil))) pa_nil))))))) .nil)))
    (pss_one (ps_ret pe_non)))
theorem ok__law_is_new (F : FunD K "_law_is_new" "_law_is_new" (defArgs s__law_is_new) (defBody s__law_is_new) (defScope s__law_is_new) [] [] f fd) (fr_list : mg "list" = none) (mk_Layout_fill : MtK P w K mg base 5 A.cLayout "fill" (sp_Layout_fill K A)) : FnOk P w K mg base (L2N.CX P w) 6 f fd ["_law_layout", "_law_one", "_law_two"] (sp__law_is_new K A) := by
  refine F.ok (CX := (L2N.CX P w)) sc__law_is_new (fun vs H Q E h => len__law_is_new h) (fun cdv A' outer s H vs Q E hr h => ⟨t__law_is_new K A E, ?_, pure__law_is_new h⟩)
  exact (pss_cons (ps_set (i := 3) sc__law_is_new.nd rfl (by first | exact Or.inl rfl | exact Or.inr rfl) (pe_mtKw (ks := ["kb", "ka"]) mk_Layout_fill hr (by decide) (passAt_of (L2N.passes_call (L2N.takes_of rfl rfl rfl rfl) (fun _ _ _ _ h => h))) (pv 0) (pk_cons (pv 2) (pk_cons (pv 1) pk_nil))))
    (pss_cons (ps_set (i := 4) sc__law_is_new.nd rfl (by first | exact Or.inl rfl | exact Or.inr rfl) (pe_disp (pps_cons pe_str (pv 1) (pps_cons pe_str (pv 2) (pps_cons pe_str pe_non pps_nil))) rfl rfl (List.cons_ne_nil _ _) (by decide)))
    (pss_cons (ps_if (PW.pt (pw_or (pt_cmpR (op_neDS (Nat.lt_of_succ_lt (hu_of hr))) (pv 3) (pv 4) (nomark _)) (pw_or1 (pt_cmpR (op_neD hr.units) (pe_callTy (call_listD rfl) rfl fr_list boot_list (pa_cons (pv 3) pa_nil)) (pe_lst (pa_cons pe_str (pa_cons pe_str (pa_cons pe_str pa_nil)))) (nomark _))))) (pss_one (ps_ret pe_bl)) pss_nil)
    (pss_cons (ps_asg pe_str (pg_sub (pv 3) pe_str (set_dict (hu_of hr))))
    (pss_cons (ps_expr (pe_dpop1 (pv 3) pe_str ⟨rfl, rfl, rfl, rfl⟩))
    (pss_cons (ps_set (i := 5) sc__law_is_new.nd rfl (by first | exact Or.inl rfl | exact Or.inr rfl) (pe_mtKw (ks := ["ka", "kb"]) mk_Layout_fill hr (by decide) (passAt_of (L2N.passes_call (L2N.takes_of rfl rfl rfl rfl) (fun _ _ _ _ h => h))) (pv 0) (pk_cons (pv 1) (pk_cons (pv 2) pk_nil))))
    (pss_one (ps_ret (pe_and (pe_cmpR (op_eqDS (Nat.lt_of_succ_lt (hu_of hr))) (pv 5) (pv 4) (nomark _)) (pe_and (pe_cmpR (op_eqD hr.units) (pe_callTy (call_listD rfl) rfl fr_list boot_list (pa_cons (pv 5) pa_nil)) (pe_lst (pa_cons pe_str (pa_cons pe_str (pa_cons pe_str pa_nil)))) (nomark _)) (pe_one (pe_cmpR (op_eqDS (Nat.lt_of_succ_lt (hu_of hr))) (pe_mtKw (ks := []) mk_Layout_fill hr (by decide) (passAt_of (L2N.passes_call (L2N.takes_of rfl rfl rfl rfl) (fun _ _ _ _ h => h))) (pv 0) pk_nil) (pe_disp (pps_cons pe_str pe_non (pps_cons pe_str pe_non (pps_cons pe_str pe_non pps_nil))) rfl rfl (List.cons_ne_nil _ _) (by decide)) (nomark _)))))))))))))
theorem ok__law_takes (F : FunD K "_law_takes" "_law_takes" (defArgs s__law_takes) (defBody s__law_takes) (defScope s__law_takes) [] [] f fd) (fr_dict : mg "dict" = none) (fr_list : mg "list" = none) (fr_str : mg "str" = none) (fr_tuple : mg "tuple" = none) (m_Layout_is_filling : Mt P w K mg base 5 A.cLayout "is_filling" (sp_Layout_is_filling K A)) (c__law_turned : Cl P w K mg base 1 "_law_turned" (sp__law_turned K A) []) (c__law_of : Cl P w K mg base 2 "_law_of" (sp__law_of K A) []) (c__law_wrong : Cl P w K mg base 3 "_law_wrong" (sp__law_wrong K A) []) : FnG P w K mg base (L2N.CX P w) 6 f fd ["_law_bag_here", "_law_layout", "_law_kinds", "_law_filling"] (sp__law_takes K A) := by
  refine fnG_of (CX := (L2N.CX P w)) F sc__law_takes (fun vs H Q E h => len__law_takes h) (fun cdv A' outer s H vs Q E gd hr h => ⟨t__law_takes K A E, ?_, pure__law_takes h⟩)
  exact (pss_cons (ps_if (PW.pt (pw_or (pt_cmpR op_notBl (pe_mt2 m_Layout_is_filling hr (by decide) (L2N.passes_call (L2N.takes_of rfl rfl rfl rfl) (fun _ _ _ _ h => h)) (pv 1) (pa_cons (pv 3) pa_nil)) pe_bl (nomark _)) (pw_or1 (pt_cmpR op_notBl (pe_mt2 m_Layout_is_filling hr (by decide) (L2N.passes_call (L2N.takes_of rfl rfl rfl rfl) (fun _ _ _ _ h => h)) (pv 1) (pa_cons (pe_cl c__law_turned hr (by decide) rfl passN (pa_cons (pv 3) pa_nil)) pa_nil)) pe_bl (nomark _))))) (pss_one (ps_ret pe_bl)) pss_nil)
    (pss_cons (ps_set (i := 4) sc__law_takes.nd rfl (by first | exact Or.inl rfl | exact Or.inr rfl) (pe_cl c__law_of hr (by decide) rfl passN (pa_cons (pv 0) (pa_cons (pe_lst (pa_cons pe_str (pa_cons pe_str (pa_cons pe_str pa_nil)))) pa_nil))))
    (pss_cons (ps_par3 (i := 8) (j := 9) (l := 10) rfl sc__law_takes.nd rfl rfl rfl (by decide) (by decide) (by decide) rfl rfl rfl (pa_cons (pe_callTy call_dictD rfl fr_dict boot_dict (pa_cons (pv 3) pa_nil)) (pa_cons (pe_callTy call_dictD rfl fr_dict boot_dict (pa_cons (pv 3) pa_nil)) (pa_cons (pe_callTy call_dictD rfl fr_dict boot_dict (pa_cons (pv 3) pa_nil)) pa_nil))) rfl)
    (pss_cons (ps_asg (pe_cl c__law_wrong hr (by decide) rfl passN (pa_cons (pv 0) (pa_cons (pe_ix ix_seq (pv 2) (pe_bm PySem.F.plainAttrs_list PySem.F.slot_list_index PySem.F.type_list_index mt_index (pe_lst (pa_cons pe_str (pa_cons pe_str (pa_cons pe_str pa_nil)))) (pa_cons (pv 4) pa_nil)) (fun _ _ => rfl)) pa_nil))) (pg_sub (pv 8) (pv 4) (set_dict (hu_of hr))))
    (pss_cons (ps_asg pe_non (pg_sub (pv 9) pe_str (set_dict (hu_of hr))))
    (pss_cons (ps_expr (pe_dpop1 (pv 10) (pv 4) ⟨rfl, rfl, rfl, rfl⟩))
    (pss_cons (ps_asg (pe_cl c__law_of hr (by decide) rfl passN (pa_cons (pv 0) (pa_cons (pe_lst (pa_cons pe_non (pa_cons (pe_dget (hu_of hr) (pv 3) (pv 4) (fun _ _ => rfl)) pa_nil))) pa_nil))) (pg_sub (pv 10) pe_str (set_dict (hu_of hr))))
    (pss_cons (ps_set (i := 5) sc__law_takes.nd rfl (by first | exact Or.inl rfl | exact Or.inr rfl) (pe_callTy call_dictD rfl fr_dict boot_dict (pa_cons (pv 10) pa_nil)))
    (pss_cons (ps_expr (pe_dpop1 (pv 5) pe_str ⟨rfl, rfl, rfl, rfl⟩))
    (pss_cons (ps_for (passes_of rfl) rfl (pi_list (pe_lst (pa_cons (pv 8) (pa_cons (pv 9) (pa_cons (pv 10) (pa_cons (pv 5) (pa_cons pe_dnewK (pa_cons pe_non (pa_cons pe_bl (pa_cons (pe_callTy (call_listD rfl) rfl fr_list boot_list (pa_cons (pv 3) pa_nil)) (pa_cons (pe_callTy (call_tupD rfl) rfl fr_tuple boot_tuple (pa_cons (pv 3) pa_nil)) (pa_cons (pe_callTy (call_strD gd (hu65 hr)) rfl fr_str boot_str (pa_cons (pv 3) pa_nil)) pa_nil)))))))))))) (pg_name (i := 6) sc__law_takes.nd rfl (by first | exact Or.inl rfl | exact Or.inr rfl)) (pss_one (ps_if (pt_cmpR op_notBl (pe_mt2 m_Layout_is_filling hr (by decide) (L2N.passes_call (L2N.takes_of rfl rfl rfl rfl) (fun _ _ _ _ h => h)) (pv 1) (pa_cons (pv 6) pa_nil)) pe_bl (nomark _)) (pss_one (ps_ret pe_bl)) pss_nil)))
    (pss_cons (ps_set (i := 7) sc__law_takes.nd rfl (by first | exact Or.inl rfl | exact Or.inr rfl) (pe_callTy call_dictD rfl fr_dict boot_dict (pa_cons (pv 3) pa_nil)))
    (pss_cons (ps_asg pe_non (pg_sub (pv 7) (pv 4) (set_dict (hu_of hr))))
    (pss_one (ps_ret (pe_cmpR op_isBl (pe_mt2 m_Layout_is_filling hr (by decide) (L2N.passes_call (L2N.takes_of rfl rfl rfl rfl) (fun _ _ _ _ h => h)) (pv 1) (pa_cons (pv 7) pa_nil)) pe_bl (nomark _))))))))))))))))
theorem ok_law (F : FunD K "law" "law" (defArgs s_law) (defBody s_law) (defScope s_law) [] [] f fd) (fr_len : mg "len" = none) (fr_max : mg "max" = none) (fr_min : mg "min" = none) (fr_range : mg "range" = none) (c__law_bag : Cl P w K mg base 1 "_law_bag" (sp__law_bag K A) []) (c__law_of : Cl P w K mg base 2 "_law_of" (sp__law_of K A) []) (k_Layout : Km P w K mg base 4 "Layout" A.cLayout (sp_Layout___init__ K A)) (c__law_worths : Cl P w K mg base 4 "_law_worths" (sp__law_worths K A) []) (c__law_wrong : Cl P w K mg base 3 "_law_wrong" (sp__law_wrong K A) []) (c__law_is_new : Cl P w K mg base 6 "_law_is_new" (sp__law_is_new K A) []) (mk_Layout_fill : MtK P w K mg base 5 A.cLayout "fill" (sp_Layout_fill K A)) (c__law_said : Cl P w K mg base 6 "_law_said" (sp__law_said K A) []) (cG__law_takes : ClG P w K mg base 6 "_law_takes" (sp__law_takes K A) []) : FnG P w K mg base CX0 7 f fd ["_law_script"] (sp_law K) := by
  refine fnG_of (CX := CX0) F sc_law (fun vs H Q E h => len_law h) (fun cdv A' outer s H vs Q E gd hr h => ⟨t_law K A E, ?_, pure_law h⟩)
  exact (pss_cons (ps_for (passes_of rfl) rfl (pi_range1 rfl fr_range (pa_cons (pe_callB (call_max2 rfl) rfl fr_max boot_max (pa_cons pe_int (pa_cons (pe_callB (call_min2 rfl) rfl fr_min boot_min (pa_cons pe_int (pa_cons (pe_callB call_len rfl fr_len boot_len (pa_cons (pv 0) pa_nil)) pa_nil))) pa_nil))) pa_nil)) (pg_name (i := 1) sc_law.nd rfl (by first | exact Or.inl rfl | exact Or.inr rfl)) (pss_cons (ps_set (i := 2) sc_law.nd rfl (by first | exact Or.inl rfl | exact Or.inr rfl) (pe_cl c__law_bag hr (by decide) rfl passN (pa_cons (pv 0) (pa_cons (pv 1) pa_nil))))
    (pss_cons (ps_setLc (i := 3) (own := [("_law_turn", 8)]) (g := (gName 8)) (tt := tYes) rfl sc_law.nd rfl rfl (sw_true rfl rfl rfl (by decide +kernel)) (pi_range1 rfl fr_range (pa_cons pe_int pa_nil)) (blkOk_by (own := [("_law_turn", 8)]) (N := ["_law_script", "_law_at", "_law_bag_here", "_law_kinds", "_law_layout", "_law_worths_here", "_law_wrong_here", "_law_filling", "_law_turn", "_law_kind"]) (sc := defScope s_law) (by decide +kernel)) (fun _ _ _ _ _ => (pg_name (i := 8) sc_law.nd rfl (by first | exact Or.inl rfl | exact Or.inr rfl))) (fun _ _ _ _ _ => pts_nil) (fun _ _ _ _ _ => (pe_cl c__law_of hr (by decide) rfl passN (pa_cons (pv 2) (pa_cons (pe_lst (pa_cons pe_str (pa_cons pe_str pa_nil))) pa_nil)))))
    (pss_cons (ps_set (i := 4) sc_law.nd rfl (by first | exact Or.inl rfl | exact Or.inr rfl) (pe_mk2 k_Layout hr (by decide) rfl passN (pa_cons (pe_lst (pa_cons (pe_tup (pa_cons pe_str (pa_cons (pe_ix ix_seq (pv 3) pe_int (fun _ _ => rfl)) pa_nil))) (pa_cons (pe_tup (pa_cons pe_str (pa_cons (pe_ix ix_seq (pv 3) pe_int (fun _ _ => rfl)) pa_nil))) (pa_cons (pe_tup (pa_cons pe_str (pa_cons (pe_ix ix_seq (pv 3) pe_int (fun _ _ => rfl)) pa_nil))) pa_nil)))) pa_nil)))
    (pss_cons (ps_setLc (i := 5) (own := [("_law_kind", 9)]) (g := (gName 9)) (tt := tYes) rfl sc_law.nd rfl rfl (sw_true rfl rfl rfl (by decide +kernel)) (pi_list (pv 3)) (blkOk_by (own := [("_law_kind", 9)]) (N := ["_law_script", "_law_at", "_law_bag_here", "_law_kinds", "_law_layout", "_law_worths_here", "_law_wrong_here", "_law_filling", "_law_turn", "_law_kind"]) (sc := defScope s_law) (by decide +kernel)) (fun _ _ _ _ _ => (pg_name (i := 9) sc_law.nd rfl (by first | exact Or.inl rfl | exact Or.inr rfl))) (fun _ _ _ _ _ => pts_nil) (fun _ _ _ _ _ => (pe_cl c__law_worths hr (by decide) rfl passN (pa_cons (pv 2) (pa_cons (pv 9) pa_nil)))))
    (pss_cons (ps_setLc (i := 6) (own := [("_law_kind", 9)]) (g := (gName 9)) (tt := tYes) rfl sc_law.nd rfl rfl (sw_true rfl rfl rfl (by decide +kernel)) (pi_list (pv 3)) (blkOk_by (own := [("_law_kind", 9)]) (N := ["_law_script", "_law_at", "_law_bag_here", "_law_kinds", "_law_layout", "_law_worths_here", "_law_wrong_here", "_law_filling", "_law_turn", "_law_kind"]) (sc := defScope s_law) (by decide +kernel)) (fun _ _ _ _ _ => (pg_name (i := 9) sc_law.nd rfl (by first | exact Or.inl rfl | exact Or.inr rfl))) (fun _ _ _ _ _ => pts_nil) (fun _ _ _ _ _ => (pe_cl c__law_wrong hr (by decide) rfl passN (pa_cons (pv 2) (pa_cons (pv 9) pa_nil)))))
    (pss_cons (ps_if (PW.pt (pw_or (pt_not (pt_val (pe_cl c__law_is_new hr (by decide) rfl passN (pa_cons (pv 4) (pa_cons (pe_ix ix_seq (pe_ix ix_seq (pv 5) pe_int (fun _ _ => rfl)) pe_int (fun _ _ => rfl)) (pa_cons (pe_ix ix_seq (pe_ix ix_seq (pv 5) pe_int (fun _ _ => rfl)) pe_int (fun _ _ => rfl)) pa_nil)))))) (pw_or1 (pt_cmpR (op_neD hr.units) (pe_dget (hu_of hr) (pe_mtKw (ks := ["kc"]) mk_Layout_fill hr (by decide) (fun σ => passH σ) (pv 4) (pk_cons (pe_ix ix_seq (pe_ix ix_seq (pv 5) pe_int (fun _ _ => rfl)) pe_int (fun _ _ => rfl)) pk_nil)) pe_str (fun _ _ => rfl)) (pe_ix ix_seq (pe_ix ix_seq (pv 5) pe_int (fun _ _ => rfl)) pe_int (fun _ _ => rfl)) (nomark _))))) (pss_one (ps_ret pe_bl)) pss_nil)
    (pss_cons (ps_if (pt_cmpR (op_neD hr.units) (pe_cl c__law_said hr (by decide) rfl passN (pa_cons (pv 4) (pa_cons pe_int (pa_cons (pe_ix ix_seq (pv 6) pe_int (fun _ _ => rfl)) (pa_cons (pe_ix ix_seq (pv 6) pe_int (fun _ _ => rfl)) pa_nil))))) (pe_tup (pa_cons pe_str (pa_cons pe_str (pa_cons pe_bl pa_nil)))) (nomark _)) (pss_one (ps_ret pe_bl)) pss_nil)
    (pss_cons (ps_if (pt_cmpR (op_neD hr.units) (pe_cl c__law_said hr (by decide) rfl passN (pa_cons (pv 4) (pa_cons pe_int (pa_cons (pe_ix ix_seq (pe_ix ix_seq (pv 5) pe_int (fun _ _ => rfl)) pe_int (fun _ _ => rfl)) (pa_cons (pe_ix ix_seq (pv 6) pe_int (fun _ _ => rfl)) pa_nil))))) (pe_tup (pa_cons pe_str (pa_cons pe_str (pa_cons pe_bl pa_nil)))) (nomark _)) (pss_one (ps_ret pe_bl)) pss_nil)
    (pss_cons (ps_if (pt_cmpR (op_neD hr.units) (pe_cl c__law_said hr (by decide) rfl passN (pa_cons (pv 4) (pa_cons pe_int (pa_cons (pe_ix ix_seq (pv 6) pe_int (fun _ _ => rfl)) (pa_cons (pe_ix ix_seq (pe_ix ix_seq (pv 5) pe_int (fun _ _ => rfl)) pe_int (fun _ _ => rfl)) pa_nil))))) (pe_tup (pa_cons pe_str (pa_cons pe_str (pa_cons pe_bl pa_nil)))) (nomark _)) (pss_one (ps_ret pe_bl)) pss_nil)
    (pss_cons (ps_if (pt_cmpR (op_neD hr.units) (pe_cl c__law_said hr (by decide) rfl passN (pa_cons (pv 4) (pa_cons pe_int (pa_cons (pe_ix ix_seq (pe_ix ix_seq (pv 5) pe_int (fun _ _ => rfl)) pe_int (fun _ _ => rfl)) (pa_cons (pe_ix ix_seq (pv 6) pe_int (fun _ _ => rfl)) pa_nil))))) (pe_tup (pa_cons pe_str (pa_cons pe_str (pa_cons pe_bl pa_nil)))) (nomark _)) (pss_one (ps_ret pe_bl)) pss_nil)
    (pss_cons (ps_if (pt_cmpR (op_neD hr.units) (pe_cl c__law_said hr (by decide) rfl passN (pa_cons (pv 4) (pa_cons pe_int (pa_cons (pe_ix ix_seq (pv 6) pe_int (fun _ _ => rfl)) (pa_cons (pe_ix ix_seq (pe_ix ix_seq (pv 5) pe_int (fun _ _ => rfl)) pe_int (fun _ _ => rfl)) pa_nil))))) (pe_tup (pa_cons pe_str (pa_cons pe_str (pa_cons pe_bl pa_nil)))) (nomark _)) (pss_one (ps_ret pe_bl)) pss_nil)
    (pss_cons (ps_if (pt_cmpR (op_neD hr.units) (pe_cl c__law_said hr (by decide) rfl passN (pa_cons (pv 4) (pa_cons pe_int (pa_cons (pe_ix ix_seq (pv 6) pe_int (fun _ _ => rfl)) (pa_cons pe_non pa_nil))))) (pe_tup (pa_cons pe_str (pa_cons pe_str (pa_cons pe_bl pa_nil)))) (nomark _)) (pss_one (ps_ret pe_bl)) pss_nil)
    (pss_cons (ps_if (PW.pt (pw_or (pt_cmpR (op_neD hr.units) (pe_cl c__law_said hr (by decide) rfl passN (pa_cons (pv 4) (pa_cons pe_int (pa_cons (pe_ix ix_seq (pv 6) pe_int (fun _ _ => rfl)) (pa_cons pe_non pa_nil))))) (pe_tup (pa_cons pe_str (pa_cons pe_str (pa_cons pe_bl pa_nil)))) (nomark _)) (pw_or1 (pt_cmpR op_notN1 (pe_cl c__law_said hr (by decide) rfl passN (pa_cons (pv 4) (pa_cons pe_int (pa_cons pe_non (pa_cons pe_non pa_nil))))) pe_non (nomark _))))) (pss_one (ps_ret pe_bl)) pss_nil)
    (pss_cons (ps_set (i := 7) sc_law.nd rfl (by first | exact Or.inl rfl | exact Or.inr rfl) (pe_disp (pps_cons pe_str (pe_ix ix_seq (pe_ix ix_seq (pv 5) pe_int (fun _ _ => rfl)) pe_int (fun _ _ => rfl)) (pps_cons pe_str (pe_ix ix_seq (pe_ix ix_seq (pv 5) pe_int (fun _ _ => rfl)) pe_int (fun _ _ => rfl)) (pps_cons pe_str (pe_ix ix_seq (pe_ix ix_seq (pv 5) pe_int (fun _ _ => rfl)) pe_int (fun _ _ => rfl)) pps_nil))) rfl rfl (List.cons_ne_nil _ _) (by decide)))
    (pss_one (ps_if (pt_not (pt_val (pe_clG cG__law_takes gd hr (by decide) rfl passN (pa_cons (pv 2) (pa_cons (pv 4) (pa_cons (pv 3) (pa_cons (pv 7) pa_nil))))))) (pss_one (ps_ret pe_bl)) pss_nil)))))))))))))))))
    (pss_one (ps_ret pe_bl)))
end
/-! ### the head: facts by names, the run -/
namespace Hd
def d_BadLayout___init__ : He.DefD := ⟨("BadLayout", some "__init__"), "__init__", "BadLayout.__init__", defArgs s_BadLayout___init__, defBody s_BadLayout___init__, defScope s_BadLayout___init__, [], []⟩
def d_BadField___init__ : He.DefD := ⟨("BadField", some "__init__"), "__init__", "BadField.__init__", defArgs s_BadField___init__, defBody s_BadField___init__, defScope s_BadField___init__, [], []⟩
def d_BadValue___init__ : He.DefD := ⟨("BadValue", some "__init__"), "__init__", "BadValue.__init__", defArgs s_BadValue___init__, defBody s_BadValue___init__, defScope s_BadValue___init__, [], []⟩
def d_is_whole : He.DefD := ⟨("is_whole", none), "is_whole", "is_whole", defArgs s_is_whole, defBody s_is_whole, defScope s_is_whole, [], []⟩
def d_is_number : He.DefD := ⟨("is_number", none), "is_number", "is_number", defArgs s_is_number, defBody s_is_number, defScope s_is_number, [], []⟩
def d_is_word : He.DefD := ⟨("is_word", none), "is_word", "is_word", defArgs s_is_word, defBody s_is_word, defScope s_is_word, [], []⟩
def d_is_name : He.DefD := ⟨("is_name", none), "is_name", "is_name", defArgs s_is_name, defBody s_is_name, defScope s_is_name, [], []⟩
def d__is_field : He.DefD := ⟨("_is_field", none), "_is_field", "_is_field", defArgs s__is_field, defBody s__is_field, defScope s__is_field, [], []⟩
def d_is_value : He.DefD := ⟨("is_value", none), "is_value", "is_value", defArgs s_is_value, defBody s_is_value, defScope s_is_value, [], []⟩
def d_first_wrong : He.DefD := ⟨("first_wrong", none), "first_wrong", "first_wrong", defArgs s_first_wrong, defBody s_first_wrong, defScope s_first_wrong, [], []⟩
def d__has_all_fields : He.DefD := ⟨("_has_all_fields", none), "_has_all_fields", "_has_all_fields", defArgs s__has_all_fields, defBody s__has_all_fields, defScope s__has_all_fields, [], []⟩
def d_Layout___init__ : He.DefD := ⟨("Layout", some "__init__"), "__init__", "Layout.__init__", defArgs s_Layout___init__, defBody s_Layout___init__, defScope s_Layout___init__, [], []⟩
def d_Layout___len__ : He.DefD := ⟨("Layout", some "__len__"), "__len__", "Layout.__len__", defArgs s_Layout___len__, defBody s_Layout___len__, defScope s_Layout___len__, [], []⟩
def d_Layout_kind : He.DefD := ⟨("Layout", some "kind"), "kind", "Layout.kind", defArgs s_Layout_kind, defBody s_Layout_kind, defScope s_Layout_kind, [], []⟩
def d_Layout_fill : He.DefD := ⟨("Layout", some "fill"), "fill", "Layout.fill", defArgs s_Layout_fill, defBody s_Layout_fill, defScope s_Layout_fill, [], []⟩
def d_Layout_is_filling : He.DefD := ⟨("Layout", some "is_filling"), "is_filling", "Layout.is_filling", defArgs s_Layout_is_filling, defBody s_Layout_is_filling, defScope s_Layout_is_filling, [], []⟩
def d__law_bag : He.DefD := ⟨("_law_bag", none), "_law_bag", "_law_bag", defArgs s__law_bag, defBody s__law_bag, defScope s__law_bag, [], []⟩
def d__law_take : He.DefD := ⟨("_law_take", none), "_law_take", "_law_take", defArgs s__law_take, defBody s__law_take, defScope s__law_take, [], []⟩
def d__law_of : He.DefD := ⟨("_law_of", none), "_law_of", "_law_of", defArgs s__law_of, defBody s__law_of, defScope s__law_of, [], []⟩
def d__law_word : He.DefD := ⟨("_law_word", none), "_law_word", "_law_word", defArgs s__law_word, defBody s__law_word, defScope s__law_word, [], []⟩
def d__law_value : He.DefD := ⟨("_law_value", none), "_law_value", "_law_value", defArgs s__law_value, defBody s__law_value, defScope s__law_value, [], []⟩
def d__law_number : He.DefD := ⟨("_law_number", none), "_law_number", "_law_number", defArgs s__law_number, defBody s__law_number, defScope s__law_number, [], []⟩
def d__law_turned : He.DefD := ⟨("_law_turned", none), "_law_turned", "_law_turned", defArgs s__law_turned, defBody s__law_turned, defScope s__law_turned, [], []⟩
def d__law_worths : He.DefD := ⟨("_law_worths", none), "_law_worths", "_law_worths", defArgs s__law_worths, defBody s__law_worths, defScope s__law_worths, [], []⟩
def d__law_wrong : He.DefD := ⟨("_law_wrong", none), "_law_wrong", "_law_wrong", defArgs s__law_wrong, defBody s__law_wrong, defScope s__law_wrong, [], []⟩
def d__law_said : He.DefD := ⟨("_law_said", none), "_law_said", "_law_said", defArgs s__law_said, defBody s__law_said, defScope s__law_said, [], []⟩
def d__law_is_new : He.DefD := ⟨("_law_is_new", none), "_law_is_new", "_law_is_new", defArgs s__law_is_new, defBody s__law_is_new, defScope s__law_is_new, [], []⟩
def d__law_takes : He.DefD := ⟨("_law_takes", none), "_law_takes", "_law_takes", defArgs s__law_takes, defBody s__law_takes, defScope s__law_takes, [], []⟩
def d_law : He.DefD := ⟨("law", none), "law", "law", defArgs s_law, defBody s_law, defScope s_law, [], []⟩
def fn : List He.DefD := [d_BadLayout___init__, d_BadField___init__, d_BadValue___init__, d_is_whole, d_is_number, d_is_word, d_is_name, d__is_field, d_is_value, d_first_wrong, d__has_all_fields, d_Layout___init__, d_Layout___len__, d_Layout_kind, d_Layout_fill, d_Layout_is_filling, d__law_bag, d__law_take, d__law_of, d__law_word, d__law_value, d__law_number, d__law_turned, d__law_worths, d__law_wrong, d__law_said, d__law_is_new, d__law_takes, d_law]
def fa : List He.Fa := [.glo "is_whole", .glo "is_number", .glo "is_word", .glo "is_name", .glo "_is_field", .glo "is_value", .glo "first_wrong", .glo "_has_all_fields", .glo "_law_bag", .glo "_law_take", .glo "_law_of", .glo "_law_word", .glo "_law_value", .glo "_law_number", .glo "_law_turned", .glo "_law_worths", .glo "_law_wrong", .glo "_law_said", .glo "_law_is_new", .glo "_law_takes", .glo "law", .glo "MendroundsError", .glo "BadLayout", .glo "BadField", .glo "BadValue", .glo "Layout", .free "abs", .free "all", .free "bool", .free "dict", .free "enumerate", .free "int", .free "isinstance", .free "len", .free "list", .free "max", .free "min", .free "range", .free "str", .free "tuple", .str "LETTERS" "abcdefghijklmnopqrstuvwxyz", .int "LONGEST_WORD" 8, .str "NUMBER" "number", .glo "RESERVED", .str "WORD" "word", .cls "Layout", .mkr "Layout", .meth "Layout" "__len__", .meth "Layout" "kind", .meth "Layout" "fill", .meth "Layout" "is_filling", .noat "Layout" "_kinds", .noat "Layout" "names"]
def exs : List (PySem.W.Frag → Bool) := [(fun K => He.tupB K "RESERVED" [.str "and", .str "or", .str "not", .str "in", .str "given", .str "true", .str "false", .str "blank", .str "number", .str "word", .str "needs", .str "instead", .str "after", .str "blames", .str "check", .str "guard", .str "barrier", .str "repair", .str "default", .str "exit", .str "self"]), (fun K => He.eqO (PySem.W.nsIn K mainGlobals "gcd") (some (some (.builtin "math.gcd")))), (fun K => oexB K (He.ga K "MendroundsError")), (fun K => oexB K (He.ga K "BadLayout")), (fun K => inoB K (He.ga K "BadLayout")), (fun K => noB K (He.ga K "BadLayout") "at"), (fun K => oexB K (He.ga K "BadField")), (fun K => inoB K (He.ga K "BadField")), (fun K => noB K (He.ga K "BadField") "name"), (fun K => decide (PySem.W.kitOne K (.ref (He.ga K "BadField")) (.ref (He.ga K "MendroundsError")) = some true)), (fun K => xcB K (He.ga K "BadField")), (fun K => xfB K (He.ga K "BadField")), (fun K => decide (PySem.W.exmOne K (.ref (He.ga K "BadField")) (.ref (He.ga K "BadField")) = some true)), (fun K => oexB K (He.ga K "BadValue")), (fun K => inoB K (He.ga K "BadValue")), (fun K => noB K (He.ga K "BadValue") "name"), (fun K => decide (PySem.W.kitOne K (.ref (He.ga K "BadValue")) (.ref (He.ga K "MendroundsError")) = some true)), (fun K => xcB K (He.ga K "BadValue")), (fun K => xfB K (He.ga K "BadValue")), (fun K => decide (PySem.W.exmOne K (.ref (He.ga K "BadValue")) (.ref (He.ga K "BadValue")) = some true)), (fun K => decide (PySem.W.exmOne K (.ref (He.ga K "BadValue")) (.ref (He.ga K "BadField")) = some false)), (fun K => cconB K (He.ga K "Layout") "MOST" (.int 5))]
def ex (K : PySem.W.Frag) : Bool := exs.all fun b => b K
def ads (K : PySem.W.Frag) : Ads := { cMendroundsError := He.ga K "MendroundsError", cBadLayout := He.ga K "BadLayout", cBadField := He.ga K "BadField", cBadValue := He.ga K "BadValue", cLayout := He.ga K "Layout", gRESERVED := He.ga K "RESERVED" }
abbrev R : PySem.W.OpenRow := PySem.W.OpenLaw.row PySem.Challenge.rw_mendrounds_k07_fillings
abbrev hk : PySem.W.Hook := hookM 7 fa fn ex
def ob (s : PySem.W.SharedT) : He.AlD × Bool := obsM 7 fa fn ex (HandSHeadRun.getT s)
theorem ob_eq (s : PySem.W.SharedT) : ob s = hk.obs s.abs := obsM_eq (HandSHeadRun.getT_eq s)
def names0 : List PySem.Str := ["MendroundsError", "BadLayout", "BadField", "BadValue", "LETTERS", "LONGEST_WORD", "is_whole", "is_number", "is_word", "NUMBER", "WORD", "RESERVED", "is_name", "_is_field", "is_value", "first_wrong", "_has_all_fields", "Layout", "_law_bag", "_law_take", "_law_of", "_law_word", "_law_value", "_law_number", "_law_turned", "_law_worths", "_law_wrong", "_law_said", "_law_is_new", "_law_takes"]
def names : List PySem.Str := names0
theorem run (w : World) : HandSHeadRun.RunEqI R (PySem.W.view R.prog [0, 35]) hk ob 20000 names w := by
  unfold HandSHeadRun.RunEqI
  kernel_rfl
theorem facts {P : Program} {w : World} {K : PySem.W.Frag} {h : Heap} {mg : Str → Option Value} {f : Addr} (X : K.In h) (G : h.Ns mainGlobals mg) (hfa : mg ("law" : Str) = some (.ref f)) (c : He.SaysD fa fn K) (cx : ex K = true) :
    ∃ fd : FuncData, (∀ (s : Shared) (v : Value), BindsTo s fd ⟨[v], []⟩ [("_law_script", v)]) ∧ ∀ base : Heap, K.In base → base.Ns mainGlobals mg → FnG P w K mg base CX0 7 f fd ["_law_script"] (sp_law K) := by
  have ce : ∀ (i : Nat) (b : PySem.W.Frag → Bool), exs[i]? = some b → b K = true := fun i b e => List.all_eq_true.mp cx b (List.mem_of_getElem? e)
  have e_tab_RESERVED : (He.tupB K "RESERVED" [.str "and", .str "or", .str "not", .str "in", .str "given", .str "true", .str "false", .str "blank", .str "number", .str "word", .str "needs", .str "instead", .str "after", .str "blames", .str "check", .str "guard", .str "barrier", .str "repair", .str "default", .str "exit", .str "self"]) = true := ce 0 _ rfl
  have e_gm_gcd : (He.eqO (PySem.W.nsIn K mainGlobals "gcd") (some (some (.builtin "math.gcd")))) = true := ce 1 _ rfl
  have e_oex_MendroundsError : (oexB K (He.ga K "MendroundsError")) = true := ce 2 _ rfl
  have e_oex_BadLayout : (oexB K (He.ga K "BadLayout")) = true := ce 3 _ rfl
  have e_ino_BadLayout : (inoB K (He.ga K "BadLayout")) = true := ce 4 _ rfl
  have e_no_BadLayout_at : (noB K (He.ga K "BadLayout") "at") = true := ce 5 _ rfl
  have e_oex_BadField : (oexB K (He.ga K "BadField")) = true := ce 6 _ rfl
  have e_ino_BadField : (inoB K (He.ga K "BadField")) = true := ce 7 _ rfl
  have e_no_BadField_name : (noB K (He.ga K "BadField") "name") = true := ce 8 _ rfl
  have e_ki_BadField_MendroundsError : (decide (PySem.W.kitOne K (.ref (He.ga K "BadField")) (.ref (He.ga K "MendroundsError")) = some true)) = true := ce 9 _ rfl
  have e_xc_BadField : (xcB K (He.ga K "BadField")) = true := ce 10 _ rfl
  have e_xf_BadField : (xfB K (He.ga K "BadField")) = true := ce 11 _ rfl
  have e_xm_BadField : (decide (PySem.W.exmOne K (.ref (He.ga K "BadField")) (.ref (He.ga K "BadField")) = some true)) = true := ce 12 _ rfl
  have e_oex_BadValue : (oexB K (He.ga K "BadValue")) = true := ce 13 _ rfl
  have e_ino_BadValue : (inoB K (He.ga K "BadValue")) = true := ce 14 _ rfl
  have e_no_BadValue_name : (noB K (He.ga K "BadValue") "name") = true := ce 15 _ rfl
  have e_ki_BadValue_MendroundsError : (decide (PySem.W.kitOne K (.ref (He.ga K "BadValue")) (.ref (He.ga K "MendroundsError")) = some true)) = true := ce 16 _ rfl
  have e_xc_BadValue : (xcB K (He.ga K "BadValue")) = true := ce 17 _ rfl
  have e_xf_BadValue : (xfB K (He.ga K "BadValue")) = true := ce 18 _ rfl
  have e_xm_BadValue : (decide (PySem.W.exmOne K (.ref (He.ga K "BadValue")) (.ref (He.ga K "BadValue")) = some true)) = true := ce 19 _ rfl
  have e_xu_BadValue_BadField : (decide (PySem.W.exmOne K (.ref (He.ga K "BadValue")) (.ref (He.ga K "BadField")) = some false)) = true := ce 20 _ rfl
  have e_cc_Layout_MOST : (cconB K (He.ga K "Layout") "MOST" (.int 5)) = true := ce 21 _ rfl
  obtain ⟨fd_BadLayout___init__, F_BadLayout___init__⟩ := c.def_ 0 (d := d_BadLayout___init__) rfl
  obtain ⟨fd_BadField___init__, F_BadField___init__⟩ := c.def_ 1 (d := d_BadField___init__) rfl
  obtain ⟨fd_BadValue___init__, F_BadValue___init__⟩ := c.def_ 2 (d := d_BadValue___init__) rfl
  obtain ⟨fd_is_whole, F_is_whole⟩ := c.def_ 3 (d := d_is_whole) rfl
  obtain ⟨fd_is_number, F_is_number⟩ := c.def_ 4 (d := d_is_number) rfl
  obtain ⟨fd_is_word, F_is_word⟩ := c.def_ 5 (d := d_is_word) rfl
  obtain ⟨fd_is_name, F_is_name⟩ := c.def_ 6 (d := d_is_name) rfl
  obtain ⟨fd__is_field, F__is_field⟩ := c.def_ 7 (d := d__is_field) rfl
  obtain ⟨fd_is_value, F_is_value⟩ := c.def_ 8 (d := d_is_value) rfl
  obtain ⟨fd_first_wrong, F_first_wrong⟩ := c.def_ 9 (d := d_first_wrong) rfl
  obtain ⟨fd__has_all_fields, F__has_all_fields⟩ := c.def_ 10 (d := d__has_all_fields) rfl
  obtain ⟨fd_Layout___init__, F_Layout___init__⟩ := c.def_ 11 (d := d_Layout___init__) rfl
  obtain ⟨fd_Layout___len__, F_Layout___len__⟩ := c.def_ 12 (d := d_Layout___len__) rfl
  obtain ⟨fd_Layout_kind, F_Layout_kind⟩ := c.def_ 13 (d := d_Layout_kind) rfl
  obtain ⟨fd_Layout_fill, F_Layout_fill⟩ := c.def_ 14 (d := d_Layout_fill) rfl
  obtain ⟨fd_Layout_is_filling, F_Layout_is_filling⟩ := c.def_ 15 (d := d_Layout_is_filling) rfl
  obtain ⟨fd__law_bag, F__law_bag⟩ := c.def_ 16 (d := d__law_bag) rfl
  obtain ⟨fd__law_take, F__law_take⟩ := c.def_ 17 (d := d__law_take) rfl
  obtain ⟨fd__law_of, F__law_of⟩ := c.def_ 18 (d := d__law_of) rfl
  obtain ⟨fd__law_word, F__law_word⟩ := c.def_ 19 (d := d__law_word) rfl
  obtain ⟨fd__law_value, F__law_value⟩ := c.def_ 20 (d := d__law_value) rfl
  obtain ⟨fd__law_number, F__law_number⟩ := c.def_ 21 (d := d__law_number) rfl
  obtain ⟨fd__law_turned, F__law_turned⟩ := c.def_ 22 (d := d__law_turned) rfl
  obtain ⟨fd__law_worths, F__law_worths⟩ := c.def_ 23 (d := d__law_worths) rfl
  obtain ⟨fd__law_wrong, F__law_wrong⟩ := c.def_ 24 (d := d__law_wrong) rfl
  obtain ⟨fd__law_said, F__law_said⟩ := c.def_ 25 (d := d__law_said) rfl
  obtain ⟨fd__law_is_new, F__law_is_new⟩ := c.def_ 26 (d := d__law_is_new) rfl
  obtain ⟨fd__law_takes, F__law_takes⟩ := c.def_ 27 (d := d__law_takes) rfl
  obtain ⟨fd_law, F_law⟩ := c.def_ 28 (d := d_law) rfl
  have e := hfa.symm.trans (He.glo_ok X G (c.fact 20 (f := .glo "law") rfl))
  cases e
  have cc_Layout_MOST := cconB_ok e_cc_Layout_MOST
  have cl_Layout : Cls K (ads K).cLayout := He.cls_ok (c.fact 45 (f := .cls "Layout") rfl)
  have fr_abs := He.free_ok X G (c.fact 26 (f := .free "abs") rfl)
  have fr_all := He.free_ok X G (c.fact 27 (f := .free "all") rfl)
  have fr_bool := He.free_ok X G (c.fact 28 (f := .free "bool") rfl)
  have fr_dict := He.free_ok X G (c.fact 29 (f := .free "dict") rfl)
  have fr_enumerate := He.free_ok X G (c.fact 30 (f := .free "enumerate") rfl)
  have fr_int := He.free_ok X G (c.fact 31 (f := .free "int") rfl)
  have fr_isinstance := He.free_ok X G (c.fact 32 (f := .free "isinstance") rfl)
  have fr_len := He.free_ok X G (c.fact 33 (f := .free "len") rfl)
  have fr_list := He.free_ok X G (c.fact 34 (f := .free "list") rfl)
  have fr_max := He.free_ok X G (c.fact 35 (f := .free "max") rfl)
  have fr_min := He.free_ok X G (c.fact 36 (f := .free "min") rfl)
  have fr_range := He.free_ok X G (c.fact 37 (f := .free "range") rfl)
  have fr_str := He.free_ok X G (c.fact 38 (f := .free "str") rfl)
  have fr_tuple := He.free_ok X G (c.fact 39 (f := .free "tuple") rfl)
  have gm_BadField : mg "BadField" = some (.ref (ads K).cBadField) := He.glo_ok X G (c.fact 23 (f := .glo "BadField") rfl)
  have gm_BadValue : mg "BadValue" = some (.ref (ads K).cBadValue) := He.glo_ok X G (c.fact 24 (f := .glo "BadValue") rfl)
  have gm_LETTERS := He.str_ok X G (c.fact 40 (f := .str "LETTERS" "abcdefghijklmnopqrstuvwxyz") rfl)
  have gm_LONGEST_WORD := He.int_ok X G (c.fact 41 (f := .int "LONGEST_WORD" 8) rfl)
  have gm_Layout : mg "Layout" = some (.ref (ads K).cLayout) := He.glo_ok X G (c.fact 25 (f := .glo "Layout") rfl)
  have gm_MendroundsError : mg "MendroundsError" = some (.ref (ads K).cMendroundsError) := He.glo_ok X G (c.fact 21 (f := .glo "MendroundsError") rfl)
  have gm_NUMBER := He.str_ok X G (c.fact 42 (f := .str "NUMBER" "number") rfl)
  have gm_RESERVED : mg "RESERVED" = some (.ref (ads K).gRESERVED) := He.glo_ok X G (c.fact 43 (f := .glo "RESERVED") rfl)
  have gm_WORD := He.str_ok X G (c.fact 44 (f := .str "WORD" "word") rfl)
  have gm_gcd := PySem.W.mg_of X G (He.eqO_ok e_gm_gcd)
  have ki_BadField_MendroundsError := of_decide_eq_true e_ki_BadField_MendroundsError
  have ki_BadValue_MendroundsError := of_decide_eq_true e_ki_BadValue_MendroundsError
  have na_Layout__kinds : NoAttr K (ads K).cLayout "_kinds" := He.noat_ok (c.fact 51 (f := .noat "Layout" "_kinds") rfl)
  have na_Layout_names : NoAttr K (ads K).cLayout "names" := He.noat_ok (c.fact 52 (f := .noat "Layout" "names") rfl)
  have tb_RESERVED : ∀ H, SqT K H (ads K).gRESERVED _ := fun H => He.tupB_ok e_tab_RESERVED H
  have xc_BadField := xcB_ok e_xc_BadField
  have xc_BadValue := xcB_ok e_xc_BadValue
  have xf_BadField := xfB_ok e_xf_BadField
  have xf_BadValue := xfB_ok e_xf_BadValue
  have xm_BadField := of_decide_eq_true e_xm_BadField
  have xm_BadValue := of_decide_eq_true e_xm_BadValue
  have xn_BadField_name := noB_ok e_no_BadField_name
  have xn_BadValue_name := noB_ok e_no_BadValue_name
  have xu_BadValue_BadField := of_decide_eq_true e_xu_BadValue_BadField
  have bL := FunD.bindsA (ps := ["_law_script"]) F_law fun _ _ _ _ _ _ us hl => match us, hl with | [_], _ => rfl
  refine ⟨fd_law, fun s v => bL s [v] rfl, fun base _ _ => ?_⟩
  have G_BadLayout___init__ := ok_BadLayout___init__ (P := P) (w := w) (mg := mg) (base := base) (A := ads K) F_BadLayout___init__ (oexB_ok e_oex_BadLayout) (noB_ok e_no_BadLayout_at)
  have b_BadLayout___init__ : Binds K fd_BadLayout___init__ ["self", "at"] [] := F_BadLayout___init__.bindsN fun _ _ _ _ _ _ us hl => match us, hl with | [_, _], _ => rfl
  have k_BadLayout : Kx P w K mg base 1 "BadLayout" (ads K).cBadLayout (sp_BadLayout___init__ K (ads K)) := ⟨oexB_ok e_oex_BadLayout, _, _, _, (inoB_ok e_ino_BadLayout).1, (inoB_ok e_ino_BadLayout).2, G_BadLayout___init__, b_BadLayout___init__, He.glo_ok X G (c.fact 22 (f := .glo "BadLayout") rfl)⟩
  have G_BadField___init__ := ok_BadField___init__ (P := P) (w := w) (mg := mg) (base := base) (A := ads K) F_BadField___init__ (oexB_ok e_oex_BadField) (noB_ok e_no_BadField_name)
  have b_BadField___init__ : Binds K fd_BadField___init__ ["self", "name"] [] := F_BadField___init__.bindsN fun _ _ _ _ _ _ us hl => match us, hl with | [_, _], _ => rfl
  have k_BadField : Kx P w K mg base 1 "BadField" (ads K).cBadField (sp_BadField___init__ K (ads K)) := ⟨oexB_ok e_oex_BadField, _, _, _, (inoB_ok e_ino_BadField).1, (inoB_ok e_ino_BadField).2, G_BadField___init__, b_BadField___init__, He.glo_ok X G (c.fact 23 (f := .glo "BadField") rfl)⟩
  have G_BadValue___init__ := ok_BadValue___init__ (P := P) (w := w) (mg := mg) (base := base) (A := ads K) F_BadValue___init__ (oexB_ok e_oex_BadValue) (noB_ok e_no_BadValue_name)
  have b_BadValue___init__ : Binds K fd_BadValue___init__ ["self", "name"] [] := F_BadValue___init__.bindsN fun _ _ _ _ _ _ us hl => match us, hl with | [_, _], _ => rfl
  have k_BadValue : Kx P w K mg base 1 "BadValue" (ads K).cBadValue (sp_BadValue___init__ K (ads K)) := ⟨oexB_ok e_oex_BadValue, _, _, _, (inoB_ok e_ino_BadValue).1, (inoB_ok e_ino_BadValue).2, G_BadValue___init__, b_BadValue___init__, He.glo_ok X G (c.fact 24 (f := .glo "BadValue") rfl)⟩
  have G_is_whole := ok_is_whole (P := P) (w := w) (mg := mg) (base := base) (A := ads K) F_is_whole fr_bool fr_int fr_isinstance
  have b_is_whole : Binds K fd_is_whole ["thing"] [] := F_is_whole.bindsN fun _ _ _ _ _ _ us hl => match us, hl with | [_], _ => rfl
  have c_is_whole := cl_of G_is_whole (He.glo_ok X G (c.fact 0 (f := .glo "is_whole") rfl)) F_is_whole.kp b_is_whole
  have G_is_word := ok_is_word (P := P) (w := w) (mg := mg) (base := base) (A := ads K) F_is_word fr_all fr_isinstance fr_len fr_str gm_LETTERS gm_LONGEST_WORD
  have b_is_word : Binds K fd_is_word ["thing"] [] := F_is_word.bindsN fun _ _ _ _ _ _ us hl => match us, hl with | [_], _ => rfl
  have c_is_word := cl_of G_is_word (He.glo_ok X G (c.fact 2 (f := .glo "is_word") rfl)) F_is_word.kp b_is_word
  have G_Layout___len__ := ok_Layout___len__ (P := P) (w := w) (mg := mg) (base := base) (A := ads K) F_Layout___len__ fr_len cl_Layout na_Layout_names
  have b_Layout___len__ : Binds K fd_Layout___len__ ["self"] [] := F_Layout___len__.bindsN fun _ _ _ _ _ _ us hl => match us, hl with | [_], _ => rfl
  have m_Layout___len__ : Mt P w K mg base 1 (ads K).cLayout "__len__" (sp_Layout___len__ K (ads K)) := ⟨_, _, _, He.cls_ok (c.fact 45 (f := .cls "Layout") rfl), He.meth_ok (c.fact 47 (f := .meth "Layout" "__len__") rfl), G_Layout___len__, b_Layout___len__⟩
  have G__law_bag := ok__law_bag (P := P) (w := w) (mg := mg) (base := base) (A := ads K) F__law_bag fr_abs fr_int fr_len
  have b__law_bag : Binds K fd__law_bag ["_law_script", "_law_at"] [] := F__law_bag.bindsN fun _ _ _ _ _ _ us hl => match us, hl with | [_, _], _ => rfl
  have c__law_bag := cl_of G__law_bag (He.glo_ok X G (c.fact 8 (f := .glo "_law_bag") rfl)) F__law_bag.kp b__law_bag
  have G__law_take := ok__law_take (P := P) (w := w) (mg := mg) (base := base) (A := ads K) F__law_take fr_int
  have b__law_take : Binds K fd__law_take ["_law_bag_here", "_law_many"] [] := F__law_take.bindsN fun _ _ _ _ _ _ us hl => match us, hl with | [_, _], _ => rfl
  have c__law_take := cl_of G__law_take (He.glo_ok X G (c.fact 9 (f := .glo "_law_take") rfl)) F__law_take.kp b__law_take
  have G__law_value := ok__law_value (P := P) (w := w) (mg := mg) (base := base) (A := ads K) F__law_value fr_abs fr_int
  have b__law_value : Binds K fd__law_value ["_law_p", "_law_q"] [] := F__law_value.bindsN fun _ _ _ _ _ _ us hl => match us, hl with | [_, _], _ => rfl
  have c__law_value := cl_of G__law_value (He.glo_ok X G (c.fact 12 (f := .glo "_law_value") rfl)) F__law_value.kp b__law_value
  have G__law_turned := ok__law_turned (P := P) (w := w) (mg := mg) (base := base) (A := ads K) F__law_turned fr_dict fr_list
  have b__law_turned : Binds K fd__law_turned ["_law_filling"] [] := F__law_turned.bindsN fun _ _ _ _ _ _ us hl => match us, hl with | [_], _ => rfl
  have c__law_turned := cl_of G__law_turned (He.glo_ok X G (c.fact 14 (f := .glo "_law_turned") rfl)) F__law_turned.kp b__law_turned
  have G_is_number := ok_is_number (P := P) (w := w) (mg := mg) (base := base) (A := ads K) F_is_number fr_isinstance fr_len fr_tuple gm_gcd c_is_whole
  have b_is_number : Binds K fd_is_number ["thing"] [] := F_is_number.bindsN fun _ _ _ _ _ _ us hl => match us, hl with | [_], _ => rfl
  have c_is_number := cl_of G_is_number (He.glo_ok X G (c.fact 1 (f := .glo "is_number") rfl)) F_is_number.kp b_is_number
  have G_is_name := ok_is_name (P := P) (w := w) (mg := mg) (base := base) (A := ads K) F_is_name gm_RESERVED tb_RESERVED c_is_word
  have b_is_name : Binds K fd_is_name ["thing"] [] := F_is_name.bindsN fun _ _ _ _ _ _ us hl => match us, hl with | [_], _ => rfl
  have c_is_name := cl_of G_is_name (He.glo_ok X G (c.fact 3 (f := .glo "is_name") rfl)) F_is_name.kp b_is_name
  have G__law_of := ok__law_of (P := P) (w := w) (mg := mg) (base := base) (A := ads K) F__law_of fr_len c__law_take
  have b__law_of : Binds K fd__law_of ["_law_bag_here", "_law_some"] [] := F__law_of.bindsN fun _ _ _ _ _ _ us hl => match us, hl with | [_, _], _ => rfl
  have c__law_of := cl_of G__law_of (He.glo_ok X G (c.fact 10 (f := .glo "_law_of") rfl)) F__law_of.kp b__law_of
  have G__law_number := ok__law_number (P := P) (w := w) (mg := mg) (base := base) (A := ads K) F__law_number c__law_take c__law_value
  have b__law_number : Binds K fd__law_number ["_law_bag_here"] [] := F__law_number.bindsN fun _ _ _ _ _ _ us hl => match us, hl with | [_], _ => rfl
  have c__law_number := cl_of G__law_number (He.glo_ok X G (c.fact 13 (f := .glo "_law_number") rfl)) F__law_number.kp b__law_number
  have G__is_field := ok__is_field (P := P) (w := w) (mg := mg) (base := base) (A := ads K) F__is_field fr_isinstance fr_len fr_tuple gm_NUMBER gm_WORD c_is_name
  have b__is_field : Binds K fd__is_field ["thing"] [] := F__is_field.bindsN fun _ _ _ _ _ _ us hl => match us, hl with | [_], _ => rfl
  have c__is_field := cl_of G__is_field (He.glo_ok X G (c.fact 4 (f := .glo "_is_field") rfl)) F__is_field.kp b__is_field
  have G_is_value := ok_is_value (P := P) (w := w) (mg := mg) (base := base) (A := ads K) F_is_value gm_NUMBER c_is_number c_is_word
  have b_is_value : Binds K fd_is_value ["kind", "thing"] [] := F_is_value.bindsN fun _ _ _ _ _ _ us hl => match us, hl with | [_, _], _ => rfl
  have c_is_value := cl_of G_is_value (He.glo_ok X G (c.fact 5 (f := .glo "is_value") rfl)) F_is_value.kp b_is_value
  have G__has_all_fields := ok__has_all_fields (P := P) (w := w) (mg := mg) (base := base) (A := ads K) F__has_all_fields fr_all fr_dict fr_isinstance fr_len cl_Layout na_Layout_names m_Layout___len__
  have b__has_all_fields : Binds K fd__has_all_fields ["layout", "thing"] [] := F__has_all_fields.bindsN fun _ _ _ _ _ _ us hl => match us, hl with | [_, _], _ => rfl
  have c__has_all_fields := cl_of G__has_all_fields (He.glo_ok X G (c.fact 7 (f := .glo "_has_all_fields") rfl)) F__has_all_fields.kp b__has_all_fields
  have G_Layout_kind := ok_Layout_kind (P := P) (w := w) (mg := mg) (base := base) (A := ads K) F_Layout_kind cl_Layout na_Layout__kinds na_Layout_names k_BadField
  have b_Layout_kind : Binds K fd_Layout_kind ["self", "name"] [] := F_Layout_kind.bindsN fun _ _ _ _ _ _ us hl => match us, hl with | [_, _], _ => rfl
  have m_Layout_kind : Mt P w K mg base 3 (ads K).cLayout "kind" (sp_Layout_kind K (ads K)) := ⟨_, _, _, He.cls_ok (c.fact 45 (f := .cls "Layout") rfl), He.meth_ok (c.fact 48 (f := .meth "Layout" "kind") rfl), G_Layout_kind, b_Layout_kind⟩
  have G__law_word := ok__law_word (P := P) (w := w) (mg := mg) (base := base) (A := ads K) F__law_word fr_range c__law_take c__law_of
  have b__law_word : Binds K fd__law_word ["_law_bag_here"] [] := F__law_word.bindsN fun _ _ _ _ _ _ us hl => match us, hl with | [_], _ => rfl
  have c__law_word := cl_of G__law_word (He.glo_ok X G (c.fact 11 (f := .glo "_law_word") rfl)) F__law_word.kp b__law_word
  have G__law_wrong := ok__law_wrong (P := P) (w := w) (mg := mg) (base := base) (A := ads K) F__law_wrong c__law_of
  have b__law_wrong : Binds K fd__law_wrong ["_law_bag_here", "_law_kind"] [] := F__law_wrong.bindsN fun _ _ _ _ _ _ us hl => match us, hl with | [_, _], _ => rfl
  have c__law_wrong := cl_of G__law_wrong (He.glo_ok X G (c.fact 16 (f := .glo "_law_wrong") rfl)) F__law_wrong.kp b__law_wrong
  have G_first_wrong := ok_first_wrong (P := P) (w := w) (mg := mg) (base := base) (A := ads K) F_first_wrong cl_Layout na_Layout_names c_is_value m_Layout_kind
  have b_first_wrong : Binds K fd_first_wrong ["layout", "values"] [] := F_first_wrong.bindsN fun _ _ _ _ _ _ us hl => match us, hl with | [_, _], _ => rfl
  have c_first_wrong := cl_of G_first_wrong (He.glo_ok X G (c.fact 6 (f := .glo "first_wrong") rfl)) F_first_wrong.kp b_first_wrong
  have G_Layout___init__ := ok_Layout___init__ (P := P) (w := w) (mg := mg) (base := base) (A := ads K) F_Layout___init__ cc_Layout_MOST fr_enumerate fr_isinstance fr_len fr_list fr_tuple gm_Layout cl_Layout na_Layout__kinds na_Layout_names k_BadLayout c__is_field
  have b_Layout___init__ : Binds K fd_Layout___init__ ["self", "fields"] [] := F_Layout___init__.bindsN fun _ _ _ _ _ _ us hl => match us, hl with | [_, _], _ => rfl
  have k_Layout : Km P w K mg base 4 "Layout" (ads K).cLayout (sp_Layout___init__ K (ads K)) := ⟨_, _, _, He.mkr_ok (c.fact 46 (f := .mkr "Layout") rfl), G_Layout___init__, b_Layout___init__, He.glo_ok X G (c.fact 25 (f := .glo "Layout") rfl)⟩
  have G__law_worths := ok__law_worths (P := P) (w := w) (mg := mg) (base := base) (A := ads K) F__law_worths fr_range c__law_number c__law_word
  have b__law_worths : Binds K fd__law_worths ["_law_bag_here", "_law_kind"] [] := F__law_worths.bindsN fun _ _ _ _ _ _ us hl => match us, hl with | [_, _], _ => rfl
  have c__law_worths := cl_of G__law_worths (He.glo_ok X G (c.fact 15 (f := .glo "_law_worths") rfl)) F__law_worths.kp b__law_worths
  have G_Layout_fill := ok_Layout_fill (P := P) (w := w) (mg := mg) (base := base) (A := ads K) F_Layout_fill cl_Layout na_Layout_names k_BadField c_first_wrong k_BadValue
  have mk_Layout_fill : MtK P w K mg base 5 (ads K).cLayout "fill" (sp_Layout_fill K (ads K)) := ⟨_, He.cls_ok (c.fact 45 (f := .cls "Layout") rfl), He.meth_ok (c.fact 49 (f := .meth "Layout" "fill") rfl), G_Layout_fill⟩
  have G_Layout_is_filling := ok_Layout_is_filling (P := P) (w := w) (mg := mg) (base := base) (A := ads K) F_Layout_is_filling c__has_all_fields c_first_wrong
  have b_Layout_is_filling : Binds K fd_Layout_is_filling ["self", "thing"] [] := F_Layout_is_filling.bindsN fun _ _ _ _ _ _ us hl => match us, hl with | [_, _], _ => rfl
  have m_Layout_is_filling : Mt P w K mg base 5 (ads K).cLayout "is_filling" (sp_Layout_is_filling K (ads K)) := ⟨_, _, _, He.cls_ok (c.fact 45 (f := .cls "Layout") rfl), He.meth_ok (c.fact 50 (f := .meth "Layout" "is_filling") rfl), G_Layout_is_filling, b_Layout_is_filling⟩
  have G__law_said := ok__law_said (P := P) (w := w) (mg := mg) (base := base) (A := ads K) F__law_said fr_isinstance gm_BadField gm_BadValue gm_MendroundsError xf_BadField xf_BadValue xn_BadField_name xn_BadValue_name ki_BadField_MendroundsError ki_BadValue_MendroundsError xc_BadField xc_BadValue xm_BadField xm_BadValue xu_BadValue_BadField mk_Layout_fill
  have b__law_said : Binds K fd__law_said ["_law_layout", "_law_way", "_law_one", "_law_two"] [] := F__law_said.bindsN fun _ _ _ _ _ _ us hl => match us, hl with | [_, _, _, _], _ => rfl
  have c__law_said := cl_of G__law_said (He.glo_ok X G (c.fact 17 (f := .glo "_law_said") rfl)) F__law_said.kp b__law_said
  have G__law_is_new := ok__law_is_new (P := P) (w := w) (mg := mg) (base := base) (A := ads K) F__law_is_new fr_list mk_Layout_fill
  have b__law_is_new : Binds K fd__law_is_new ["_law_layout", "_law_one", "_law_two"] [] := F__law_is_new.bindsN fun _ _ _ _ _ _ us hl => match us, hl with | [_, _, _], _ => rfl
  have c__law_is_new := cl_of G__law_is_new (He.glo_ok X G (c.fact 18 (f := .glo "_law_is_new") rfl)) F__law_is_new.kp b__law_is_new
  have G__law_takes := ok__law_takes (P := P) (w := w) (mg := mg) (base := base) (A := ads K) F__law_takes fr_dict fr_list fr_str fr_tuple m_Layout_is_filling c__law_turned c__law_of c__law_wrong
  have b__law_takes : Binds K fd__law_takes ["_law_bag_here", "_law_layout", "_law_kinds", "_law_filling"] [] := F__law_takes.bindsN fun _ _ _ _ _ _ us hl => match us, hl with | [_, _, _, _], _ => rfl
  have cG__law_takes := clG_of G__law_takes (He.glo_ok X G (c.fact 19 (f := .glo "_law_takes") rfl)) F__law_takes.kp b__law_takes
  exact ok_law (A := ads K) F_law fr_len fr_max fr_min fr_range c__law_bag c__law_of k_Layout c__law_worths c__law_wrong c__law_is_new mk_Layout_fill c__law_said cG__law_takes
end Hd
end Md
open PySem PySem.W PySem.Calls PyProof.Rows
set_option maxRecDepth 100000 in
set_option maxHeartbeats 0 in
theorem PySem.Challenge.cw_mendrounds_k07_fillings_holds : PySem.Challenge.rw_mendrounds_k07_fillings.Holds := by
  w_on; o_law
  refine HandSHeadRun.head_imp (r := OpenLaw.row PySem.Challenge.rw_mendrounds_k07_fillings) (q := view (OpenLaw.row PySem.Challenge.rw_mendrounds_k07_fillings).prog [0, 35]) (H := Md.Hd.hk) (ob := Md.Hd.ob) (M := 20000) (loose := Md.Hd.names) (d := HandSHeadRun.topDef (OpenLaw.row PySem.Challenge.rw_mendrounds_k07_fillings).prog 35) (kwd := []) Md.Hd.ob_eq
    Md.Hd.run (by kernel_rfl) (by kernel_rfl) (by kernel_rfl) (by rfl) (by first | assumption | decide +kernel) (by decide +kernel) ⟨rfl, rfl, rfl, rfl, rfl, by decide +kernel⟩ ?hw ?hc
  case hw => w_witness2
  case hc =>
    refine Md.walk_ofG (l := PySem.Challenge.rw_mendrounds_k07_fillings) (n := 63) (k := 7) (x := "_law_script") (CX := L2.CX0) rfl (by decide) (by kernel_rfl) ⟨rfl, by decide, by decide⟩ ?F (fun _ _ _ _ z => z)
    intro w mg fa h Y G hmg0
    obtain ⟨K, KX, c⟩ := Y
    have hmg : mg ("law" : PySem.Str) = some (.ref fa) := by
      have e : (HandSHeadRun.topDef (OpenLaw.row PySem.Challenge.rw_mendrounds_k07_fillings).prog 35).name = ("law" : PySem.Str) := by kernel_rfl
      rw [← e]
      exact hmg0
    obtain ⟨fd, hb, hF⟩ := Md.Hd.facts (P := (PySem.Challenge.rw_mendrounds_k07_fillings).prog) (w := w) KX G hmg c.d c.more
    exact ⟨K, fd, Md.sp_law K, KX, hb, fun H a ns hl hS => ⟨a, ns, rfl, hS, hl, fun _ => rfl⟩, hF⟩
